import PyProof.Rows.All
import Wide.All
import OpenK.AllK
import Wide.FinOn
import Lean
import PyProof.EqAt
import PyProof.EqKinds
import PyProof.TupleCall
import PySem.Challenge.RW_moodtree_k62_a_line_of_a_row
set_option Elab.async false
set_option linter.all false
set_option maxRecDepth 100000
set_option maxHeartbeats 4000000
namespace L2
open PySem PySem.Spec PyProof.Rows
noncomputable abbrev Uz := @List.length_map
noncomputable abbrev UA := @List.mem_cons
noncomputable abbrev UB := @List.mem_append_right
noncomputable abbrev UC := @List.mem_cons_of_mem
noncomputable abbrev UD := @List.mem_cons_self
noncomputable abbrev UE := @if_neg
noncomputable abbrev UG := @List.mem_singleton
noncomputable abbrev UH := @List.append_assoc
noncomputable abbrev UI := @Nat.le_of_ble_eq_true
noncomputable abbrev UJ := @Nat.le_refl
noncomputable abbrev UK := @Int.emod_lt_of_pos
noncomputable abbrev UL := @Bool.false_ne_true
noncomputable abbrev UM := @List.length_append
noncomputable abbrev UN := @List.getD_eq_getElem?_getD
noncomputable abbrev UO := @List.mem_append_left
noncomputable abbrev UQ := @wpAny_bind
noncomputable abbrev UR := @if_pos
noncomputable abbrev UT := @Int.emod_nonneg
noncomputable abbrev UU := @Heap.get?_push_of_some
noncomputable abbrev UW := @of_decide_eq_false
noncomputable abbrev UX := @of_decide_eq_true
noncomputable abbrev UY := @List.mem_append
noncomputable abbrev UZ := @Heap.lt_size
noncomputable abbrev U0 := @List.length_singleton
noncomputable abbrev U1 := @Nat.lt_of_lt_of_le
noncomputable abbrev U3 := @Nat.le_trans
noncomputable abbrev U4 := @Option.some.inj
noncomputable abbrev U5 := @PySem.W.mg_of
noncomputable abbrev U6 := @wpAny_pure
noncomputable abbrev U7 := @List.size_toArray
noncomputable abbrev U8 := @List.map_cons
noncomputable abbrev U9 := @Nat.zero_le
noncomputable abbrev Va := @List.Sublist.refl
noncomputable abbrev Vb := @List.cons_append
noncomputable abbrev Vc := @List.Sublist.append
noncomputable abbrev Vd := @Bool.and_eq_true
noncomputable abbrev Ve := @List.lookup_cons
noncomputable abbrev Vf := @List.getElem?_eq_getElem
noncomputable abbrev Vg := @List.perm_append_comm
noncomputable abbrev Vh := @List.map_append
noncomputable abbrev Vi := @List.length_cons
noncomputable abbrev Vj := @List.length_range
noncomputable abbrev Vk := @List.mem_of_getElem?
noncomputable abbrev Vl := @List.Perm.append_left
noncomputable abbrev Vm := @Heap.get?_push_size
noncomputable abbrev Vo := @List.nodup_append
noncomputable abbrev Vp := @Nat.le_succ_of_le
noncomputable abbrev Vq := @Nat.ne_of_lt
noncomputable abbrev Vr := @List.append_nil
noncomputable abbrev Vs := @List.mem_map
noncomputable abbrev Vt := @List.map_map
noncomputable abbrev Vu := @List.getElem?_map
noncomputable abbrev Vv := @decide_eq_false
noncomputable abbrev Vw := @List.getElem?_eq_some_iff
noncomputable abbrev Vx := @List.sublist_append_right
noncomputable abbrev Vy := @PySem.W.mg_none_of
noncomputable abbrev Vz := @PySem.mem_of_lookup
noncomputable abbrev VA := @List.not_mem_nil
noncomputable abbrev VB := @List.length_replicate
noncomputable abbrev VC := @Nat.le_of_lt
noncomputable abbrev VD := @PyProof.Rows.int_text_len_1921
noncomputable abbrev VF := @List.filterMap_cons
noncomputable abbrev VG := @wpAny_passesOwn
noncomputable abbrev VH := @List.nodup_cons
noncomputable abbrev VJ := @List.getElem?_append_right
noncomputable abbrev VL := @Int.toNat_natCast
noncomputable abbrev VM := @List.reverse_cons
noncomputable abbrev VN := @wpAny_mono
noncomputable abbrev VP := @sizeLine_eq
noncomputable abbrev VQ := @Nat.lt_succ_self
noncomputable abbrev VR := @List.length_take
noncomputable abbrev VW := @Str.append_assoc
noncomputable abbrev VX := @PyProof.Rows.slot_tuple_getitem
noncomputable abbrev VY := @PySem.W.kia_one
noncomputable abbrev VZ := @wpAny_newObj_type
noncomputable abbrev V0 := @Int.zero_add
noncomputable abbrev V1 := @PyProof.Rows.callWith_type1
noncomputable abbrev V2 := @Nat.lt_irrefl
noncomputable abbrev V3 := @beq_eq_false_iff_ne
noncomputable abbrev V4 := @List.length_pos_iff
noncomputable abbrev V5 := @List.getElem?_append_left
noncomputable abbrev V6 := @wpAny_Call_Name_kw
noncomputable abbrev V7 := @PySem.F.args_tuple_add_2
noncomputable abbrev V8 := @List.mem_range
noncomputable abbrev V9 := @beq_iff_eq
noncomputable abbrev Wa := @List.Perm.refl
noncomputable abbrev Wb := @PySem.F.entry_tuple_add
noncomputable abbrev Wc := @wpAny_truthy_bool
noncomputable abbrev Key := Sum Int Str
noncomputable def IA : Key -> Value -> Bool
 | .inl k, v => Value.isInt k v
 | .inr x, v => Value.isStrOf x v
noncomputable def O7 (w : World) : Key -> Int
 | .inl k => hashInt k
 | .inr x => hashStr w x
theorem cj : ∀ {k : Key} {v : Value}, IA k v = true -> (∃ i t, k = Sum.inl i /\ v = Value.int i t) \/ (∃ x t, k = Sum.inr x /\ v = Value.str x t)
 | .inl i, v, h => by
   obtain ⟨t, e⟩ := Value.isInt_shape (k := i) (v := v) h
   exact .inl ⟨i, t, rfl, e⟩
 | .inr x, v, h => by
   obtain ⟨t, e⟩ := Value.isStrOf_shape (x := x) (v := v) h
   exact .inr ⟨x, t, rfl, e⟩
theorem Jg (a b : Int) : decide ((Sum.inl a : Key) = Sum.inl b) = (a == b) := by
 by_cases e : a = b
 . subst e; simp
 . have h : ¬ (Sum.inl a : Key) = Sum.inl b := fun q => e (Sum.inl.inj q)
   rw [Vv h]
   exact (V3.mpr e).symm
theorem Jh (a b : Str) : decide ((Sum.inr a : Key) = Sum.inr b) = decide (a = b) := by
 by_cases e : a = b
 . subst e; simp
 . have h : ¬ (Sum.inr a : Key) = Sum.inr b := fun q => e (Sum.inr.inj q)
   rw [Vv h, Vv e]
theorem Ji (a : Int) (b : Str) : decide ((Sum.inl a : Key) = Sum.inr b) = false := Vv (fun q => nomatch q)
theorem Jj (a : Str) (b : Int) : decide ((Sum.inr a : Key) = Sum.inl b) = false := Vv (fun q => nomatch q)
noncomputable def Aa (prog : Program) (w : World) : PySem.KeyKind prog w Key where
 is := IA
 hash := O7 w
 inj := fun v a b ha hb => by
   rcases cj ha with ⟨i, t, rfl, rfl⟩ | ⟨x, t, rfl, rfl⟩
   . rcases cj hb with ⟨j, u, rfl, e⟩ | ⟨y, u, rfl, e⟩
     . injection e with e1 _; rw [e1]
     . exact nomatch e
   . rcases cj hb with ⟨j, u, rfl, e⟩ | ⟨y, u, rfl, e⟩
     . exact nomatch e
     . injection e with e1 _; rw [e1]
 byValue := fun k v h => by
   rcases cj h with ⟨i, t, rfl, rfl⟩ | ⟨x, t, rfl, rfl⟩ <;> rfl
 pyHash := fun hv h => by
   rcases cj hv with ⟨i, t, rfl, rfl⟩ | ⟨x, t, rfl, rfl⟩
   . exact wpAny_pyHash_int h
   . exact wpAny_pyHash_str h
 eqBool := fun hu hv h => by
   rcases cj hu with ⟨i, t, rfl, rfl⟩ | ⟨x, t, rfl, rfl⟩
   . rcases cj hv with ⟨j, u, rfl, rfl⟩ | ⟨y, u, rfl, rfl⟩
     . rw [Jg] at h; exact wpAny_eqBool_int h
     . rw [Ji] at h; exact SeqAt.EqAt.int_str i t y u _ _ _ _ h
   . rcases cj hv with ⟨j, u, rfl, rfl⟩ | ⟨y, u, rfl, rfl⟩
     . rw [Jj] at h; exact SeqAt.EqAt.str_int x t j u _ _ _ _ h
     . rw [Jh] at h; exact wpAny_eqBool_str h
 «strs» := fun k x t v h => by
   rcases cj h with ⟨i, u, rfl, e⟩ | ⟨y, u, rfl, e⟩
   . exact nomatch e
   . injection e with e1 _
     subst e1
     cases v <;> rfl
inductive V where
 | non | bl (b : Bool) | int (i : Int) | str (x : Str) | C8 (b : Array UInt8) | Oo (b : UInt64) | ref (a : Addr) | ty (n : String)
 deriving DecidableEq
noncomputable def RelV : V -> Value -> Prop
 | .non, u => u = Value.none
 | .bl b, u => u = Value.bool b
 | .int i, u => ∃ t, u = Value.int i t
 | .str x, u => ∃ t, u = Value.str x t
 | .C8 b, u => ∃ t, u = Value.bytes b t
 | .Oo b, u => ∃ t, u = Value.float b t
 | .ref a, u => u = Value.ref a
 | .ty n, u => u = Value.type n
noncomputable abbrev Vals : List V -> List Value -> Prop := Paired RelV
theorem Vals.length {xs : List V} {us : List Value} (r : Vals xs us) : xs.length = us.length := Paired.length r
theorem Vals.get : ∀ {xs : List V} {us : List Value} {i : Nat} {x : V}, Vals xs us -> xs[i]? = some x -> ∃ u, us[i]? = some u /\ RelV x u
 | _, _, _, _, .nil, e => by simp at e
 | _, _, 0, _, .cons r _, e => by simp at e; subst e; exact ⟨_, rfl, r⟩
 | _, _, i + 1, x, .cons _ t, e => by
   obtain ⟨u, h1, h2⟩ := Vals.get (i := i) (x := x) t (by simpa using e)
   exact ⟨u, by simpa using h1, h2⟩
theorem Vals.set {x : V} {u : Value} (r : RelV x u) : ∀ {xs : List V} {us : List Value} (i : Nat), Vals xs us -> Vals (xs.set i x) (us.set i u)
 | _, _, _, .nil => .nil
 | _, _, 0, .cons _ t => .cons r t
 | _, _, i + 1, .cons q t => .cons q (Vals.set r i t)
theorem Vals.append : ∀ {xs ys : List V} {us ws : List Value}, Vals xs us -> Vals ys ws -> Vals (xs ++ ys) (us ++ ws)
 | _, _, _, _, .nil, s => s
 | _, _, _, _, .cons r t, s => .cons r (Vals.append t s)
theorem Vals.take : ∀ {xs : List V} {us : List Value} (n : Nat), Vals xs us -> Vals (xs.take n) (us.take n)
 | _, _, 0, _ => .nil
 | _, _, _ + 1, .nil => .nil
 | _, _, n + 1, .cons r t => .cons r (Vals.take n t)
theorem Vals.drop : ∀ {xs : List V} {us : List Value} (n : Nat), Vals xs us -> Vals (xs.drop n) (us.drop n)
 | _, _, 0, r => r
 | _, _, _ + 1, .nil => .nil
 | _, _, n + 1, .cons _ t => Vals.drop n t
noncomputable def xY : Option V -> Option Value -> Prop
 | some v, some u => RelV v u
 | none, none => True
 | _, _ => False
noncomputable def KV {κ : Type} : List (κ × V) -> List (κ × Value) -> Prop := Paired fun (p : κ × V) (q : κ × Value) => p.1 = q.1 /\ RelV p.2 q.2
noncomputable def kV : Key -> V
 | .inl i => .int i
 | .inr x => .str x
inductive HO where
 | lst (xs : List V)
 | tup (xs : List V)
 | dK (jF : List (Key × V)) | dT (jF : List (List Key × V))
 | set (S : Int -> Bool) (n : Nat)
 | ins (C dx : Addr) (fs : List (Str × V))
 | own (x : Addr)
 | xd (fs : List (Str × V))
 | met (f x : Addr)
 | O8 (lo hi : Int)
 | cZ (o : Obj) (u : HO)
 | Jk (ps : Array Value)
 | tabs (q : Str)
 | Jl (q : Str)
 | ext (φ : Heap -> Prop)
noncomputable abbrev Hp := Addr -> Option HO
noncomputable def upd (H : Hp) (a : Addr) (o : HO) : Hp := fun b => if b = a then some o else H b
theorem bB {H : Hp} {a : Addr} {o : HO} : upd H a o a = some o := by unfold upd; rw [UR rfl]
theorem aF {H : Hp} {a b : Addr} {o : HO} (h : b ≠ a) : upd H a o b = H b := by unfold upd; rw [UE h]
theorem aX {H : Hp} {a b : Addr} {o : HO} (h : H a = some o) (h' : H b = none) : a ≠ b := by
 intro e; subst e; rw [h] at h'; cases h'
section
variable (P : Program) (w : World)
noncomputable def gJ (H : Hp) (h : Heap) (a : Addr) : HO -> Prop
 | .lst xs => xs.length <= sizeLine /\ ∃ (its : List Value) (n : Nat), Vals xs its /\ h.get? a = some { cls := .type "list", data := .seq its.toArray n }
 | .tup xs => xs.length <= sizeLine /\ ∃ its : List Value, Vals xs its /\ IsTup h a its.toArray
 | .dK jF => jF.length <= sizeLine /\ (a == sysModules) = false /\ ∃ vs, KV jF vs /\ h.DictOf (Aa P w) a vs
 | .dT jF => jF.length <= sizeLine /\ (a == sysModules) = false /\ ∃ xs : List (List Key × Addr × Value),
     Paired (fun (p : List Key × V) (q : List Key × Addr × Value) => p.1 = q.1 /\ H q.2.1 = some (.tup (p.1.map kV)) /\ RelV p.2 q.2.2) jF xs ∧
     ∃ o es ep, h.get? a = some o /\ o.ExactDict /\ o.data = .dict es ep /\ es.toList = xs.map (entryOfKey (tupleKind (Aa P w))) /\ (xs.map (·.1)).Nodup
 | .set S n => h.SetOf (intKind P w) a S n
 | .ins C dx fs => H dx = some (.own a) /\ fs.length <= 1000 /\ dx ≠ a /\ h.get? a = some (PySem.W.instObj C dx) ∧
     ∃ mA, h.Ns1 dx mA /\ (∀ f, xY (fs.lookup f) (mA f)) /\ PySem.Within mA (fs.map (·.1))
 | .own _ => ∃ o, h.get? a = some o
 | .xd fs => ∃ mA, h.Ns1 a mA /\ ∀ f, xY (fs.lookup f) (mA f)
 | .O8 lo hi => ∃ t u v, h.get? a = some { cls := .type "range", data := .fields #[.int lo t, .int hi u, .int 1 v] }
 | .cZ o u => h.get? a = some o /\ gJ H h a u
 | .Jk ps => h.get? a = some { cls := .none, data := .fields ps }
 | .tabs q => ∃ ps : Array Value, h.get? a = some { cls := .none, data := .fields ps } /\ TriplesOk ps.toList /\ ∀ pos cv, codeAmong pos ps.toList = some cv -> ∃ c, cv = .ref c /\ H c = some (.Jl q)
 | .Jl q => ∃ o vs t, h.get? a = some o /\ o.data = .fields vs /\ vs[1]? = some (.str q t)
 | .met f x => h.get? a = some (PySem.W.methodObj (.ref f) (.ref x))
 | .ext φ => φ h /\ (∃ o, h.get? a = some o) /\ ∀ h1 h2 : Heap, φ h1 -> (∀ o, h1.get? a = some o -> h2.get? a = some o) -> φ h2
noncomputable def ql (H : Hp) (h : Heap) : Prop := ∀ a o, H a = some o -> gJ P w H h a o
end
section
variable {P : Program} {w : World} {H H' : Hp} {h h' : Heap} {a : Addr} {o : HO}
theorem gJ.lt (x : gJ P w H h a o) : a < h.objs.size := by
 cases o with
 | lst xs => obtain ⟨_, _, _, _, e⟩ := x; exact UZ e
 | tup xs => obtain ⟨_, _, _, p⟩ := x; exact p.lt
 | dK jF => obtain ⟨_, _, _, _, o, _, _, e, _⟩ := x; exact UZ e
 | dT jF => obtain ⟨_, _, _, _, o, _, _, e, _⟩ := x; exact UZ e
 | set S n => obtain ⟨o, _, _, _, e, _⟩ := x; exact UZ e
 | ins C dx fs => obtain ⟨_, _, _, e, _⟩ := x; exact UZ e
 | own y => obtain ⟨_, e⟩ := x; exact UZ e
 | xd fs => obtain ⟨_, ⟨_, _, _, e, _⟩, _⟩ := x; exact UZ e
 | O8 lo hi => obtain ⟨_, _, _, e⟩ := x; exact UZ e
 | cZ ob u => obtain ⟨e, _⟩ := x; exact UZ e
 | Jk ps => exact UZ (show h.get? a = some _ from x)
 | tabs q => obtain ⟨_, e, _⟩ := x; exact UZ e
 | Jl q => obtain ⟨_, _, _, e, _⟩ := x; exact UZ e
 | met f y => exact UZ (show h.get? a = some _ from x)
 | ext φ => obtain ⟨_, ⟨_, e⟩, _⟩ := x; exact UZ e
theorem Paired.Mf {α β : Type} {F G : α -> β -> Prop} : ∀ {l₁ : List α} {l₂ : List β}, Paired F l₁ l₂ -> (∀ a b, F a b -> G a b) -> Paired G l₁ l₂
 | _, _, .nil, _ => .nil
 | _, _, .cons r t, f => .cons (f _ _ r) (Paired.Mf t f)
theorem gJ.Be (x : gJ P w H h a o) (k : ∀ b u, (b = a \/ H b = some (.own a)) -> h.get? b = some u -> h'.get? b = some u)
   (ho : ∀ b, H b = some (.own a) -> H' b = some (.own a)) (ht : ∀ b xs, H b = some (.tup xs) -> H' b = some (.tup xs)) (kr : ∀ b q, H b = some (.Jl q) -> H' b = some (.Jl q) := by intro _ _ q; exact q) : gJ P w H' h' a o := by
 induction o with
 | lst xs => obtain ⟨z, its, n, r, e⟩ := x; exact ⟨z, its, n, r, k _ _ (.inl rfl) e⟩
 | tup xs => obtain ⟨z, its, r, ob, e, c⟩ := x; exact ⟨z, its, r, ob, k _ _ (.inl rfl) e, c⟩
 | dK jF => obtain ⟨z, y, vs, r, ob, es, ep, e, c⟩ := x; exact ⟨z, y, vs, r, ob, es, ep, k _ _ (.inl rfl) e, c⟩
 | dT jF =>
   obtain ⟨z, y, xs, r, ob, es, ep, e, c⟩ := x
   exact ⟨z, y, xs, Paired.Mf r fun p q z => ⟨z.1, ht _ _ z.2.1, z.2.2⟩, ob, es, ep, k _ _ (.inl rfl) e, c⟩
 | set S n => obtain ⟨ob, es, ep, t, e, c⟩ := x; exact ⟨ob, es, ep, t, k _ _ (.inl rfl) e, c⟩
 | ins C dx fs =>
   obtain ⟨d, z, ne, e, mA, ⟨od, es, ep, e2, c⟩, r⟩ := x
   exact ⟨ho _ d, z, ne, k _ _ (.inl rfl) e, mA, ⟨od, es, ep, k _ _ (.inr d) e2, c⟩, r⟩
 | own y => obtain ⟨ob, e⟩ := x; exact ⟨ob, k _ _ (.inl rfl) e⟩
 | xd fs => obtain ⟨mA, ⟨od, es, ep, e, c⟩, r⟩ := x; exact ⟨mA, ⟨od, es, ep, k _ _ (.inl rfl) e, c⟩, r⟩
 | O8 lo hi => obtain ⟨t, u, v, e⟩ := x; exact ⟨t, u, v, k _ _ (.inl rfl) e⟩
 | cZ ob u ih => obtain ⟨e, q⟩ := x; exact ⟨k _ _ (.inl rfl) e, ih q⟩
 | Jk ps =>
   have e : h.get? a = some { cls := .none, data := .fields ps } := x
   show h'.get? a = some { cls := .none, data := .fields ps }
   exact k a _ (.inl rfl) e
 | met f y =>
   have e : h.get? a = some (PySem.W.methodObj (.ref f) (.ref y)) := x
   show h'.get? a = some (PySem.W.methodObj (.ref f) (.ref y))
   exact k a _ (.inl rfl) e
 | tabs q => obtain ⟨ps, e, tr, cs⟩ := x; exact ⟨ps, k _ _ (.inl rfl) e, tr, fun pos cv z => let ⟨c, e1, e2⟩ := cs pos cv z; ⟨c, e1, kr _ _ e2⟩⟩
 | Jl q => obtain ⟨ob, vs, t, e, r⟩ := x; exact ⟨ob, vs, t, k _ _ (.inl rfl) e, r⟩
 | ext φ => obtain ⟨p, ⟨o, e⟩, st⟩ := x; exact ⟨st _ _ p fun o q => k _ _ (.inl rfl) q, ⟨o, k _ _ (.inl rfl) e⟩, st⟩
theorem ql.lt (x : ql P w H h) (e : H a = some o) : a < h.objs.size := (x a o e).lt
theorem ql.fresh (x : ql P w H h) (e : h.objs.size <= a) : H a = none := by
 cases q : H a with
 | none => rfl
 | some u => exact absurd (U1 (x.lt q) e) (V2 _)
theorem ql.kept (x : ql P w H h) (k : ∀ b u, h.get? b = some u -> h'.get? b = some u) : ql P w H h' := fun a o e =>
 (x a o e).Be (fun b u _ q => k b u q) (fun _ q => q) fun _ _ q => q
theorem ql.laid (x : ql P w H h) (k : ∀ b u, h.get? b = some u -> h'.get? b = some u) (hp : h.objs.size <= a) (new : gJ P w (upd H a o) h' a o) : ql P w (upd H a o) h' := fun b u e => by
 have hn := x.fresh hp
 by_cases hb : b = a
 . subst hb; rw [bB] at e; cases e; exact new
 . rw [aF hb] at e
   exact (x b u e).Be (fun c v _ q => k c v q) (fun c q => by rw [aF (aX q hn)]; exact q) (fun c xs q => by rw [aF (aX q hn)]; exact q) fun c z q => by rw [aF (aX q hn)]; exact q
end
noncomputable def Rd (H : Hp) (a : Addr) (u : HO) : Prop := H a = some u \/ ∃ o, H a = some (.cZ o u)
theorem Rd.ok {P : Program} {w : World} {H : Hp} {h : Heap} {a : Addr} {u : HO} (r : Rd H a u) (x : ql P w H h) : gJ P w H h a u := by
 rcases r with r | ⟨o, r⟩
 . exact x a u r
 . obtain ⟨_, q⟩ := x a _ r
   exact q
noncomputable def Oq : Option HO -> Prop
 | some (.lst _) => True
 | some (.dK _) => True
 | some (.dT _) => True
 | some (.set _ _) => True
 | some (.ins _ _ _) => True
 | some (.ext _) => True
 | some (.tabs _) => True
 | _ => False
section
variable {P : Program} {w : World} {H : Hp} {h h' : Heap} {x e : Addr} {o' : HO}
theorem ql.write (ok : ql P w H h) (mu : Oq (H x)) (he : e = x \/ H e = some (.own x)) (k : ∀ b u, b ≠ e -> h.get? b = some u -> h'.get? b = some u) (LR : ∃ u, h'.get? e = some u)
   (new : gJ P w (upd H x o') h' x o') : ql P w (upd H x o') h' := fun b u q => by
 have Mg : ∀ c y, H c = some (.own y) -> c ≠ x := fun c y r z => by subst z; rw [r] at mu; exact mu
 have O9 : ∀ c xs, H c = some (.tup xs) -> c ≠ x := fun c xs r z => by subst z; rw [r] at mu; exact mu
 have Pa : ∀ c q, H c = some (.Jl q) -> c ≠ x := fun c q r z => by subst z; rw [r] at mu; exact mu
 by_cases hb : b = x
 . subst hb; rw [bB] at q; cases q; exact new
 . rw [aF hb] at q
   by_cases Jm : b = e
   . have q' : H b = some (.own x) := by
       rcases he with z | z
       . exact absurd (Jm.trans z) hb
       . rw [Jm]; exact z
     rw [q] at q'; cases q'
     obtain ⟨v, hv⟩ := LR
     exact ⟨v, by rw [Jm]; exact hv⟩
   . refine (ok b u q).Be (fun c v hc r => k c v ?_ r) (fun c r => by rw [aF (Mg c b r)]; exact r) (fun c xs r => by rw [aF (O9 c xs r)]; exact r) fun c z r => by rw [aF (Pa c z r)]; exact r
     rcases hc with rfl | hc
     . exact Jm
     . rintro rfl
       rcases he with z | z
       . exact Mg c b hc z
       . rw [hc] at z; cases z; exact hb rfl
end
structure Un (fs ex : List Addr) (H H' : Hp) (h h' : Heap) : Prop where
 keep : ∀ b o, h.get? b = some o -> H b = none -> b ∉ fs -> b ∉ ex -> h'.get? b = some o
 slot : ∀ b o, h.get? b = some o -> H b = none -> b ∈ fs -> b ∉ ex -> ∃ sl, h'.get? b = some { o with slots := sl }
 free : ∀ b o, h.get? b = some o -> H b = none -> b ∉ ex -> H' b = none
 there : ∀ b o, h.get? b = some o -> b ∉ ex -> ∃ o', h'.get? b = some o'
 tN : ∀ b xs, H b = some (.tup xs) -> H' b = some (.tup xs)
 fz : ∀ b o u, H b = some (.cZ o u) -> H' b = some (.cZ o u)
 tO : ∀ b ps, H b = some (.Jk ps) -> ∃ more, H' b = some (.Jk (ps ++ more))
section
variable {fs RZ ex Uh : List Addr} {H H1 H2 : Hp} {h h1 h2 h' : Heap} {a x e : Addr} {o : HO}
theorem Un.any (u : Un fs ex H H1 h h1) {b : Addr} {ob : Obj} (q : h.get? b = some ob) (n : H b = none) (hx : b ∉ ex) : ∃ sl, h1.get? b = some { ob with slots := sl } := by
 by_cases hb : b ∈ fs
 . exact u.slot b ob q n hb hx
 . exact ⟨ob.slots, u.keep b ob q n hb hx⟩
theorem Un.kept (k : ∀ b u, h.get? b = some u -> h'.get? b = some u) : Un fs ex H H h h' :=
 ⟨fun b ob q _ _ _ => k b ob q, fun b ob q _ _ _ => ⟨ob.slots, k b ob q⟩, fun _ _ _ n _ => n, fun b ob q _ => ⟨ob, k b ob q⟩, fun _ _ q => q, fun _ _ _ q => q, fun _ ps q => ⟨#[], by rw [q]; simp⟩⟩
theorem Un.refl : Un fs ex H H h h := Un.kept fun _ _ q => q
theorem Un.laid (k : ∀ b u, h.get? b = some u -> h'.get? b = some u) (hp : h.objs.size <= a) (hn : H a = none) : Un fs ex H (upd H a o) h h' where
 keep := fun b u q _ _ _ => k b u q
 slot := fun b u q _ _ _ => ⟨u.slots, k b u q⟩
 free := fun b u q n _ => by rw [aF (Vq (U1 (UZ q) hp))]; exact n
 there := fun b u q _ => ⟨u, k b u q⟩
 tN := fun b xs q => by rw [aF (aX q hn)]; exact q
 fz := fun b u xs q => by rw [aF (aX q hn)]; exact q
 tO := fun b ps q => ⟨#[], by rw [aF (aX q hn), q]; simp⟩
theorem Un.write (mu : Oq (H x)) (he : e = x \/ H e = some (.own x)) (k : ∀ b u, b ≠ e -> h.get? b = some u -> h'.get? b = some u) (LR : ∃ u, h'.get? e = some u) : Un fs ex H (upd H x o) h h' := by
 have hx : ∀ b, H b = none -> b ≠ x := fun b n z => by subst z; rw [n] at mu; exact mu
 have hb : ∀ b, H b = none -> b ≠ e := fun b n z => by
   subst z
   rcases he with r | r
   . exact hx b n r
   . rw [n] at r; cases r
 have hm : ∀ b u, H b = some u -> ¬ Oq (some u) -> b ≠ x := fun b u q nm z => by subst z; rw [q] at mu; exact nm mu
 refine ⟨fun b u q n _ _ => k b u (hb b n) q, fun b u q n _ _ => ⟨u.slots, k b u (hb b n) q⟩, fun b u q n _ => by rw [aF (hx b n)]; exact n, fun b u q _ => ?_,
   fun b xs q => by rw [aF (hm b _ q fun z => z)]; exact q, fun b u xs q => by rw [aF (hm b _ q fun z => z)]; exact q, fun b ps q => ⟨#[], by rw [aF (hm b _ q fun z => z), q]; simp⟩⟩
 by_cases Jm : b = e
 . subst Jm; exact LR
 . exact ⟨u, k b u Jm q⟩
end
noncomputable def Ot (h : Heap) (H : Hp) : List Addr := (List.range h.objs.size).filter fun a => (H a).isSome
noncomputable def tP (h : Heap) (H : Hp) : Heap := PySem.W.hideAll h (Ot h H)
theorem Bf (h : Heap) (H : Hp) : (tP h H).objs.size = h.objs.size := PySem.W.hideAll_size _ _
theorem Dj {h : Heap} {H : Hp} {b : Addr} {o : Obj} (e : h.get? b = some o) (n : H b = none) : (tP h H).get? b = some o :=
 PySem.W.hideAll_get _ e fun hm => by
   have q : (H b).isSome = true := (List.mem_filter.mp hm).2
   rw [n] at q; simp at q
theorem Gp {h : Heap} {H : Hp} {b : Addr} {o : Obj} (e : (tP h H).get? b = some o) : h.get? b = some o /\ H b = none := by
 have e' : h.get? b = some o := PySem.W.of_hideAll (Ot h H) e
 refine ⟨e', ?_⟩
 cases q : H b with
 | none => rfl
 | some x =>
   have hm : b ∈ Ot h H := List.mem_filter.mpr ⟨V8.mpr (UZ e'), by simp [q]⟩
   have z : (tP h H).get? b = none := PySem.W.hideAll_none (Ot h H) hm
   rw [z] at e; cases e
noncomputable def Gq (g h : Heap) (L : Addr) : List (Addr × Obj) := (List.range h.objs.size).filterMap fun a => if a = L \/ (g.get? a).isSome = true then none else (h.get? a).map fun o => (a, o)
noncomputable def rest (g h : Heap) (L d : Addr) : List (Addr × Obj) := (Gq g h L).filter fun p => decide (p.1 ≠ d)
structure Mod (K : PySem.W.Frag) (mg : Str -> Option Value) (base : Heap) : Prop where
 Ou : K.In base
 glob : base.Ns mainGlobals mg
 blt : ∃ mb, base.Ns builtinsNs mb /\ ∀ x : Str, x ≠ "__name__" -> mb x = bootBuiltins x
 nolimit : base.NoLimit
structure Cx where
 prog : Program
 w : World
 K : PySem.W.Frag
 mg : Str -> Option Value
 base : Heap
 A : Around
 N : List Str
 s₀ : Shared
 H₀ : Hp
 env : Env
 outer : List Env
 stack : List Env
 ex : List Addr
 fn : Str -> Bool
 calm : Bool
 pn : List (Addr × Obj)
 xe : Value -> Shared -> Prop
noncomputable def C9 (l : List Env) : List Addr := l.filterMap (·.frame)
noncomputable abbrev Cx.fs (X : Cx) : List Addr := C9 X.outer
noncomputable def LV (sc : Scope) (x : Str) : Prop := sc.names.lookup x = some .local \/ sc.names.lookup x = some .cell \/ sc.names.lookup x = some .free
noncomputable def Loc (sc : Scope) (x : Str) : Prop := sc.names.lookup x = some .local \/ sc.names.lookup x = some .cell
noncomputable def Look (env : Env) (h : Heap) (m : Str -> Option Value) (x : Str) (u : Value) : Prop :=
 (env.kindOf x = some .local /\ m x = some u) \/ ((env.kindOf x = some .cell \/ env.kindOf x = some .free) /\ ∃ c, env.cells.lookup x = some c /\ h.IsCell c (some u))
structure Cx.Ok (X : Cx) : Prop where
 mod : Mod X.K X.mg X.base
 kind : X.env.scope.kind = .function
 glob : X.env.globals = mainGlobals
 blt : X.env.builtins = builtinsNs
 above : X.s₀.heap.objs.size <= X.env.locals
 inj : ∀ x y c, X.env.cells.lookup x = some c -> X.env.cells.lookup y = some c -> x = y
 has : ∀ x, (X.env.kindOf x = some .cell \/ X.env.kindOf x = some .free) -> ∃ c, X.env.cells.lookup x = some c
 Mh : ∀ x c, X.fn x = true -> X.env.cells.lookup x = some c -> X.s₀.heap.objs.size <= c
 hd : X.calm = true -> X.A.handled = none
 frames : X.A.frames = some X.stack
 Ov : X.stack = X.outer \/ (X.stack = X.env :: X.outer /\ X.env.frame = some X.env.locals)
 Q6 : ∀ b ∈ X.ex, b ≠ X.env.locals /\ ∀ x c, X.env.cells.lookup x = some c -> c ≠ b
 bs : ∀ b o, X.base.get? b = some o -> X.s₀.heap.get? b = some o /\ X.H₀ b = none
 Gr : X.base.objs.size <= X.s₀.heap.objs.size
 Dk : ∀ b o, X.base.get? b = some o -> b ∉ X.ex
 Gs : ∀ b ∈ X.ex, b ∉ X.fs
 qa : X.s₀.heap.FunFrames X.base X.outer
 Jo : ∀ b ∈ X.fs, X.H₀ b = none
structure Inv (X : Cx) (pins : List (Addr × Obj)) (σ : List (Option V)) (H : Hp) (s : Shared) : Prop where
 ok : X.Ok
 os : s.os = X.s₀.os
 bare : AllBare s.gens
 base : Un X.fs X.ex X.H₀ H X.s₀.heap s.heap
 loc : ∃ m, s.heap.Ns X.env.locals m /\ ∀ (i : Nat) (x : Str) (v : V), X.N[i]? = some x -> σ[i]? = some (some v) -> LV X.env.scope x -> ∃ u, RelV v u /\ Look X.env s.heap m x u
 cell : ∀ x c, X.env.cells.lookup x = some c -> ∃ v, s.heap.IsCell c v
 free : H X.env.locals = none
 kZ : ∀ x c, X.env.cells.lookup x = some c -> H c = none
 pin : ∀ p ∈ X.pn ++ pins, s.heap.get? p.1 = some p.2 /\ H p.1 = none /\ p.1 ≠ X.env.locals /\ p.1 ∉ X.fs /\ ∀ v, p.2.data ≠ .cell v
 dB : ql X.prog X.w H s.heap
 len : σ.length = X.N.length
section
variable {X : Cx} {pins : List (Addr × Obj)} {σ : List (Option V)} {H H' : Hp} {s : Shared} {h' : Heap}
theorem Cx.Ok.Pb (ok : X.Ok) {b : Addr} {o : Obj} (e : X.base.get? b = some o) : b ∉ X.fs := fun hb => by
 have := (ok.qa.mem hb).1
 rw [e] at this; cases this
theorem Inv.bs (I : Inv X pins σ H s) : ∀ b o, X.base.get? b = some o -> s.heap.get? b = some o /\ H b = none := fun b o e =>
 ⟨I.base.keep b o (I.ok.bs b o e).1 (I.ok.bs b o e).2 (I.ok.Pb e) (I.ok.Dk b o e), I.base.free b o (I.ok.bs b o e).1 (I.ok.bs b o e).2 (I.ok.Dk b o e)⟩
theorem Inv.bk (I : Inv X pins σ H s) : ∀ b o, X.base.get? b = some o -> s.heap.get? b = some o := fun b o e => (I.bs b o e).1
theorem Inv.mod (I : Inv X pins σ H s) : Mod X.K X.mg X.base := I.ok.mod
theorem Inv.vJ (I : Inv X pins σ H s) : X.K.In s.heap := I.ok.mod.Ou.keeps I.bk
theorem Inv.lt (I : Inv X pins σ H s) : X.env.locals < s.heap.objs.size := let ⟨_, hn, _⟩ := I.loc; hn.lt
theorem Inv.sz (I : Inv X pins σ H s) : X.s₀.heap.objs.size <= s.heap.objs.size := U3 I.ok.above (VC I.lt)
theorem Inv.Pg (I : Inv X pins σ H s) {a : Addr} (h : s.heap.objs.size <= a) : a ∉ X.fs := fun hb => by
 obtain ⟨_, o, ho, _⟩ := I.ok.qa.mem hb
 exact absurd (U1 (UZ ho) (U3 I.sz h)) (V2 _)
theorem Inv.Jp (I : Inv X pins σ H s) : ∀ x c, X.env.cells.lookup x = some c -> c ≠ X.env.locals := fun x c e z => by
 obtain ⟨v, o, ho, hd⟩ := I.cell x c e
 obtain ⟨m, ⟨o', es, ep, Jq, Mi, _⟩, _⟩ := I.loc
 rw [z, Jq] at ho; cases ho; rw [Mi] at hd; cases hd
theorem Inv.qa (I : Inv X pins σ H s) : s.heap.FunFrames X.base X.outer := by
 have all : ∀ (l : List Env), (∀ b ∈ C9 l, b ∈ X.fs) -> X.s₀.heap.FunFrames X.base l -> s.heap.FunFrames X.base l := by
   intro l
   induction l with
   | nil => intro _ _; trivial
   | cons env r ih =>
     intro hs hl
     obtain ⟨hk, ⟨L, o, hf, hn, ho, hd⟩, hr⟩ := hl
     have hL : L ∈ X.fs := hs L (by unfold C9; rw [VF, hf]; exact UD)
     obtain ⟨sl, e⟩ := I.base.slot L o ho (I.ok.Jo L hL) hL fun z => I.ok.Gs L z hL
     exact ⟨hk, ⟨L, _, hf, hn, e, hd⟩, ih (fun b hb => hs b (by unfold C9; rw [VF, hf]; exact UC _ hb)) hr⟩
 exact all X.outer (fun _ hb => hb) I.ok.qa
theorem Inv.stack (I : Inv X pins σ H s) : s.heap.FunFrames X.base X.stack := by
 rcases I.ok.Ov with e | ⟨e, hf⟩
 . rw [e]; exact I.qa
 . rw [e]
   obtain ⟨m, hn, _⟩ := I.loc
   refine .cons (by rw [I.ok.kind]; decide) hf hn ?_ I.qa
   exact Heap.get?_none_of_le (U3 I.ok.Gr I.ok.above)
theorem Inv.tQ (I : Inv X pins σ H s) : ∀ b ∈ C9 X.stack, b ∈ X.env.locals :: X.fs := fun b hb => by
 rcases I.ok.Ov with e | ⟨e, hf⟩
 . rw [e] at hb; exact UC _ hb
 . rw [e] at hb
   unfold C9 at hb
   rw [VF, hf] at hb
   exact hb
theorem Inv.Ab (I : Inv X pins σ H s) : ∀ b ∈ C9 X.stack, H b = none := fun b hb => by
 rcases UA.mp (I.tQ b hb) with e | hb
 . rw [e]; exact I.free
 . obtain ⟨_, o, ho, _⟩ := I.ok.qa.mem hb
   exact I.base.free b o ho (I.ok.Jo b hb) fun z => I.ok.Gs b z hb
theorem Inv.step {g' : Array GenState} {t' : Nat} {d' : Drawn} {ch : List Addr} (I : Inv X pins σ H s)
   (IB : ∀ b ∈ ch, (b ∈ X.ex \/ X.s₀.heap.objs.size <= b) /\ b ≠ X.env.locals /\ (∀ x c, X.env.cells.lookup x = some c -> c ≠ b) /\ ∀ p ∈ X.pn ++ pins, p.1 ≠ b)
   (keep : ∀ b o, b ≠ X.env.locals -> b ∉ X.fs -> b ∉ ch -> s.heap.get? b = some o -> H b = none -> h'.get? b = some o)
   (slot : ∀ b o, b ≠ X.env.locals -> b ∈ X.fs -> b ∉ ch -> s.heap.get? b = some o -> H b = none -> ∃ sl, h'.get? b = some { o with slots := sl }) (free : ∀ b o, b ∉ ch -> s.heap.get? b = some o -> H b = none -> H' b = none)
   (there : ∀ b o, b ∉ ch -> s.heap.get? b = some o -> ∃ o', h'.get? b = some o')
   (tN : ∀ b xs, H b = some (.tup xs) -> H' b = some (.tup xs)) (fz : ∀ b o u, H b = some (.cZ o u) -> H' b = some (.cZ o u)) (tO : ∀ b ps, H b = some (.Jk ps) -> ∃ more, H' b = some (.Jk (ps ++ more)))
   (ns : ∀ m, s.heap.Ns X.env.locals m -> h'.Ns X.env.locals m) (dB : ql X.prog X.w H' h') (hg : AllBare g') :
   Inv X pins σ H' { s with heap := h', gens := g', drawn := d', toks := t' } := by
 have Q7 : ∀ b o, X.s₀.heap.get? b = some o -> b ≠ X.env.locals := fun b o e => Vq (U1 (UZ e) I.ok.above)
 have Ow : ∀ b o, X.s₀.heap.get? b = some o -> b ∉ X.ex -> b ∉ ch := fun b o e hx hb => by
   rcases (IB b hb).1 with z | z
   . exact hx z
   . exact absurd (U1 (UZ e) z) (V2 _)
 have cellK : ∀ x c, X.env.cells.lookup x = some c -> ∀ v, s.heap.IsCell c v -> h'.IsCell c v := fun x c e v ⟨o, ho, hd⟩ => by
   have Mj : c ∉ ch := fun z => (IB c z).2.2.1 x c e rfl
   by_cases hc : c ∈ X.fs
   . obtain ⟨sl, q⟩ := slot c o (I.Jp x c e) hc Mj ho (I.kZ x c e)
     exact ⟨_, q, hd⟩
   . exact ⟨o, keep c o (I.Jp x c e) hc Mj ho (I.kZ x c e), hd⟩
 refine ⟨I.ok, I.os, hg, ⟨fun b o e n hb hx => ?_, fun b o e n hb hx => ?_, fun b o e n hx => ?_, fun b o e hx => ?_, fun b xs e => tN b xs (I.base.tN b xs e), fun b o xs e => fz b o xs (I.base.fz b o xs e), fun b ps e => ?_⟩, ?_, fun x c e => ?_, ?_, fun x c e => ?_, fun p hp => ?_, dB, I.len⟩
 . exact keep b o (Q7 b o e) hb (Ow b o e hx) (I.base.keep b o e n hb hx) (I.base.free b o e n hx)
 . obtain ⟨sl, e1⟩ := I.base.slot b o e n hb hx
   obtain ⟨R0, e2⟩ := slot b _ (Q7 b o e) hb (Ow b o e hx) e1 (I.base.free b o e n hx)
   exact ⟨R0, e2⟩
 . obtain ⟨o', e1⟩ := I.base.there b o e hx
   exact free b o' (Ow b o e hx) e1 (I.base.free b o e n hx)
 . obtain ⟨o', e1⟩ := I.base.there b o e hx
   exact there b o' (Ow b o e hx) e1
 . obtain ⟨m1, e1⟩ := I.base.tO b ps e
   obtain ⟨m2, e2⟩ := tO b _ e1
   exact ⟨m1 ++ m2, by rw [e2, Array.append_assoc]⟩
 . obtain ⟨m, hn, hl⟩ := I.loc
   refine ⟨m, ns m hn, fun i x v e1 e2 e3 => ?_⟩
   obtain ⟨u, r, l⟩ := hl i x v e1 e2 e3
   refine ⟨u, r, ?_⟩
   rcases l with l | ⟨k, c, e, z⟩
   . exact .inl l
   . exact .inr ⟨k, c, e, cellK x c e _ z⟩
 . obtain ⟨v, z⟩ := I.cell x c e
   exact ⟨v, cellK x c e v z⟩
 . obtain ⟨m, ⟨o, _, _, ho, _⟩, _⟩ := I.loc
   exact free _ o (fun z => (IB _ z).2.1 rfl) ho I.free
 . obtain ⟨v, o, ho, hd⟩ := I.cell x c e
   exact free c o (fun z => (IB c z).2.2.1 x c e rfl) ho (I.kZ x c e)
 . obtain ⟨e, n, ne, nf, d⟩ := I.pin p hp
   have Mj : p.1 ∉ ch := fun z => (IB p.1 z).2.2.2 p hp rfl
   exact ⟨keep p.1 p.2 ne nf Mj e n, free p.1 p.2 Mj e n, ne, nf, d⟩
theorem Inv.un {t' : Nat} (I : Inv X pins σ H s) (u : Un X.fs [] H H' s.heap h') (dB : ql X.prog X.w H' h') : Inv X pins σ H' { s with heap := h', toks := t' } := by
 obtain ⟨m, ⟨o, es, ep, ho, r⟩, _⟩ := id I.loc
 obtain ⟨sl, hL⟩ := u.any ho I.free (by simp)
 exact I.step (g' := s.gens) (d' := s.drawn) (ch := []) (fun _ z => nomatch z) (fun b o _ hb _ e n => u.keep b o e n hb (by simp)) (fun b o _ hb _ e n => u.slot b o e n hb (by simp)) (fun b o _ e n => u.free b o e n (by simp)) (fun b o _ e => u.there b o e (by simp)) u.tN u.fz u.tO (fun m' hm => by
   obtain ⟨o', Ph, Pj, Jq, r'⟩ := hm
   rw [ho] at Jq; cases Jq
   exact ⟨_, Ph, Pj, hL, r'⟩) dB I.bare
theorem Inv.call {g' : Array GenState} {t' : Nat} {d' : Drawn} {ch : List Addr} (I : Inv X pins σ H s) (u : Un (C9 X.stack) ch H H' s.heap h') (dB : ql X.prog X.w H' h') (hg : AllBare g')
   (IB : ∀ b ∈ ch, (b ∈ X.ex \/ X.s₀.heap.objs.size <= b) /\ b ≠ X.env.locals /\ (∀ x c, X.env.cells.lookup x = some c -> c ≠ b) /\ ∀ p ∈ X.pn ++ pins, p.1 ≠ b) :
   Inv X pins σ H' { s with heap := h', gens := g', drawn := d', toks := t' } := by
 obtain ⟨m, ⟨o, es, ep, ho, r⟩, _⟩ := id I.loc
 obtain ⟨sl, hL⟩ := u.any ho I.free fun z => (IB _ z).2.1 rfl
 exact I.step (ch := ch) IB (fun b o hL hb hc e n => u.keep b o e n (fun z => (UA.mp (I.tQ b z)).elim hL hb) hc) (fun b o _ _ hc e n => u.any e n hc) (fun b o hc e n => u.free b o e n hc) (fun b o hc e => u.there b o e hc) u.tN u.fz u.tO (fun m' hm => by
   obtain ⟨o', Ph, Pj, Jq, r'⟩ := hm
   rw [ho] at Jq; cases Jq
   exact ⟨_, Ph, Pj, hL, r'⟩) dB hg
theorem Inv.turned {t' : Nat} {it : Addr} (I : Inv X pins σ H s) (k : ∀ b o, b ≠ it -> s.heap.get? b = some o -> h'.get? b = some o) (hn : H it = none) (hL : it ≠ X.env.locals)
   (h1 : it ∈ X.ex \/ X.s₀.heap.objs.size <= it) (h2 : ∀ x c, X.env.cells.lookup x = some c -> c ≠ it) (h3 : ∀ p ∈ X.pn ++ pins, p.1 ≠ it) : Inv X pins σ H { s with heap := h', toks := t' } := by
 have Q8 : ∀ b u, H b = some u -> b ≠ it := fun b u e z => by rw [z, hn] at e; cases e
 refine I.step (g' := s.gens) (d' := s.drawn) (ch := [it]) (fun b hb => ?_) (fun b o _ _ hc e _ => k b o (fun z => hc (by simp [z])) e) (fun b o _ _ hc e _ => ⟨o.slots, k b o (fun z => hc (by simp [z])) e⟩) (fun _ _ _ _ n => n)
   (fun b o hc e => ⟨o, k b o (fun z => hc (by simp [z])) e⟩) (fun _ _ e => e) (fun _ _ _ e => e) (fun b ps e => ⟨#[], by rw [e]; simp⟩) (fun m hm => ?_) (fun b u e => ?_) I.bare
 . have e : b = it := by simpa using hb
   subst e
   exact ⟨h1, hL, h2, h3⟩
 . obtain ⟨o, es, ep, ho, r⟩ := hm
   exact ⟨o, es, ep, k _ o (Ne.symm hL) ho, r⟩
 . refine (I.dB b u e).Be (fun c v hc q => k c v ?_ q) (fun _ q => q) fun _ _ q => q
   rcases hc with z | z
   . rw [z]; exact Q8 b u e
   . exact Q8 c _ z
theorem Inv.tok (I : Inv X pins σ H s) (t : Nat) : Inv X pins σ H { s with toks := t } := I.un (h' := s.heap) (t' := t) Un.refl I.dB
theorem Inv.kept {t' : Nat} (I : Inv X pins σ H s) (k : ∀ b u, s.heap.get? b = some u -> h'.get? b = some u) : Inv X pins σ H { s with heap := h', toks := t' } := I.un (Un.kept k) (I.dB.kept k)
theorem Inv.laid {a : Addr} {o : HO} {t' : Nat} (I : Inv X pins σ H s) (k : ∀ b u, s.heap.get? b = some u -> h'.get? b = some u) (hp : s.heap.objs.size <= a) (new : gJ X.prog X.w (upd H a o) h' a o) :
   Inv X pins σ (upd H a o) { s with heap := h', toks := t' } := I.un (Un.laid k hp (I.dB.fresh hp)) (I.dB.laid k hp new)
theorem Inv.write {x e : Addr} {o : HO} {t' : Nat} (I : Inv X pins σ H s) (mu : Oq (H x)) (he : e = x \/ H e = some (.own x)) (k : ∀ b u, b ≠ e -> s.heap.get? b = some u -> h'.get? b = some u) (LR : ∃ u, h'.get? e = some u)
   (new : gJ X.prog X.w (upd H x o) h' x o) : Inv X pins σ (upd H x o) { s with heap := h', toks := t' } := I.un (Un.write mu he k LR) (I.dB.write mu he k LR new)
theorem Inv.qm {Ac : List (Addr × Obj)} (I : Inv X pins σ H s) (h : ∀ p ∈ Ac, s.heap.get? p.1 = some p.2 /\ H p.1 = none /\ p.1 ≠ X.env.locals /\ p.1 ∉ X.fs /\ ∀ v, p.2.data ≠ .cell v) : Inv X Ac σ H s :=
 ⟨I.ok, I.os, I.bare, I.base, I.loc, I.cell, I.free, I.kZ, fun p hp => (UY.mp hp).elim (fun z => I.pin p (UO _ z)) (h p), I.dB, I.len⟩
theorem vK {N : List Str} (hN : N.Nodup) {i j : Nat} {x : Str} (a : N[i]? = some x) (b : N[j]? = some x) : i = j := by
 obtain ⟨h1, e1⟩ := Vw.mp a
 obtain ⟨h2, e2⟩ := Vw.mp b
 exact (List.getElem_inj hN).mp (e1.trans e2.symm)
theorem Bg {M : Model} {A : Around} {E : Value -> Shared -> Prop} {i : Nat} {x : Str} {v : V} {u : Value} {Q : Unit -> Shared -> Prop} (I : Inv X pins σ H s) (hN : X.N.Nodup) (hi : X.N[i]? = some x) (hx : Loc X.env.scope x) (r : RelV v u)
   (h : ∀ s', Inv X pins (σ.set i (some v)) H s' -> (∃ a, Heap.SameBut a s.heap s'.heap /\ (a = X.env.locals \/ X.env.cells.lookup x = some a)) -> Q () s') (hf : X.fn x = true \/ X.env.scope.names.lookup x = some .local := by first | exact .inl rfl | exact .inr rfl | assumption) : wpAny M A (storeName X.env x u) Q E s := by
 obtain ⟨m, hn, hl⟩ := id I.loc
 have Pk : (X.env.scope.kind == .class || (X.env.scope.kind == .module && X.env.locals != X.env.globals)) = false := by rw [I.ok.kind]; rfl
 have Ml : i < σ.length := by rw [I.len]; exact (Vw.mp hi).1
 have Jp := I.Jp
 have tracked : ∀ {a : Addr} {h' : Heap}, (∃ o, s.heap.get? a = some o /\ H a = none) -> Heap.SameBut a s.heap h' -> ql X.prog X.w H h' := fun {a h'} ha hs b ob e => by
   obtain ⟨_, _, IC⟩ := ha
   refine (I.dB b ob e).Be (fun c w' hc q => (hs.2 c ?_).trans q) (fun _ q => q) fun _ _ q => q
   rintro rfl
   rcases hc with rfl | hc
   . rw [IC] at e; cases e
   . rw [IC] at hc; cases hc
 rcases hx with hk | hk
 . refine wpAny_storeName_local hk hn (fun h' R1 hs => ?_) Pk
   obtain ⟨oL, _, _, R3, _⟩ := id hn
   refine h _ ⟨I.ok, I.os, I.bare, ⟨fun b o e n hb hx => ?_, fun b o e n hb hx => ?_, I.base.free, fun b o e hx => ?_, I.base.tN, I.base.fz, I.base.tO⟩, ⟨_, R1, fun j y v' e1 e2 e3 => ?_⟩, fun y c e => ?_, I.free, I.kZ, fun p hp => ?_, tracked ⟨oL, R3, I.free⟩ hs, by simpa using I.len⟩ ⟨_, hs, .inl rfl⟩
   . exact (hs.2 b (Vq (U1 (UZ e) I.ok.above))).trans (I.base.keep b o e n hb hx)
   . obtain ⟨sl, e1⟩ := I.base.slot b o e n hb hx
     exact ⟨sl, (hs.2 b (Vq (U1 (UZ e) I.ok.above))).trans e1⟩
   . obtain ⟨o', e1⟩ := I.base.there b o e hx
     exact ⟨o', (hs.2 b (Vq (U1 (UZ e) I.ok.above))).trans e1⟩
   . by_cases hj : j = i
     . subst hj
       rw [hi] at e1; cases e1
       rw [List.getElem?_set_self Ml] at e2
       cases e2
       exact ⟨u, r, .inl ⟨hk, by simp⟩⟩
     . rw [List.getElem?_set_ne (Ne.symm hj)] at e2
       obtain ⟨u', r', q⟩ := hl j y v' e1 e2 e3
       refine ⟨u', r', ?_⟩
       rcases q with ⟨k, e⟩ | ⟨k, c, e, z⟩
       . refine .inl ⟨k, ?_⟩
         have : y ≠ x := fun e => hj (vK hN e1 (e ▸ hi))
         simp [this, e]
       . exact .inr ⟨k, c, e, z.sameBut hs (Jp y c e)⟩
   . obtain ⟨w', z⟩ := I.cell y c e
     exact ⟨w', z.sameBut hs (Jp y c e)⟩
   . obtain ⟨e, n, ne, nf, d⟩ := I.pin p hp
     exact ⟨(hs.2 p.1 ne).trans e, n, ne, nf, d⟩
 . have Pn : X.fn x = true := by
     rcases hf with z | z
     . exact z
     . rw [z] at hk; cases hk
   obtain ⟨c, hc⟩ := I.ok.has x (.inl hk)
   obtain ⟨w', z⟩ := I.cell x c hc
   refine wpAny_storeName_cell I.ok.kind hk hc z (fun h' Mm hs => ?_)
   obtain ⟨oc, Ox, Pp⟩ := id z
   refine h { s with heap := h' } ⟨I.ok, I.os, I.bare, ⟨fun b o e n hb hx => ?_, fun b o e n hb hx => ?_, I.base.free, fun b o e hx => ?_, I.base.tN, I.base.fz, I.base.tO⟩, ⟨m, hn.sameBut hs (Ne.symm (Jp x c hc)), fun j y v' e1 e2 e3 => ?_⟩, fun y c' e => ?_, I.free, I.kZ, fun p hp => ?_, tracked ⟨oc, Ox, I.kZ x c hc⟩ hs, by simpa using I.len⟩ ⟨c, hs, .inr hc⟩
   . exact (hs.2 b (Vq (U1 (UZ e) (I.ok.Mh x c Pn hc)))).trans (I.base.keep b o e n hb hx)
   . obtain ⟨sl, e1⟩ := I.base.slot b o e n hb hx
     exact ⟨sl, (hs.2 b (Vq (U1 (UZ e) (I.ok.Mh x c Pn hc)))).trans e1⟩
   . obtain ⟨o', e1⟩ := I.base.there b o e hx
     exact ⟨o', (hs.2 b (Vq (U1 (UZ e) (I.ok.Mh x c Pn hc)))).trans e1⟩
   . by_cases hj : j = i
     . subst hj
       rw [hi] at e1; cases e1
       rw [List.getElem?_set_self Ml] at e2
       cases e2
       exact ⟨u, r, .inr ⟨.inl hk, c, hc, Mm⟩⟩
     . rw [List.getElem?_set_ne (Ne.symm hj)] at e2
       obtain ⟨u', r', q⟩ := hl j y v' e1 e2 e3
       refine ⟨u', r', ?_⟩
       rcases q with q | ⟨k, c', e, z'⟩
       . exact .inl q
       . refine .inr ⟨k, c', e, z'.sameBut hs ?_⟩
         rintro rfl
         exact hj (vK hN e1 (I.ok.inj _ _ _ e hc ▸ hi))
   . by_cases Q9 : c' = c
     . subst Q9; exact ⟨_, Mm⟩
     . obtain ⟨w2, z2⟩ := I.cell y c' e
       exact ⟨w2, z2.sameBut hs Q9⟩
   . obtain ⟨e, n, ne, nf, d⟩ := I.pin p hp
     refine ⟨(hs.2 p.1 ?_).trans e, n, ne, nf, d⟩
     intro q
     rw [q, Ox] at e
     have q' : oc = p.2 := U4 e
     exact d w' (by rw [← q']; exact Pp)
theorem vN {M : Model} {A : Around} {E : Value -> Shared -> Prop} {i : Nat} {x : Str} {v : V} {u : Value} {Q : Unit -> Shared -> Prop} (I : Inv X pins σ H s) (hN : X.N.Nodup) (hi : X.N[i]? = some x) (hx : Loc X.env.scope x) (r : RelV v u)
   (h : ∀ s', Inv X pins (σ.set i (some v)) H s' -> Q () s') (hf : X.fn x = true \/ X.env.scope.names.lookup x = some .local := by first | exact .inl rfl | exact .inr rfl | assumption) : wpAny M A (storeName X.env x u) Q E s :=
 Bg I hN hi hx r (fun s' I' _ => h s' I') hf
end
noncomputable abbrev XK := Value -> Option Addr -> Hp -> Prop
noncomputable abbrev St := List (Option V)
noncomputable abbrev VK := V -> Hp -> Prop
noncomputable abbrev TE := St -> Hp -> VK -> Prop
noncomputable abbrev TT := St -> Hp -> (Bool -> Hp -> Prop) -> Prop
noncomputable abbrev TA := St -> Hp -> (List V -> Hp -> Prop) -> Prop
structure Ends where
 nx : St -> Hp -> Prop
 rt : VK
 bk : St -> Hp -> Prop := fun _ _ => False
 ct : St -> Hp -> Prop := fun _ _ => False
noncomputable abbrev TS := Ends -> St -> Hp -> Prop
noncomputable def EP (X : Cx) (pins : List (Addr × Obj)) (σ : St) (Q : VK) (u : Value) (s' : Shared) : Prop := ∃ v H', Inv X pins σ H' s' /\ RelV v u /\ Q v H'
noncomputable def TP (X : Cx) (pins : List (Addr × Obj)) (σ : St) (Q : Bool -> Hp -> Prop) (b : Bool) (s' : Shared) : Prop := ∃ H', Inv X pins σ H' s' /\ Q b H'
noncomputable def AP (X : Cx) (pins : List (Addr × Obj)) (σ : St) (Q : List V -> Hp -> Prop) (us : List Value) (s' : Shared) : Prop := ∃ vs H', Inv X pins σ H' s' /\ Vals vs us /\ Q vs H'
noncomputable def SP (X : Cx) (pins : List (Addr × Obj)) (D : Ends) (f : Flow) (s' : Shared) : Prop :=
 match f with
 | .next => ∃ σ' H', Inv X pins σ' H' s' /\ D.nx σ' H'
 | .brk => ∃ σ' H', Inv X pins σ' H' s' /\ D.bk σ' H'
 | .cont => ∃ σ' H', Inv X pins σ' H' s' /\ D.ct σ' H'
 | .ret u => ∃ v σ' H', Inv X pins σ' H' s' /\ RelV v u /\ D.rt v H'
noncomputable def PE (X : Cx) (e : Expr) (t : TE) : Prop :=
 ∀ (pins : List (Addr × Obj)) (s : Shared) (σ : St) (H : Hp) (Q : VK), Inv X pins σ H s -> t σ H Q -> wpAny (model X.prog X.w) X.A (eval e X.env) (EP X pins σ Q) X.xe s
noncomputable def PT (X : Cx) (e : Expr) (t : TT) : Prop :=
 ∀ (pins : List (Addr × Obj)) (s : Shared) (σ : St) (H : Hp) (Q : Bool -> Hp -> Prop), Inv X pins σ H s -> t σ H Q -> wpAny (model X.prog X.w) X.A (isTrue e X.env (eval e X.env)) (TP X pins σ Q) X.xe s
noncomputable def PW (X : Cx) (e : Expr) (t : TT) : Prop :=
 ∀ (whole : Sem Value) (pins : List (Addr × Obj)) (s : Shared) (σ : St) (H : Hp) (Q : Bool -> Hp -> Prop), Inv X pins σ H s -> t σ H Q -> wpAny (model X.prog X.w) X.A (isTrue e X.env whole) (TP X pins σ Q) X.xe s
noncomputable def PA (X : Cx) (es : List Expr) (t : TA) : Prop :=
 ∀ (pos : Pos) (pins : List (Addr × Obj)) (s : Shared) (σ : St) (H : Hp) (Q : List V -> Hp -> Prop), Inv X pins σ H s -> t σ H Q -> wpAny (model X.prog X.w) X.A (spliced (backTo pos (starEach es X.env))) (AP X pins σ Q) X.xe s
noncomputable def PS (X : Cx) (st : Stmt) (t : TS) : Prop :=
 ∀ (pins : List (Addr × Obj)) (s : Shared) (σ : St) (H : Hp) (D : Ends), Inv X pins σ H s -> t D σ H -> wpAny (model X.prog X.w) X.A (exec st X.env) (SP X pins D) X.xe s
noncomputable def Ad (X : Cx) (st : List Stmt) (t : TS) : Prop :=
 ∀ (pins : List (Addr × Obj)) (s : Shared) (σ : St) (H : Hp) (D : Ends), Inv X pins σ H s -> t D σ H -> wpAny (model X.prog X.w) X.A (execs st X.env) (SP X pins D) X.xe s
theorem dQ {α : Type} {t : Sem α} {Q Q' : α -> Shared -> Prop} {M : Model} {A : Around} {E : Value -> Shared -> Prop} {s : Shared} (h : wpAny M A t Q E s) (hQ : ∀ a s, Q a s -> Q' a s) : wpAny M A t Q' E s := VN h hQ fun _ _ x => x
section
variable {X : Cx}
noncomputable def Pq (i : Nat) : TE := fun σ H Q => ∃ v, σ[i]? = some (some v) /\ Q v H
noncomputable def tC (v : V) : TE := fun _ H Q => Q v H
theorem lE {i : Nat} {x : Str} {pos : Pos} (hN : X.N[i]? = some x) (hv : LV X.env.scope x) (hd : (x == ("__debug__" : Str)) = false := by decide) (kr : (x == ("__classdict__" : Str)) = false := by decide) : PE X (.Name x pos) (Pq i) := by
 intro pins s σ H Q I h
 obtain ⟨v, e, h⟩ := h
 obtain ⟨m, hn, hl⟩ := I.loc
 obtain ⟨u, r, l⟩ := hl i x v hN e hv
 have fin : EP X pins σ Q u s := ⟨v, H, I, r, h⟩
 rcases l with ⟨hk, hm⟩ | ⟨hk, c, hc, sO⟩
 . exact wpAny_Name (wpAny_loadName_local I.ok.kind hk hn hm fin) hd
 . rcases hk with hk | hk
   . exact wpAny_Name (wpAny_loadName_cell I.ok.kind hk hc sO fin) hd
   . exact wpAny_Name (wpAny_loadName_free I.ok.kind hk hc sO fin kr) hd
theorem Jr {i j pos} : PE X (.Constant (.int i) j pos) (tC (.int i)) := fun _ _ _ H _ I h => wpAny_Constant_int ⟨.int i, H, I.tok _, ⟨_, rfl⟩, h⟩
theorem Mp {b j pos} : PE X (.Constant (.bool b) j pos) (tC (.bl b)) := fun _ _ _ H _ I h => Constant_bool ⟨.bl b, H, I, rfl, h⟩
theorem Js {x j pos} : PE X (.Constant (.str x) j pos) (tC (.str x)) := fun _ _ _ H _ I h => Calls.Constant_str ⟨.str x, H, I.tok _, ⟨_, rfl⟩, h⟩
noncomputable def Gl (X : Cx) (x : Str) : Prop := X.env.kindOf x = some .globalImplicit
theorem Ae {E : Value -> Shared -> Prop} {pins : List (Addr × Obj)} {s : Shared} {σ : St} {H : Hp} {x : Str} {u : Value} {pos : Pos} {Q : Value -> Shared -> Prop} (I : Inv X pins σ H s) (hg : Gl X x) (hm : X.mg x = some u) (h : Q u s)
   (hd : (x == ("__debug__" : Str)) = false := by decide) : wpAny (model X.prog X.w) X.A (eval (.Name x pos) X.env) Q E s :=
 Calls.Name_function_global I.ok.kind hg (Calls.loadGlobal_global (by rw [I.ok.glob]; exact I.mod.glob.keeps I.bk) hm h) hd
theorem qK {E : Value -> Shared -> Prop} {pins : List (Addr × Obj)} {s : Shared} {σ : St} {H : Hp} {x : Str} {u : Value} {pos : Pos} {Q : Value -> Shared -> Prop} (I : Inv X pins σ H s) (hg : Gl X x) (hm : X.mg x = none) (hv : bootBuiltins x = some u) (h : Q u s)
   (hn : x ≠ "__name__" := by decide) (hd : (x == ("__debug__" : Str)) = false := by decide) : wpAny (model X.prog X.w) X.A (eval (.Name x pos) X.env) Q E s := by
 obtain ⟨mb, h1, h2⟩ := I.mod.blt
 exact Calls.Name_function_global I.ok.kind hg (Calls.loadGlobal_builtin (by rw [I.ok.glob]; exact I.mod.glob.keeps I.bk) hm (by rw [I.ok.blt]; exact h1.keeps I.bk) ((h2 x hn).trans hv) h) hd
theorem Gu {x : Str} {v : V} {u : Value} {pos : Pos} (hg : Gl X x) (hm : X.mg x = none) (hv : bootBuiltins x = some u) (r : RelV v u) (hn : x ≠ "__name__" := by decide) (hd : (x == ("__debug__" : Str)) = false := by decide) : PE X (.Name x pos) (tC v) :=
 fun _ _ _ H _ I h => qK I hg hm hv ⟨v, H, I, r, h⟩ hn hd
variable {a b : Expr} {ta tb : TE} {pos : Pos}
noncomputable def tB (t : TE) : TT := fun σ H Q => t σ H fun x H1 => ∃ c, x = .bl c /\ Q c H1
theorem Jt {e : Expr} {t : TE} (h : PE X e t) (he : ∀ whole, isTrue e X.env whole = (do let v ← whole; standAt e.pos; holding [v] (truthy v)) := by intro _; rfl) : PT X e (tB t) := by
 intro pins s σ H Q I hw
 refine isTrue_plain (dQ (h pins s σ H _ I hw) fun v s1 zz => ?_) (he _)
 obtain ⟨x, H1, I1, r1, q1⟩ := zz
 obtain ⟨d, rfl, q⟩ := q1
 cases r1
 exact Wc ⟨H1, I1, q⟩
variable {tA Oz : TT} {rest : List Expr}
noncomputable def Pr (t u : TT) : TT := fun σ H Q => t σ H fun c H1 => if c = true then u σ H1 Q else Q false H1
noncomputable def R4 (t u : TT) : TT := fun σ H Q => t σ H fun c H1 => if c = true then Q true H1 else u σ H1 Q
noncomputable def Pu (t : TT) : TT := fun σ H Q => t σ H fun c H1 => Q (!c) H1
theorem Gv (ha : PT X a tA) : PW X (.BoolOp .And [a] pos) tA := by
 intro wh pins s σ H Q I h
 refine isTrue_and (dQ (ha pins s σ H Q I h) fun c s1 e => ?_)
 cases c with
 | true => exact isTrue_and_nil e
 | false => exact e
theorem Ju (ha : PT X a tA) : PW X (.BoolOp .Or [a] pos) tA := by
 intro wh pins s σ H Q I h
 refine isTrue_or (dQ (ha pins s σ H Q I h) fun c s1 e => ?_)
 cases c with
 | false => exact isTrue_or_nil e
 | true => exact e
theorem Jv (ha : PT X a tA) (hb : PW X (.BoolOp .And (b :: rest) pos) Oz) : PW X (.BoolOp .And (a :: b :: rest) pos) (Pr tA Oz) := by
 intro wh pins s σ H Q I h
 refine isTrue_and (dQ (ha pins s σ H _ I h) fun c s1 zz => ?_)
 obtain ⟨H1, I1, q1⟩ := zz
 cases c with
 | true => exact hb wh pins s1 σ H1 Q I1 q1
 | false => exact ⟨H1, I1, q1⟩
theorem Mq (ha : PT X a tA) (hb : PW X (.BoolOp .Or (b :: rest) pos) Oz) : PW X (.BoolOp .Or (a :: b :: rest) pos) (R4 tA Oz) := by
 intro wh pins s σ H Q I h
 refine isTrue_or (dQ (ha pins s σ H _ I h) fun c s1 zz => ?_)
 obtain ⟨H1, I1, q1⟩ := zz
 cases c with
 | true => exact ⟨H1, I1, q1⟩
 | false => exact hb wh pins s1 σ H1 Q I1 q1
theorem Jw (ha : PT X a tA) : PT X (.UnaryOp .Not a pos) (Pu tA) := by
 intro pins s σ H Q I h
 exact isTrue_not (ha pins s σ H (fun c H1 => Q (!c) H1) I h)
noncomputable def Mr (ta tb : TE) : TE := fun σ H Q => ta σ H fun x H1 => ∃ c, x = .bl c /\ if c = true then tb σ H1 Q else Q (.bl false) H1
noncomputable def Ms (ta : TE) : TE := fun σ H Q => ta σ H fun x H1 => ∃ c, x = .bl c /\ Q (.bl (!c)) H1
theorem Jx {op} {t : TE} (h : PE X a t) : PE X (.BoolOp op [a] pos) t := fun pins s σ H Q I hw => BoolOp_one (h pins s σ H Q I hw)
theorem Jy (ha : PE X a ta) (hb : PE X (.BoolOp .And (b :: rest) pos) tb) : PE X (.BoolOp .And (a :: b :: rest) pos) (Mr ta tb) := by
 intro pins s σ H Q I h
 refine BoolOp_and (dQ (ha pins s σ H _ I h) fun v s1 zz => ?_)
 obtain ⟨x, H1, I1, r1, q1⟩ := zz
 obtain ⟨c, rfl, q1⟩ := q1
 cases r1
 refine Wc ?_
 cases c with
 | true => exact hb pins s1 σ H1 Q I1 q1
 | false => exact ⟨.bl false, H1, I1, rfl, q1⟩
theorem Jz (ha : PE X a ta) : PE X (.UnaryOp .Not a pos) (Ms ta) := by
 intro pins s σ H Q I h
 refine UnaryOp_ (dQ (ha pins s σ H _ I h) fun v s1 zz => ?_)
 obtain ⟨x, H1, I1, r1, q1⟩ := zz
 obtain ⟨c, rfl, q1⟩ := q1
 cases r1
 exact not_of (Wc ⟨.bl (!c), H1, I1, rfl, q1⟩)
end
noncomputable def nP (K : PySem.W.Frag) (H : Hp) (a : Addr) (xs : List V) : Prop :=
 Rd H a (.lst xs) ∨
   ∃ (o : Obj) (its : Array Value) (n : Nat), K.lookup a = some o /\ o.cls = .type "list" /\ o.dict = none /\ o.data = .seq its n /\ its.size <= sizeLine /\ Vals xs its.toList
noncomputable def qb (K : PySem.W.Frag) (H : Hp) (a : Addr) (xs : List V) : Prop :=
 Rd H a (.tup xs) ∨
   ∃ (o : Obj) (its : Array Value) (n : Nat), K.lookup a = some o /\ o.cls = .type "tuple" /\ o.data = .seq its n /\ its.size <= sizeLine /\ Vals xs its.toList
noncomputable def Pw : Value -> Option V
 | .none => some .non
 | .bool b => some (.bl b)
 | .int i _ => some (.int i)
 | .str x _ => some (.str x)
 | .bytes b _ => some (.C8 b)
 | .float b _ => some (.Oo b)
 | .ref a => some (.ref a)
 | .type n => some (.ty n)
 | _ => none
theorem RelV.abs {x : V} {u : Value} (r : RelV x u) : Pw u = some x := by
 cases x with
 | non => cases r; rfl
 | bl _ => cases r; rfl
 | int _ => obtain ⟨t, rfl⟩ := r; rfl
 | str _ => obtain ⟨t, rfl⟩ := r; rfl
 | C8 _ => obtain ⟨t, rfl⟩ := r; rfl
 | Oo _ => obtain ⟨t, rfl⟩ := r; rfl
 | ref _ => cases r; rfl
 | ty _ => cases r; rfl
theorem RelV.inj {x y : V} {u : Value} (r : RelV x u) (q : RelV y u) : x = y := U4 (r.abs.symm.trans q.abs)
theorem Vals.inj {xs ys : List V} {us : List Value} (h : Vals xs us) (q : Vals ys us) : xs = ys := by
 induction h generalizing ys with
 | nil => cases q; rfl
 | cons r _ i => cases q with
   | cons r' t' => rw [r.inj r', i t']
section
variable {X : Cx} {pins : List (Addr × Obj)} {σ : St} {H : Hp} {s : Shared} {a : Addr} {xs ys : List V}
theorem nP.of {K : PySem.W.Frag} (h : H a = some (.lst xs)) : nP K H a xs := .inl (.inl h)
theorem qb.of {K : PySem.W.Frag} (h : H a = some (.tup xs)) : qb K H a xs := .inl (.inl h)
theorem Inv.list (I : Inv X pins σ H s) (h : nP X.K H a xs) : ∃ its : List Value, Vals xs its /\ PlainL s.heap a its.toArray /\ xs.length <= sizeLine := by
 rcases h with h | ⟨o, its, n, hk, hc, hd, hs, hz, r⟩
 . obtain ⟨z, its, n, r, e⟩ := h.ok I.dB
   exact ⟨its, r, ⟨_, n, e, rfl, rfl, rfl⟩, z⟩
 . refine ⟨its.toList, r, ⟨o, n, I.vJ a o hk, hc, hd, by simpa using hs⟩, ?_⟩
   have e := r.length
   simp only [Array.length_toList] at e
   omega
theorem Inv.tuple (I : Inv X pins σ H s) (h : qb X.K H a xs) : ∃ its : List Value, Vals xs its /\ IsTup s.heap a its.toArray /\ xs.length <= sizeLine := by
 rcases h with h | ⟨o, its, n, hk, hc, hs, hz, r⟩
 . obtain ⟨z, its, r, p⟩ := h.ok I.dB
   exact ⟨its, r, p, z⟩
 . refine ⟨its.toList, r, ⟨o, I.vJ a o hk, hc, n, by simpa using hs⟩, ?_⟩
   have e := r.length
   simp only [Array.length_toList] at e
   omega
theorem Inv.Dl (I : Inv X pins σ H s) (h : nP X.K H a xs) (h' : nP X.K H a ys) : xs = ys := by
 obtain ⟨its, r, ⟨o, n, e, _, _, d⟩, _⟩ := I.list h
 obtain ⟨its', r', ⟨o', n', e', _, _, d'⟩, _⟩ := I.list h'
 rw [e] at e'; cases e'
 rw [d] at d'
 injection d' with d1 _
 have : its = its' := by simpa using congrArg Array.toList d1
 subst this
 exact r.inj r'
theorem Inv.Bh (I : Inv X pins σ H s) (h : qb X.K H a xs) (h' : qb X.K H a ys) : xs = ys := by
 obtain ⟨its, r, ⟨o, e, _, n, d⟩, _⟩ := I.tuple h
 obtain ⟨its', r', ⟨o', e', _, n', d'⟩, _⟩ := I.tuple h'
 rw [e] at e'; cases e'
 rw [d] at d'
 injection d' with d1 _
 have : its = its' := by simpa using congrArg Array.toList d1
 subst this
 exact r.inj r'
end
noncomputable abbrev Cx.wish (X : Cx) (E : Value -> Shared -> Prop) : Cx := { X with xe := E }
noncomputable abbrev Cx.LW (X : Cx) : Cx := X.wish fun _ _ => False
theorem Cx.Ok.wish {X : Cx} (ok : X.Ok) (E : Value -> Shared -> Prop) : (X.wish E).Ok :=
 ⟨ok.mod, ok.kind, ok.glob, ok.blt, ok.above, ok.inj, ok.has, ok.Mh, ok.hd, ok.frames, ok.Ov, ok.Q6, ok.bs, ok.Gr, ok.Dk, ok.Gs, ok.qa, ok.Jo⟩
theorem Cx.Ok.jH {X : Cx} {E : Value -> Shared -> Prop} (ok : (X.wish E).Ok) : X.Ok :=
 ⟨ok.mod, ok.kind, ok.glob, ok.blt, ok.above, ok.inj, ok.has, ok.Mh, ok.hd, ok.frames, ok.Ov, ok.Q6, ok.bs, ok.Gr, ok.Dk, ok.Gs, ok.qa, ok.Jo⟩
section
variable {X : Cx} {pins : List (Addr × Obj)} {σ : St} {H : Hp} {s : Shared} {E : Value -> Shared -> Prop}
theorem Inv.wish (I : Inv X pins σ H s) (E : Value -> Shared -> Prop) : Inv (X.wish E) pins σ H s := ⟨I.ok.wish E, I.os, I.bare, I.base, I.loc, I.cell, I.free, I.kZ, I.pin, I.dB, I.len⟩
theorem Inv.jH (I : Inv (X.wish E) pins σ H s) : Inv X pins σ H s := ⟨I.ok.jH, I.os, I.bare, I.base, I.loc, I.cell, I.free, I.kZ, I.pin, I.dB, I.len⟩
theorem SP.jH {D : Ends} {f : Flow} {s' : Shared} (h : SP (X.wish E) pins D f s') : SP X pins D f s' := by
 cases f with
 | next => obtain ⟨σ', H', I, q⟩ := h; exact ⟨σ', H', I.jH, q⟩
 | brk => obtain ⟨σ', H', I, q⟩ := h; exact ⟨σ', H', I.jH, q⟩
 | cont => obtain ⟨σ', H', I, q⟩ := h; exact ⟨σ', H', I.jH, q⟩
 | ret u => obtain ⟨v, σ', H', I, r, q⟩ := h; exact ⟨v, σ', H', I.jH, r, q⟩
theorem Ad.LW {st : List Stmt} {t : TS} (h : Ad X.LW st t) : Ad X st t := fun pins s σ H D I hw =>
 VN (h pins s σ H D (I.wish _) hw) (fun _ _ q => q.jH) fun _ _ z => False.elim z
end
section
variable {X : Cx} {st : Stmt} {rest : List Stmt} {t u : TS} {e : Expr} {te : TE} {pos : Pos}
noncomputable def Mt : TS := fun D σ H => D.nx σ H
noncomputable def Px (t u : TS) : TS := fun D σ H => t { D with nx := u D } σ H
theorem Gw : Ad X [] Mt := fun _ _ σ H _ I h => wpAny_execs_nil ⟨σ, H, I, h⟩
theorem Dm (h1 : PS X st t) (h2 : Ad X rest u) : Ad X (st :: rest) (Px t u) := by
 intro pins s σ H D I h
 refine wpAny_execs_cons (dQ (h1 pins s σ H { D with nx := u D } I h) fun f s1 q => ?_)
 cases f with
 | next =>
   obtain ⟨σ', H', I', q⟩ := q
   exact h2 pins s1 σ' H' D I' q
 | ret v => exact q
 | brk => exact q
 | cont => exact q
theorem Inv.quiet {pins : List (Addr × Obj)} {σ : St} {H : Hp} {s : Shared} (I : Inv X pins σ H s) : interactive X.env = false := by simp [interactive, I.ok.kind]
noncomputable def Mu (te : TE) : TS := fun D σ H => te σ H fun _ H1 => D.nx σ H1
theorem Gy (he : PE X e te) (hs : swapsWith e none pos.line X.env = pure false := by rfl) : PS X (.Expr e pos) (Mu te) := by
 intro pins s σ H D I h
 exact wpAny_Expr_any (dQ (he pins s σ H _ I h) fun v s1 ⟨x, H1, I1, r1, q1⟩ => ⟨σ, H1, I1, q1⟩) I.quiet hs
noncomputable def Py (te : TE) : TS := fun D σ H => te σ H D.rt
theorem JA (he : PE X e te) : PS X (.Return (some e) pos) (Py te) := by
 intro pins s σ H D I h
 exact wpAny_Return_some (dQ (he pins s σ H _ I h) fun v s1 ⟨x, H1, I1, r1, q1⟩ => ⟨x, σ, H1, I1, r1, q1⟩)
noncomputable def Pz (c : TT) (t u : TS) : TS := fun D σ H => c σ H fun b H1 => if b = true then t D σ H1 else u D σ H1
theorem Mv {c : Expr} {a b : List Stmt} {tc : TT} (hc : PT X c tc) (ha : Ad X a t) (hb : Ad X b u) : PS X (.If c a b pos) (Pz tc t u) := by
 intro pins s σ H D I h
 refine wpAny_If (dQ (hc pins s σ H _ I h) fun d s1 zz => ?_)
 obtain ⟨H1, I1, q1⟩ := zz
 cases d with
 | true => exact ha pins s1 σ H1 D I1 q1
 | false => exact hb pins s1 σ H1 D I1 q1
end
noncomputable abbrev TG := V -> St -> Hp -> (St -> Hp -> Prop) -> Prop
noncomputable def PG (X : Cx) (target : Expr) (t : TG) : Prop :=
 ∀ (pins : List (Addr × Obj)) (s : Shared) (σ : St) (H : Hp) (v : V) (u : Value) (Q : St -> Hp -> Prop), Inv X pins σ H s -> RelV v u -> t v σ H Q →
   wpAny (model X.prog X.w) X.A (assign target X.env u) (fun _ s' => ∃ σ' H', Inv X pins σ' H' s' /\ Q σ' H') X.xe s
noncomputable abbrev JB := V -> V -> V -> Hp -> (Hp -> Prop) -> Prop
noncomputable def Mw (X : Cx) (t : JB) : Prop :=
 ∀ (pins : List (Addr × Obj)) (s : Shared) (σ : St) (H : Hp) (o i v : V) (ov iv u : Value) (Q : Hp -> Prop), Inv X pins σ H s -> RelV o ov -> RelV i iv -> RelV v u -> t o i v H Q →
   wpAny (model X.prog X.w) X.A (setItem ov iv u) (fun _ s' => ∃ H', Inv X pins σ H' s' /\ Q H') X.xe s
section
variable {X : Cx} {pos : Pos}
noncomputable def Af (i : Nat) : TG := fun v σ H Q => Q (σ.set i (some v)) H
theorem tR {i : Nat} {x : Str} (hN : X.N.Nodup) (hi : X.N[i]? = some x) (hx : Loc X.env.scope x) (hf : X.fn x = true \/ X.env.scope.names.lookup x = some .local := by first | exact .inl rfl | exact .inr rfl | assumption) : PG X (.Name x pos) (Af i) := by
 intro pins s σ H v u Q I r h
 exact wpAny_assign_Name (vN I hN hi hx r (fun s' I' => ⟨_, H, I', h⟩) hf)
noncomputable def PB (to ti : TE) (t : JB) : TG := fun v σ H Q => to σ H fun o H1 => ti σ H1 fun i H2 => t o i v H2 fun H3 => Q σ H3
theorem JC {o i : Expr} {to ti : TE} {t : JB} (ho : PE X o to) (hi : PE X i ti) (hs : Mw X t)
   (ha : ∀ v, assign (.Subscript o i pos) X.env v = (do
     let ov ← holding [v] (eval o X.env)
     let iv ← holding [v, ov] (eval i X.env)
     standAt pos
     holding [v, ov, iv] (setItem ov iv v)
     release [v, ov, iv] []) := by intro _; rfl) : PG X (.Subscript o i pos) (PB to ti t) := by
 intro pins s σ H v u Q I r h
 rw [ha]
 refine UQ (wpAny_holding (dQ (ho pins s σ H _ I h) fun ov s1 zz => ?_))
 obtain ⟨x, H1, I1, r1, q1⟩ := zz
 refine UQ (wpAny_holding (dQ (hi pins s1 σ H1 _ I1 q1) fun iv s2 zz => ?_))
 obtain ⟨y, H2, I2, r2, q2⟩ := zz
 refine UQ (wpAny_standAt (UQ (wpAny_holding (dQ (hs pins s2 σ H2 x y v ov iv u _ I2 r1 r2 r q2) fun _ s3 zz => ?_))))
 obtain ⟨H3, I3, q3⟩ := zz
 exact wpAny_release ⟨σ, H3, I3, q3⟩
noncomputable def Mx (te : TE) (g : TG) : TS := fun D σ H => te σ H fun x H1 => g x σ H1 D.nx
theorem JD {tg e : Expr} {te : TE} {g : TG} (he : PE X e te) (hg : PG X tg g) (hs : swapsWithSole [tg] e pos.line X.env = pure false := by rfl) (hw : swappedStores [tg] e X.env = pure none := by rfl)
   (h1 : (assignEach [tg] X.env).map (·.2) = [assign tg X.env] := by rfl) : PS X (.Assign [tg] e pos) (Mx te g) := by
 intro pins s σ H D I h
 refine wpAny_Assign_stores (dQ (he pins s σ H _ I h) fun v s1 zz => ?_) hs hw
 obtain ⟨x, H1, I1, r1, q1⟩ := zz
 rw [h1]
 exact dQ (hg pins s1 σ H1 x v _ I1 r1 q1) fun _ s2 q => q
theorem JF {i : Nat} {x : Str} {e : Expr} {te : TE} {pos' : Pos} (hN : X.N.Nodup) (hi : X.N[i]? = some x) (hx : Loc X.env.scope x) (he : PE X e te) (hs : swapsWith e (some (.Name x pos')) pos.line X.env = pure false := by rfl) (hf : X.fn x = true \/ X.env.scope.names.lookup x = some .local := by first | exact .inl rfl | exact .inr rfl | assumption) :
   PS X (.Assign [.Name x pos'] e pos) (Mx te (Af i)) := by
 intro pins s σ H D I h
 refine wpAny_Assign_Name (dQ (he pins s σ H _ I h) fun v s1 zz => ?_) hs
 obtain ⟨y, H1, I1, r1, q1⟩ := zz
 exact vN I1 hN hi hx r1 (fun s2 I2 => ⟨_, H1, I2, q1⟩) hf
end
section
variable {X : Cx} {pos : Pos}
noncomputable def JG (c : TT) (tb : TS) : TS := fun D σ H => ∃ W : Nat -> St -> Hp -> Prop, (∃ m, W m σ H) /\ ∀ m σ H, W m σ H →
 c σ H fun b H1 => if b = true then ∃ N : St -> Hp -> Prop, (∀ σ' H', N σ' H' -> ∃ m', m' < m /\ W m' σ' H') /\ tb { D with nx := N, ct := N, bk := D.nx } σ H1 else D.nx σ H1
theorem Dn {c : Expr} {body : List Stmt} {tc : TT} {tb : TS} (hp : PassesOwn (model X.prog X.w) X.A X.env X.xe) (hc : PT X c tc) (hb : Ad X body tb) : PS X (.While c body [] pos) (JG tc tb) := by
 intro pins s σ H D I h
 obtain ⟨W, ⟨m0, w0⟩, turn⟩ := h
 refine wpAny_While (codeAny_whileLoop (fun n s' => ∃ σ' H', Inv X pins σ' H' s' /\ W n σ' H') ?_ m0 ⟨σ, H, I, w0⟩)
 rintro n s1 ⟨σ1, H1, I1, w1⟩
 refine VG hp (dQ (hc pins s1 σ1 H1 _ I1 (turn n σ1 H1 w1)) fun b s2 zz => ?_)
 obtain ⟨H2, I2, q2⟩ := zz
 cases b with
 | true =>
   obtain ⟨N, hN, q2⟩ := q2
   rw [UR rfl]
   refine VG hp (dQ (hb pins s2 σ1 H2 _ I2 q2) fun f s3 q3 => ?_)
   cases f with
   | next =>
     obtain ⟨σ3, H3, I3, n3⟩ := q3
     obtain ⟨m', hm, w3⟩ := hN σ3 H3 n3
     exact ⟨m', hm, σ3, H3, I3, w3⟩
   | cont =>
     obtain ⟨σ3, H3, I3, n3⟩ := q3
     obtain ⟨m', hm, w3⟩ := hN σ3 H3 n3
     exact ⟨m', hm, σ3, H3, I3, w3⟩
   | brk => exact q3
   | ret v => exact q3
 | false =>
   rw [UE UL]
   exact wpAny_execs_nil ⟨σ1, H2, I2, q2⟩
end
structure It where
 go : Nat -> Hp -> Prop
 IE : Nat -> Hp -> V -> Hp -> Prop
 stop : Nat -> Hp -> Prop
noncomputable def qc (X : Cx) (pins : List (Addr × Obj)) (H : Hp) (b : Addr) : Prop :=
 H b = none /\ b ≠ X.env.locals /\ b ∉ X.fs /\ (b ∈ X.ex \/ X.s₀.heap.objs.size <= b) /\ (∀ x c, X.env.cells.lookup x = some c -> c ≠ b) /\ ∀ p ∈ X.pn ++ pins, p.1 ≠ b
theorem Inv.Dp {X : Cx} {pins : List (Addr × Obj)} {σ : St} {H H' : Hp} {s : Shared} {b : Addr} (I : Inv X pins σ H s) (hb : s.heap.objs.size <= b) (hn : H' b = none) : qc X pins H' b := by
 refine ⟨hn, Nat.ne_of_gt (U1 I.lt hb), I.Pg hb, .inr (U3 I.sz hb), fun x c e z => ?_, fun p hp z => ?_⟩
 . obtain ⟨v, q⟩ := I.cell x c e
   exact absurd (U1 q.lt (by rw [z]; exact hb)) (V2 _)
 . exact absurd (U1 (UZ (I.pin p hp).1) (by rw [z]; exact hb)) (V2 _)
structure Turn (P : Program) (w : World) (K : PySem.W.Frag) (tg : Expr) (J : It) (fp : List Addr) (it : Addr) (tn : Nat -> Heap -> Prop) : Prop where
 mem : it ∈ fp
 obj : ∀ i h, tn i h -> ∀ b ∈ fp, ∃ o, h.get? b = some o /\ ∀ v, o.data ≠ .cell v
 keep : ∀ i h h', tn i h -> (∀ b ∈ fp, ∀ o, h.get? b = some o -> h'.get? b = some o) -> tn i h'
 item : ∀ (X : Cx), X.prog = P -> X.w = w -> X.K = K -> X.calm = true -> ∀ (i : Nat) (pins : List (Addr × Obj)) (s : Shared) (σ : St) (H : Hp) (E : Value -> Shared -> Prop), Inv X pins σ H s -> (∀ b ∈ fp, qc X pins H b) -> tn i s.heap -> J.go i H →
   wpAny (model P w) X.A (pyNext (.ref it)) (fun r s1 => ∃ u, r = some u ∧
     wpAny (model P w) X.A (letOwnedTupleGo tg (.ref it) u) (fun _ s2 => ∃ x H', Inv X pins σ H' s2 /\ RelV x u /\ J.IE i H x H' /\ tn (i + 1) s2.heap /\ ∀ b ∈ fp, H' b = none) E s1) E s
 done : ∀ (X : Cx), X.prog = P -> X.w = w -> X.K = K -> X.calm = true -> ∀ (i : Nat) (pins : List (Addr × Obj)) (s : Shared) (σ : St) (H : Hp) (E : Value -> Shared -> Prop), Inv X pins σ H s -> (∀ b ∈ fp, qc X pins H b) -> tn i s.heap -> J.stop i H →
   wpAny (model P w) X.A (pyNext (.ref it)) (fun r s1 => r = none /\ Inv X pins σ H s1) E s
 self : ∀ (A : Around) (i : Nat) (s : Shared) (Q : Value -> Shared -> Prop) (E : Value -> Shared -> Prop), tn i s.heap -> Q (.ref it) s -> wpAny (model P w) A (pyIter (.ref it)) Q E s
noncomputable abbrev TI := St -> Hp -> (It -> Hp -> Prop) -> Prop
noncomputable def Ra (X : Cx) (pins : List (Addr × Obj)) (σ : St) (tg : Expr) (R : It -> Hp -> Prop) (OB : Value) (s2 : Shared) : Prop :=
 ∃ (it : Addr) (fp : List Addr) (tn : Nat -> Heap -> Prop) (J : It) (H' : Hp), OB = .ref it /\ Inv X pins σ H' s2 /\ Turn X.prog X.w X.K tg J fp it tn /\ tn 0 s2.heap /\ (∀ b ∈ fp, qc X pins H' b) /\ R J H'
noncomputable def PI (X : Cx) (tg iter : Expr) (wi : TI) : Prop :=
 ∀ (pins : List (Addr × Obj)) (s : Shared) (σ : St) (H : Hp) (R : It -> Hp -> Prop), Inv X pins σ H s -> wi σ H R →
   wpAny (model X.prog X.w) X.A (eval iter X.env) (fun v s1 => wpAny (model X.prog X.w) X.A (pyIter v) (Ra X pins σ tg R) X.xe s1) X.xe s
theorem Ag {M : Model} {A : Around} {E : Value -> Shared -> Prop} {s : Shared} {tg : Expr} {it : Addr} {u : Value} {o : Obj} {n : String} {vs : Array Value} {Q : Unit -> Shared -> Prop} (ho : s.heap.get? it = some o) (hc : o.cls = .type n) (hd : o.data = .fields vs)
   (hn : ["enumerate", "zip", "dict_itemiterator", "dict_reverseitemiterator", "odict_iterator", "itertools.zip_longest", "itertools.pairwise"].contains n = false) (hQ : Q () s) : wpAny M A (letOwnedTupleGo tg (.ref it) u) Q E s := by
 unfold letOwnedTupleGo
 cases tg <;> first
   | exact U6 hQ
   | (cases u <;> first
       | exact U6 hQ
       | (refine UQ (wpAny_load ho ?_)
          rw [hc, hd]
          show wpAny M A (if (["enumerate", "zip", "dict_itemiterator", "dict_reverseitemiterator", "odict_iterator", "itertools.zip_longest", "itertools.pairwise"].contains n && vs[0]? == some (rawInt _)) = true then _ else _) Q E s
          rw [UE (by intro h; rw [hn, Bool.false_and] at h; cases h)]
          exact U6 hQ))
noncomputable def Rb (K : PySem.W.Frag) (a : Addr) : It :=
 ⟨fun i H => ∃ xs x, nP K H a xs /\ xs[i]? = some x, fun i H x H' => H' = H /\ ∀ xs, nP K H a xs -> xs[i]? = some x, fun i H => ∃ xs, nP K H a xs /\ xs.length <= i⟩
noncomputable def Rc (K : PySem.W.Frag) (a : Addr) : It :=
 ⟨fun i H => ∃ xs x, qb K H a xs /\ xs[i]? = some x, fun i H x H' => H' = H /\ ∀ xs, qb K H a xs -> xs[i]? = some x, fun i H => ∃ xs, qb K H a xs /\ xs.length <= i⟩
noncomputable def PC (lo : Int) (n : Nat) : It := ⟨fun i _ => i < n, fun i H x H' => H' = H /\ x = .int (lo + i), fun i _ => n <= i⟩
theorem Bj {P : Program} {w : World} {K : PySem.W.Frag} {tg : Expr} (a it : Addr) : Turn P w K tg (Rb K a) [it] it (fun i h => h.IsListIter it a i) where
 mem := by simp
 obj := fun i h st b hb => by
   have e : b = it := by simpa using hb
   subst e
   obtain ⟨o, e, c, d⟩ := st
   exact ⟨o, e, fun v z => by rw [d] at z; cases z⟩
 keep := fun i h h' st k => st.at fun o e => k it (by simp) o e
 item := by
   intro X hP hw hK hc i pins s σ H E I hf st hg
   subst hP hw hK
   obtain ⟨xs, x, hq, hx⟩ := hg
   obtain ⟨its, rv, p, hz⟩ := I.list hq
   obtain ⟨u, hu, ru⟩ := rv.get hx
   obtain ⟨f0, f1, f2, f3, f4, f5⟩ := hf it (by simp)
   refine wpAny_pyNext_list_item st p.isList (x := u) (by simpa using hu) fun h' Dq sb => ?_
   have I1 : Inv X pins σ H { s with heap := h' } := I.turned (t' := s.toks) (fun b o hb e => (sb.2 b hb).trans e) f0 f1 f3 f4 f5
   obtain ⟨o, e, c, d⟩ := id Dq
   exact ⟨u, rfl, Ag (s := { s with heap := h' }) e c d (by decide) ⟨x, H, I1, ru, ⟨rfl, fun ys hy => by rw [I.Dl hy hq]; exact hx⟩, Dq, fun b hb => (hf b hb).1⟩⟩
 done := by
   intro X hP hw hK hc i pins s σ H E I hf st hg
   subst hP hw hK
   obtain ⟨xs, hq, hx⟩ := hg
   obtain ⟨its, rv, p, hz⟩ := I.list hq
   obtain ⟨f0, f1, f2, f3, f4, f5⟩ := hf it (by simp)
   have hl := rv.length
   exact wpAny_pyNext_list_end (I.ok.hd hc) st p.isList (by simp; omega) fun h' eb => ⟨rfl, I.turned (t' := s.toks) (fun b o hb e => eb b o hb e) f0 f1 f3 f4 f5⟩
 self := fun _ _ _ _ _ st h => wpAny_pyIter_listiter st h
theorem xZ {P : Program} {w : World} {K : PySem.W.Frag} {tg : Expr} (a it : Addr) : Turn P w K tg (Rc K a) [it] it (fun i h => h.IsTupleIter it a i) where
 mem := by simp
 obj := fun i h st b hb => by
   have e : b = it := by simpa using hb
   subst e
   obtain ⟨o, e, c, d⟩ := st
   exact ⟨o, e, fun v z => by rw [d] at z; cases z⟩
 keep := fun i h h' st k => st.at fun o e => k it (by simp) o e
 item := by
   intro X hP hw hK hc i pins s σ H E I hf st hg
   subst hP hw hK
   obtain ⟨xs, x, hq, hx⟩ := hg
   obtain ⟨its, rv, p, hz⟩ := I.tuple hq
   obtain ⟨u, hu, ru⟩ := rv.get hx
   obtain ⟨f0, f1, f2, f3, f4, f5⟩ := hf it (by simp)
   refine wpAny_pyNext_tuple_item st (show s.heap.IsTuple a its.toArray from p) (x := u) (by simpa using hu) fun h' Dq sb => ?_
   have I1 : Inv X pins σ H { s with heap := h' } := I.turned (t' := s.toks) (fun b o hb e => (sb.2 b hb).trans e) f0 f1 f3 f4 f5
   obtain ⟨o, e, c, d⟩ := id Dq
   exact ⟨u, rfl, Ag (s := { s with heap := h' }) e c d (by decide) ⟨x, H, I1, ru, ⟨rfl, fun ys hy => by rw [I.Bh hy hq]; exact hx⟩, Dq, fun b hb => (hf b hb).1⟩⟩
 done := by
   intro X hP hw hK hc i pins s σ H E I hf st hg
   subst hP hw hK
   obtain ⟨xs, hq, hx⟩ := hg
   obtain ⟨its, rv, p, hz⟩ := I.tuple hq
   obtain ⟨f0, f1, f2, f3, f4, f5⟩ := hf it (by simp)
   have hl := rv.length
   exact wpAny_pyNext_tuple_end (I.ok.hd hc) st (show s.heap.IsTuple a its.toArray from p) (by simp; omega) fun h' eb => ⟨rfl, I.turned (t' := s.toks) (fun b o hb e => eb b o hb e) f0 f1 f3 f4 f5⟩
 self := fun _ _ _ _ _ st h => wpAny_pyIter_tupleiter st h
theorem x6 {P : Program} {w : World} {K : PySem.W.Frag} {tg : Expr} (it : Addr) (lo : Int) (n : Nat) : Turn P w K tg (PC lo n) [it] it (fun i h => IsRangeIter h it (lo + (i : Nat) * 1) ((n : Int) - (i : Nat)) 1) where
 mem := by simp
 obj := fun i h st b hb => by
   have e : b = it := by simpa using hb
   subst e
   exact ⟨_, st, fun v z => by
     have z' : Data.fields _ = Data.cell v := z
     cases z'⟩
 keep := fun i h h' st k => k it (by simp) _ st
 item := by
   intro X hP hw hK hc i pins s σ H E I hf st hg
   subst hP hw hK
   obtain ⟨f0, f1, f2, f3, f4, f5⟩ := hf it (by simp)
   have W := Walks.range (prog := X.prog) (w := X.w) (I.ok.hd hc) it lo 1 n
   refine W.item i s _ _ hg st fun v h' tk hv Dq kk => ?_
   obtain ⟨t, rfl⟩ := hv
   have I1 : Inv X pins σ H { s with heap := h', toks := tk } := I.turned (fun b o hb e => kk b o (by simpa using hb) e) f0 f1 f3 f4 f5
   refine ⟨_, rfl, Ag (s := { s with heap := h', toks := tk }) (n := "range_iterator") Dq rfl rfl (by decide) ⟨.int (lo + i), H, I1, ⟨t, ?_⟩, ⟨rfl, rfl⟩, Dq, fun b hb => (hf b hb).1⟩⟩
   rw [Int.mul_one]
 done := by
   intro X hP hw hK hc i pins s σ H E I hf st hg
   subst hP hw hK
   obtain ⟨f0, f1, f2, f3, f4, f5⟩ := hf it (by simp)
   exact wpAny_pyNext_range_end (I.ok.hd hc) st (by have : n <= i := hg; omega) fun h' eb => ⟨rfl, I.turned (t' := s.toks) (fun b o hb e => eb b o hb e) f0 f1 f3 f4 f5⟩
 self := fun _ _ _ _ _ st h => wpAny_pyIter_rangeiter st h
section
variable {X : Cx} {tg : Expr}
noncomputable def My (K : PySem.W.Frag) (tl : TE) : TI := fun σ H R => tl σ H fun x H1 => ∃ a, x = .ref a /\ (∃ xs, nP K H1 a xs) /\ R (Rb K a) H1
noncomputable def PD (K : PySem.W.Frag) (tl : TE) : TI := fun σ H R => tl σ H fun x H1 => ∃ a, x = .ref a /\ (∃ xs, qb K H1 a xs) /\ R (Rc K a) H1
theorem Gz {l : Expr} {tl : TE} (hl : PE X l tl) : PI X tg l (My X.K tl) := by
 intro pins s σ H R I h
 refine dQ (hl pins s σ H _ I h) fun v s1 zz => ?_
 obtain ⟨x, H1, I1, r1, q1⟩ := zz
 obtain ⟨a, e, ⟨xs, hq⟩, q⟩ := q1
 subst e
 cases r1
 obtain ⟨its, rv, p, hz⟩ := I1.list hq
 refine wpAny_pyIter_list p.isList ?_
 refine ⟨s1.heap.objs.size, [s1.heap.objs.size], _, _, H1, rfl, I1.kept (t' := s1.toks) fun b o e => UU _ e, Bj a _, ⟨_, Vm _ rfl, rfl, rfl⟩, fun b hb => ?_, q⟩
 have e : b = s1.heap.objs.size := by simpa using hb
 subst e
 exact I1.Dp (UJ _) (I1.dB.fresh (UJ _))
theorem JH {l : Expr} {tl : TE} (hl : PE X l tl) : PI X tg l (PD X.K tl) := by
 intro pins s σ H R I h
 refine dQ (hl pins s σ H _ I h) fun v s1 zz => ?_
 obtain ⟨x, H1, I1, r1, q1⟩ := zz
 obtain ⟨a, e, ⟨xs, hq⟩, q⟩ := q1
 subst e
 cases r1
 obtain ⟨its, rv, p, hz⟩ := I1.tuple hq
 refine wpAny_pyIter_tuple (show s1.heap.IsTuple a its.toArray from p) ?_
 refine ⟨s1.heap.objs.size, [s1.heap.objs.size], _, _, H1, rfl, I1.kept (t' := s1.toks) fun b o e => UU _ e, xZ a _, ⟨_, Vm _ rfl, rfl, rfl⟩, fun b hb => ?_, q⟩
 have e : b = s1.heap.objs.size := by simpa using hb
 subst e
 exact I1.Dp (UJ _) (I1.dB.fresh (UJ _))
theorem Dr {pins : List (Addr × Obj)} {σ : St} {H : Hp} {s : Shared} {R : It -> Hp -> Prop} {E : Value -> Shared -> Prop} {lo hi : Int} {t u v : Tok} {tk : Nat} (I : Inv X pins σ H s) (h1 : -(2 ^ 62) <= lo) (h2 : lo < 2 ^ 62) (h3 : -(2 ^ 62) <= hi) (h4 : hi < 2 ^ 62)
   (q : R (PC lo (hi - lo).toNat) H) : wpAny (model X.prog X.w) X.A (pyIter (.ref s.heap.objs.size)) (Ra X pins σ tg R) E { s with heap := s.heap.push { cls := .type "range", data := .fields #[.int lo t, .int hi u, .int 1 v] }, toks := tk } := by
 refine wpAny_pyIter_range (IsRange.new ..) (small_one h1 h2 h3 h4) ?_
 have I1 : Inv X pins σ H { s with heap := s.heap.push { cls := .type "range", data := .fields #[.int lo t, .int hi u, .int 1 v] }, toks := tk } := I.kept fun b o e => UU _ e
 refine ⟨(s.heap.push { cls := .type "range", data := .fields #[.int lo t, .int hi u, .int 1 v] }).objs.size, [(s.heap.push { cls := .type "range", data := .fields #[.int lo t, .int hi u, .int 1 v] }).objs.size], _, _, H, rfl,
   I1.kept (t' := tk) fun b o e => UU _ e, x6 _ lo (hi - lo).toNat, ?_, fun b hb => ?_, q⟩
 . have e1 : lo + ((0 : Nat) : Int) * 1 = lo := by simp
   have e2 : (((hi - lo).toNat : Nat) : Int) - ((0 : Nat) : Int) = Builtin.Range.rangeSize lo hi 1 := by rw [rangeSize_one]; split <;> omega
   show IsRangeIter _ _ (lo + ((0 : Nat) : Int) * 1) ((((hi - lo).toNat : Nat) : Int) - ((0 : Nat) : Int)) 1
   rw [e1, e2]
   exact Vm _ rfl
 . have e : b = (s.heap.push { cls := .type "range", data := .fields #[.int lo t, .int hi u, .int 1 v] }).objs.size := by simpa using hb
   subst e
   exact I1.Dp (UJ _) (I1.dB.fresh (UJ _))
noncomputable def Mz (ta : TA) : TI := fun σ H R => ta σ H fun vs H1 => ∃ j : Int, vs = [.int j] /\ -(2 ^ 62) <= j /\ j < 2 ^ 62 /\ R (PC 0 j.toNat) H1
theorem Bk {a : Expr} {ta : TA} {p pos : Pos} (hg : Gl X "range") (hm : X.mg "range" = none) (ha : PA X [a] ta) (hs : starEach [a] X.env = [(false, eval a X.env)] := by rfl) : PI X tg (.Call (.Name "range" p) [a] [] pos) (Mz ta) := by
 intro pins s σ H R I h
 refine Call_ (qK I hg hm boot_range (V1 (dQ (ha pos pins s σ H _ I h) fun us s1 zz => ?_) hs rfl))
 obtain ⟨vs, H1, I1, r1, q1⟩ := zz
 obtain ⟨j, e, q1, q2, q⟩ := q1
 subst e
 cases r1 with
 | cons r rr =>
   cases rr
   obtain ⟨t, rfl⟩ := r
   exact call_range_1 (Dr I1 (by omega) (by omega) q1 q2 (by simpa using q))
noncomputable def PF (wi : TI) (g : TG) (tb : TS) : TS := fun D σ H => wi σ H fun J H1 => ∃ W : Nat -> Nat -> St -> Hp -> Prop, (∃ m, W 0 m σ H1) /\ ∀ i m σ H, W i m σ H →
 (J.stop i H /\ D.nx σ H) \/ (J.go i H /\ ∃ N : St -> Hp -> Prop, (∀ σ' H', N σ' H' -> ∃ m', m' < m /\ W (i + 1) m' σ' H') /\ ∀ x H', J.IE i H x H' -> g x σ H' fun σ2 H2 => tb { D with nx := N, ct := N, bk := D.nx } σ2 H2)
noncomputable def qL (fp : List Addr) (h : Heap) : List (Addr × Obj) := fp.filterMap fun b => (h.get? b).map fun o => (b, o)
theorem iU {fp : List Addr} {h : Heap} {b : Addr} {o : Obj} (hb : b ∈ fp) (e : h.get? b = some o) : (b, o) ∈ qL fp h := List.mem_filterMap.mpr ⟨b, hb, by rw [e]; rfl⟩
theorem Bl {fp : List Addr} {h : Heap} {p : Addr × Obj} (hp : p ∈ qL fp h) : p.1 ∈ fp /\ h.get? p.1 = some p.2 := by
 obtain ⟨b, hb, e⟩ := List.mem_filterMap.mp hp
 cases q : h.get? b with
 | none => rw [q] at e; cases e
 | some o =>
   rw [q] at e
   have e' : (b, o) = p := U4 e
   subst e'
   exact ⟨hb, q⟩
theorem Inv.pinned {pins : List (Addr × Obj)} {σ : St} {H : Hp} {s : Shared} {fp : List Addr} (I : Inv X pins σ H s) (hf : ∀ b ∈ fp, qc X pins H b) (ho : ∀ b ∈ fp, ∃ o, s.heap.get? b = some o /\ ∀ v, o.data ≠ .cell v) : Inv X (pins ++ qL fp s.heap) σ H s :=
 I.qm fun p hp => (UY.mp hp).elim (fun z => I.pin p (UB _ z)) fun z => by
   obtain ⟨hb, e⟩ := Bl z
   obtain ⟨f0, f1, f2, _⟩ := hf p.1 hb
   obtain ⟨o, e', d⟩ := ho p.1 hb
   rw [e] at e'; cases e'
   exact ⟨e, f0, f1, f2, d⟩
theorem Inv.mD {pins pl : List (Addr × Obj)} {σ : St} {H : Hp} {s : Shared} (I : Inv X (pins ++ pl) σ H s) : Inv X pins σ H s := I.qm fun p hp => I.pin p (UB _ (UO _ hp))
theorem JK {iter : Expr} {body : List Stmt} {wi : TI} {g : TG} {tb : TS} {pos : Pos} (hp : PassesOwn (model X.prog X.w) X.A X.env X.xe) (hc : X.calm = true) (hi : PI X tg iter wi) (hg : PG X tg g) (hb : Ad X body tb)
   (hs : ∀ x, foldedSetIterable iter X.env x = pure x := by intro _; rfl) : PS X (.For tg iter body [] pos) (PF wi g tb) := by
 intro pins s σ H D I h
 refine wpAny_For (dQ (hi pins s σ H _ I h) fun v s1 h1 => dQ h1 fun OB s2 h2 => ?_) hs
 obtain ⟨it, fp, tn, J, H2, e, I2, T, R5, f2, W, ⟨m0, w0⟩, turn⟩ := h2
 subst e
 have stat : ∀ {H' : Hp}, (∀ b ∈ fp, H' b = none) -> ∀ b ∈ fp, qc X pins H' b := fun hn b hb => ⟨hn b hb, (f2 b hb).2⟩
 refine codeAny_forLoop_any (fun n s' => ∃ i σ' H', Inv X pins σ' H' s' /\ tn i s'.heap /\ (∀ b ∈ fp, H' b = none) /\ W i n σ' H') ?_ m0 ⟨0, σ, H2, I2, R5, fun b hb => (f2 b hb).1, w0⟩
 rintro n s3 ⟨i, σ3, H3, I3, MA, OD, w3⟩
 rcases turn i n σ3 H3 w3 with ⟨stop, qn⟩ | ⟨go, N, hN, step⟩
 . refine VG hp (dQ (T.done X rfl rfl rfl hc i pins s3 σ3 H3 X.xe I3 (stat OD) MA stop) fun r s4 zz => ?_)
   obtain ⟨hr, I4⟩ := zz
   subst hr
   exact wpAny_execs_nil ⟨σ3, H3, I4, qn⟩
 . refine VG hp (dQ (T.item X rfl rfl rfl hc i pins s3 σ3 H3 X.xe I3 (stat OD) MA go) fun r s4 zz => ?_)
   obtain ⟨u, hr, h4⟩ := zz
   subst hr
   refine VG hp (dQ h4 fun _ s5 zz => ?_)
   obtain ⟨x, H5, I5, r5, y5, LX, OG⟩ := zz
   have R6 := I5.pinned (stat OG) (T.obj _ _ LX)
   refine VG hp (dQ (hg _ s5 σ3 H5 x u _ R6 r5 (step x H5 y5)) fun _ s6 zz => ?_)
   obtain ⟨σ6, H6, I6, q6⟩ := zz
   refine VG hp (dQ (hb _ s6 σ6 H6 _ I6 q6) fun f s7 q7 => ?_)
   have again : ∀ {σ7 : St} {H7 : Hp}, Inv X (pins ++ qL fp s5.heap) σ7 H7 s7 -> N σ7 H7 -> ∃ m, m < n /\ ∃ i σ' H', Inv X pins σ' H' s7 /\ tn i s7.heap /\ (∀ b ∈ fp, H' b = none) /\ W i m σ' H' := fun {σ7 H7} I7 n7 => by
     obtain ⟨m', hm, w7⟩ := hN σ7 H7 n7
     refine ⟨m', hm, i + 1, σ7, H7, I7.mD, T.keep _ _ _ LX fun b hb o e => (I7.pin (b, o) (UB _ (UB _ (iU hb e)))).1, fun b hb => ?_, w7⟩
     obtain ⟨o, e, d⟩ := T.obj _ _ LX b hb
     exact (I7.pin (b, o) (UB _ (UB _ (iU hb e)))).2.1
   cases f with
   | next => obtain ⟨σ7, H7, I7, n7⟩ := q7; exact again I7 n7
   | cont => obtain ⟨σ7, H7, I7, n7⟩ := q7; exact again I7 n7
   | brk => obtain ⟨σ7, H7, I7, q7⟩ := q7; exact ⟨σ7, H7, I7.mD, q7⟩
   | ret v => obtain ⟨x7, σ7, H7, I7, r7, q7⟩ := q7; exact ⟨x7, σ7, H7, I7.mD, r7, q7⟩
end
noncomputable abbrev R2 := V -> V -> Hp -> VK -> Prop
noncomputable def pC (X : Cx) (f : Value -> Value -> Sem Value) (r : R2) : Prop :=
 ∀ (pins : List (Addr × Obj)) (s : Shared) (σ : St) (H : Hp) (x y : V) (v u : Value) (Q : VK), Inv X pins σ H s -> RelV x v -> RelV y u -> r x y H Q →
   wpAny (model X.prog X.w) X.A (f v u) (EP X pins σ Q) X.xe s
noncomputable def PJ (X : Cx) (f : Value -> Sem Value) (r : V -> Hp -> VK -> Prop) : Prop :=
 ∀ (pins : List (Addr × Obj)) (s : Shared) (σ : St) (H : Hp) (x : V) (v : Value) (Q : VK), Inv X pins σ H s -> RelV x v -> r x H Q →
   wpAny (model X.prog X.w) X.A (f v) (EP X pins σ Q) X.xe s
noncomputable def pD (X : Cx) (f : Value) (r : List V -> Hp -> VK -> Prop) : Prop :=
 ∀ (pins : List (Addr × Obj)) (s : Shared) (σ : St) (H : Hp) (xs : List V) (us : List Value) (Q : VK), Inv X pins σ H s -> Vals xs us -> r xs H Q →
   wpAny (model X.prog X.w) X.A (call f us) (EP X pins σ Q) X.xe s
noncomputable def OI (r : R2) (ta tb : TE) : TE := fun σ H Q => ta σ H fun x H1 => tb σ H1 fun y H2 => r x y H2 Q
noncomputable def R7 (r : V -> Hp -> VK -> Prop) (ta : TE) : TE := fun σ H Q => ta σ H fun x H1 => r x H1 Q
noncomputable def rI (C : Int -> Int -> Prop) (g : Int -> Int -> V) : R2 := fun x y H Q => ∃ i j, x = .int i /\ y = .int j /\ C i j /\ Q (g i j) H
noncomputable def LY (g : Int -> Int -> V) : R2 := fun x y H Q => ∃ i j, x = .int i /\ y = .int j /\ Q (g i j) H
noncomputable def rU (g : Int -> V) : V -> Hp -> VK -> Prop := fun x H Q => ∃ i, x = .int i /\ Q (g i) H
section
variable {X : Cx} {a b c : Expr} {ta tb tc : TE} {pos : Pos}
theorem JL (ha : PE X a ta) (hb : PE X b tb) {pins : List (Addr × Obj)} {s : Shared} {σ : St} {H : Hp} {R : V -> V -> Hp -> Prop} (I : Inv X pins σ H s)
   (h : ta σ H fun x H1 => tb σ H1 fun y H2 => R x y H2) {Q : Value -> Shared -> Prop} {f : Value -> Value -> Sem Value}
   (hf : ∀ v u s2 x y H2, Inv X pins σ H2 s2 -> RelV x v -> RelV y u -> R x y H2 -> wpAny (model X.prog X.w) X.A (f v u) Q X.xe s2) :
   wpAny (model X.prog X.w) X.A (eval a X.env) (fun v s₁ => wpAny (model X.prog X.w) X.A (eval b X.env) (fun u s₂ => wpAny (model X.prog X.w) X.A (f v u) Q X.xe s₂) X.xe s₁) X.xe s := by
 refine dQ (ha pins s σ H _ I h) fun v s1 zz => ?_
 obtain ⟨x, H1, I1, r1, q1⟩ := zz
 refine dQ (hb pins s1 σ H1 _ I1 q1) fun u s2 zz => ?_
 obtain ⟨y, H2, I2, r2, q2⟩ := zz
 exact hf v u s2 x y H2 I2 r1 r2 q2
theorem Ah {op : Operator} {r : R2} (ho : pC X (binaryOp op) r) (ha : PE X a ta) (hb : PE X b tb) : PE X (.BinOp a op b pos) (OI r ta tb) := by
 intro pins s σ H Q I h
 exact wpAny_BinOp (JL ha hb I h fun v u s2 x y H2 I2 rx ry q => ho pins s2 σ H2 x y v u Q I2 rx ry q)
theorem MB {op : UnaryOp} {r : V -> Hp -> VK -> Prop} (ho : PJ X (unaryOp op) r) (ha : PE X a ta) : PE X (.UnaryOp op a pos) (R7 r ta) := by
 intro pins s σ H Q I h
 exact UnaryOp_ (dQ (ha pins s σ H _ I h) fun v s1 ⟨x, H1, I1, r1, q1⟩ => ho pins s1 σ H1 x v Q I1 r1 q1)
theorem OJ {f : Value -> Value -> Sem Value} {C : Int -> Int -> Prop} {g : Int -> Int -> Int}
   (rule : ∀ (i j : Int) (t u : Tok) (s : Shared) (Q : Value -> Shared -> Prop) (E : Value -> Shared -> Prop), C i j -> Q (.int (g i j) s.toks) { s with toks := s.toks + 1 } -> wpAny (model X.prog X.w) X.A (f (.int i t) (.int j u)) Q E s) :
   pC X f (rI C fun i j => .int (g i j)) := by
 intro pins s σ H x y v u Q I rx ry h
 obtain ⟨i, j, rfl, rfl, hc, q⟩ := h
 obtain ⟨t, rfl⟩ := rx
 obtain ⟨t', rfl⟩ := ry
 exact rule i j t t' s _ _ hc ⟨.int (g i j), H, I.tok _, ⟨_, rfl⟩, q⟩
theorem MC {f : Value -> Value -> Sem Value} {g : Int -> Int -> Int}
   (rule : ∀ (i j : Int) (t u : Tok) (s : Shared) (Q : Value -> Shared -> Prop) (E : Value -> Shared -> Prop), Q (.int (g i j) s.toks) { s with toks := s.toks + 1 } -> wpAny (model X.prog X.w) X.A (f (.int i t) (.int j u)) Q E s) :
   pC X f (LY fun i j => .int (g i j)) := by
 intro pins s σ H x y v u Q I rx ry h
 obtain ⟨i, j, rfl, rfl, q⟩ := h
 obtain ⟨t, rfl⟩ := rx
 obtain ⟨t', rfl⟩ := ry
 exact rule i j t t' s _ _ ⟨.int (g i j), H, I.tok _, ⟨_, rfl⟩, q⟩
theorem MD {f : Value -> Value -> Sem Value} {g : Int -> Int -> Bool}
   (rule : ∀ (i j : Int) (t u : Tok) (s : Shared) (Q : Value -> Shared -> Prop) (E : Value -> Shared -> Prop), Q (.bool (g i j)) s -> wpAny (model X.prog X.w) X.A (f (.int i t) (.int j u)) Q E s) :
   pC X f (LY fun i j => .bl (g i j)) := by
 intro pins s σ H x y v u Q I rx ry h
 obtain ⟨i, j, rfl, rfl, q⟩ := h
 obtain ⟨t, rfl⟩ := rx
 obtain ⟨t', rfl⟩ := ry
 exact rule i j t t' s _ _ ⟨.bl (g i j), H, I, rfl, q⟩
noncomputable def MF (i j : Int) : Prop := 0 < j /\ j < 1073741824
noncomputable def MG (i j : Int) : Prop := 0 <= j /\ j <= 1000000 /\ i.natAbs < 2 ^ 64
noncomputable def GA (i j : Int) : Prop := (-(2 ^ 64) < i /\ i < 2 ^ 64) \/ (-(2 ^ 64) < j /\ j < 2 ^ 64)
theorem GA.ok {i j : Int} (h : GA i j) : IntMulOk i j := by
 rcases h with ⟨h1, h2⟩ | ⟨h1, h2⟩
 . exact .of_left (intBits_le_64 h1 h2)
 . exact .of_right (intBits_le_64 h1 h2)
theorem JM : pC X (binaryOp .Add) (LY fun i j => .int (i + j)) := MC fun _ _ _ _ _ _ _ q => add_int q
theorem JN : pC X (binaryOp .Sub) (LY fun i j => .int (i - j)) := MC fun _ _ _ _ _ _ _ q => sub_int q
theorem JQ : pC X (binaryOp .Mult) (rI GA fun i j => .int (i * j)) := OJ fun _ _ _ _ _ _ _ hc q => mul_int q hc.ok
theorem GB : pC X (binaryOp .FloorDiv) (rI MF fun i j => .int (i / j)) := OJ fun i j _ _ _ _ _ hc q => by
 have h1 : (0 : Int) < j := hc.1
 have h2 : j < 1073741824 := hc.2
 exact floordiv_int (by omega) (by rw [Int.fdiv_eq_ediv_of_nonneg i (by omega)]; exact q) (.inl (PyProof.noPylong_small (by omega)))
theorem JR : pC X (binaryOp .Mod) (rI (fun _ j => 0 < j) fun i j => .int (i % j)) := OJ fun i j _ _ _ _ _ hc q => by
 have h1 : (0 : Int) < j := hc
 exact mod_int' (by omega) (by rw [Int.fmod_eq_emod_of_nonneg i (by omega)]; exact q)
theorem JS : pC X (binaryOp .Pow) (rI MG fun i j => .int (i ^ j.toNat)) := OJ fun _ _ _ _ _ _ _ hc q => pow_int_small hc.1 hc.2.1 hc.2.2 q
theorem R8 {f : Value -> Sem Value} {g : Int -> Int}
   (rule : ∀ (i : Int) (t : Tok) (s : Shared) (Q : Value -> Shared -> Prop) (E : Value -> Shared -> Prop), Q (.int (g i) s.toks) { s with toks := s.toks + 1 } -> wpAny (model X.prog X.w) X.A (f (.int i t)) Q E s) :
   PJ X f (rU fun i => .int (g i)) := by
 intro pins s σ H x v Q I rx h
 obtain ⟨i, rfl, q⟩ := h
 obtain ⟨t, rfl⟩ := rx
 exact rule i t s _ _ ⟨.int (g i), H, I.tok _, ⟨_, rfl⟩, q⟩
theorem JT : PJ X (unaryOp .USub) (rU fun i => .int (-i)) := R8 fun _ _ _ _ _ q => neg_int q
end
noncomputable def MH : V -> V -> Bool
 | .non, .non => true | .non, .int _ => true | .int _, .non => true | .non, .bl _ => true | .bl _, .non => true | .non, .str _ => true | .str _, .non => true
 | .int _, .int _ => true | .bl _, .bl _ => true | .str _, .str _ => true | .C8 _, .C8 _ => true
 | .int _, .str _ => true | .str _, .int _ => true | .bl _, .str _ => true | .str _, .bl _ => true
 | _, _ => false
noncomputable def R9 : R2 := fun x y H Q => MH x y = true /\ Q (.bl (decide (x = y))) H
noncomputable def Sb : R2 := fun x y H Q => MH x y = true /\ Q (.bl (!decide (x = y))) H
theorem Ai {i j : Int} : decide (V.int i = V.int j) = (i == j) := by
 rw [Bool.eq_iff_iff]
 simp
theorem Ds {i j : Bool} : decide (V.bl i = V.bl j) = (i == j) := by
 rw [Bool.eq_iff_iff]
 simp
theorem Aj {i j : Str} : decide (V.str i = V.str j) = (i == j) := by
 rw [Bool.eq_iff_iff]
 simp
theorem Ak {i j : Array UInt8} : decide (V.C8 i = V.C8 j) = (i.toList == j.toList) := by
 rw [Bool.eq_iff_iff]
 cases i
 cases j
 simp
section
variable {X : Cx} {a b c : Expr} {ta tb tc : TE} {pos : Pos}
theorem bF {pins : List (Addr × Obj)} {σ : St} {H : Hp} {s : Shared} {Q : VK} {k k' : Bool} (I : Inv X pins σ H s) (q : Q (.bl k) H) (e : k = k') : EP X pins σ Q (.bool k') s := by
 subst e
 exact ⟨.bl k, H, I, rfl, q⟩
theorem IG : pC X (compareOp .Eq) R9 := by
 intro pins s σ H x y v u Q I rx ry h
 obtain ⟨hs, q⟩ := h
 cases x with
 | non =>
   cases rx
   cases y with
   | non => cases ry; exact PySem.EqNone.eq_none_none (bF I q (by simp))
   | bl j => cases ry; exact PySem.EqNone.eq_none_bool (bF I q (by simp))
   | int j => obtain ⟨t', rfl⟩ := ry; exact PySem.EqNone.eq_none_int (bF I q (by simp))
   | str j => obtain ⟨t', rfl⟩ := ry; exact PySem.EqNone.eq_none_str (bF I q (by simp))
   | _ => exact absurd (show false = true from hs) UL
 | bl i =>
   cases rx
   cases y with
   | non => cases ry; exact PySem.EqNone.eq_bool_none (bF I q (by simp))
   | bl j => cases ry; exact eq_bool (bF I q Ds)
   | str j => obtain ⟨t', rfl⟩ := ry; exact PySem.EqMixed.eq_bool_str (bF I q (by simp))
   | _ => exact absurd (show false = true from hs) UL
 | int i =>
   obtain ⟨t, rfl⟩ := rx
   cases y with
   | non => cases ry; exact PySem.EqNone.eq_int_none (bF I q (by simp))
   | int j => obtain ⟨t', rfl⟩ := ry; exact eq_int (bF I q Ai)
   | str j => obtain ⟨t', rfl⟩ := ry; exact PySem.EqMixed.eq_int_str (bF I q (by simp))
   | _ => exact absurd (show false = true from hs) UL
 | str i =>
   obtain ⟨t, rfl⟩ := rx
   cases y with
   | non => cases ry; exact PySem.EqNone.eq_str_none (bF I q (by simp))
   | bl j => cases ry; exact PySem.EqMixed.eq_str_bool (bF I q (by simp))
   | int j => obtain ⟨t', rfl⟩ := ry; exact PySem.EqMixed.eq_str_int (bF I q (by simp))
   | str j => obtain ⟨t', rfl⟩ := ry; exact eq_str (bF I q Aj)
   | _ => exact absurd (show false = true from hs) UL
 | C8 i =>
   obtain ⟨t, rfl⟩ := rx
   cases y with
   | C8 j => obtain ⟨t', rfl⟩ := ry; exact PySem.W.eq_bytes (bF I q Ak)
   | _ => exact absurd (show false = true from hs) UL
 | _ => cases y <;> exact absurd (show false = true from hs) UL
theorem Dt : pC X (compareOp .NotEq) Sb := by
 intro pins s σ H x y v u Q I rx ry h
 obtain ⟨hs, q⟩ := h
 cases x with
 | non =>
   cases rx
   cases y with
   | non => cases ry; exact PySem.EqNone.ne_none_none (bF I q (by simp))
   | bl j => cases ry; exact PySem.EqNone.ne_none_bool (bF I q (by simp))
   | int j => obtain ⟨t', rfl⟩ := ry; exact PySem.EqNone.ne_none_int (bF I q (by simp))
   | str j => obtain ⟨t', rfl⟩ := ry; exact PySem.EqNone.ne_none_str (bF I q (by simp))
   | _ => exact absurd (show false = true from hs) UL
 | bl i =>
   cases rx
   cases y with
   | non => cases ry; exact PySem.EqNone.ne_bool_none (bF I q (by simp))
   | bl j => cases ry; exact ne_bool (bF I q (congrArg not Ds))
   | str j => obtain ⟨t', rfl⟩ := ry; exact PySem.EqMixed.ne_bool_str (bF I q (by simp))
   | _ => exact absurd (show false = true from hs) UL
 | int i =>
   obtain ⟨t, rfl⟩ := rx
   cases y with
   | non => cases ry; exact PySem.EqNone.ne_int_none (bF I q (by simp))
   | int j => obtain ⟨t', rfl⟩ := ry; exact ne_int (bF I q (congrArg not Ai))
   | str j => obtain ⟨t', rfl⟩ := ry; exact PySem.EqMixed.ne_int_str (bF I q (by simp))
   | _ => exact absurd (show false = true from hs) UL
 | str i =>
   obtain ⟨t, rfl⟩ := rx
   cases y with
   | non => cases ry; exact PySem.EqNone.ne_str_none (bF I q (by simp))
   | bl j => cases ry; exact PySem.EqMixed.ne_str_bool (bF I q (by simp))
   | int j => obtain ⟨t', rfl⟩ := ry; exact PySem.EqMixed.ne_str_int (bF I q (by simp))
   | str j => obtain ⟨t', rfl⟩ := ry; exact ne_str (bF I q (congrArg not Aj))
   | _ => exact absurd (show false = true from hs) UL
 | C8 i =>
   obtain ⟨t, rfl⟩ := rx
   cases y with
   | C8 j => obtain ⟨t', rfl⟩ := ry; exact PySem.W.ne_bytes (bF I q (congrArg not Ak))
   | _ => exact absurd (show false = true from hs) UL
 | _ => cases y <;> exact absurd (show false = true from hs) UL
theorem MJ : pC X (compareOp .Lt) (LY fun i j => .bl (decide (i < j))) := MD fun _ _ _ _ _ _ _ q => lt_int q
theorem MK : pC X (compareOp .Gt) (LY fun i j => .bl (decide (j < i))) := MD fun _ _ _ _ _ _ _ q => gt_int q
theorem jI (b : Expr) {op : CmpOp} (h : op ≠ .In := by decide) (h2 : op ≠ .NotIn := by decide) : behindInMarks op b = false := by
 have e1 : (op == CmpOp.In) = false := by cases op <;> first | rfl | exact absurd rfl h
 have e2 : (op == CmpOp.NotIn) = false := by cases op <;> first | rfl | exact absurd rfl h2
 cases b <;> simp [behindInMarks, e1, e2]
theorem qo {op : CmpOp} {r : R2} (ho : pC X (compareOp op) r) (ha : PE X a ta) (hb : PE X b tb) (hm : behindInMarks op b = false) : PE X (.Compare a [op] [b] pos) (OI r ta tb) := by
 intro pins s σ H Q I h
 exact wpAny_Compare1 (JL ha hb I h fun v u s2 x y H2 I2 rx ry q => ho pins s2 σ H2 x y v u Q I2 rx ry q) hm
noncomputable def ML (t : TE) : TT := fun σ H Q => t σ H fun x H' => ∃ k, x = .bl k /\ Q k H'
theorem qp {op : CmpOp} {r : R2} (ho : pC X (compareOp op) r) (ha : PE X a ta) (hb : PE X b tb) (hm : behindInMarks op b = false) : PT X (.Compare a [op] [b] pos) (ML (OI r ta tb)) := by
 intro pins s σ H Q I h
 refine wpAny_isTrue_Compare1 (dQ (ha pins s σ H _ I h) fun v s1 ⟨x, H1, I1, r1, q1⟩ => dQ (hb pins s1 σ H1 _ I1 q1) fun u s2 ⟨y, H2, I2, r2, q2⟩ =>
   dQ (ho pins s2 σ H2 x y v u _ I2 r1 r2 q2) fun c s3 ⟨z, H3, I3, r3, k, e, q3⟩ => ?_) hm
 subst e
 cases r3
 exact Wc ⟨H3, I3, q3⟩
theorem qM : (sizeLine : Nat) < 2 ^ 63 := by rw [VP]; decide
theorem x8 : pC X (binaryOp .Add) (fun x y H Q => ∃ i j, x = .str i /\ y = .str j /\ i.length + j.length <= sizeLine /\ Q (.str (i ++ j)) H) := by
 intro pins s σ H x y v u Q I rx ry h
 obtain ⟨i, j, rfl, rfl, hz, q⟩ := h
 obtain ⟨t, rfl⟩ := rx
 obtain ⟨t', rfl⟩ := ry
 exact add_str (fun t' tk => ⟨.str (i ++ j), H, I.tok _, ⟨_, rfl⟩, q⟩) hz
theorem vals1 {x : V} {us : List Value} (r : Vals [x] us) : ∃ u, us = [u] /\ RelV x u := by
 cases r with
 | cons r1 r2 => cases r2; exact ⟨_, rfl, r1⟩
theorem vals2 {x y : V} {us : List Value} (r : Vals [x, y] us) : ∃ u w', us = [u, w'] /\ RelV x u /\ RelV y w' := by
 cases r with
 | cons r1 r2 =>
   cases r2 with
   | cons r3 r4 => cases r4; exact ⟨_, _, rfl, r1, r3⟩
theorem Bm (hc : X.calm = true) : pD X (.builtin "min") (fun xs H Q => ∃ i j, xs = [.int i, .int j] /\ Q (.int (if j < i then j else i)) H) := by
 intro pins s σ H xs us Q I r h
 obtain ⟨i, j, rfl, q⟩ := h
 obtain ⟨u, w', rfl, ⟨t, rfl⟩, ⟨t', rfl⟩⟩ := vals2 r
 refine min_two_ints (I.ok.hd hc) fun h' tk k => ⟨_, H, I.kept k, ?_, q⟩
 by_cases hj : j < i
 . rw [UR hj, UR hj]; exact ⟨_, rfl⟩
 . rw [UE hj, UE hj]; exact ⟨_, rfl⟩
theorem tS : pD X (.type "str") (fun xs H Q => ∃ i, xs = [.int i] /\ i.natAbs.log2 < 1920 /\ Q (.str (toString i)) H) := by
 intro pins s σ H xs us Q I r h
 obtain ⟨i, rfl, hz, q⟩ := h
 obtain ⟨u, rfl, t, rfl⟩ := vals1 r
 exact PySem.P.str_of_int hz ⟨.str _, H, I.tok _, ⟨_, rfl⟩, q⟩
end
structure Bo (h : Heap) (x dx C : Addr) (mA : Str -> Option Value) : Prop where
 obj : h.get? x = some (PySem.W.instObj C dx)
 ns : h.Ns1 dx mA
 ne : dx ≠ x
theorem Bp {h : Heap} {dx : Addr} {mA : Str -> Option Value} (n : h.Ns1 dx mA) : ∃ od, h.get? dx = some od /\ ∀ name, PySem.W.lookIn name od = some (mA name) := by
 obtain ⟨o, es, ep, ho, hd, hk, _, hm⟩ := n
 refine ⟨o, ho, fun name => ?_⟩
 have e := hm name
 unfold nsFind findBy at e
 rw [← Array.find?_toList] at e
 unfold PySem.W.lookIn
 rw [hd]
 dsimp only
 split
 . rename_i y q
   rw [q] at e
   exact congrArg some e
 . rename_i q
   rw [q] at e
   have a : es.toList.any (·.refKey) = false := by
     rw [List.any_eq_false]
     intro y hy
     obtain ⟨z, t, PK⟩ := hk y (Array.mem_toList_iff.mp hy)
     simp [DictEntry.refKey, PK]
   have a' : ¬ es.toList.any (·.refKey) = true := by rw [a]; exact UL
   rw [UE a']
   exact congrArg some e
theorem Bo.look {h : Heap} {x dx C : Addr} {mA : Str -> Option Value} (I : Bo h x dx C mA) : ∃ od, PySem.W.InstAt h x (PySem.W.instObj C dx) C (some od) /\ ∀ name, PySem.W.lookIn name od = some (mA name) :=
 let ⟨od, ho, hl⟩ := Bp I.ns
 ⟨od, ⟨I.obj, rfl, rfl, ho⟩, hl⟩
section
variable {prog : Program} {w : World} {A : Around} {E : Value -> Shared -> Prop} {s : Shared} {K : PySem.W.Frag} {x dx C f : Addr} {mA : Str -> Option Value} {name : Str} {v : Value}
theorem get_map {expr : Bool} {Q : Value -> Shared -> Prop} (X : K.In s.heap) (I : Bo s.heap x dx C mA) (hg : PySem.W.plainGet K C name = true) (hh : PySem.W.hasDictIn K C = true)
   (ha : PySem.W.findIn K (.ref C) name = some none) (hv : mA name = some v) (Sd : PySem.W.handedIn v = true) (h : Q v { s with toks := s.toks + 1 }) :
   wpAny (model prog w) A (getAttr (.ref x) name expr) Q E s := by
 obtain ⟨od, J, hl⟩ := I.look
 exact PySem.W.get_value X J (PySem.W.plainGet_of hg).1 (PySem.W.findObj_own hh ha rfl (by rw [hl, hv])) Sd h
theorem GC {ns : List Str} {Q : Unit -> Shared -> Prop} (X : K.In s.heap) (I : Bo s.heap x dx C mA)
   (hs : PySem.W.findIn K (.ref C) "__setattr__" = some (some (.builtin "object.__setattr__"))) (hp : PySem.W.plainOver K C = true) (ht : PySem.W.takerIn K C name = some none) (hh : PySem.W.hasDictIn K C = true)
   (hw : PySem.Within mA ns) (PL : ns.length <= sizeLine)
   (h : ∀ h', Bo h' x dx C (fun y => if y = name then some v else mA y) -> Heap.SameBut dx s.heap h' -> Q () { s with heap := h', toks := s.toks + 2 }) :
   wpAny (model prog w) A (setAttr (.ref x) name v) Q E s := by
 obtain ⟨od, J, hl⟩ := I.look
 refine PySem.W.set_plain X J hs (PySem.W.osa_open (s := { s with toks := s.toks + 1 }) (r := none) X J hp ht fun b => ?_)
 obtain ⟨cd, hc, Mi⟩ := PySem.W.any_some hh
 have hx : s.heap.get? x = some ⟨.ref C, some dx, .plain, #[]⟩ := I.obj
 refine UQ (U6 (UQ (UQ (wpAny_loadPart hx (UQ (PySem.W.Looks.here (s := { s with toks := s.toks + 1 }) (PySem.W.looks_clsIn X hc) ?_))))))
 rw [Mi]
 refine U6 (a := some dx) (UQ (U6 (UQ ?_)))
 refine wpAny_nsSet1 (s := { s with toks := s.toks + 1 }) I.ns fun h' OL MN => ?_
 obtain ⟨oD, Ui, Uj, Se, Sf, Sg⟩ := OL.count (PySem.Within.cons name v hw)
 refine UQ (wpAny_lookBehind Se (by rw [Sf]; exact pastItsLine_dict (U3 Sg (by rw [Vi]; omega))) ?_)
 exact U6 (h _ ⟨(MN.2 _ (Ne.symm I.ne)).trans I.obj, OL, I.ne⟩ MN)
theorem Du {R : Result -> Shared -> Prop} {vs : List Value} {kw : List (Str × Value)} (X : K.In s.heap) (hm : PySem.W.makesIn K C = true)
   (hi : PySem.W.findIn K (.ref C) "__init__" = some (some (.ref f))) (hf : PySem.W.typeIn K (.ref f) = some (.type "function"))
   (h : codeAny (model prog w) (A.under (.builtin "type.__call__" ⟨.ref C :: vs, kw⟩)) (.call (.ref f) ⟨.ref (s.heap.objs.size + 1) :: vs, kw⟩) (PySem.W.InitBack (s.heap.objs.size + 1) R)
     { s with heap := (s.heap.push PySem.W.emptyDict).push (PySem.W.instObj C s.heap.objs.size) }) :
   codeAny (model prog w) A (.call (.ref C) ⟨vs, kw⟩) R s := by
 obtain ⟨hh, g, d, t, os⟩ := s
 exact PySem.W.make_core (PySem.W.makes_of X hm) (PySem.W.looks_findIn X hi) (fun self => PySem.W.bind_fn X self hf) (.inl rfl) h
end
noncomputable def gk (f : Str) (v : V) : List (Str × V) -> List (Str × V)
 | [] => [(f, v)]
 | (g, x) :: r => if g = f then (g, v) :: r else (g, x) :: gk f v r
theorem pF (f g : Str) (v : V) : ∀ fs : List (Str × V), (gk f v fs).lookup g = if g = f then some v else fs.lookup g
 | [] => by
   show List.lookup g [(f, v)] = _
   by_cases h : g = f
   . have hb : (g == f) = true := V9.mpr h
     simp only [List.lookup, hb, UR h]
   . have hb : (g == f) = false := V3.mpr h
     simp only [List.lookup, hb, UE h]
 | (k, x) :: r => by
   have ih := pF f g v r
   rw [show gk f v ((k, x) :: r) = (if k = f then (k, v) :: r else (k, x) :: gk f v r) from rfl]
   by_cases hk : k = f
   . rw [UR hk]
     by_cases h : g = k
     . have hb : (g == k) = true := V9.mpr h
       simp only [List.lookup, hb, UR (h.trans hk)]
     . have hb : (g == k) = false := V3.mpr h
       simp only [List.lookup, hb, UE (fun e : g = f => h (e.trans hk.symm))]
   . rw [UE hk]
     by_cases h : g = k
     . have hb : (g == k) = true := V9.mpr h
       simp only [List.lookup, hb, UE (fun e : g = f => hk (h.symm.trans e))]
     . have hb : (g == k) = false := V3.mpr h
       simp only [List.lookup, hb]
       exact ih
theorem nQ (f : Str) (v : V) : ∀ fs : List (Str × V), f ∈ (gk f v fs).map (·.1) /\ ∀ g, g ∈ fs.map (·.1) -> g ∈ (gk f v fs).map (·.1)
 | [] => ⟨by simp [gk], fun g h => by simp at h⟩
 | (k, x) :: r => by
   obtain ⟨i1, i2⟩ := nQ f v r
   rw [show gk f v ((k, x) :: r) = (if k = f then (k, v) :: r else (k, x) :: gk f v r) from rfl]
   by_cases hk : k = f
   . rw [UR hk]
     subst hk
     exact ⟨by simp, fun g h => by simpa using h⟩
   . rw [UE hk]
     refine ⟨?_, fun g h => ?_⟩
     . rw [U8]
       exact UC _ i1
     . rw [U8] at h ⊢
       rcases UA.mp h with e | e
       . exact UA.mpr (.inl e)
       . exact UC _ (i2 g e)
theorem pG (f : Str) (v : V) : ∀ fs : List (Str × V), (gk f v fs).length <= fs.length + 1
 | [] => by simp [gk]
 | (k, x) :: r => by
   have ih := pG f v r
   rw [show gk f v ((k, x) :: r) = (if k = f then (k, v) :: r else (k, x) :: gk f v r) from rfl]
   by_cases hk : k = f
   . rw [UR hk, Vi, Vi]; omega
   . rw [UE hk, Vi, Vi]; omega
theorem xY.some_of {v : V} {o : Option Value} (r : xY (some v) o) : ∃ u, o = some u /\ RelV v u := by
 cases o with
 | none => exact (show False from r).elim
 | some u => exact ⟨u, rfl, r⟩
theorem Bq {v : V} {u : Value} (r : RelV v u) : PySem.W.handedIn u = true := by
 cases v with
 | non => cases (show u = Value.none from r); rfl
 | bl b => cases (show u = Value.bool b from r); rfl
 | int i => obtain ⟨t, e⟩ := (show ∃ t, u = Value.int i t from r); cases e; rfl
 | str x => obtain ⟨t, e⟩ := (show ∃ t, u = Value.str x t from r); cases e; rfl
 | C8 b => obtain ⟨t, e⟩ := (show ∃ t, u = Value.bytes b t from r); cases e; rfl
 | Oo b => obtain ⟨t, e⟩ := (show ∃ t, u = Value.float b t from r); cases e; rfl
 | ref a => cases (show u = Value.ref a from r); rfl
 | ty n => cases (show u = Value.type n from r); rfl
section
variable {P : Program} {w : World} {H H' : Hp} {h h' : Heap} {a C dx : Addr} {fs RZ : List (Str × V)}
theorem Al (dB : ql P w H h) (e : H a = some (.ins C dx fs)) : ∃ mA, Bo h a dx C mA /\ (∀ f, xY (fs.lookup f) (mA f)) /\ PySem.Within mA (fs.map (·.1)) /\ fs.length <= 1000 /\ H dx = some (.own a) := by
 obtain ⟨d, z, ne, ob, mA, n, r, q⟩ := (show gJ P w H h a (.ins C dx fs) from dB a _ e)
 exact ⟨mA, ⟨ob, n, ne⟩, r, q, z, d⟩
end
structure vH (K : PySem.W.Frag) (C : Addr) : Prop where
 pg : PySem.W.plainGet K C Str.empty = true
 hd : PySem.W.hasDictIn K C = true
 po : PySem.W.plainOver K C = true
 sa : PySem.W.findIn K (.ref C) "__setattr__" = some (some (.builtin "object.__setattr__"))
theorem vH.get {K : PySem.W.Frag} {C : Addr} (c : vH K C) (f : Str) : PySem.W.plainGet K C f = true := c.pg
noncomputable def aS (K : PySem.W.Frag) (C : Addr) (f : Str) : Prop := PySem.W.findIn K (.ref C) f = some none
theorem aS.MP {K : PySem.W.Frag} {C : Addr} {f : Str} (n : aS K C f) : PySem.W.takerIn K C f = some none := by
 unfold PySem.W.takerIn
 rw [show PySem.W.findIn K (.ref C) f = some none from n]
 rfl
section
variable {X : Cx} {pins : List (Addr × Obj)} {σ : St} {H : Hp} {s : Shared} {a C dx : Addr} {fs : List (Str × V)} {f : Str} {v : V} {A : Around} {E : Value -> Shared -> Prop}
theorem x9 {b : Bool} {Q : Value -> Shared -> Prop} (I : Inv X pins σ H s) (e : H a = some (.ins C dx fs)) (c : vH X.K C) (n : aS X.K C f) (l : fs.lookup f = some v)
   (h : ∀ u s', Inv X pins σ H s' -> RelV v u -> Q u s') : wpAny (model X.prog X.w) A (getAttr (.ref a) f b) Q E s := by
 obtain ⟨mA, O, r, _, _, _⟩ := Al I.dB e
 obtain ⟨u, hu, ru⟩ := xY.some_of (v := v) (o := mA f) (by rw [← l]; exact r f)
 exact get_map I.vJ O (c.get f) c.hd n hu (Bq ru) (h u _ (I.tok _) ru)
theorem yb {y : V} {u : Value} {Q : Unit -> Shared -> Prop} (I : Inv X pins σ H s) (e : H a = some (.ins C dx fs)) (c : vH X.K C) (n : aS X.K C f) (hl : fs.length < 1000) (ry : RelV y u)
   (h : ∀ s', Inv X pins σ (upd H a (.ins C dx (gk f y fs))) s' -> Q () s') : wpAny (model X.prog X.w) A (setAttr (.ref a) f u) Q E s := by
 obtain ⟨mA, O, r, wi, _, ho⟩ := Al I.dB e
 have hz : (fs.map (·.1)).length <= sizeLine := by rw [Uz, VP]; omega
 refine GC I.vJ O c.sa c.po n.MP c.hd wi hz fun h' O' sb => h _ ?_
 have hd : ∃ o, h'.get? dx = some o := let ⟨o, _, _, e', _⟩ := O'.ns; ⟨o, e'⟩
 refine I.write (x := a) (e := dx) (by rw [e]; exact True.intro) (.inr ho) (fun b q hb z => (sb.2 b hb).trans z) hd ?_
 refine ⟨by rw [aF O.ne]; exact ho, ?_, O.ne, O'.obj, _, O'.ns, fun g => ?_, fun g hg => ?_⟩
 . have := pG f y fs; omega
 . show xY ((gk f y fs).lookup g) (if g = f then some u else mA g)
   rw [pF]
   by_cases q : g = f
   . rw [UR q, UR q]; exact ry
   . rw [UE q, UE q]; exact r g
 . by_cases q : g = f
   . rw [q]; exact (nQ f y fs).1
   . refine (nQ f y fs).2 g (wi g fun z => hg ?_)
     show (if g = f then some u else mA g) = none
     rw [UE q]; exact z
theorem Inv.made (I : Inv X pins σ H s) : Inv X pins σ (upd (upd H s.heap.objs.size (.own (s.heap.objs.size + 1))) (s.heap.objs.size + 1) (.ins C s.heap.objs.size []))
   { s with heap := (s.heap.push PySem.W.emptyDict).push (PySem.W.instObj C s.heap.objs.size) } := by
 have e1 : (s.heap.push PySem.W.emptyDict).get? s.heap.objs.size = some PySem.W.emptyDict := Vm s.heap rfl
 have e2 : ((s.heap.push PySem.W.emptyDict).push (PySem.W.instObj C s.heap.objs.size)).get? (s.heap.objs.size + 1) = some (PySem.W.instObj C s.heap.objs.size) := by
   have := Vm (s.heap.push PySem.W.emptyDict) (o := PySem.W.instObj C s.heap.objs.size) rfl
   rwa [Heap.size_push] at this
 have e3 : (s.heap.push PySem.W.emptyDict).Ns s.heap.objs.size (fun _ => none) := ⟨PySem.W.emptyDict, #[], _, e1, rfl, (fun e he => absurd he (by simp)), fun _ => rfl⟩
 have I1 := I.laid (a := s.heap.objs.size) (o := .own (s.heap.objs.size + 1)) (h' := s.heap.push PySem.W.emptyDict) (t' := s.toks) (fun b u q => UU _ q) (UJ _) ⟨_, e1⟩
 refine I1.laid (a := s.heap.objs.size + 1) (o := .ins C s.heap.objs.size []) (t' := s.toks) (fun b u q => UU _ q) (Nat.le_of_eq (Heap.size_push _ _)) ?_
 have ne : s.heap.objs.size ≠ s.heap.objs.size + 1 := Vq (VQ _)
 refine ⟨by rw [aF ne, bB], U9 _, ne, e2, fun _ => none, (Heap.Ns1.of_empty e3).at fun o q => UU _ q, fun _ => True.intro, fun y hy => absurd rfl hy⟩
theorem GD {prog : Program} {w : World} {env : Env} {e : Expr} {f : Str} {pos : Pos} {s : Shared} {Q : Value -> Shared -> Prop} (hb : attributeBase e f env (eval e env) = eval e env)
   (h : wpAny (model prog w) A (eval e env) (fun o s₁ => wpAny (model prog w) A (getAttr o f true) Q E s₁) E s) : wpAny (model prog w) A (eval (.Attribute e f pos) env) Q E s :=
 Attribute_any_ h (by rw [arm_eval_Attribute, hb])
end
noncomputable def PN (K : PySem.W.Frag) (ta : TE) (f : Str) : TE := fun σ H Q => ta σ H fun x H1 => ∃ a C dx fs v, x = .ref a /\ H1 a = some (.ins C dx fs) /\ vH K C /\ aS K C f /\ fs.lookup f = some v /\ Q v H1
noncomputable def PR (K : PySem.W.Frag) (ta tv : TE) (f : Str) : TS := fun D σ H => tv σ H fun y H1 => ta σ H1 fun x H2 => ∃ a C dx fs, x = .ref a /\ H2 a = some (.ins C dx fs) /\ vH K C /\ aS K C f /\ fs.length < 1000 ∧
 D.nx σ (upd H2 a (.ins C dx (gk f y fs)))
section
variable {X : Cx} {o e value : Expr} {f : Str} {pos pos' PV : Pos} {ta tv : TE}
theorem Dv (he : PE X e ta) (hb : attributeBase e f X.env (eval e X.env) = eval e X.env) : PE X (.Attribute e f pos) (PN X.K ta f) := by
 intro pins s σ H Q I h
 refine GD hb (dQ (he pins s σ H _ I h) fun u s1 zz => ?_)
 obtain ⟨x, H1, I1, rx, a, C, dx, fs, v, ex, ea, c, n, l, q⟩ := zz
 subst ex
 obtain rfl : u = Value.ref a := rx
 exact x9 I1 ea c n l fun u' s2 I2 ru => ⟨v, H1, I2, ru, q⟩
theorem JV (ha : PE X o ta) (hv : PE X value tv) (hs : swapsWith value (some (.Attribute o f pos')) pos.line X.env = pure false) : PS X (.Assign [.Attribute o f pos'] value pos) (PR X.K ta tv f) := by
 intro pins s σ H D I h
 refine plainObj_wpAny_Assign_Attribute (dQ (hv pins s σ H _ I h) fun u s1 ⟨y, H1, I1, ry, q⟩ => dQ (ha pins s1 σ H1 _ I1 q) fun ov s2 zz => ?_) hs
 obtain ⟨x, H2, I2, rx, a, C, dx, fs, ex, ea, c, n, l, q2⟩ := zz
 subst ex
 obtain rfl : ov = Value.ref a := rx
 exact yb I2 ea c n l ry fun s3 I3 => ⟨σ, _, I3, q2⟩
end
section
variable {X : Cx} {pins : List (Addr × Obj)} {σ : St} {H : Hp} {s : Shared} {A : Around} {E : Value -> Shared -> Prop} {Q : Value -> Shared -> Prop} {c : Value} {b : Bool}
end
structure ek (k : Nat) (A : Around) : Prop where
 hd : A.handled = none
 dp : A.depth + 3 * k + 5 < recursionLimit
 un : A.units + 16 * k + 200 < cLine
theorem ek.mono {j k : Nat} {A : Around} (r : ek k A) (h : j <= k) : ek j A := ⟨r.hd, by have := r.dp; omega, by have := r.un; omega⟩
theorem ek.deeper {k : Nat} {A : Around} (r : ek (k + 1) A) (env : Env) : ek k (A.deeper env) :=
 ⟨r.hd, by have := r.dp; show A.depth + 1 + 3 * k + 5 < _; omega, by have := r.un; show A.units + 3 + 16 * k + 200 < _; omega⟩
theorem yc {A : Around} {C : Addr} {us : List Value} {kw : List (Str × Value)} : (A.under (.builtin "type.__call__" ⟨.ref C :: us, kw⟩)).depth = A.depth + 1 := by
 first | rfl | simp [Around.under, Code.weight, Code.isCreation, Code.isGuard, Code.isCaller, Code.frames, Code.isFrame, guardIds]
theorem yd {A : Around} {C : Addr} {us : List Value} {kw : List (Str × Value)} : (A.under (.builtin "type.__call__" ⟨.ref C :: us, kw⟩)).units = A.units + 1 := by
 first | rfl | simp [Around.under, Code.cUnits, Code.frames, Code.isFrame]
theorem ek.make {k : Nat} {A : Around} (r : ek (k + 1) A) (C : Addr) (us : List Value) (kw : List (Str × Value)) : ek k (A.under (.builtin "type.__call__" ⟨.ref C :: us, kw⟩)) :=
 ⟨r.hd, by have := r.dp; rw [yc]; omega, by have := r.un; rw [yd]; omega⟩
theorem ek.depth {k : Nat} {A : Around} (r : ek k A) : A.depth < recursionLimit := by have := r.dp; omega
theorem ek.units {k : Nat} {A : Around} (r : ek k A) : A.units + 64 < cLine := by have := r.un; omega
noncomputable def PX : TA := fun _ H Q => Q [] H
noncomputable def MQ (ta : TE) (tr : TA) : TA := fun σ H Q => ta σ H fun x H1 => tr σ H1 fun xs H2 => Q (x :: xs) H2
section
variable {X : Cx} {e : Expr} {es : List Expr} {te : TE} {t : TA} {pos : Pos}
theorem fL : PA X [] PX := fun _ _ _ _ H Q I h => Calls.spliced_nil ⟨[], H, I, .nil, h⟩
theorem cI (ha : PE X e te) (hr : PA X es t) (hs : starEach (e :: es) X.env = (false, eval e X.env) :: starEach es X.env := by rfl) : PA X (e :: es) (MQ te t) := by
 intro pos pins s σ H Q I h
 rw [hs]
 show wpAny _ _ (spliced ((false, eval e X.env) :: backTo pos (starEach es X.env))) _ _ s
 refine Calls.spliced_cons (dQ (ha pins s σ H _ I h) fun u s1 zz => ?_)
 obtain ⟨x, H1, I1, r1, q1⟩ := zz
 exact dQ (hr pos pins s1 σ H1 _ I1 q1) fun us s2 ⟨xs, H2, I2, r2, q2⟩ => ⟨x :: xs, H2, I2, .cons r1 r2, q2⟩
noncomputable def PY (t : TA) : TE := fun σ H Q => t σ H fun xs H1 => xs.length <= sizeLine /\ ∀ p, H1 p = none -> Q (.ref p) (upd H1 p (.tup xs))
noncomputable def PZ (t : TA) : TE := fun σ H Q => t σ H fun xs H1 => xs.length <= sizeLine /\ ∀ p, H1 p = none -> Q (.ref p) (upd H1 p (.lst xs))
theorem JW {x1} (h : PA X es t) : PE X (.Tuple es x1 pos) (PY t) := by
 intro pins s σ H Q I hq
 refine wpAny_Tuple_spliced (dQ (h pos pins s σ H _ I hq) fun us s1 ⟨xs, H1, I1, r, z, q⟩ => ⟨by rw [← r.length]; exact z, ?_⟩)
 have hf : H1 s1.heap.objs.size = none := I1.dB.fresh (UJ _)
 refine ⟨.ref s1.heap.objs.size, upd H1 s1.heap.objs.size (.tup xs), I1.laid (t' := s1.toks) (fun b u e => UU _ e) (UJ _) ?_, rfl, q _ hf⟩
 exact ⟨z, us, r, ⟨_, Vm _ rfl, rfl, _, rfl⟩⟩
theorem JX (h : PA X es t) : PE X (.List es pos) (PZ t) := by
 intro pins s σ H Q I hq
 refine wpAny_List_spliced (dQ (h pos pins s σ H _ I hq) fun us s1 ⟨xs, H1, I1, r, z, q⟩ => ⟨by rw [← r.length]; exact z, ?_⟩)
 have hf : H1 s1.heap.objs.size = none := I1.dB.fresh (UJ _)
 refine ⟨.ref s1.heap.objs.size, upd H1 s1.heap.objs.size (.lst xs), I1.laid (t' := s1.toks) (fun b u e => UU _ e) (UJ _) ?_, rfl, q _ hf⟩
 exact ⟨z, us, 0, r, Vm _ rfl⟩
end
noncomputable abbrev Sp := List V -> Hp -> VK -> XK -> Prop
noncomputable abbrev Dc := List Env -> Hp -> Shared -> XK -> Value -> Shared -> Prop
structure ye (P : Program) (w : World) (K : PySem.W.Frag) (mg : Str -> Option Value) (base : Heap) (A : Around) (outer : List Env) (s : Shared) (H : Hp) : Prop where
 frames : A.frames = some outer
 mod : Mod K mg base
 bs : ∀ b o, base.get? b = some o -> s.heap.get? b = some o /\ H b = none
 Gr : base.objs.size <= s.heap.objs.size
 qa : s.heap.FunFrames base outer
 Jo : ∀ b ∈ C9 outer, H b = none
 dB : ql P w H s.heap
 bare : AllBare s.gens
noncomputable def CE (outer : List Env) (P : Program) (w : World) (H : Hp) (s : Shared) (Q : VK) (u : Value) (s' : Shared) : Prop :=
 ∃ v H', s'.os = s.os /\ AllBare s'.gens /\ Un (C9 outer) [] H H' s.heap s'.heap /\ ql P w H' s'.heap /\ RelV v u /\ Q v H'
noncomputable def CR (CX : Dc) (outer : List Env) (P : Program) (w : World) (H : Hp) (s : Shared) (Q : VK) (E : XK) (r : Result) (s' : Shared) : Prop :=
 match r with
 | .ok (.ret u) => CE outer P w H s Q u s'
 | .ok _ => False
 | .error e => CX outer H s E e s'
structure b5 (P : Program) (w : World) (K : PySem.W.Frag) (mg : Str -> Option Value) (base : Heap) (CX : Dc) (k : Nat) (f : Addr) (fd : FuncData) (ps : List Str) (sp : Sp) : Prop where
 len : ∀ vs H Q E, sp vs H Q E -> vs.length = ps.length
 run : ∀ (A : Around) (outer : List Env) (s : Shared) (H : Hp) (args : Args) (us : List Value) (vs : List V) (Q : VK) (E : XK), ek k A -> ye P w K mg base A outer s H -> BindsTo s fd args (ps.zip us) -> Vals vs us -> sp vs H Q E →
   codeAny (model P w) A (.call (.ref f) args) (CR CX outer P w H s Q E) s
theorem b5.imp {P : Program} {w : World} {K : PySem.W.Frag} {mg : Str -> Option Value} {base : Heap} {CX : Dc} {k : Nat} {f : Addr} {fd : FuncData} {ps : List Str} {sp Rf : Sp} (F : b5 P w K mg base CX k f fd ps sp)
   (h : ∀ vs H Q E, Rf vs H Q E -> sp vs H Q E) : b5 P w K mg base CX k f fd ps Rf :=
 ⟨fun vs H Q E q => F.len vs H Q E (h _ _ _ _ q), fun A outer s H args us vs Q E hr he hb hv hs => F.run A outer s H args us vs Q E hr he hb hv (h _ _ _ _ hs)⟩
theorem ye.make {P : Program} {w : World} {K : PySem.W.Frag} {mg : Str -> Option Value} {base : Heap} {A : Around} {outer : List Env} {s : Shared} {H : Hp} (e : ye P w K mg base A outer s H) (C : Addr) (us : List Value) (kw : List (Str × Value)) :
   ye P w K mg base (A.under (.builtin "type.__call__" ⟨.ref C :: us, kw⟩)) outer s H := ⟨by first | exact e.frames | (simpa [Around.under, Code.envs, Code.isFrame, pushEnvs] using e.frames), e.mod, e.bs, e.Gr, e.qa, e.Jo, e.dB, e.bare⟩
section
variable {X : Cx} {pins : List (Addr × Obj)} {σ : St} {H : Hp} {s s' : Shared}
theorem Inv.MR (I : Inv X pins σ H s) : ye X.prog X.w X.K X.mg X.base X.A X.stack s H :=
 ⟨I.ok.frames, I.ok.mod, I.bs, U3 I.ok.Gr I.sz, I.stack, I.Ab, I.dB, I.bare⟩
theorem Inv.after {Q : VK} {u : Value} (I : Inv X pins σ H s) (h : CE X.stack X.prog X.w H s Q u s') : EP X pins σ Q u s' := by
 obtain ⟨v, H', os, bare, un, dB, r, q⟩ := h
 obtain ⟨hh, g, d, t, LZ⟩ := s'
 obtain rfl : LZ = s.os := os
 exact ⟨v, H', I.call (h' := hh) (g' := g) (d' := d) (t' := t) (ch := []) un dB bare (fun b z => absurd z (by simp)), r, q⟩
end
noncomputable def MS (sp : Sp) (yf : List V) (E : XK) (t : TA) : TE := fun σ H Q => t σ H fun vs H1 => sp (vs ++ yf) H1 Q E
noncomputable def MT (C : Addr) (sp : Sp) (yf : List V) (E : XK) (t : TA) : TE := fun σ H Q => t σ H fun vs H1 => ∀ x dx, H1 x = none -> H1 dx = none -> dx ≠ x →
 sp (.ref x :: (vs ++ yf)) (upd (upd H1 dx (.own x)) x (.ins C dx [])) (fun v H2 => v = .non /\ Q (.ref x) H2) E
noncomputable def Binds (K : PySem.W.Frag) (fd : FuncData) (ps : List Str) (ds : List Value) : Prop :=
 ∀ (s : Shared) (us : List Value), K.In s.heap -> (us ++ ds).length = ps.length -> BindsTo s fd ⟨us, []⟩ (ps.zip (us ++ ds))
theorem Binds.all {K : PySem.W.Frag} {fd : FuncData} {ps : List Str} (h : ∀ us : List Value, us.length = ps.length -> bindArgs fd ⟨us, []⟩ = pure (ps.zip us)) : Binds K fd ps [] := fun s us _ hl => by
 rw [Vr] at hl ⊢
 exact .of_eq (h us hl)
noncomputable def Passes (CX : Dc) (X : Cx) (E : XK) : Prop := ∀ (pins : List (Addr × Obj)) (σ : St) (H : Hp) (s : Shared) (e : Value) (s' : Shared), Inv X pins σ H s -> CX X.stack H s E e s' -> X.xe e s'
section
variable {X : Cx} {CX : Dc} {k : Nat} {f C : Addr} {fd : FuncData} {ps : List Str} {sp : Sp} {yf : List V} {ds : List Value} {E : XK} {x m : Str} {p pos apos : Pos} {e o : Expr} {es : List Expr} {ta : TE} {t : TA}
theorem JY {pins : List (Addr × Obj)} {σ : St} {H : Hp} {s : Shared} {Q : VK} {us : List Value} {vs : List V} (F : b5 X.prog X.w X.K X.mg X.base CX k f fd ps sp) (hr : ek k X.A) (hb : Binds X.K fd ps ds) (hd : Vals yf ds) (hx : Passes CX X E)
   (I : Inv X pins σ H s) (r : Vals vs us) (h : sp (vs ++ yf) H Q E) : wpAny (model X.prog X.w) X.A (call (.ref f) us) (EP X pins σ Q) X.xe s := by
 have r2 : Vals (vs ++ yf) (us ++ ds) := r.append hd
 have hl : (us ++ ds).length = ps.length := by rw [← r2.length]; exact F.len _ _ _ _ h
 refine wpAny_call (codeAny_mono (F.run X.A X.stack s H ⟨us, []⟩ (us ++ ds) (vs ++ yf) Q E hr I.MR (hb s us I.vJ hl) r2 h) fun r s' hq => ?_)
 cases r with
 | error e => exact hx pins σ H s e s' I hq
 | ok fl =>
   cases fl with
   | ret u => exact I.after hq
   | next => exact False.elim hq
   | brk => exact False.elim hq
   | cont => exact False.elim hq
theorem Am (F : b5 X.prog X.w X.K X.mg X.base CX k f fd ps sp) (hr : ek k X.A) (hg : Gl X x) (hm : X.mg x = some (.ref f)) (hk : PySem.W.keepIn X.K (.ref f) = true) (hb : Binds X.K fd ps ds) (hd : Vals yf ds) (hx : Passes CX X E)
   (ha : PA X (e :: es) t) (sE : (x == ("__debug__" : Str)) = false := by decide) (he : starEach (e :: es) X.env = (false, eval e X.env) :: starEach es X.env := by rfl) (hpl : (backTo pos (starEach es X.env)).any (·.1) = false := by rfl) :
   PE X (.Call (.Name x p) (e :: es) [] pos) (MS sp yf E t) := by
 intro pins s σ H Q I h
 refine V6 (Ae I hg hm ?_ sE)
 refine PySem.W.callWith_K (h₀ := X.base) I.ok.mod.Ou hk (dQ (ha pos pins s σ H _ I h) fun us s1 ⟨vs, H1, I1, r, q⟩ => ⟨I1.vJ, ?_⟩) he hpl
 exact JY F hr hb hd hx I1 r q
structure Mk (K : PySem.W.Frag) (C f : Addr) : Prop where
 makes : PySem.W.makesIn K C = true
 init : PySem.W.findIn K (.ref C) "__init__" = some (some (.ref f))
 fn : PySem.W.isFn K (.ref f) = true
 kp : PySem.W.keepIn K (.ref C) = true
theorem Dw {pins : List (Addr × Obj)} {σ : St} {H : Hp} {s : Shared} {Q : VK} {us : List Value} {vs : List V} (M : Mk X.K C f) (F : b5 X.prog X.w X.K X.mg X.base CX k f fd ps sp) (hr : ek (k + 1) X.A) (hb : Binds X.K fd ps ds) (hd : Vals yf ds)
   (hx : Passes CX X E) (I : Inv X pins σ H s) (r : Vals vs us)
   (h : ∀ x dx, H x = none -> H dx = none -> dx ≠ x -> sp (.ref x :: (vs ++ yf)) (upd (upd H dx (.own x)) x (.ins C dx [])) (fun v H2 => v = .non /\ Q (.ref x) H2) E) :
   wpAny (model X.prog X.w) X.A (call (.ref C) us) (EP X pins σ Q) X.xe s := by
 have hq := h (s.heap.objs.size + 1) s.heap.objs.size (I.dB.fresh (Nat.le_succ _)) (I.dB.fresh (UJ _)) (Vq (VQ _))
 have I2 := Inv.made (C := C) I
 have r2 : Vals (V.ref (s.heap.objs.size + 1) :: (vs ++ yf)) (Value.ref (s.heap.objs.size + 1) :: (us ++ ds)) := .cons rfl (r.append hd)
 have hl : (Value.ref (s.heap.objs.size + 1) :: us ++ ds).length = ps.length := by
   have e := r2.length
   rw [F.len _ _ _ _ hq] at e
   exact e.symm
 refine wpAny_call (Du (f := f) I.vJ M.makes M.init (V9.mp M.fn) (codeAny_mono (F.run _ X.stack _ _ ⟨Value.ref (s.heap.objs.size + 1) :: us, []⟩ (Value.ref (s.heap.objs.size + 1) :: (us ++ ds)) _ _ E (hr.make C us [])
   (I2.MR.make C us []) (hb _ (Value.ref (s.heap.objs.size + 1) :: us) I2.vJ hl) r2 hq) fun r s' GF => ?_))
 cases r with
 | error e => exact hx pins σ _ _ e s' I2 GF
 | ok fl =>
   cases fl with
   | ret u =>
     obtain ⟨v, H', I3, rv, ev, q3⟩ := I2.after GF
     subst ev
     exact ⟨rv, ⟨V.ref (s.heap.objs.size + 1), H', I3, rfl, q3⟩⟩
   | next => exact False.elim GF
   | brk => exact False.elim GF
   | cont => exact False.elim GF
theorem An (M : Mk X.K C f) (F : b5 X.prog X.w X.K X.mg X.base CX k f fd ps sp) (hr : ek (k + 1) X.A) (hg : Gl X x) (hm : X.mg x = some (.ref C)) (hb : Binds X.K fd ps ds) (hd : Vals yf ds) (hx : Passes CX X E)
   (ha : PA X (e :: es) t) (sE : (x == ("__debug__" : Str)) = false := by decide) (he : starEach (e :: es) X.env = (false, eval e X.env) :: starEach es X.env := by rfl) (hpl : (backTo pos (starEach es X.env)).any (·.1) = false := by rfl) :
   PE X (.Call (.Name x p) (e :: es) [] pos) (MT C sp yf E t) := by
 intro pins s σ H Q I h
 refine V6 (Ae I hg hm ?_ sE)
 refine PySem.W.callWith_K (h₀ := X.base) I.ok.mod.Ou M.kp (dQ (ha pos pins s σ H _ I h) fun us s1 ⟨vs, H1, I1, r, q⟩ => ⟨I1.vJ, ?_⟩) he hpl
 exact Dw M F hr hb hd hx I1 r q
end
section
variable {X : Cx} {CX : Dc} {k : Nat} {f C : Addr} {fd : FuncData} {ps ks : List Str} {sp : Sp} {E : XK} {x m : Str} {p pos apos Sh : Pos} {e o : Expr} {es : List Expr} {kws : List Keyword} {te ta : TE} {t tk : TA} {nm : Option Str}
variable {g : List Value -> List Value -> List Value} {gV : List V -> List V -> List V}
end
structure aV (N P : List Str) (sc : Scope) : Prop where
 kind : sc.kind = .function
 co : sc.isCoroutine = false
 gen : sc.isGenerator = false
 nd : N.Nodup
 pre : N.take P.length = P
 par : ∀ x ∈ P, sc.names.lookup x = some .local \/ sc.names.lookup x = some .cell
 JZ : ∀ y ∈ sc.names, y.2 ≠ .free
theorem sP {kindOf : Str -> Option NameKind} {x : Str} : ∀ {binds : List (Str × Value)} {m : Str -> Option Value}, (∀ v, (x, v) ∉ binds) -> bindL kindOf binds m x = m x
 | [], _, _ => rfl
 | (n, v) :: r, m, h => by
   unfold bindL
   rw [sP fun w hw => h w (UC _ hw)]
   split
   . have : x ≠ n := by rintro rfl; exact h v UD
     simp [this]
   . rfl
theorem sQ {kindOf : Str -> Option NameKind} {x : Str} : ∀ {binds : List (Str × Value)} {m : Str -> Option Value}, (∀ v, (x, v) ∉ binds) -> bindC kindOf binds m x = m x
 | [], _, _ => rfl
 | (n, v) :: r, m, h => by
   unfold bindC
   rw [sQ fun w hw => h w (UC _ hw)]
   split
   . rfl
   . have : x ≠ n := by rintro rfl; exact h v UD
     simp [this]
theorem sR {kindOf : Str -> Option NameKind} {x : Str} {v : Value} : ∀ {P : List Str} {vs : List Value} {i : Nat} {m : Str -> Option Value}, P.Nodup -> P[i]? = some x -> vs[i]? = some v -> kindOf x = some .local →
   bindL kindOf (P.zip vs) m x = some v
 | [], _, _, _, _, h, _, _ => by simp at h
 | _ :: _, [], _, _, _, _, h, _ => by simp at h
 | p :: P, w :: vs, 0, m, nd, h1, h2, hk => by
   simp at h1 h2; subst h1; subst h2
   show bindL kindOf ((p, w) :: P.zip vs) m p = _
   unfold bindL
   rw [sP fun v hv => (VH.mp nd).1 (List.of_mem_zip hv).1, UR hk]
   simp
 | p :: P, w :: vs, i + 1, m, nd, h1, h2, hk => by
   show bindL kindOf ((p, w) :: P.zip vs) m x = _
   unfold bindL
   exact sR (i := i) (List.nodup_cons.mp nd).2 (by simpa using h1) (by simpa using h2) hk
theorem sS {kindOf : Str -> Option NameKind} {x : Str} {v : Value} : ∀ {P : List Str} {vs : List Value} {i : Nat} {m : Str -> Option Value}, P.Nodup -> P[i]? = some x -> vs[i]? = some v -> kindOf x ≠ some .local →
   bindC kindOf (P.zip vs) m x = some v
 | [], _, _, _, _, h, _, _ => by simp at h
 | _ :: _, [], _, _, _, _, h, _ => by simp at h
 | p :: P, w :: vs, 0, m, nd, h1, h2, hk => by
   simp at h1 h2; subst h1; subst h2
   show bindC kindOf ((p, w) :: P.zip vs) m p = _
   unfold bindC
   rw [sQ fun v hv => (VH.mp nd).1 (List.of_mem_zip hv).1, UE hk]
   simp
 | p :: P, w :: vs, i + 1, m, nd, h1, h2, hk => by
   show bindC kindOf ((p, w) :: P.zip vs) m x = _
   unfold bindC
   exact sS (i := i) (List.nodup_cons.mp nd).2 (by simpa using h1) (by simpa using h2) hk
noncomputable def start (N : List Str) (vs : List V) : St := vs.map some ++ List.replicate (N.length - vs.length) none
noncomputable def vO (CX : Dc) (P : Program) (w : World) (K : PySem.W.Frag) (mg : Str -> Option Value) (base : Heap) (N : List Str) (qual : Str) (scope : Scope) (f : Addr) (cd : Value) (A : Around) (outer : List Env) (s : Shared) (H : Hp) (E : XK) : Cx where
 prog := P
 w := w
 K := K
 mg := mg
 base := base
 A := A.deeper (envOfC qual scope s.heap.objs.size f cd)
 N := N
 s₀ := s
 H₀ := H
 env := envOfC qual scope s.heap.objs.size f cd
 outer := outer
 stack := envOfC qual scope s.heap.objs.size f cd :: outer
 ex := []
 calm := true
 fn := fun _ => true
 pn := []
 xe := fun e s' => wpAny (model P w) (A.deeper (envOfC qual scope s.heap.objs.size f cd)) (leaving (envOfC qual scope s.heap.objs.size f cd) e) (fun _ P0 => CX outer H s E e P0) (fun e' P0 => CX outer H s E e' P0) s'
theorem vP {sc : Scope} {n : Nat} {x : Str} (h : sc.names.lookup x = some .cell) : ∃ c, (cellsFrom n sc.names []).lookup x = some c := by
 have q := PySem.W.cellsFrom_some sc.names n [] (.inl h)
 exact Option.isSome_iff_exists.mp q
theorem Br {CX : Dc} {P : Program} {w : World} {K : PySem.W.Frag} {mg : Str -> Option Value} {base : Heap} {N ps : List Str} {qual : Str} {scope : Scope} {f : Addr} {cd : Value} {A : Around} {outer : List Env} {s s1 : Shared} {H : Hp} {E : XK} {us : List Value} {vs : List V}
   (S : aV N ps scope) (hd : A.handled = none) (e0 : ye P w K mg base A outer s H) (hl : vs.length = ps.length) (r : Vals vs us)
   (x : InCallC s s.heap.objs.size (bindL (envOfC qual scope s.heap.objs.size f cd).kindOf (ps.zip us) fun _ => none) (cellsFrom (s.heap.objs.size + 1) scope.names []) (bindC (envOfC qual scope s.heap.objs.size f cd).kindOf (ps.zip us) fun _ => none) s1) :
   Inv (vO CX P w K mg base N qual scope f cd A outer s H E) [] (start N vs) H s1 := by
 have hpl : ps.length <= N.length := by have := congrArg List.length S.pre; rw [VR] at this; omega
 obtain ⟨h1, tk, rfl, hk⟩ := x.done
 have MV : ∀ b : Addr, b ∉ (vO CX P w K mg base N qual scope f cd A outer s H E).ex := fun b z => absurd (show b ∈ ([] : List Addr) from z) (by simp)
 refine ⟨⟨e0.mod, S.kind, rfl, rfl, UJ _, fun y z c h1 h2 => ?_, fun y hy => ?_, fun y c _ h => ?_, fun _ => hd, Around.frames_deeper e0.frames, .inr ⟨rfl, rfl⟩, fun b z => absurd z (MV b), e0.bs, e0.Gr, fun b _ _ => MV b, fun b z => absurd z (MV b), e0.qa, e0.Jo⟩,
   rfl, e0.bare, Un.kept hk, ⟨_, x.toInCall.ns, fun i y v h1 h2 h3 => ?_⟩, fun y c h => ⟨_, x.cell y c h⟩, e0.dB.fresh (UJ _), fun y c h => ?_, fun p hp => absurd (show p ∈ ([] : List (Addr × Obj)) from hp) (by simp), e0.dB.kept hk, ?_⟩
 . exact name_of_addr x.apart (Vz h1) (Vz h2)
 . have hy : scope.names.lookup y = some .cell \/ scope.names.lookup y = some .free := hy
   rcases hy with hy | hy
   . exact vP hy
   . exact absurd rfl (S.JZ _ (Vz hy))
 . exact VC (x.above y c (Vz h))
 . have hi : i < vs.length := by
     unfold start at h2
     by_cases hi : i < vs.length
     . exact hi
     . rw [List.getElem?_append_right (by simpa using hi)] at h2
       rw [List.getElem?_replicate] at h2
       split at h2 <;> cases h2
   have ha : vs[i]? = some v := by
     unfold start at h2
     rw [List.getElem?_append_left (by simpa using hi), List.getElem?_map] at h2
     cases e : vs[i]? with
     | none => rw [e] at h2; cases h2
     | some a => rw [e] at h2; cases h2; rfl
   obtain ⟨u, hu, rv⟩ := r.get ha
   have hp : ps[i]? = some y := by
     rw [← S.pre, List.getElem?_take_of_lt (by omega)]; exact h1
   have Rg : ps.Nodup := by rw [← S.pre]; exact S.nd.sublist (List.take_sublist _ _)
   refine ⟨u, rv, ?_⟩
   rcases S.par y (Vk hp) with k | k
   . exact .inl ⟨k, sR Rg hp hu k⟩
   . obtain ⟨c, e⟩ := vP (n := s.heap.objs.size + 1) k
     refine .inr ⟨.inl k, c, e, ?_⟩
     have q := x.cell y c e
     rw [sS Rg hp hu (by show scope.names.lookup y ≠ _; rw [k]; decide)] at q
     exact q
 . exact e0.dB.fresh (VC (x.above y c (Vz h)))
 . unfold start
   show _ = N.length
   rw [UM, Uz, VB]
   omega
theorem MX {CX : Dc} {P : Program} {w : World} {K : PySem.W.Frag} {mg : Str -> Option Value} {base : Heap} {k : Nat} {f : Addr} {name qual : Str} {params : Arguments} {body : List Stmt} {scope : Scope} {dV kV doc pm eU ct oc : Value} {an od : Option Addr}
   {GH : Array (Option Value)} {N ps : List Str} {sp : Sp} (lk : K.lookup f = some ⟨oc, od, .func (PySem.W.fnOf name qual params body scope dV kV doc pm an eU ct), GH⟩) (kr : PySem.W.codeIn K eU qual = true) (S : aV N ps scope)
   (len : ∀ vs H Q E, sp vs H Q E -> vs.length = ps.length)
   (Dy : ∀ (A : Around) (outer : List Env) (s : Shared) (H : Hp) (vs : List V) (Q : VK) (E : XK), ek k (A.deeper (envOfC qual scope s.heap.objs.size f eU)) -> sp vs H Q E →
     ∃ t, Ad (vO CX P w K mg base N qual scope f eU A outer s H E) body t /\ t { nx := fun _ H' => Q .non H', rt := Q } (start N vs) H) :
   b5 P w K mg base CX (k + 1) f (PySem.W.fnOf name qual params body scope dV kV doc pm an eU ct) ps sp := by
 refine ⟨len, fun A outer s H args us vs Q E hr e0 hb r qN => ?_⟩
 have hl := len _ _ _ _ qN
 have KX : K.In s.heap := e0.mod.Ou.keeps fun b o e => (e0.bs b o e).1
 have lim : s.heap.NoLimit := e0.mod.nolimit.keeps fun b o e => (e0.bs b o e).1
 have Ao : ∀ y ∈ ps.zip us, scope.names.lookup y.1 = some .local \/ (scope.names.lookup y.1 = some .cell /\ ((cellsFrom (s.heap.objs.size + 1) scope.names []).lookup y.1).isSome = true) := fun ⟨n, v⟩ hy => by
   rcases S.par n (List.of_mem_zip hy).1 with q | q
   . exact .inl q
   . exact .inr ⟨q, PySem.W.cellsFrom_some _ _ _ (.inl q)⟩
 refine codeAny_call_function hr.depth (KX _ _ lk) rfl S.co S.gen rfl (PySem.W.codeRec_of KX kr) (hb _ _ _ _ ?_)
 refine wpAny_newFunctionEnv_cells S.kind Ao fun env he s1 x => ?_
 subst he
 refine ⟨lim.keeps x.toInCall.keep, codeAny_func ?_⟩
 obtain ⟨t, ht, hq⟩ := Dy A outer s H vs Q E (hr.deeper _) qN
 have I : Inv (vO CX P w K mg base N qual scope f eU A outer s H E) [] (start N vs) H s1 := Br S hr.hd e0 hl r x
 refine VN (ht [] s1 (start N vs) H _ I hq) (fun fl s' hs => ?_) fun e s' hs => hs
 have fin : ∀ {σ' : St} {H' : Hp} {v : V} {u : Value}, Inv (vO CX P w K mg base N qual scope f eU A outer s H E) [] σ' H' s' -> RelV v u -> Q v H' -> CE outer P w H s Q u s' :=
   fun {σ' H' v u} J rv q => ⟨v, H', J.os, J.bare, J.base, J.dB, rv, q⟩
 cases fl with
 | ret u =>
   obtain ⟨v, σ', H', J, rv, q⟩ := hs
   exact fin J rv q
 | next =>
   obtain ⟨σ', H', J, q⟩ := hs
   exact fin (v := V.non) (u := Value.none) J rfl q
 | brk =>
   obtain ⟨_, _, _, q⟩ := hs
   exact False.elim q
 | cont =>
   obtain ⟨_, _, _, q⟩ := hs
   exact False.elim q
section
variable {X : Cx} {x : Str} {p pos : Pos} {e : Expr} {es : List Expr} {t : TA} {id T : String} {r : List V -> Hp -> VK -> Prop}
noncomputable def Rh (r : List V -> Hp -> VK -> Prop) (t : TA) : TE := fun σ H Q => t σ H fun vs H1 => r vs H1 Q
theorem mE (hc : pD X (.builtin id) r) (hg : Gl X x) (hm : X.mg x = none) (hv : bootBuiltins x = some (.builtin id)) (ha : PA X (e :: es) t) (hn : x ≠ "__name__" := by decide) (sE : (x == ("__debug__" : Str)) = false := by decide)
   (he : starEach (e :: es) X.env = (false, eval e X.env) :: starEach es X.env := by rfl) (hpl : (backTo pos (starEach es X.env)).any (·.1) = false := by rfl) : PE X (.Call (.Name x p) (e :: es) [] pos) (Rh r t) := by
 intro pins s σ H Q I h
 refine V6 (qK I hg hm hv ?_ hn sE)
 exact PyProof.Rows.callWith_builtin1 (dQ (ha pos pins s σ H _ I h) fun us s1 ⟨vs, H1, I1, r1, q1⟩ => hc pins s1 σ H1 vs us Q I1 r1 q1) he hpl
theorem nR (hc : pD X (.type T) r) (hg : Gl X x) (hm : X.mg x = none) (hv : bootBuiltins x = some (.type T)) (ha : PA X (e :: es) t) (hn : x ≠ "__name__" := by decide) (sE : (x == ("__debug__" : Str)) = false := by decide)
   (he : starEach (e :: es) X.env = (false, eval e X.env) :: starEach es X.env := by rfl) (hpl : (backTo pos (starEach es X.env)).any (·.1) = false := by rfl) : PE X (.Call (.Name x p) (e :: es) [] pos) (Rh r t) := by
 intro pins s σ H Q I h
 refine V6 (qK I hg hm hv ?_ hn sE)
 exact V1 (dQ (ha pos pins s σ H _ I h) fun us s1 ⟨vs, H1, I1, r1, q1⟩ => hc pins s1 σ H1 vs us Q I1 r1 q1) he hpl
end
end L2
namespace HT
open PySem PyProof.Rows
section
open PySem.SeqAt
open PySem.AutoSeq1 (wpAny_loadPart')
open PySem.MeetsSeq PySem.MeetsSeq2 PySem.MeetsSeq3
end
section
variable {prog : Program} {w : World} {A : Around} {E : Value -> Shared -> Prop} {s : Shared}
theorem GJ {t b : Addr} {vs ws : List Value} {Q : Value -> Shared -> Prop} (ht : IsTup s.heap t vs.toArray) (hb : IsTup s.heap b ws.toArray) (hv : vs ≠ [])
   (h1 : ws = [] -> Q (.ref t) s) (h2 : ws ≠ [] -> Q (.ref s.heap.objs.size) { s with heap := s.heap.push { cls := .type "tuple", data := .seq (vs ++ ws).toArray } })
   (PL : vs.length + ws.length <= sizeLine) : wpAny (model prog w) A (binaryOp .Add (.ref t) (.ref b)) Q E s := by
 obtain ⟨⟨cls, dd, data, sl⟩, ho, hc, n, hd⟩ := id ht
 obtain ⟨⟨P1, L0, data2, L1⟩, Gd, GK, n2, hd2⟩ := id hb
 simp only at hc hd GK hd2
 subst hc hd GK hd2
 have e : vs.toArray ++ ws.toArray = (vs ++ ws).toArray := by simp
 by_cases hw : ws = []
 . exact concat_meets ⟨_, ho, rfl⟩ ⟨_, Gd, rfl⟩ noFill_tuple_add seq_tuple_add PySem.F.slot_tuple_add PySem.F.entry_tuple_add (PySem.F.args_tuple_add_2 _ _)
     (tuple_addW1 t b vs.toArray ws.toArray n n2 dd L0 sl L1 (by simpa using hv) (by simp [hw])) ⟨ho, Gd, h1 hw⟩
 . refine concat_meets ⟨_, ho, rfl⟩ ⟨_, Gd, rfl⟩ noFill_tuple_add seq_tuple_add PySem.F.slot_tuple_add PySem.F.entry_tuple_add (PySem.F.args_tuple_add_2 _ _)
     (tuple_addW2 t b vs.toArray ws.toArray n n2 dd L0 sl L1 (by simpa using hv) (by simpa using hw) (by rw [List.size_toArray, List.size_toArray]; exact PL)) ⟨ho, Gd, ?_⟩
   rw [e]
   exact h2 hw
noncomputable def dD (n d : Nat) : Option Int -> Nat
 | none => d
 | some v => if v < 0 then (v + (n : Int)).toNat else min v.toNat n
theorem GL (n d k : Nat) : dD n d (some (k : Int)) = min k n := by
 show (if (k : Int) < 0 then ((k : Int) + (n : Int)).toNat else min (k : Int).toNat n) = min k n
 rw [if_neg (by omega), Int.toNat_natCast]
theorem J1 (n d : Nat) (hd : d <= n) (o : Option Int) : dD n d o <= n := by
 cases o with
 | none => exact hd
 | some v =>
   show (if v < 0 then (v + (n : Int)).toNat else min v.toNat n) <= n
   by_cases hv : v < 0
   . rw [if_pos hv]; omega
   . rw [if_neg hv]; exact Nat.min_le_right _ _
theorem Aq (v : Int) (n d : Nat) : (if v < 0 then max (v + (n : Int)) 0 else min v (n : Int)) = ((dD n d (some v) : Nat) : Int) := by
 show (if v < 0 then max (v + (n : Int)) 0 else min v (n : Int)) = (((if v < 0 then (v + (n : Int)).toNat else min v.toNat n) : Nat) : Int)
 by_cases hv : v < 0
 . simp only [if_pos hv]; omega
 . simp only [if_neg hv]; omega
theorem yg (lo hi : Option Int) (n : Nat) : Builtin.Slice.sliceAdjust lo hi 1 (n : Int) = (((dD n 0 lo : Nat) : Int), ((dD n n hi : Nat) : Int)) := by
 have h1 : ¬ ((1 : Int) < 0) := by omega
 unfold Builtin.Slice.sliceAdjust
 simp only [h1, if_false]
 refine Prod.ext ?_ ?_
 . cases lo with
   | none => rfl
   | some v => exact Aq v n 0
 . cases hi with
   | none => rfl
   | some v => exact Aq v n n
theorem yh (i j : Nat) : Builtin.Slice.slicePlaces (i : Int) (j : Int) 1 = j - i := by
 unfold Builtin.Slice.slicePlaces
 have h1 : (1 : Int) > 0 := by omega
 simp only [h1, if_true, Int.ediv_one]
 split <;> omega
theorem qO {v : Value} {o : Option Int} {Q : Option Int -> Shared -> Prop} (p : IsPart v o) (h : Q o s) : wpAny (model prog w) A (Builtin.Slice.slicePartIndex v) Q E s := by
 cases p with
 | none => exact slicePart_none h
 | int i t => exact slicePart_int h
theorem nS {sl : Addr} {vl vu : Value} {lo hi : Option Int} {n : Nat} {Q : Int × Int × Nat -> Shared -> Prop} (hs : s.heap.IsSliceOf sl vl vu .none) (pl : IsPart vl lo) (pu : IsPart vu hi)
   (h : Q (((dD n 0 lo : Nat) : Int), 1, dD n n hi - dD n 0 lo) s) : wpAny (model prog w) A (Builtin.Slice.sliceApplied (.ref sl) (pure (n : Int))) Q E s := by
 obtain ⟨os, J2, Ri, OO⟩ := id hs
 unfold Builtin.Slice.sliceApplied Builtin.Slice.sliceFields
 refine wpAny_bind (wpAny_bind (wpAny_field J2 OO (x := vl) rfl (wpAny_bind (wpAny_field J2 OO (x := vu) rfl (wpAny_bind (wpAny_field J2 OO (x := .none) rfl (wpAny_pure ?_)))))))
 refine wpAny_bind (slicePart_none ?_)
 show wpAny _ _ (if ((1 : Int) == 0) = true then _ else _) _ _ s
 rw [if_neg (by decide)]
 refine wpAny_bind (qO pl (wpAny_bind (qO pu (wpAny_bind (wpAny_pure ?_)))))
 show wpAny _ _ (match Builtin.Slice.sliceAdjust lo hi 1 (n : Int) with | (lo, hi) => pure (lo, (1 : Int), Builtin.Slice.slicePlaces lo hi 1)) _ _ s
 rw [yg lo hi n]
 show wpAny _ _ (pure (((dD n 0 lo : Nat) : Int), (1 : Int), Builtin.Slice.slicePlaces ((dD n 0 lo : Nat) : Int) ((dD n n hi : Nat) : Int) 1)) _ _ s
 rw [yh]
 exact wpAny_pure h
theorem Dz (xs : Array Value) (i k : Nat) : ((List.range k).filterMap fun (m : Nat) => xs[((i : Int) + (m : Int) * 1).toNat]?).toArray = ((xs.toList.drop i).take k).toArray := by
 have e : (fun (m : Nat) => xs[((i : Int) + (m : Int) * 1).toNat]?) = fun m => xs[i + m]? := by
   funext m
   have : ((i : Int) + (m : Int) * 1).toNat = i + m := by omega
   rw [this]
 rw [e]
 have := pick_run xs i k
 rw [List.filterMap_map] at this
 have e2 : ((fun x => xs[x]?) ∘ fun x => i + x) = fun m => xs[i + m]? := rfl
 rw [e2] at this
 rw [this]
theorem mF {t sl : Addr} {items : Array Value} {vl vu : Value} {lo hi : Option Int} {Q : Value -> Shared -> Prop} (ht : IsTup s.heap t items) (hs : s.heap.IsSliceOf sl vl vu .none) (pl : IsPart vl lo) (pu : IsPart vu hi)
   (hw : ¬ (dD items.size 0 lo = 0 /\ dD items.size items.size hi = items.size))
   (h : Q (.ref s.heap.objs.size) { s with heap := s.heap.push { cls := .type "tuple", data := .seq ((items.toList.drop (dD items.size 0 lo)).take (dD items.size items.size hi - dD items.size 0 lo)).toArray } })
   (PL : items.size <= sizeLine) : wpAny (model prog w) A (getItem (.ref t) (.ref sl)) Q E s := by
 have As : sizeOk (.seq ((items.toList.drop (dD items.size 0 lo)).take (dD items.size items.size hi - dD items.size 0 lo)).toArray) := by
   show ((items.toList.drop (dD items.size 0 lo)).take (dD items.size items.size hi - dD items.size 0 lo)).toArray.size <= sizeLine
   rw [List.size_toArray, List.length_take, List.length_drop, Array.length_toList]
   omega
 have hj : dD items.size items.size hi <= items.size := J1 _ _ (Nat.le_refl _) hi
 obtain ⟨os, J2, Ri, OO⟩ := id hs
 have Si : s.TypeIs (.ref sl) "slice" := ⟨os, J2, Ri⟩
 unfold getItem
 try with_reducible refine wpAny_holding ?_
 first | refine wpAny_bind (wpAny_pure ?_) | skip
 refine wpAny_bind (wpAny_sequenceKey ht.typeIs (by decide) ?_)
 refine wpAny_bind (wpAny_callSpecial?_slot (name := Str.ofString "__getitem__") ht.typeIs PyProof.Rows.slot_tuple_getitem
   (wpAny_call_entry PyProof.Rows.slot_tuple_getitem ht.typeIs entry_tuple_getitem ?_ (args_tuple_getitem _ _)))
 show wpAny _ _ (Builtin.Tuple.tupleItemsOf (.ref t) >>= _) _ _ s
 refine wpAny_bind (tupleItemsOf_ ht ?_)
 refine wpAny_bind (wpAny_typeOf Si ?_)
 rw [if_pos (by decide)]
 refine wpAny_bind (nS hs pl pu ?_)
 have DB : ¬ ((((dD items.size 0 lo : Nat) : Int) == 0 && (1 : Int) == 1 && (dD items.size items.size hi - dD items.size 0 lo) == items.size) = true) := by
   intro q
   rw [Bool.and_eq_true, Bool.and_eq_true] at q
   have q1 : ((dD items.size 0 lo : Nat) : Int) = 0 := eq_of_beq q.1.1
   have q2 : dD items.size items.size hi - dD items.size 0 lo = items.size := eq_of_beq q.2
   exact hw ⟨by omega, by omega⟩
 show wpAny _ _ (if (((dD items.size 0 lo : Nat) : Int) == 0 && (1 : Int) == 1 && (dD items.size items.size hi - dD items.size 0 lo) == items.size) = true then _ else _) _ _ s
 rw [if_neg DB, Dz]
 first
   | exact wpAny_bind (m := Builtin.Tuple.tupleExact _) (wpAny_newObj_type (wpAny_pure ⟨_, rfl, wpAny_pure h⟩) As)
   | exact wpAny_bind (m := Builtin.Tuple.tupleExact _) (wpAny_newObj_type (wpAny_bind (wpAny_pure (wpAny_pure ⟨_, rfl, wpAny_pure h⟩))) As)
   | exact wpAny_bind (wpAny_bind (m := Builtin.Tuple.tupleExact _) (wpAny_newObj_type (wpAny_pure (wpAny_pure ⟨_, rfl, wpAny_pure h⟩)) As))
   | exact wpAny_bind (wpAny_bind (m := Builtin.Tuple.tupleExact _) (wpAny_newObj_type (wpAny_pure ⟨_, rfl, wpAny_pure h⟩) As))
end
end HT
namespace L2
open PySem PySem.Spec PyProof.Rows
noncomputable abbrev TO := St -> Hp -> (Option Int -> Hp -> Prop) -> Prop
noncomputable def PO (X : Cx) (e : Option Expr) (t : TO) : Prop :=
 ∀ (pins : List (Addr × Obj)) (s : Shared) (σ : St) (H : Hp) (Q : Option Int -> Hp -> Prop), Inv X pins σ H s -> t σ H Q →
   wpAny (model X.prog X.w) X.A (evalPart e X.env) (fun u s' => ∃ o H', Inv X pins σ H' s' /\ IsPart u o /\ Q o H') X.xe s
noncomputable def GN : TO := fun _ H Q => Q none H
noncomputable def MY (t : TE) : TO := fun σ H Q => t σ H fun x H1 => ∃ i, x = .int i /\ Q (some i) H1
section
variable {X : Cx} {e : Expr} {te : TE} {lo hi : Option Expr} {tl th : TO} {pos p2 : Pos}
theorem GO : PO X none GN := by
 intro pins s σ H Q I h
 rw [evalPart_none]
 exact U6 ⟨none, H, I, .none, h⟩
theorem GP (h : PE X e te) : PO X (some e) (MY te) := by
 intro pins s σ H Q I hw
 rw [evalPart_some]
 refine dQ (h pins s σ H _ I hw) fun u s1 zz => ?_
 obtain ⟨x, H1, I1, r1, q1⟩ := zz
 obtain ⟨i, rfl, q⟩ := q1
 obtain ⟨t, rfl⟩ := r1
 exact ⟨some i, H1, I1, .int i t, q⟩
noncomputable def P4 (X : Cx) (r : V -> Option Int -> Option Int -> Hp -> VK -> Prop) : Prop :=
 ∀ (pins : List (Addr × Obj)) (s : Shared) (σ : St) (H : Hp) (x : V) (v vl vu : Value) (lo hi : Option Int) (sl : Addr) (Q : VK), Inv X pins σ H s -> RelV x v -> s.heap.IsSliceOf sl vl vu .none -> IsPart vl lo -> IsPart vu hi -> r x lo hi H Q →
   ∃ T id, typeLookup (.type T) "__getitem__" = pure (some (.builtin id)) /\ s.TypeIs v T /\ wpAny (model X.prog X.w) X.A (getItem v (.ref sl)) (EP X pins σ Q) X.xe s
noncomputable def Sj (r : V -> Option Int -> Option Int -> Hp -> VK -> Prop) (te : TE) (tl th : TO) : TE := fun σ H Q => te σ H fun x H1 => tl σ H1 fun l H2 => th σ H2 fun u H3 => r x l u H3 Q
theorem vQ {r : V -> Option Int -> Option Int -> Hp -> VK -> Prop} (hr : P4 X r) (he : PE X e te) (hl : PO X lo tl) (hu : PO X hi th) : PE X (.Subscript e (.Slice lo hi none p2) pos) (Sj r te tl th) := by
 intro pins s σ H Q I h
 refine Subscript_ (dQ (he pins s σ H _ I h) fun v s1 zz => ?_)
 obtain ⟨x, H1, I1, r1, q1⟩ := zz
 refine wpAny_Slice (dQ (hl pins s1 σ H1 _ I1 q1) fun vl s2 ⟨l, H2, I2, pl, q2⟩ => dQ (hu pins s2 σ H2 _ I2 q2) fun vu s3 zz => ?_)
 obtain ⟨u, H3, I3, pu, q3⟩ := zz
 rw [evalPart_none]
 refine U6 ?_
 have I4 : Inv X pins σ H3 { s3 with heap := s3.heap.push { cls := .type "slice", data := .fields #[vl, vu, .none] } } := I3.kept (t' := s3.toks) fun b ob q => UU _ q
 obtain ⟨T, id, hT, ht, hg⟩ := hr pins { s3 with heap := s3.heap.push { cls := .type "slice", data := .fields #[vl, vu, .none] } } σ H3 x v vl vu l u s3.heap.objs.size Q I4 r1 (Heap.IsSliceOf.new ..) pl pu q3
 show wpAny (model X.prog X.w) X.A (subscriptTail e (.Slice lo hi none p2) v (.ref s3.heap.objs.size)) (EP X pins σ Q) X.xe { s3 with heap := s3.heap.push { cls := .type "slice", data := .fields #[vl, vu, .none] } }
 exact tail_any (ops := [.ref s3.heap.objs.size, v]) ht hT hg (by with_unfolding_all rfl)
noncomputable def vR (xs : List V) (lo hi : Option Int) : List V := (xs.drop (HT.dD xs.length 0 lo)).take (HT.dD xs.length xs.length hi - HT.dD xs.length 0 lo)
theorem pH (xs : List V) (lo hi : Option Int) : (vR xs lo hi).length <= xs.length := by
 unfold vR
 rw [VR, List.length_drop]
 omega
noncomputable def P5 (K : PySem.W.Frag) : V -> Option Int -> Option Int -> Hp -> VK -> Prop := fun x lo hi H Q => ∃ a xs, x = .ref a /\ qb K H a xs ∧
 ¬ (HT.dD xs.length 0 lo = 0 /\ HT.dD xs.length xs.length hi = xs.length) /\ ∀ p, H p = none -> Q (.ref p) (upd H p (.tup (vR xs lo hi)))
theorem J3 : P4 X (P5 X.K) := by
 intro pins s σ H x v vl vu lo hi sl Q I rx hs pl pu h
 obtain ⟨a, xs, rfl, hx, hw, q⟩ := h
 cases rx
 obtain ⟨its, r, ht, hz⟩ := I.tuple hx
 have hlen : its.toArray.size = xs.length := by rw [U7]; exact r.length.symm
 refine ⟨"tuple", _, VX.lookup, ht.typeIs, ?_⟩
 refine HT.mF ht hs pl pu (by rw [hlen]; exact hw) ?_ (by rw [hlen]; exact hz)
 rw [hlen]
 refine ⟨.ref s.heap.objs.size, _, I.laid (t' := s.toks) (o := .tup (vR xs lo hi)) (fun b ob q => UU _ q) (UJ _) ?_, rfl, q _ (I.dB.fresh (UJ _))⟩
 exact ⟨U3 (pH xs lo hi) hz, _, (r.drop (HT.dD xs.length 0 lo)).take (HT.dD xs.length xs.length hi - HT.dD xs.length 0 lo), IsTup.new _ _⟩
noncomputable def MZ (K : PySem.W.Frag) : R2 := fun x y H Q => ∃ a b xs ys, x = .ref a /\ y = .ref b /\ qb K H a xs /\ qb K H b ys /\ xs ≠ [] /\ xs.length + ys.length <= sizeLine ∧
 (ys = [] -> Q (.ref a) H) /\ (ys ≠ [] -> ∀ p, H p = none -> Q (.ref p) (upd H p (.tup (xs ++ ys))))
theorem Vals.tT {xs : List V} {us : List Value} (r : Vals xs us) : us = [] ↔ xs = [] := by
 cases r with
 | nil => simp
 | cons _ _ => simp
theorem GQ : pC X (binaryOp .Add) (MZ X.K) := by
 intro pins s σ H x y v u Q I rx ry h
 obtain ⟨a, b, xs, ys, rfl, rfl, ha, hb, hx, hz, q1, q2⟩ := h
 cases rx
 cases ry
 obtain ⟨its, r1, p1, _⟩ := I.tuple ha
 obtain ⟨DC, r2, p2, _⟩ := I.tuple hb
 refine HT.GJ p1 p2 (fun z => hx (r1.tT.mp z)) (fun z => ⟨.ref a, H, I, rfl, q1 (r2.tT.mp z)⟩) (fun z => ?_) (by rw [← r1.length, ← r2.length]; exact hz)
 refine ⟨.ref s.heap.objs.size, _, I.laid (t' := s.toks) (o := .tup (xs ++ ys)) (fun b ob q => UU _ q) (UJ _) ?_, rfl, q2 (fun w => z (r2.tT.mpr w)) _ (I.dB.fresh (UJ _))⟩
 exact ⟨by rw [UM]; exact hz, _, r1.append r2, IsTup.new _ _⟩
end
noncomputable def Bs (n : Nat) (i : Int) : Option Nat := if 0 <= i then (if i < n then some i.toNat else none) else if -(n : Int) <= i then some (i + n).toNat else none
noncomputable def sC {α : Type} (xs : List α) (i : Int) : Option α := (Bs xs.length i).bind fun j => xs[j]?
theorem tU {n : Nat} {i : Int} {j : Nat} (h : Bs n i = some j) : seqIndex? i n = some j /\ j < n /\ -(n : Int) <= i /\ i < n := by
 unfold Bs at h
 by_cases h0 : 0 <= i
 . rw [UR h0] at h
   by_cases h1 : i < n
   . rw [UR h1] at h
     have e : i.toNat = j := U4 h
     exact ⟨by rw [seqIndex_of h0 h1, e], by omega, by omega, h1⟩
   . rw [UE h1] at h; cases h
 . rw [UE h0] at h
   by_cases h1 : -(n : Int) <= i
   . rw [UR h1] at h
     have e : (i + n).toNat = j := U4 h
     exact ⟨by rw [seqIndex_neg (by omega) h1, e], by omega, h1, by omega⟩
   . rw [UE h1] at h; cases h
theorem tV {α : Type} {xs : List α} {i : Int} {v : α} (h : sC xs i = some v) : ∃ j, seqIndex? i xs.length = some j /\ xs[j]? = some v /\ j < xs.length /\ -(xs.length : Int) <= i /\ i < xs.length := by
 unfold sC at h
 cases e : Bs xs.length i with
 | none => rw [e] at h; cases h
 | some j =>
   rw [e] at h
   obtain ⟨h1, h2, h3, h4⟩ := tU e
   exact ⟨j, h1, h, h2, h3, h4⟩
theorem qq {α : Type} {xs : List α} {j : Nat} {v : α} (h : xs[j]? = some v) : sC xs (j : Int) = some v := by
 have hj : j < xs.length := (Vw.mp h).1
 have e : Bs xs.length (j : Int) = some j := by
   unfold Bs
   rw [UR (by omega), UR (by omega)]; simp
 unfold sC; rw [e]; exact h
noncomputable def ku (b : Expr) : Prop := ∀ o i, subscripted b false o i = operate [o, i] (getItem o i)
noncomputable def OQ (X : Cx) (r : R2) : Prop :=
 ∀ (value slice : Expr) (pins : List (Addr × Obj)) (s : Shared) (σ : St) (H : Hp) (x y : V) (v u : Value) (Q : VK), Inv X pins σ H s -> RelV x v -> RelV y u -> r x y H Q →
   subscripted slice false v u = operate [v, u] (getItem v u) -> wpAny (model X.prog X.w) X.A (subscriptTail value slice v u) (EP X pins σ Q) X.xe s
noncomputable def P6 (X : Cx) (id : String) (r : V -> List V -> Hp -> VK -> Prop) : Prop :=
 ∀ (pins : List (Addr × Obj)) (s : Shared) (σ : St) (H : Hp) (x : V) (xs : List V) (v : Value) (us : List Value) (Q : VK), Inv X pins σ H s -> RelV x v -> Vals xs us -> r x xs H Q →
   wpAny (model X.prog X.w) X.A (call (.builtin id) (v :: us)) (EP X pins σ Q) X.xe s
section
variable {X : Cx} {a b : Expr} {ta tb : TE} {pos : Pos}
theorem vS {r : R2} (hr : OQ X r) (ha : PE X a ta) (hb : PE X b tb) (hs : ku b) : PE X (.Subscript a b pos) (OI r ta tb) := by
 intro pins s σ H Q I h
 exact Subscript_ (JL ha hb I h fun v u s2 x y H2 I2 rx ry q => hr a b pins s2 σ H2 x y v u Q I2 rx ry q (hs _ _))
noncomputable def P7 (K : PySem.W.Frag) : R2 := fun x y H Q => ∃ p xs i v, x = .ref p /\ y = .int i /\ nP K H p xs /\ sC xs i = some v /\ Q v H
noncomputable def P8 (K : PySem.W.Frag) : R2 := fun x y H Q => ∃ p xs i v, x = .ref p /\ y = .int i /\ qb K H p xs /\ sC xs i = some v /\ Q v H
noncomputable def P9 : R2 := fun x y H Q => ∃ z i c, x = .str z /\ y = .int i /\ z.length <= sizeLine /\ sC z.cps.toList i = some c /\ Q (.str ⟨#[c]⟩) H
theorem Au : OQ X (P7 X.K) := by
 intro value slice pins s σ H x y v u Q I rx ry h hs
 obtain ⟨p, xs, i, z, rfl, rfl, hq, he, q⟩ := h
 cases rx
 obtain ⟨t, rfl⟩ := ry
 obtain ⟨its, r, pl, hz⟩ := I.list hq
 obtain ⟨j, h1, h2, h3, h4, h5⟩ := tV he
 obtain ⟨w, ew, J4⟩ := r.get h2
 have hl := r.length
 have hn := qM
 have fin : EP X pins σ Q w s := ⟨z, H, I, J4, q⟩
 by_cases h0 : 0 <= i
 . have hj : i.toNat = j := by
     rw [seqIndex_of h0 h5] at h1
     exact U4 h1
   exact item_listR pl.isList h0 (by omega) (by rw [hj]; simpa using ew) fin hs
 . have hj : (i + (its.toArray.size : Int)).toNat = j := by
     rw [seqIndex_neg (by omega) h4] at h1
     rw [U7, ← hl]
     exact U4 h1
   exact subscriptTail_builtinR (x := w) pl.isList.typeIs slot_list_getitem.lookup
     (wpAny_getItem_list_neg (Q := fun r s' => r = w /\ EP X pins σ Q r s') pl.isList (by omega) (by rw [List.size_toArray] <;> omega) (by omega) (by rw [hj]; simpa using ew) ⟨rfl, fin⟩) hs
theorem DE : OQ X (P8 X.K) := by
 intro value slice pins s σ H x y v u Q I rx ry h hs
 obtain ⟨p, xs, i, z, rfl, rfl, hq, he, q⟩ := h
 cases rx
 obtain ⟨t, rfl⟩ := ry
 obtain ⟨its, r, pl, hz⟩ := I.tuple hq
 obtain ⟨j, h1, h2, h3, h4, h5⟩ := tV he
 obtain ⟨w, ew, J4⟩ := r.get h2
 have hl := r.length
 have hn := qM
 have fin : EP X pins σ Q w s := ⟨z, H, I, J4, q⟩
 exact subscriptTail_builtinR (x := w) pl.typeIs slot_tuple_getitem.lookup
   (getItem_tuple (j := j) (Q := fun r s' => r = w /\ EP X pins σ Q r s') pl (by omega) (by omega) (by rw [List.size_toArray, ← hl]; exact h1) (by simpa using ew) ⟨rfl, fin⟩) hs
theorem J5 : OQ X P9 := by
 intro value slice pins s σ H x y v u Q I rx ry h hs
 obtain ⟨z, i, c, rfl, rfl, hz, he, q⟩ := h
 obtain ⟨t, rfl⟩ := rx
 obtain ⟨t', rfl⟩ := ry
 obtain ⟨j, h1, h2, h3, h4, h5⟩ := tV he
 have hl : z.cps.toList.length = z.length := by simp [Str.length]
 rw [hl] at h1 h4 h5
 have hn := qM
 exact tail_any (typeIs_str s z t) slot_str_getitem.lookup (getItem_str (c := c) (by
   have e1 : decide (i < -(2 ^ 63 : Int)) = false := Vv (by omega)
   have e2 : decide (i ≥ 2 ^ 63) = false := Vv (by omega)
   rw [e1, e2, Bool.or_false]) (by rw [h1]; simpa using h2) ⟨.str ⟨#[c]⟩, H, I.tok _, ⟨_, rfl⟩, q⟩) hs
theorem yi (its : List Value) (n j : Nat) (u : Value) : Obj.mapSeq (·.setIfInBounds j u) { cls := .type "list", data := .seq its.toArray n } = { cls := .type "list", data := .seq (its.set j u).toArray n } := by
 simp [Obj.mapSeq]
theorem Inv.lst {pins : List (Addr × Obj)} {σ : St} {H : Hp} {s : Shared} {p : Addr} {xs : List V} (I : Inv X pins σ H s) (h : H p = some (.lst xs)) :
   ∃ (its : List Value) (n : Nat), Vals xs its /\ s.heap.get? p = some { cls := .type "list", data := .seq its.toArray n } /\ xs.length <= sizeLine := by
 obtain ⟨z, its, n, r, e⟩ := I.dB p _ h
 exact ⟨its, n, r, e, z⟩
theorem Inv.J6 {pins : List (Addr × Obj)} {σ : St} {H : Hp} {s : Shared} {p : Addr} {xs ys : List V} {its its' : List Value} {n n' : Nat} {f : Obj -> Obj} (I : Inv X pins σ H s) (h : H p = some (.lst xs))
   (ho : s.heap.get? p = some { cls := .type "list", data := .seq its.toArray n }) (hf : f { cls := .type "list", data := .seq its.toArray n } = { cls := .type "list", data := .seq its'.toArray n' }) (r : Vals ys its') (hz : ys.length <= sizeLine) (t : Nat) :
   Inv X pins σ (upd H p (.lst ys)) { s with heap := s.heap.update p f, toks := t } := by
 have e : (s.heap.update p f).get? p = some { cls := .type "list", data := .seq its'.toArray n' } := by
   rw [Heap.get?_update_self f ho (by rw [hf] <;> rfl), hf]
 refine I.write (x := p) (e := p) (by rw [h]; trivial) (.inl rfl) (fun b u hb q => (Heap.get?_update_other _ _ (Ne.symm hb)).trans q) ⟨_, e⟩ ?_
 exact ⟨hz, its', n', r, e⟩
noncomputable def M0 : V -> V -> V -> Hp -> (Hp -> Prop) -> Prop := fun o i v H Q => ∃ p xs k j, o = .ref p /\ i = .int k /\ H p = some (.lst xs) /\ Bs xs.length k = some j /\ Q (upd H p (.lst (xs.set j v)))
theorem set_list : Mw X M0 := by
 intro pins s σ H o i v ov iv u Q I ro ri rv h
 obtain ⟨p, xs, k, j, rfl, rfl, hp, hj, q⟩ := h
 cases ro
 obtain ⟨t, rfl⟩ := ri
 obtain ⟨its, n, r, ho, hz⟩ := I.lst hp
 obtain ⟨h1, h2, h3, h4⟩ := tU hj
 have hl := r.length
 have hn := qM
 have I' : Inv X pins σ (upd H p (.lst (xs.set j v))) { s with heap := s.heap.update p (Obj.mapSeq (·.setIfInBounds j u)) } :=
   I.J6 hp ho (yi its n j u) (r.set rv j) (by rw [List.length_set]; exact hz) s.toks
 by_cases h0 : 0 <= k
 . have hk : k.toNat = j := by
     rw [seqIndex_of h0 h4] at h1
     exact U4 h1
   exact PySem.W.ki_setAt ho h0 (by omega) (by rw [U7, ← hl]; exact h4) (by rw [hk]; exact ⟨_, I', q⟩)
 . have hk : (k + (its.toArray.size : Int)).toNat = j := by
     rw [seqIndex_neg (by omega) h3] at h1
     rw [U7, ← hl]
     exact U4 h1
   exact PySem.W.ki_setBack ho (by omega) (by rw [U7, ← hl]; exact h3) (by omega) (by rw [hk]; exact ⟨_, I', q⟩)
theorem tW (lo hi : Option Int) (n : Nat) : (sliceBounds lo hi none n).1 = ((HT.dD n 0 lo : Nat) : Int) /\ (sliceBounds lo hi none n).2.1 = ((HT.dD n n hi : Nat) : Int) /\ (sliceBounds lo hi none n).2.2 = 1 := by
 refine ⟨?_, ?_, rfl⟩
 . cases lo with
   | none => simp [sliceBounds, HT.dD]
   | some i =>
     simp only [sliceBounds, HT.dD, Option.getD_none, show (1 : Int) > 0 by decide, if_true]
     by_cases h : i < 0
     . simp only [h, if_true] <;> omega
     . simp only [h, if_false] <;> omega
 . cases hi with
   | none => simp [sliceBounds, HT.dD]
   | some i =>
     simp only [sliceBounds, HT.dD, Option.getD_none, show (1 : Int) > 0 by decide, if_true]
     by_cases h : i < 0
     . simp only [h, if_true] <;> omega
     . simp only [h, if_false] <;> omega
theorem sF (its : List Value) (lo hi : Option Int) : slicePick its.toArray lo hi none = ((its.drop (HT.dD its.length 0 lo)).take (HT.dD its.length its.length hi - HT.dD its.length 0 lo)).toArray := by
 obtain ⟨h1, h2, h3⟩ := tW lo hi its.toArray.size
 unfold slicePick
 rw [h1, h2, h3]
 simp only [sliceRange_one, pick_run, U7] <;> rfl
noncomputable def Qa (K : PySem.W.Frag) : V -> Option Int -> Option Int -> Hp -> VK -> Prop := fun x lo hi H Q => ∃ a xs, x = .ref a /\ nP K H a xs /\ ∀ p, H p = none -> Q (.ref p) (upd H p (.lst (vR xs lo hi)))
theorem GR : P4 X (Qa X.K) := by
 intro pins s σ H x v vl vu lo hi sl Q I rx hs pl pu h
 obtain ⟨a, xs, rfl, hx, q⟩ := h
 cases rx
 obtain ⟨its, r, ht, hz⟩ := I.list hx
 have hlen := r.length
 refine ⟨"list", _, slot_list_getitem.lookup, ht.isList.typeIs, ?_⟩
 refine wpAny_getItem_list_slice ht.isList hs pl pu .none (by simp) ?_ (by rw [U7] <;> omega)
 rw [sF, ← hlen]
 refine ⟨.ref s.heap.objs.size, _, I.laid (t' := s.toks) (o := .lst (vR xs lo hi)) (fun b ob q => UU _ q) (UJ _) ?_, rfl, q _ (I.dB.fresh (UJ _))⟩
 exact ⟨U3 (pH xs lo hi) hz, _, 0, (r.drop (HT.dD xs.length 0 lo)).take (HT.dD xs.length xs.length hi - HT.dD xs.length 0 lo), Vm _ rfl⟩
noncomputable def mG : V -> Bool
 | .non => true
 | .bl _ => true
 | .int _ => true
 | .str _ => true
 | _ => false
noncomputable def GU : V -> V -> Bool
 | .non, .non => true
 | .bl a, .bl b => a == b
 | .bl a, .int b => (if a then 1 else 0) == b
 | .int a, .bl b => a == (if b then 1 else 0)
 | .int a, .int b => a == b
 | .str a, .str b => a == b
 | _, _ => false
theorem J7 {A : Around} {s : Shared} {y x : V} {u v : Value} (ry : RelV y u) (rx : RelV x v) (fy : mG y = true) (fx : mG x = true) : SeqAt.EqAt A s u v (GU y x) := by
 cases y with
 | non =>
   cases ry
   cases x with
   | non => cases rx; exact SeqAt.EqAt.same _
   | bl b => cases rx; exact SeqAt.EqAt.none_bool b
   | int b => obtain ⟨t, rfl⟩ := rx; exact SeqAt.EqAt.none_int b t
   | str b => obtain ⟨t, rfl⟩ := rx; exact SeqAt.EqAt.none_str b t
   | _ => exact absurd (show false = true from fx) UL
 | bl a =>
   cases ry
   cases x with
   | non => cases rx; exact SeqAt.EqAt.bool_none a
   | bl b => cases rx; exact SeqAt.EqAt.bool_bool a b
   | int b => obtain ⟨t, rfl⟩ := rx; exact SeqAt.EqAt.bool_int a b t
   | str b => obtain ⟨t, rfl⟩ := rx; exact SeqAt.EqAt.bool_str a b t
   | _ => exact absurd (show false = true from fx) UL
 | int a =>
   obtain ⟨t', rfl⟩ := ry
   cases x with
   | non => cases rx; exact SeqAt.EqAt.int_none a t'
   | bl b => cases rx; exact SeqAt.EqAt.int_bool a t' b
   | int b => obtain ⟨t, rfl⟩ := rx; exact SeqAt.EqAt.int_int a t' b t
   | str b => obtain ⟨t, rfl⟩ := rx; exact SeqAt.EqAt.int_str a t' b t
   | _ => exact absurd (show false = true from fx) UL
 | str a =>
   obtain ⟨t', rfl⟩ := ry
   cases x with
   | non => cases rx; exact SeqAt.EqAt.str_none a t'
   | bl b => cases rx; exact SeqAt.EqAt.str_bool a t' b
   | int b => obtain ⟨t, rfl⟩ := rx; exact SeqAt.EqAt.str_int a t' b t
   | str b => obtain ⟨t, rfl⟩ := rx; exact SeqAt.EqAt.str_str a t' b t
   | _ => exact absurd (show false = true from fx) UL
 | _ => exact absurd (show false = true from fy) UL
noncomputable def yj (x : V) (u : Value) : Bool := match u with
 | .none => GU .non x
 | .bool b => GU (.bl b) x
 | .int i _ => GU (.int i) x
 | .str z _ => GU (.str z) x
 | _ => false
theorem DF {x y : V} {u : Value} (r : RelV y u) (f : mG y = true) : yj x u = GU y x := by
 cases y with
 | non => cases r; rfl
 | bl b => cases r; rfl
 | int i => obtain ⟨t, rfl⟩ := r; rfl
 | str z => obtain ⟨t, rfl⟩ := r; rfl
 | _ => exact absurd (show false = true from f) UL
theorem mH {x : V} : ∀ {xs : List V} {us : List Value}, Vals xs us -> xs.all mG = true -> us.any (yj x) = xs.any fun y => GU y x
 | _, _, .nil, _ => rfl
 | y :: xs, u :: us, .cons r t, f => by
   rw [List.all_cons, Vd] at f
   rw [List.any_cons, List.any_cons, DF r f.1, mH t f.2]
theorem jJ {A : Around} {s : Shared} {x : V} {v : Value} (rx : RelV x v) (fx : mG x = true) : ∀ {xs : List V} {us : List Value}, Vals xs us -> xs.all mG = true -> ∀ u ∈ us, SeqAt.EqAt A s u v (yj x u)
 | _, _, .nil, _ => fun u hu => by cases hu
 | y :: xs, u :: us, .cons r t, f => fun u' hu => by
   rw [List.all_cons, Vd] at f
   rcases UA.mp hu with rfl | hu
   . rw [DF r f.1]; exact J7 r rx f.1 fx
   . exact jJ rx fx t f.2 u' hu
noncomputable def M3 (x : V) (xs : List V) : Bool := xs.any fun y => GU y x
noncomputable def Rj (K : PySem.W.Frag) (neg : Bool) : R2 := fun x y H Q => ∃ p xs, y = .ref p /\ (nP K H p xs \/ qb K H p xs) /\ mG x = true /\ xs.all mG = true /\ Q (.bl (if neg then !M3 x xs else M3 x xs)) H
theorem sU : pC X (compareOp .In) (Rj X.K false) := by
 intro pins s σ H x y v u Q I rx ry h
 obtain ⟨p, xs, rfl, hq, fx, fs, q⟩ := h
 cases ry
 rcases hq with hq | hq
 . obtain ⟨its, r, pl, hz⟩ := I.list hq
   refine SeqAt.in_listAt (yj x) pl.isList (fun w hw => jJ rx fx r fs w (by simpa using hw)) ⟨.bl _, H, I, rfl, ?_⟩
   rw [show its.toArray.any (yj x) = its.any (yj x) by simp, mH r fs]
   exact q
 . obtain ⟨its, r, pl, hz⟩ := I.tuple hq
   refine SeqAt.in_tupleAt (yj x) pl (fun w hw => jJ rx fx r fs w (by simpa using hw)) ⟨.bl _, H, I, rfl, ?_⟩
   rw [show its.toArray.any (yj x) = its.any (yj x) by simp, mH r fs]
   exact q
theorem mJ : pC X (compareOp .NotIn) (Rj X.K true) := by
 intro pins s σ H x y v u Q I rx ry h
 obtain ⟨p, xs, rfl, hq, fx, fs, q⟩ := h
 cases ry
 rcases hq with hq | hq
 . obtain ⟨its, r, pl, hz⟩ := I.list hq
   refine SeqAt.notIn_listAt (yj x) pl.isList (fun w hw => jJ rx fx r fs w (by simpa using hw)) ⟨.bl _, H, I, rfl, ?_⟩
   rw [show its.toArray.any (yj x) = its.any (yj x) by simp, mH r fs]
   exact q
 . obtain ⟨its, r, pl, hz⟩ := I.tuple hq
   refine SeqAt.notIn_tupleAt (yj x) pl (fun w hw => jJ rx fx r fs w (by simpa using hw)) ⟨.bl _, H, I, rfl, ?_⟩
   rw [show its.toArray.any (yj x) = its.any (yj x) by simp, mH r fs]
   exact q
theorem mK : pD X (.builtin "len") (fun xs H Q => ∃ p ys, xs = [.ref p] /\ (nP X.K H p ys \/ qb X.K H p ys) /\ Q (.int ys.length) H) := by
 intro pins s σ H xs us Q I r h
 obtain ⟨p, ys, rfl, hq, q⟩ := h
 obtain ⟨u, rfl, rx⟩ := vals1 r
 cases rx
 have hn := qM
 rcases hq with hq | hq
 . obtain ⟨its, r', pl, hz⟩ := I.list hq
   have hlen := r'.length
   exact Calls.call_len_list pl.isList (by simp only [U7] <;> omega) ⟨.int ys.length, H, I.tok _, ⟨s.toks + 1, by rw [U7, hlen]⟩, q⟩
 . obtain ⟨its, r', pl, hz⟩ := I.tuple hq
   have hlen := r'.length
   exact len_tuple pl (by simp only [U7] <;> omega) ⟨.int ys.length, H, I.tok _, ⟨s.toks + 1, by rw [U7, hlen]⟩, q⟩
theorem tX : pD X (.type "list") (fun xs H Q => ∃ p ys, xs = [.ref p] /\ (nP X.K H p ys \/ qb X.K H p ys) /\ ∀ l, H l = none -> Q (.ref l) (upd H l (.lst ys))) := by
 intro pins s σ H xs us Q I r h
 obtain ⟨p, ys, rfl, hq, q⟩ := h
 obtain ⟨u, rfl, rx⟩ := vals1 r
 cases rx
 have fin : ∀ (its : List Value), Vals ys its -> ys.length <= sizeLine -> ∀ (h' : Heap) (c' : Nat), (∀ b o', s.heap.get? b = some o' -> h'.get? b = some o') →
     h'.get? s.heap.objs.size = some { cls := .type "list", dict := none, data := .seq its.toArray c', slots := #[] } -> EP X pins σ Q (.ref s.heap.objs.size) { s with heap := h' } := fun its r' hz h' c' kp e =>
   ⟨.ref s.heap.objs.size, _, I.laid (t' := s.toks) kp (UJ _) (show gJ X.prog X.w _ h' _ (.lst ys) from ⟨hz, its, c', r', e⟩), rfl, q _ (I.dB.fresh (UJ _))⟩
 rcases hq with hq | hq
 . obtain ⟨its, r', pl, hz⟩ := I.list hq
   have hlen := r'.length
   obtain ⟨o, ho, hc, n, hd⟩ := pl.isList
   exact call_list_seq p (.inl rfl) ho hc hd (fun h' c' kp e => fin its r' hz h' c' kp e) (by simp only [U7] <;> omega)
 . obtain ⟨its, r', pl, hz⟩ := I.tuple hq
   have hlen := r'.length
   obtain ⟨o, ho, hc, n, hd⟩ := pl
   exact call_list_seq p (.inr rfl) ho hc hd (fun h' c' kp e => fin its r' hz h' c' kp e) (by simp only [U7] <;> omega)
noncomputable def Rk (K : PySem.W.Frag) (T : String) (x : V) (H : Hp) : Prop := match x with
 | .str _ => T = "str"
 | .int _ => T = "int"
 | .ref p => (T = "list" /\ ∃ xs, nP K H p xs) \/ (T = "tuple" /\ ∃ o, K.lookup p = some o /\ o.cls = .type "tuple" /\ o.dict = none) ∨
     (T = "dict" /\ ((∃ jF, H p = some (.dK jF)) \/ ∃ jF, H p = some (.dT jF))) \/ (T = "set" /\ ∃ S n, H p = some (.set S n))
 | _ => False
theorem J8 {pins : List (Addr × Obj)} {σ : St} {H : Hp} {s : Shared} {T : String} {x : V} {v : Value} (I : Inv X pins σ H s) (r : RelV x v) (ty : Rk X.K T x H) :
   s.TypeIs v T /\ ∀ a, v = .ref a -> ∃ ob, s.heap.get? a = some ob /\ ob.dict = none := by
 cases x with
 | str z =>
   obtain ⟨t, rfl⟩ := r
   cases (show T = "str" from ty)
   exact ⟨typeIs_str s z t, fun _ e => nomatch e⟩
 | int i =>
   obtain ⟨t, rfl⟩ := r
   cases (show T = "int" from ty)
   exact ⟨typeIs_int s i t, fun _ e => nomatch e⟩
 | ref p =>
   cases r
   rcases ty with ⟨rfl, xs, hq⟩ | ⟨rfl, o, hk, hc, hd⟩ | ⟨rfl, hk⟩ | ⟨rfl, S, n, hk⟩
   . obtain ⟨its, _, pl, _⟩ := I.list hq
     refine ⟨pl.isList.typeIs, fun a e => ?_⟩
     cases e
     obtain ⟨o, n, e, c, hd, _⟩ := pl
     exact ⟨o, e, hd⟩
   . refine ⟨⟨o, I.vJ p o hk, hc⟩, fun a e => ?_⟩
     cases e
     exact ⟨o, I.vJ _ o hk, hd⟩
   . have z : ∃ o, s.heap.get? p = some o /\ o.ExactDict := by
       rcases hk with ⟨jF, hk⟩ | ⟨jF, hk⟩
       . obtain ⟨_, _, _, _, o, _, _, e, ex, _⟩ := I.dB p _ hk
         exact ⟨o, e, ex⟩
       . obtain ⟨_, _, _, _, o, _, _, e, ex, _⟩ := I.dB p _ hk
         exact ⟨o, e, ex⟩
     obtain ⟨o, e, ex⟩ := z
     refine ⟨⟨o, e, ex.1⟩, fun a e2 => ?_⟩
     cases e2
     exact ⟨o, e, ex.2.1⟩
   . obtain ⟨o, _, _, _, e, ex, _⟩ := I.dB p _ hk
     refine ⟨⟨o, e, ex.1⟩, fun a e2 => ?_⟩
     cases e2
     exact ⟨o, e, ex.2.1⟩
 | _ => exact False.elim ty
noncomputable def Sl (K : PySem.W.Frag) (T : String) (r : V -> List V -> Hp -> VK -> Prop) (to : TE) (t : TA) : TE := fun σ H Q => to σ H fun x H1 => Rk K T x H1 /\ t σ H1 fun xs H2 => r x xs H2 Q
variable {o e : Expr} {es : List Expr} {to : TE} {t : TA} {name : Str} {apos vU : Pos} {T id : String} {r : V -> List V -> Hp -> VK -> Prop}
theorem DG (pa : PlainAttrs T) (slot : Slot T name id) (Sn : typeOf (.builtin id) = pure (.type "method_descriptor")) (hm : P6 X id r) (ho : PE X o to) (ha : PA X (e :: es) t)
   (mL : attributeBase o name X.env (eval o X.env) = eval o X.env := by rfl)
   (tY : ((backTo vU (starEach (e :: es) X.env)).all (fun x => !x.1) && (backToKw vU (keywordEach [] X.env)).all (fun x => x.1.isSome)
     && decide ((e :: es).length + ([] : List Keyword).length + (if ([] : List Keyword).isEmpty then 0 else 1) < 30)) = true := by rfl)
   (hline : (apos.endLine == vU.line) = true := by rfl) (hs : starEach (e :: es) X.env = (false, eval e X.env) :: starEach es X.env := by rfl) (J9 : (backTo vU (starEach es X.env)).any (·.1) = false := by rfl) :
   PE X (.Call (.Attribute o name apos) (e :: es) [] vU) (Sl X.K T r to t) := by
 intro pins s σ H Q I h
 refine wpAny_Call_method_late mL tY hline rfl (dQ (ho pins s σ H _ I h) fun v s1 zz => ?_)
 obtain ⟨x, H1, I1, r1, ty, q1⟩ := zz
 obtain ⟨h1, h2⟩ := J8 I1 r1 ty
 refine ⟨T, id, pa, slot, Sn, h1, h2, ?_⟩
 have hA := ha vU pins s1 σ H1 _ I1 q1
 rw [hs] at hA ⊢
 refine Calls.callWith_builtin (by show (false || (backTo vU (starEach es X.env)).any (·.1)) = false; rw [J9] <;> rfl) (Calls.evalArgs_plain ?_)
 exact dQ hA fun us s2 ⟨vs, H2, I2, r2, q2⟩ => hm pins s2 σ H2 x vs v us Q I2 r1 r2 q2
end
noncomputable def Sq (X : Cx) (id : String) (r : V -> List V -> Hp -> VK -> Prop) : Prop :=
 ∀ (pins : List (Addr × Obj)) (s : Shared) (σ : St) (H : Hp) (x : V) (xs : List V) (v : Value) (us : List Value) (Q : VK), Inv X pins σ H s -> RelV x v -> Vals xs us -> r x xs H Q →
   wpAny (model X.prog X.w) X.A (call (.builtin id) (v :: us)) (EP X pins σ Q) X.xe s
theorem Vals.one {x : V} {us : List Value} (h : Vals [x] us) : ∃ u, us = [u] /\ RelV x u := by
 cases h with
 | cons r h => cases h; exact ⟨_, rfl, r⟩
theorem Vals.two {x y : V} {us : List Value} (h : Vals [x, y] us) : ∃ u v, us = [u, v] /\ RelV x u /\ RelV y v := by
 cases h with
 | cons r h => cases h with
   | cons q h => cases h; exact ⟨_, _, rfl, r, q⟩
section
variable {X : Cx} {pins : List (Addr × Obj)} {σ : St} {H : Hp} {s : Shared} {l b : Addr} {xs ys zs : List V}
theorem Inv.Qc {its its' : List Value} {n : Nat} {f : Array Value -> Array Value} {t' : Nat} (I : Inv X pins σ H s) (hH : H l = some (.lst xs))
   (e : s.heap.get? l = some { cls := .type "list", data := .seq its.toArray n }) (hf : f its.toArray = its'.toArray) (hv : Vals ys its') (hz : ys.length <= sizeLine) :
   Inv X pins σ (upd H l (.lst ys)) { s with heap := s.heap.update l (Obj.mapSeq f), toks := t' } := by
 have q := PySem.IsL.update e f
 rw [hf] at q
 refine I.write (x := l) (e := l) (by rw [hH]; exact trivial) (.inl rfl) (fun b' u hb hu => (Heap.get?_update_other s.heap (Obj.mapSeq f) (Ne.symm hb)).trans hu) ⟨_, q⟩ ?_
 exact ⟨hz, its', _, hv, q⟩
theorem Inv.M4 {its : List Value} {t' : Nat} (I : Inv X pins σ H s) (hv : Vals ys its) (hz : ys.length <= sizeLine) :
   Inv X pins σ (upd H s.heap.objs.size (.lst ys)) { s with heap := s.heap.push { cls := .type "list", data := .seq its.toArray }, toks := t' } :=
 I.laid (fun _ _ q => UU _ q) (UJ _) ⟨hz, its, 0, hv, Vm _ rfl⟩
theorem Inv.fresh (I : Inv X pins σ H s) : H s.heap.objs.size = none := I.dB.fresh (UJ _)
theorem Inv.Qd (I : Inv X pins σ H s) (hH : H l = some (.lst xs)) : xs.length <= sizeLine /\ ∃ (its : List Value) (n : Nat), Vals xs its /\ xs.length = its.length /\ s.heap.get? l = some { cls := .type "list", data := .seq its.toArray n } := by
 obtain ⟨z, its, n, r, e⟩ := I.dB l _ hH
 exact ⟨z, its, n, r, r.length, e⟩
end
section
variable {X : Cx}
noncomputable def GV : V -> List V -> Hp -> VK -> Prop := fun x vs H Q => ∃ l xs y, x = .ref l /\ vs = [y] /\ H l = some (.lst xs) /\ xs.length < sizeLine /\ Q .non (upd H l (.lst (xs ++ [y])))
theorem sV : Sq X "list.append" GV := by
 intro pins s σ H x vs v us Q I rx rv h
 obtain ⟨l, xs, y, rfl, rfl, hH, hz, q⟩ := h
 cases rx
 obtain ⟨u, rfl, ru⟩ := rv.one
 obtain ⟨z, its, n, r, hl, e⟩ := I.Qd hH
 refine call_meets F.slot_list_append ⟨_, e, rfl⟩ F.entry_list_append (F.args_list_append_2 _ _) (PySem.list_append l its.toArray n u (by rw [U7]; omega)) ⟨e, ?_⟩
 refine ⟨.non, _, I.Qc (its' := its ++ [u]) hH e (by simp) (r.append (.cons ru .nil)) ?_, rfl, q⟩
 rw [UM, U0]
 omega
end
section
variable {prog : Program} {w : World} {A : Around} {E : Value -> Shared -> Prop} {s : Shared}
set_option maxRecDepth 100000 in
end
section
variable {X : Cx}
end
end L2
namespace Rl
open PySem PySem.W PySem.Calls PyProof.Rows
theorem qd {P : Params} {h : Heap} : ∀ (ns : List Int) (vs : List Value), WellAll P h vs (ns.map WData.int) -> IntsAre vs ns := by
 intro ns
 induction ns with
 | nil =>
   intro vs w
   rw [List.map_nil] at w
   cases w
   exact .nil
 | cons n ns ih =>
   intro vs w
   rw [List.map_cons] at w
   cases w with
   | cons a b =>
     cases a
     exact .cons _ _ (ih _ b)
theorem Bt {l : OpenLaw} {n : Nat} (hn : l.most = some n) {P : Params} {h : Heap} {args : List WData} {vals : List Value}
   (GX : l.row.toRowW.claim.pre args = true) (Qe : WellAll P h vals args) :
   ∃ a vs ns, vals = [Value.ref a] /\ args = [WData.list (ns.map WData.int)] /\ h.get? a = some { cls := .type "list", data := .seq vs.toArray } /\ IntsAre vs ns /\ ns.length <= n := by
 have Ss : WShape.hasAll [] args [.list .int] = true := (pre_splitW GX).1
 have hc : l.pre.holds [] { args := args } = true := (pre_splitW GX).2
 obtain ⟨d, r, rfl, h1, h2⟩ := hasAllW_cons Ss
 obtain rfl := hasAllW_nil h2
 obtain ⟨xs, rfl, h3⟩ := hasW_list h1
 obtain ⟨ns, rfl⟩ := items_int h3
 have hlen : ns.length <= n := by
   unfold OpenLaw.pre at hc
   have h4 : (WTm.not (.lt (.lit (.int (n : Int))) (.len (.arg 0)))).holds [] { args := [.list (ns.map .int)] } = true := by
     have h4 := (holds_andW hc).1
     rw [hn] at h4
     exact h4
   have h5 := condW_of h4 (w_not (w_lt w_lit (w_len_list (w_arg rfl))))
   rw [List.length_map] at h5
   refine Nat.le_of_not_lt fun q => ?_
   have q' : (n : Int) < ((ns.length : Nat) : Int) := by omega
   first
     | (rw [decide_eq_true q'] at h5; exact absurd h5 (by decide))
     | (simp at h5; omega)
 cases Qe with
 | cons w1 w2 =>
   cases w2
   cases w1 with
   | list ho nT => exact ⟨_, _, ns, rfl, rfl, ho, qd ns _ nT, hlen⟩
theorem Bu (l : OpenLaw) (args : List WData) : l.row.toRowW.claim.post args (.bool true) args = true :=
 postW_of (r := l.row.toRowW) (X := (true == true))
   (show WShape.has [] (.bool true) .bool = true by first | rfl | decide | simp [WShape.has, WShape.arms, WShape.armsAll])
   (show (WTm.eq .res (.lit (.bool true))).value [] { args := args, res := some (.bool true), after := args } = some (.bool (true == true)) from w_eq_bool (w_res rfl) w_lit) rfl
theorem vV {l : OpenLaw} {n : Nat} {q : Program} {loose : List Str} {XP : (Str -> Option Value) -> Heap -> Prop} {YP : World -> Heap -> Prop} {d : DefRec}
   (hn : l.most = some n) (M5 : d.params.defaults = [])
   (call : ∀ (w : World) (s₀ s₁ : Shared) (mg mb : Str -> Option Value) (fa : Addr) (o : Obj) (pm cd doc : Value) (a : Addr) (vs : List Value) (ns : List Int),
     Ground q loose [] XP w s₀ mg mb s₁.heap -> YP w s₁.heap →
     s₁.heap.get? fa = some o -> o.data = .func (docDef d.name d.params d.body d.scope pm cd doc) -> s₁.heap.CodeRec cd d.name -> mg d.name = some (.ref fa) →
     s₁.heap.get? a = some { cls := .type "list", data := .seq vs.toArray } -> IntsAre vs ns -> ns.length <= n -> s₁.gens = #[] →
     codeAny (model l.prog w) callerA (.call (.ref fa) ⟨[.ref a], []⟩) (fun r s' => r = .ok (.ret (.bool true)) /\ OldK s₁.heap s'.heap /\ s'.os = s₁.os /\ AllBare s'.gens) s₁) :
   WalkO q loose XP YP l.row.toRowW d [] (fun f vs => PySem.call f vs) := by
 intro w s₀ s₁ mg mb G Y fa o pm cd doc dV kV ho hd kr hD M6 hg args vals as GX hlay Uk Qe Qf
 obtain rfl : dV = .none := Dflts.none hD M5
 obtain rfl : kV = .none := Dflts.noKw hD
 obtain ⟨a, vs, ns, rfl, rfl, Ka, hints, hlen⟩ := Bt hn GX Qe
 refine enter_call (codeAny_mono (call w s₀ s₁ mg mb fa o pm cd doc a vs ns G Y ho (fd_plain hd) kr M6 Ka hints hlen hg) fun r s' hq => ?_)
 obtain ⟨rfl, h2, h3, h4⟩ := hq
 exact ⟨.inl ⟨.bool true, .bool true, [], rfl, fun _ => rfl, .bool true, Bu l _, fun _ => ⟨List.Pairwise.nil, fun _ hm => (nomatch hm)⟩⟩, h2, h3, h4⟩
section
variable {prog : Program} {w : World} {A : Around} {E : Value -> Shared -> Prop} {s : Shared} {K : Frag}
noncomputable def ledger (h : Heap) (L d : Addr) : List (Addr × Obj) := (List.range h.objs.size).filterMap fun a => if a = L \/ a = d then none else (h.get? a).map fun o => (a, o)
end
end Rl
namespace L2
open PySem PySem.Spec PyProof.Rows
theorem sW : ∀ {vs : List Value} {ns : List Int}, IntsAre vs ns -> Vals (ns.map V.int) vs
 | _, _, .nil => .nil
 | _, _, .cons n t h => .cons ⟨t, rfl⟩ (sW h)
noncomputable def Only (H : Hp) : Prop := ∀ b, H b = none \/ ∃ o xs, H b = some (.cZ o (.lst xs))
theorem DH {P : Program} {w : World} {K : PySem.W.Frag} {mg mb : Str -> Option Value} {CX : Dc} {k : Nat} {fa a : Addr} {fd : FuncData} {x : Str} {sp : Sp} {s₁ : Shared} {vs : List Value} {ns : List Int}
   (KX : K.In s₁.heap) (Rm : s₁.heap.Ns mainGlobals mg) (hb : s₁.heap.Ns builtinsNs mb) (Sv : ∀ x : Str, x ≠ "__name__" -> mb x = bootBuiltins x) (Qg : s₁.heap.NoLimit) (hg : s₁.gens = #[])
   (ha : s₁.heap.get? a = some { cls := .type "list", data := .seq vs.toArray }) (hi : IntsAre vs ns) (hl : ns.length <= sizeLine) (hr : ek k callerA)
   (F : ∀ base : Heap, K.In base -> base.Ns mainGlobals mg -> b5 P w K mg base CX k fa fd [x] sp) (M7 : ∀ (s : Shared) (u : Value), BindsTo s fd ⟨[u], []⟩ [(x, u)])
   (qN : ∀ H : Hp, Only H -> nP K H a (ns.map V.int) -> sp [.ref a] H (fun v _ => v = .bl true) fun _ _ _ => False)
   (Qh : ∀ H e s', CX [] H s₁ (fun _ _ _ => False) e s' -> False) :
   codeAny (model P w) callerA (.call (.ref fa) ⟨[.ref a], []⟩) (fun r s' => r = .ok (.ret (.bool true)) /\ OldK s₁.heap s'.heap /\ s'.os = s₁.os /\ AllBare s'.gens) s₁ := by
 have rv := sW hi
 have Qi := hi.length
 have core : ∀ H : Hp, Only H -> nP K H a (ns.map V.int) -> ql P w H s₁.heap -> (∀ b, H b ≠ none -> b = a) -> (H a ≠ none -> K.lookup a = none) →
     codeAny (model P w) callerA (.call (.ref fa) ⟨[.ref a], []⟩) (fun r s' => r = .ok (.ret (.bool true)) /\ OldK s₁.heap s'.heap /\ s'.os = s₁.os /\ AllBare s'.gens) s₁ := by
   intro H hO hS dB hA hK
   have Av : ∀ {b : Addr} {o : Obj}, s₁.heap.get? b = some o -> H b = none -> (tP s₁.heap H).get? b = some o := fun e n => Dj e n
   have MV : ∀ {b : Addr} {o : Obj} {es : Array DictEntry} {ep : Nat}, s₁.heap.get? b = some o -> o.data = .dict es ep -> H b = none := fun {b o es ep} e d => by
     cases q : H b with
     | none => rfl
     | some u =>
       have e' : b = a := hA b (by rw [q]; simp)
       subst e'
       rw [ha] at e; cases e
       have d' : Data.seq vs.toArray _ = Data.dict es ep := d
       cases d'
   have OS : ∀ {b : Addr} {m : Str -> Option Value}, s₁.heap.Ns b m -> (tP s₁.heap H).Ns b m := fun {b m} ⟨o, es, ep, e, d, r⟩ => ⟨o, es, ep, Av e (MV e d), d, r⟩
   have Rn : K.In (tP s₁.heap H) := fun b o e => Av (KX b o e) (by
     cases q : H b with
     | none => rfl
     | some u =>
       have e' : b = a := hA b (by rw [q]; simp)
       subst e'
       rw [hK (by rw [q]; simp)] at e; cases e)
   have hM : Mod K mg (tP s₁.heap H) := ⟨Rn, OS Rm, ⟨mb, OS hb, Sv⟩, let ⟨mc, h1, h2⟩ := Qg; ⟨mc, OS h1, h2⟩⟩
   have e0 : ye P w K mg (tP s₁.heap H) callerA [] s₁ H := ⟨rfl, hM, fun b o e => Gp e, Nat.le_of_eq (Bf _ _), trivial, fun b hb => absurd (show b ∈ ([] : List Addr) from hb) (by simp), dB, .of_eq hg⟩
   refine codeAny_mono ((F _ Rn (OS Rm)).run callerA [] s₁ H ⟨[.ref a], []⟩ [.ref a] [.ref a] _ _ hr e0 (M7 s₁ (.ref a)) (.cons rfl .nil) (qN H hO hS)) fun r s' h => ?_
   cases r with
   | error e => exact (Qh H e s' h).elim
   | ok fl =>
     cases fl with
     | next => exact False.elim h
     | brk => exact False.elim h
     | cont => exact False.elim h
     | ret u =>
       obtain ⟨v, H', os, bare, un, Qj, r', q⟩ := h
       have q' : v = .bl true := q
       subst q'
       obtain rfl : u = Value.bool true := r'
       refine ⟨rfl, OldK.of_keep fun b o e => ?_, os, bare⟩
       cases q : H b with
       | none => exact un.keep b o e q (by intro z; exact absurd (show b ∈ ([] : List Addr) from z) (by simp)) (by simp)
       | some u =>
         rcases hO b with z | ⟨ob, xs, z⟩
         . rw [q] at z; cases z
         . have z2 := un.fz b ob _ z
           obtain ⟨e1, _⟩ := dB b _ z
           obtain ⟨e2, _⟩ := Qj b _ z2
           rw [e] at e1; cases e1
           exact e2
 cases hk : K.lookup a with
 | some o =>
   have e := KX a o hk
   rw [ha] at e
   cases e
   refine core (fun _ => none) (fun _ => .inl rfl) (.inr ⟨_, vs.toArray, _, hk, rfl, rfl, rfl, by rw [List.size_toArray, Qi]; exact hl, by simpa using rv⟩) (fun b u z => by have z' : (none : Option HO) = some u := z; cases z') (fun b z => absurd rfl z) fun z => absurd rfl z
 | none =>
   refine core (fun b => if b = a then some (.cZ { cls := .type "list", data := .seq vs.toArray } (.lst (ns.map V.int))) else none) (fun b => ?_) (.inl (.inr ⟨{ cls := .type "list", data := .seq vs.toArray }, UR rfl⟩)) (fun b u z => ?_) (fun b z => ?_) fun _ => hk
   . by_cases hb : b = a
     . exact .inr ⟨_, _, UR hb⟩
     . exact .inl (UE hb)
   . by_cases hb : b = a
     . have z' := (UR hb).symm.trans z
       cases z'
       subst hb
       exact ⟨ha, by rw [Uz]; exact hl, vs, _, rv, ha⟩
     . have z' := (UE hb).symm.trans z
       cases z'
   . by_cases hb : b = a
     . exact hb
     . exact absurd (UE hb) z
theorem GY {l : PySem.W.OpenLaw} {n k : Nat} {q : Program} {loose : List Str} {XP : (Str -> Option Value) -> Heap -> Prop} {YP : World -> Heap -> Prop} {d : DefRec} {K : Params -> PySem.W.Frag} {CX : World -> Dc} {sp : World -> Sp} {x : Str}
   (hn : l.most = some n) (OL : n <= sizeLine) (M5 : d.params.defaults = []) (hr : ek k callerA)
   (hY : ∀ (w : World) (h : Heap), YP w h -> (K w.params).In h)
   (F : ∀ (w : World) (mg : Str -> Option Value) (fa : Addr) (h : Heap), (K w.params).In h -> h.Ns mainGlobals mg -> mg d.name = some (.ref fa) →
     ∃ fd : FuncData, (∀ (s : Shared) (u : Value), BindsTo s fd ⟨[u], []⟩ [(x, u)]) ∧
       ∀ base : Heap, (K w.params).In base -> base.Ns mainGlobals mg -> b5 l.prog w (K w.params) mg base (CX w) k fa fd [x] (sp w))
   (qN : ∀ (w : World) (H : Hp) (a : Addr) (ns : List Int), ns.length <= n -> Only H -> nP (K w.params) H a (ns.map V.int) -> sp w [.ref a] H (fun v _ => v = .bl true) fun _ _ _ => False)
   (Qh : ∀ (w : World) (H : Hp) (s : Shared) (e : Value) (s' : Shared), CX w [] H s (fun _ _ _ => False) e s' -> False) :
   PySem.W.WalkO q loose XP YP l.row.toRowW d [] (fun f vs => PySem.call f vs) := by
 refine Rl.vV hn M5 fun w s₀ s₁ mg mb fa o pm cd doc a vs ns G Y ho hd kr M6 Ka hints hlen hg => ?_
 have KX := hY w _ Y
 obtain ⟨fd, hb, hF⟩ := F w mg fa _ KX G.T.g M6
 exact DH KX G.T.g G.T.b G.T.builtins G.T.nolimit hg Ka hints (U3 hlen OL) hr hF hb (fun H hO hS => qN w H a ns hlen hO hS) fun H e s' => Qh w H s₁ e s'
noncomputable def inClass (s : Stmt) (j : Nat) : Stmt := match s with
 | .ClassDef _ _ _ body _ _ _ _ _ _ _ => body.getD j (.Pass ⟨0, 0, 0, 0⟩)
 | _ => .Pass ⟨0, 0, 0, 0⟩
noncomputable def qt (s : Stmt) : Arguments := match s with
 | .FunctionDef _ a _ _ _ _ _ _ _ _ => a
 | _ => { posonlyargs := [], args := [], vararg := none, kwonlyargs := [], kw_defaults := [], kwarg := none, defaults := [] }
noncomputable def e9 (s : Stmt) : List Stmt := match s with
 | .FunctionDef _ _ b _ _ _ _ _ _ _ => b
 | _ => []
noncomputable def ay (s : Stmt) : Scope := match s with
 | .FunctionDef _ _ _ _ _ _ sc _ _ _ => sc
 | _ => { kind := .function, names := [], isGenerator := false, isCoroutine := false }
noncomputable abbrev iT : Dc := fun _ _ _ _ _ _ => False
noncomputable abbrev E0 : XK := fun _ _ _ => False
theorem Aw {X : Cx} : Passes iT X E0 := fun _ _ _ _ _ _ _ h => h.elim
structure mO (K : PySem.W.Frag) (x qual : Str) (st : Stmt) (f : Addr) (fd : FuncData) : Prop where
 ex : ∃ (oc : Value) (od : Option Addr) (kV doc pm : Value) (an : Option Addr) (eU ct : Value) (GH : Array (Option Value)),
   fd = PySem.W.fnOf x qual (qt st) (e9 st) (ay st) .none kV doc pm an eU ct /\ K.lookup f = some ⟨oc, od, .func fd, GH⟩ /\ PySem.W.codeIn K eU qual = true
 kp : PySem.W.keepIn K (.ref f) = true
section
variable {P : Program} {w : World} {K : PySem.W.Frag} {mg : Str -> Option Value} {base : Heap}
theorem mO.ok {x qual : Str} {st : Stmt} {f : Addr} {fd : FuncData} {N ps : List Str} {k : Nat} {sp : Sp} (F : mO K x qual st f fd) (S : aV N ps (ay st)) (len : ∀ vs H Q E, sp vs H Q E -> vs.length = ps.length)
   (Dy : ∀ (eU : Value) (A : Around) (outer : List Env) (s : Shared) (H : Hp) (vs : List V) (Q : VK) (E : XK), ek k (A.deeper (envOfC qual (ay st) s.heap.objs.size f eU)) -> sp vs H Q E →
     ∃ t, Ad (vO iT P w K mg base N qual (ay st) f eU A outer s H E).LW (e9 st) t /\ t { nx := fun _ H' => Q .non H', rt := Q } (start N vs) H) : b5 P w K mg base iT (k + 1) f fd ps sp := by
 obtain ⟨oc, od, kV, doc, pm, an, eU, ct, GH, rfl, lk, kr⟩ := F.ex
 refine MX lk kr S len fun A outer s H vs Q E hr qN => ?_
 obtain ⟨t, h, q⟩ := Dy eU A outer s H vs Q E hr qN
 exact ⟨t, h.LW, q⟩
theorem mO.binds {x qual : Str} {st : Stmt} {f : Addr} {fd : FuncData} {ps : List Str} (F : mO K x qual st f fd)
   (h : ∀ (kV doc pm : Value) (an : Option Addr) (eU ct : Value) (us : List Value), us.length = ps.length -> bindArgs (PySem.W.fnOf x qual (qt st) (e9 st) (ay st) .none kV doc pm an eU ct) ⟨us, []⟩ = pure (ps.zip us)) : Binds K fd ps [] := by
 obtain ⟨oc, od, kV, doc, pm, an, eU, ct, GH, rfl, lk, kr⟩ := F.ex
 exact .all (h kV doc pm an eU ct)
theorem b6 {x qual : Str} {st : Stmt} {f : Addr} {oc : Value} {od an : Option Addr} {GH : Array (Option Value)} {kV doc pm eU ct : Value} (l : K.lookup f = some ⟨oc, od, .func (PySem.W.fnOf x qual (qt st) (e9 st) (ay st) .none kV doc pm an eU ct), GH⟩)
   (c : PySem.W.codeIn K eU qual = true) (k : PySem.W.keepIn K (.ref f) = true) : mO K x qual st f (PySem.W.fnOf x qual (qt st) (e9 st) (ay st) .none kV doc pm an eU ct) := ⟨⟨oc, od, kV, doc, pm, an, eU, ct, GH, rfl, l, c⟩, k⟩
end
theorem cG {n : Nat} (h : n <= 1000) : n < sizeLine := Nat.lt_of_le_of_lt h (by decide)
section
variable {X : Cx}
end
theorem DI {A B : Prop} (h : B) : if false = true then A else B := by
 rw [UE UL]
 exact h
theorem DJ {A B : Prop} (h : A) : if true = true then A else B := by
 rw [UR rfl]
 exact h
noncomputable def aD (H H' : Hp) : Prop := ∀ b o, H b = some o -> H' b = some o
theorem aD.refl (H : Hp) : aD H H := fun _ _ h => h
theorem aD.trans {H H1 H2 : Hp} (a : aD H H1) (b : aD H1 H2) : aD H H2 := fun c o h => b c o (a c o h)
theorem aD.free {H H' : Hp} (e : aD H H') {l : Addr} (h : H' l = Option.none) : H l = Option.none := by
 cases q : H l with
 | none => rfl
 | some o =>
   rw [e l o q] at h
   cases h
theorem aD.seq {K : PySem.W.Frag} {H H' : Hp} {a : Addr} {xs : List V} (e : aD H H') (h : nP K H a xs) : nP K H' a xs := by
 rcases h with (h | ⟨o, h⟩) | h
 . exact .inl (.inl (e _ _ h))
 . exact .inl (.inr ⟨o, e _ _ h⟩)
 . exact .inr h
section
variable {κ : Type} [DecidableEq κ]
end
section
variable {P : Program} {w : World} {H : Hp} {h : Heap} {a : Addr}
end
section
variable {X : Cx} {pins : List (Addr × Obj)} {σ : St} {H : Hp} {s : Shared} {a : Addr} {y v : V} {u r : Value} {o : Option V} {A : Around} {E : Value -> Shared -> Prop}
end
section
variable {X : Cx} {pins : List (Addr × Obj)} {σ : St} {H : Hp} {s : Shared} {a : Addr} {jF : List (Key × V)} {k : Key} {u : Value} {A : Around} {E : Value -> Shared -> Prop}
end
section
variable {X : Cx} {o i e value : Expr} {pos pos' PV : Pos} {td ty tv : TE}
end
section
variable {X : Cx} {pos : Pos}
end
section
variable {X : Cx} {pins : List (Addr × Obj)} {σ : St} {H : Hp} {s : Shared} {a : Addr} {y d : V} {u r : Value} {o : Option V} {A : Around} {E : Value -> Shared -> Prop}
end
section
variable {X : Cx} {o e f : Expr} {apos vU : Pos} {td ty tx : TE}
end
section
variable {X : Cx} {pins : List (Addr × Obj)} {σ : St} {H : Hp} {s : Shared} {a : Addr} {jF : List (Key × V)} {A : Around} {E : Value -> Shared -> Prop}
end
section
variable {X : Cx} {pins : List (Addr × Obj)} {σ : St} {H : Hp} {s : Shared} {a : Addr} {y : V} {u : Value} {A : Around} {E : Value -> Shared -> Prop}
end
end L2
namespace L3
open PySem PySem.Spec PyProof.Rows L2
inductive D where
 | non | bl (b : Bool) | int (i : Int) | str (x : Str)
 | tup (ds : List D) | lst (ds : List D) | ins (c : Str) (fs : List (Str × D)) | sG (jF : List (Key × D))
 | any
 | val (v : V)
inductive T where
 | sh (d : D) | tup (ts : List T) | lst (ts : List T) | ins (c : Str) (fs : List (Str × T)) | sG (jF : List (Key × D))
 | pin (x : Addr) (t : T)
mutual
noncomputable def T.cZ : T -> D
 | .sh d => d
 | .tup ts => .tup (fz ts)
 | .lst ts => .lst (fz ts)
 | .ins c fs => .ins c (kY fs)
 | .sG jF => .sG jF
 | .pin _ t => t.cZ
noncomputable def T.fz : List T -> List D
 | [] => []
 | t :: ts => t.cZ :: T.fz ts
noncomputable def T.kY : List (Str × T) -> List (Str × D)
 | [] => []
 | (x, t) :: fs => (x, t.cZ) :: T.kY fs
end
variable (K : PySem.W.Frag) (CL : Str -> Addr)
mutual
inductive bz (Z : Hp) : D -> V -> Prop where
 | non : bz Z .non .non
 | bl (b : Bool) : bz Z (.bl b) (.bl b)
 | int (i : Int) : bz Z (.int i) (.int i)
 | str (x : Str) : bz Z (.str x) (.str x)
 | any (v : V) : bz Z .any v
 | val (v : V) : bz Z (.val v) v
 | tup {a : Addr} {vs : List V} {ds : List D} : qb K Z a vs -> aE Z ds vs -> bz Z (.tup ds) (.ref a)
 | lst {a : Addr} {vs : List V} {ds : List D} : nP K Z a vs -> aE Z ds vs -> bz Z (.lst ds) (.ref a)
 | ins {a dx : Addr} {c : Str} {gs : List (Str × V)} {fs : List (Str × D)} : Z a = some (.ins (CL c) dx gs) -> k8 Z fs gs -> bz Z (.ins c fs) (.ref a)
 | sG {a : Addr} {gs : List (Key × V)} {fs : List (Key × D)} : Z a = some (.dK gs) -> cQ Z fs gs -> bz Z (.sG fs) (.ref a)
inductive aE (Z : Hp) : List D -> List V -> Prop where
 | nil : aE Z [] []
 | cons {d : D} {v : V} {ds : List D} {vs : List V} : bz Z d v -> aE Z ds vs -> aE Z (d :: ds) (v :: vs)
inductive k8 (Z : Hp) : List (Str × D) -> List (Str × V) -> Prop where
 | nil : k8 Z [] []
 | cons {x : Str} {d : D} {v : V} {ds : List (Str × D)} {vs : List (Str × V)} : bz Z d v -> k8 Z ds vs -> k8 Z ((x, d) :: ds) ((x, v) :: vs)
inductive cQ (Z : Hp) : List (Key × D) -> List (Key × V) -> Prop where
 | nil : cQ Z [] []
 | cons {x : Key} {d : D} {v : V} {ds : List (Key × D)} {vs : List (Key × V)} : bz Z d v -> cQ Z ds vs -> cQ Z ((x, d) :: ds) ((x, v) :: vs)
end
mutual
inductive b7 (H Z : Hp) : T -> V -> List Addr -> Prop where
 | sh {d : D} {v : V} : bz K CL Z d v -> b7 H Z (.sh d) v []
 | tup {a : Addr} {vs : List V} {ts : List T} {fp : List Addr} : Z a = some (.tup vs) -> aM H Z ts vs fp -> b7 H Z (.tup ts) (.ref a) fp
 | lst {a : Addr} {vs : List V} {ts : List T} {fp : List Addr} : H a = some (.lst vs) -> aM H Z ts vs fp -> b7 H Z (.lst ts) (.ref a) (a :: fp)
 | ins {a dx : Addr} {c : Str} {gs : List (Str × V)} {fs : List (Str × T)} {fp : List Addr} : H a = some (.ins (CL c) dx gs) -> ck H Z fs gs fp -> b7 H Z (.ins c fs) (.ref a) (a :: fp)
 | sG {a : Addr} {gs : List (Key × V)} {jF : List (Key × D)} : H a = some (.dK gs) -> cQ K CL Z jF gs -> b7 H Z (.sG jF) (.ref a) [a]
 | pin {x : Addr} {t : T} {fp : List Addr} : b7 H Z t (.ref x) fp -> b7 H Z (.pin x t) (.ref x) fp
inductive aM (H Z : Hp) : List T -> List V -> List Addr -> Prop where
 | nil : aM H Z [] [] []
 | cons {t : T} {v : V} {ts : List T} {vs : List V} {fp gp : List Addr} : b7 H Z t v fp -> aM H Z ts vs gp -> aM H Z (t :: ts) (v :: vs) (fp ++ gp)
inductive ck (H Z : Hp) : List (Str × T) -> List (Str × V) -> List Addr -> Prop where
 | nil : ck H Z [] [] []
 | cons {x : Str} {t : T} {v : V} {ts : List (Str × T)} {vs : List (Str × V)} {fp gp : List Addr} : b7 H Z t v fp -> ck H Z ts vs gp -> ck H Z ((x, t) :: ts) ((x, v) :: vs) (fp ++ gp)
end
inductive dI (H Z : Hp) : List (Option T) -> L2.St -> List Addr -> Prop where
 | nil : dI H Z [] [] []
 | skip {o : Option V} {δ : List (Option T)} {σ : L2.St} {fp : List Addr} : dI H Z δ σ fp -> dI H Z (none :: δ) (o :: σ) fp
 | cons {t : T} {v : V} {δ : List (Option T)} {σ : L2.St} {fp gp : List Addr} : b7 K CL H Z t v fp -> dI H Z δ σ gp -> dI H Z (some t :: δ) (some v :: σ) (fp ++ gp)
section
variable {K : PySem.W.Frag} {CL : Str -> Addr}
theorem aD.Ge {H H' : Hp} {a : Addr} {xs : List V} (e : aD H H') (h : qb K H a xs) : qb K H' a xs := by
 rcases h with (h | ⟨o, h⟩) | h
 . exact .inl (.inl (e _ _ h))
 . exact .inl (.inr ⟨o, e _ _ h⟩)
 . exact .inr h
theorem bz.mono {Z Z' : Hp} (e : aD Z Z') {d : D} {v : V} (h : bz K CL Z d v) : bz K CL Z' d v :=
 bz.rec (motive_1 := fun d v _ => bz K CL Z' d v) (motive_2 := fun d v _ => aE K CL Z' d v) (motive_3 := fun d v _ => k8 K CL Z' d v) (motive_4 := fun d v _ => cQ K CL Z' d v)
   .non .bl .int .str .any .val (fun h _ r => .tup (aD.Ge e h) r) (fun h _ r => .lst (e.seq h) r) (fun h _ r => .ins (e _ _ h) r) (fun h _ r => .sG (e _ _ h) r) .nil (fun _ _ h r => .cons h r) .nil (fun _ _ h r => .cons h r) .nil (fun _ _ h r => .cons h r) h
theorem cQ.mono {Z Z' : Hp} (e : aD Z Z') {d : List (Key × D)} {v : List (Key × V)} (h : cQ K CL Z d v) : cQ K CL Z' d v :=
 cQ.rec (motive_1 := fun d v _ => bz K CL Z' d v) (motive_2 := fun d v _ => aE K CL Z' d v) (motive_3 := fun d v _ => k8 K CL Z' d v) (motive_4 := fun d v _ => cQ K CL Z' d v)
   .non .bl .int .str .any .val (fun h _ r => .tup (aD.Ge e h) r) (fun h _ r => .lst (e.seq h) r) (fun h _ r => .ins (e _ _ h) r) (fun h _ r => .sG (e _ _ h) r) .nil (fun _ _ h r => .cons h r) .nil (fun _ _ h r => .cons h r) .nil (fun _ _ h r => .cons h r) h
theorem b7.mono {H H' Z Z' : Hp} (e : aD Z Z') {t : T} {v : V} {fp : List Addr} (k : ∀ a ∈ fp, H' a = H a) (h : b7 K CL H Z t v fp) : b7 K CL H' Z' t v fp :=
 b7.rec (motive_1 := fun t v fp _ => (∀ a ∈ fp, H' a = H a) -> b7 K CL H' Z' t v fp) (motive_2 := fun t v fp _ => (∀ a ∈ fp, H' a = H a) -> aM K CL H' Z' t v fp) (motive_3 := fun t v fp _ => (∀ a ∈ fp, H' a = H a) -> ck K CL H' Z' t v fp)
   (fun h _ => .sh (h.mono e)) (fun h _ r k => .tup (e _ _ h) (r k)) (fun h _ r k => .lst ((k _ UD).trans h) (r fun a ha => k a (UC _ ha))) (fun h _ r k => .ins ((k _ UD).trans h) (r fun a ha => k a (UC _ ha))) (fun h f k => .sG ((k _ UD).trans h) (cQ.mono e f)) (fun _ r k => .pin (r k)) (fun _ => .nil) (fun _ _ h r k => .cons (h fun a ha => k a (UO _ ha)) (r fun a ha => k a (UB _ ha))) (fun _ => .nil) (fun _ _ h r k => .cons (h fun a ha => k a (UO _ ha)) (r fun a ha => k a (UB _ ha))) h k
theorem aM.mono {H H' Z Z' : Hp} (e : aD Z Z') {t : List T} {v : List V} {fp : List Addr} (k : ∀ a ∈ fp, H' a = H a) (h : aM K CL H Z t v fp) : aM K CL H' Z' t v fp :=
 aM.rec (motive_1 := fun t v fp _ => (∀ a ∈ fp, H' a = H a) -> b7 K CL H' Z' t v fp) (motive_2 := fun t v fp _ => (∀ a ∈ fp, H' a = H a) -> aM K CL H' Z' t v fp) (motive_3 := fun t v fp _ => (∀ a ∈ fp, H' a = H a) -> ck K CL H' Z' t v fp)
   (fun h _ => .sh (h.mono e)) (fun h _ r k => .tup (e _ _ h) (r k)) (fun h _ r k => .lst ((k _ UD).trans h) (r fun a ha => k a (UC _ ha))) (fun h _ r k => .ins ((k _ UD).trans h) (r fun a ha => k a (UC _ ha))) (fun h f k => .sG ((k _ UD).trans h) (cQ.mono e f)) (fun _ r k => .pin (r k)) (fun _ => .nil) (fun _ _ h r k => .cons (h fun a ha => k a (UO _ ha)) (r fun a ha => k a (UB _ ha))) (fun _ => .nil) (fun _ _ h r k => .cons (h fun a ha => k a (UO _ ha)) (r fun a ha => k a (UB _ ha))) h k
theorem ck.mono {H H' Z Z' : Hp} (e : aD Z Z') {t : List (Str × T)} {v : List (Str × V)} {fp : List Addr} (k : ∀ a ∈ fp, H' a = H a) (h : ck K CL H Z t v fp) : ck K CL H' Z' t v fp :=
 ck.rec (motive_1 := fun t v fp _ => (∀ a ∈ fp, H' a = H a) -> b7 K CL H' Z' t v fp) (motive_2 := fun t v fp _ => (∀ a ∈ fp, H' a = H a) -> aM K CL H' Z' t v fp) (motive_3 := fun t v fp _ => (∀ a ∈ fp, H' a = H a) -> ck K CL H' Z' t v fp)
   (fun h _ => .sh (h.mono e)) (fun h _ r k => .tup (e _ _ h) (r k)) (fun h _ r k => .lst ((k _ UD).trans h) (r fun a ha => k a (UC _ ha))) (fun h _ r k => .ins ((k _ UD).trans h) (r fun a ha => k a (UC _ ha))) (fun h f k => .sG ((k _ UD).trans h) (cQ.mono e f)) (fun _ r k => .pin (r k)) (fun _ => .nil) (fun _ _ h r k => .cons (h fun a ha => k a (UO _ ha)) (r fun a ha => k a (UB _ ha))) (fun _ => .nil) (fun _ _ h r k => .cons (h fun a ha => k a (UO _ ha)) (r fun a ha => k a (UB _ ha))) h k
theorem b7.there {H Z : Hp} {t : T} {v : V} {fp : List Addr} (h : b7 K CL H Z t v fp) : ∀ a ∈ fp, ∃ o, H a = some o :=
 b7.rec (motive_1 := fun t v fp _ => ∀ a ∈ fp, ∃ o, H a = some o) (motive_2 := fun t v fp _ => ∀ a ∈ fp, ∃ o, H a = some o) (motive_3 := fun t v fp _ => ∀ a ∈ fp, ∃ o, H a = some o)
   (fun _ a ha => absurd ha VA) (fun _ _ r => r) (fun h _ r a ha => (UA.mp ha).elim (fun q => ⟨_, q ▸ h⟩) (r a)) (fun h _ r a ha => (UA.mp ha).elim (fun q => ⟨_, q ▸ h⟩) (r a)) (fun h _ a ha => (UA.mp ha).elim (fun q => ⟨_, q ▸ h⟩) (fun q => absurd q VA)) (fun _ r => r) (fun a ha => absurd ha VA) (fun _ _ h r a ha => (UY.mp ha).elim (h a) (r a)) (fun a ha => absurd ha VA) (fun _ _ h r a ha => (UY.mp ha).elim (h a) (r a)) h
theorem aM.there {H Z : Hp} {t : List T} {v : List V} {fp : List Addr} (h : aM K CL H Z t v fp) : ∀ a ∈ fp, ∃ o, H a = some o :=
 aM.rec (motive_1 := fun t v fp _ => ∀ a ∈ fp, ∃ o, H a = some o) (motive_2 := fun t v fp _ => ∀ a ∈ fp, ∃ o, H a = some o) (motive_3 := fun t v fp _ => ∀ a ∈ fp, ∃ o, H a = some o)
   (fun _ a ha => absurd ha VA) (fun _ _ r => r) (fun h _ r a ha => (UA.mp ha).elim (fun q => ⟨_, q ▸ h⟩) (r a)) (fun h _ r a ha => (UA.mp ha).elim (fun q => ⟨_, q ▸ h⟩) (r a)) (fun h _ a ha => (UA.mp ha).elim (fun q => ⟨_, q ▸ h⟩) (fun q => absurd q VA)) (fun _ r => r) (fun a ha => absurd ha VA) (fun _ _ h r a ha => (UY.mp ha).elim (h a) (r a)) (fun a ha => absurd ha VA) (fun _ _ h r a ha => (UY.mp ha).elim (h a) (r a)) h
theorem b7.cZ {H Z Z' : Hp} (e : aD Z Z') {t : T} {v : V} {fp : List Addr} (k : ∀ a ∈ fp, Z' a = H a) (h : b7 K CL H Z t v fp) : bz K CL Z' t.cZ v :=
 b7.rec (motive_1 := fun t v fp _ => (∀ a ∈ fp, Z' a = H a) -> bz K CL Z' t.cZ v) (motive_2 := fun t v fp _ => (∀ a ∈ fp, Z' a = H a) -> aE K CL Z' (T.fz t) v) (motive_3 := fun t v fp _ => (∀ a ∈ fp, Z' a = H a) -> k8 K CL Z' (T.kY t) v)
   (fun h _ => by rw [T.cZ]; exact h.mono e) (fun h _ r k => by rw [T.cZ]; exact .tup (qb.of (e _ _ h)) (r k)) (fun h _ r k => by rw [T.cZ]; exact .lst (nP.of ((k _ UD).trans h)) (r fun a ha => k a (UC _ ha))) (fun h _ r k => by rw [T.cZ]; exact .ins ((k _ UD).trans h) (r fun a ha => k a (UC _ ha))) (fun h f k => by rw [T.cZ]; exact .sG ((k _ UD).trans h) (cQ.mono e f)) (fun _ r k => by rw [T.cZ]; exact r k) (fun _ => by rw [T.fz]; exact .nil) (fun _ _ h r k => by rw [T.fz]; exact .cons (h fun a ha => k a (UO _ ha)) (r fun a ha => k a (UB _ ha))) (fun _ => by rw [T.kY]; exact .nil) (fun _ _ h r k => by rw [T.kY]; exact .cons (h fun a ha => k a (UO _ ha)) (r fun a ha => k a (UB _ ha))) h k
theorem aE.ind {Z : Hp} {P : List D -> List V -> Prop} (n : P [] []) (c : ∀ {d : D} {v : V} {ds : List D} {vs : List V}, bz K CL Z d v -> aE K CL Z ds vs -> P ds vs -> P (d :: ds) (v :: vs)) {ds : List D} {vs : List V} (h : aE K CL Z ds vs) : P ds vs :=
 aE.rec (motive_1 := fun _ _ _ => True) (motive_2 := fun d v _ => P d v) (motive_3 := fun _ _ _ => True) (motive_4 := fun _ _ _ => True)
   trivial (fun _ => trivial) (fun _ => trivial) (fun _ => trivial) (fun _ => trivial) (fun _ => trivial) (fun _ _ _ => trivial) (fun _ _ _ => trivial) (fun _ _ _ => trivial) (fun _ _ _ => trivial) n (fun a b _ i => c a b i) trivial (fun _ _ _ _ => trivial) trivial (fun _ _ _ _ => trivial) h
theorem cQ.ind {Z : Hp} {P : List (Key × D) -> List (Key × V) -> Prop} (n : P [] []) (c : ∀ {x : Key} {d : D} {v : V} {ds : List (Key × D)} {vs : List (Key × V)}, bz K CL Z d v -> cQ K CL Z ds vs -> P ds vs -> P ((x, d) :: ds) ((x, v) :: vs)) {ds : List (Key × D)} {vs : List (Key × V)} (h : cQ K CL Z ds vs) : P ds vs :=
 cQ.rec (motive_1 := fun _ _ _ => True) (motive_2 := fun _ _ _ => True) (motive_3 := fun _ _ _ => True) (motive_4 := fun d v _ => P d v)
   trivial (fun _ => trivial) (fun _ => trivial) (fun _ => trivial) (fun _ => trivial) (fun _ => trivial) (fun _ _ _ => trivial) (fun _ _ _ => trivial) (fun _ _ _ => trivial) (fun _ _ _ => trivial) trivial (fun _ _ _ _ => trivial) trivial (fun _ _ _ _ => trivial) n (fun a b _ i => c a b i) h
theorem aM.ind {H Z : Hp} {P : List T -> List V -> List Addr -> Prop} (n : P [] [] []) (c : ∀ {t : T} {v : V} {ts : List T} {vs : List V} {fp gp : List Addr}, b7 K CL H Z t v fp -> aM K CL H Z ts vs gp -> P ts vs gp -> P (t :: ts) (v :: vs) (fp ++ gp)) {ts : List T} {vs : List V} {fp : List Addr} (h : aM K CL H Z ts vs fp) : P ts vs fp :=
 aM.rec (motive_1 := fun _ _ _ _ => True) (motive_2 := fun d v f _ => P d v f) (motive_3 := fun _ _ _ _ => True)
   (fun _ => trivial) (fun _ _ _ => trivial) (fun _ _ _ => trivial) (fun _ _ _ => trivial) (fun _ _ => trivial) (fun _ _ => trivial) n (fun a b _ i => c a b i) trivial (fun _ _ _ _ => trivial) h
theorem ck.ind {H Z : Hp} {P : List (Str × T) -> List (Str × V) -> List Addr -> Prop} (n : P [] [] []) (c : ∀ {x : Str} {t : T} {v : V} {ts : List (Str × T)} {vs : List (Str × V)} {fp gp : List Addr}, b7 K CL H Z t v fp -> ck K CL H Z ts vs gp -> P ts vs gp -> P ((x, t) :: ts) ((x, v) :: vs) (fp ++ gp)) {ts : List (Str × T)} {vs : List (Str × V)} {fp : List Addr} (h : ck K CL H Z ts vs fp) : P ts vs fp :=
 ck.rec (motive_1 := fun _ _ _ _ => True) (motive_2 := fun _ _ _ _ => True) (motive_3 := fun d v f _ => P d v f)
   (fun _ => trivial) (fun _ _ _ => trivial) (fun _ _ _ => trivial) (fun _ _ _ => trivial) (fun _ _ => trivial) (fun _ _ => trivial) trivial (fun _ _ _ _ => trivial) n (fun a b _ i => c a b i) h
theorem aE.length {Z : Hp} {d : List D} {v : List V} (h : aE K CL Z d v) : d.length = v.length :=
 aE.ind (P := fun d v => d.length = v.length) rfl (fun _ _ i => congrArg (· + 1) i) h
theorem aM.length {H Z : Hp} {d : List T} {v : List V} {fp : List Addr} (h : aM K CL H Z d v fp) : d.length = v.length :=
 aM.ind (P := fun d v _ => d.length = v.length) rfl (fun _ _ i => congrArg (· + 1) i) h
theorem aE.get {Z : Hp} : ∀ {ds : List D} {vs : List V} {i : Nat} {d : D}, aE K CL Z ds vs -> ds[i]? = some d -> ∃ v, vs[i]? = some v /\ bz K CL Z d v
 | _, _, _, _, .nil, e => by simp at e
 | _, _, 0, _, .cons r _, e => by simp at e; subst e; exact ⟨_, rfl, r⟩
 | _, _, i + 1, d, .cons _ t, e => by
   obtain ⟨u, h1, h2⟩ := aE.get (i := i) (d := d) t (by simpa using e)
   exact ⟨u, by simpa using h1, h2⟩
theorem aE.Kc {Z : Hp} : ∀ {ds : List D} {vs : List V} {i : Nat} {v : V}, aE K CL Z ds vs -> vs[i]? = some v -> ∃ d, ds[i]? = some d /\ bz K CL Z d v
 | _, _, _, _, .nil, e => by simp at e
 | _, _, 0, _, .cons r _, e => by simp at e; subst e; exact ⟨_, rfl, r⟩
 | _, _, i + 1, d, .cons _ t, e => by
   obtain ⟨u, h1, h2⟩ := aE.Kc (i := i) (v := d) t (by simpa using e)
   exact ⟨u, by simpa using h1, h2⟩
theorem dI.get {H Z : Hp} : ∀ {δ : List (Option T)} {σ : L2.St} {fp : List Addr} {i : Nat} {t : T}, dI K CL H Z δ σ fp -> δ[i]? = some (some t) →
   ∃ v f1 f2 f3, σ[i]? = some (some v) /\ fp = f1 ++ (f2 ++ f3) /\ b7 K CL H Z t v f2 ∧
     (∀ {H' Z' : Hp} {t' : T} {v' : V} {g : List Addr}, aD Z Z' -> (∀ a ∈ f1 ++ f3, H' a = H a) -> b7 K CL H' Z' t' v' g -> dI K CL H' Z' (δ.set i (some t')) (σ.set i (some v')) (f1 ++ (g ++ f3))) ∧
     (∀ {o : Option V}, dI K CL H Z (δ.set i none) (σ.set i o) (f1 ++ f3)) := by
 intro δ σ fp i t h
 have mono : ∀ {H H' Z Z' : Hp} {δ : List (Option T)} {σ : L2.St} {fp : List Addr}, aD Z Z' -> (∀ a ∈ fp, H' a = H a) -> dI K CL H Z δ σ fp -> dI K CL H' Z' δ σ fp := by
   intro H H' Z Z' δ σ fp e k r
   induction r with
   | nil => exact .nil
   | skip _ ih => exact .skip (ih k)
   | cons r _ ih => exact .cons (r.mono e fun a ha => k a (UO _ ha)) (ih fun a ha => k a (UB _ ha))
 induction h generalizing i with
 | nil => intro e; simp at e
 | @skip o δ σ fp r ih =>
   cases i with
   | zero => intro e; simp at e
   | succ i =>
     intro e
     obtain ⟨v, f1, f2, f3, h1, h2, h3, h4, h5⟩ := ih (i := i) (by simpa using e)
     exact ⟨v, f1, f2, f3, by simpa using h1, h2, h3, fun e k q => .skip (h4 e k q), .skip h5⟩
 | @cons t0 v0 δ σ fp gp r0 r ih =>
   cases i with
   | zero =>
     intro e
     simp at e
     subst e
     refine ⟨v0, [], fp, gp, rfl, rfl, r0, fun {H' Z' t' v' g} e k q => dI.cons (fp := g) (gp := gp) q (mono (fp := gp) e (fun a ha => k a (by simpa using ha)) r), .skip (by simpa using r)⟩
   | succ i =>
     intro e
     obtain ⟨v, f1, f2, f3, h1, h2, h3, h4, h5⟩ := ih (i := i) (by simpa using e)
     refine ⟨v, fp ++ f1, f2, f3, by simpa using h1, by rw [h2, List.append_assoc], h3, fun {H' Z' t' v' g} e k q => ?_, fun {o} => ?_⟩
     . rw [UH]
       exact .cons (r0.mono e fun a ha => k a (by simp [ha])) (h4 e (fun a ha => k a (by rw [UH]; exact UB _ ha)) q)
     . rw [UH]
       exact .cons r0 h5
theorem dI.mono {H H' Z Z' : Hp} {δ : List (Option T)} {σ : L2.St} {fp : List Addr} (e : aD Z Z') (k : ∀ a ∈ fp, H' a = H a) (r : dI K CL H Z δ σ fp) : dI K CL H' Z' δ σ fp := by
 induction r with
 | nil => exact .nil
 | skip _ ih => exact .skip (ih k)
 | cons r _ ih => exact .cons (r.mono e fun a ha => k a (UO _ ha)) (ih fun a ha => k a (UB _ ha))
theorem dI.there {H Z : Hp} {δ : List (Option T)} {σ : L2.St} {fp : List Addr} (r : dI K CL H Z δ σ fp) : ∀ a ∈ fp, ∃ o, H a = some o := by
 induction r with
 | nil => intro a ha; cases ha
 | skip _ ih => exact ih
 | cons r _ ih => exact fun a ha => (UY.mp ha).elim (r.there a) (ih a)
theorem dI.put {H Z : Hp} {δ : List (Option T)} {σ : L2.St} {fp : List Addr} (r : dI K CL H Z δ σ fp) {t : T} {v : V} {g : List Addr} (q : b7 K CL H Z t v g) :
   ∀ {i : Nat}, i < δ.length -> ∃ f, dI K CL H Z (δ.set i (some t)) (σ.set i (some v)) f /\ ∃ f', f'.Sublist fp /\ f.Perm (g ++ f') := by
 induction r with
 | nil => intro i hi; simp at hi
 | @skip o δ σ fp r ih =>
   intro i hi
   cases i with
   | zero => exact ⟨g ++ fp, .cons q r, fp, Va _, Wa _⟩
   | succ i =>
     obtain ⟨f, h1, f', h2, h3⟩ := ih (i := i) (by simpa using hi)
     exact ⟨f, .skip h1, f', h2, h3⟩
 | @cons t0 v0 δ σ fp gp r0 r ih =>
   intro i hi
   cases i with
   | zero => exact ⟨g ++ gp, .cons q r, gp, Vx _ _, Wa _⟩
   | succ i =>
     obtain ⟨f, h1, f', h2, h3⟩ := ih (i := i) (by simpa using hi)
     refine ⟨fp ++ f, .cons r0 h1, fp ++ f', Vc (Va _) h2, ?_⟩
     refine (Vl fp h3).trans ?_
     rw [← UH, ← UH]
     exact List.Perm.append_right f' Vg
end
noncomputable def DK (X : Cx) (e : Expr) : TE := fun σ H Q => ∀ (pins : List (Addr × Obj)) (s : Shared), Inv X pins σ H s -> wpAny (model X.prog X.w) X.A (eval e X.env) (EP X pins σ Q) X.xe s
noncomputable def GZ (X : Cx) (e : Expr) : TT := fun σ H Q => ∀ (pins : List (Addr × Obj)) (s : Shared), Inv X pins σ H s -> wpAny (model X.prog X.w) X.A (isTrue e X.env (eval e X.env)) (TP X pins σ Q) X.xe s
noncomputable def DL (X : Cx) (es : List Expr) : TA := fun σ H Q => ∀ (pos : Pos) (pins : List (Addr × Obj)) (s : Shared), Inv X pins σ H s -> wpAny (model X.prog X.w) X.A (spliced (backTo pos (starEach es X.env))) (AP X pins σ Q) X.xe s
noncomputable def Kd (X : Cx) (st : Stmt) : TS := fun D σ H => ∀ (pins : List (Addr × Obj)) (s : Shared), Inv X pins σ H s -> wpAny (model X.prog X.w) X.A (exec st X.env) (SP X pins D) X.xe s
noncomputable def Ke (X : Cx) (st : List Stmt) : TS := fun D σ H => ∀ (pins : List (Addr × Obj)) (s : Shared), Inv X pins σ H s -> wpAny (model X.prog X.w) X.A (execs st X.env) (SP X pins D) X.xe s
section
variable {X : Cx}
theorem dF {e : Expr} : PE X e (DK X e) := fun pins s _ _ _ I h => h pins s I
theorem Kf {e : Expr} : PT X e (GZ X e) := fun pins s _ _ _ I h => h pins s I
theorem Dd {e : List Expr} : PA X e (DL X e) := fun pos pins s _ _ _ I h => h pos pins s I
theorem Sw {e : Stmt} : PS X e (Kd X e) := fun pins s _ _ _ I h => h pins s I
theorem Kg {e : List Stmt} : Ad X e (Ke X e) := fun pins s _ _ _ I h => h pins s I
theorem cA {e : Expr} {t : TE} (h : PE X e t) {σ : L2.St} {H : Hp} {Q : VK} (q : t σ H Q) : DK X e σ H Q := fun pins s I => h pins s σ H Q I q
theorem Bv {e : Expr} {t : TT} (h : PT X e t) {σ : L2.St} {H : Hp} {Q : Bool -> Hp -> Prop} (q : t σ H Q) : GZ X e σ H Q := fun pins s I => h pins s σ H Q I q
theorem Bw {e : List Expr} {t : TA} (h : PA X e t) {σ : L2.St} {H : Hp} {Q : List V -> Hp -> Prop} (q : t σ H Q) : DL X e σ H Q := fun pos pins s I => h pos pins s σ H Q I q
theorem vW {e : Stmt} {t : TS} (h : PS X e t) {σ : L2.St} {H : Hp} {D : Ends} (q : t D σ H) : Kd X e D σ H := fun pins s I => h pins s σ H D I q
theorem M8 {e : List Stmt} {t : TS} (h : Ad X e t) {σ : L2.St} {H : Hp} {D : Ends} (q : t D σ H) : Ke X e D σ H := fun pins s I => h pins s σ H D I q
end
noncomputable def notStar : Expr -> Bool
 | .Starred _ _ => false
 | _ => true
theorem bG {e : Expr} {es : List Expr} {env : Env} (h : notStar e = true) : starEach (e :: es) env = (false, eval e env) :: starEach es env := by
 cases e <;> first | rfl | (cases h)
structure Bx where
 B : Hp
 Z : Hp
noncomputable def jK : HO -> Bool
 | .tup _ => true
 | .cZ _ _ => true
 | _ => false
noncomputable def Ax (x : Str) : Bool := x.cps[0]? == some 35
noncomputable def Qk (x : Str) : Str := ⟨x.cps.extract 1 x.cps.size⟩
noncomputable def jL (CL : Str -> Addr) (Z : Hp) : Prop := ∀ x, Ax x = true -> CL x ≠ 0 -> Z (CL x) = some (.tabs (Qk x))
structure bM (K : PySem.W.Frag) (CL : Str -> Addr) (b : Bx) (H Z : Hp) (δ : List (Option T)) (σ : L2.St) (ts : List T) (vs : List V) : Prop where
 rep : ∃ fp gp, dI K CL H Z δ σ fp /\ aM K CL H Z ts vs gp /\ (fp ++ gp).Nodup /\ ∀ a ∈ fp ++ gp, Z a = none /\ b.B a = none
 bh : aD b.B H
 zz : aD b.Z Z
 zh : aD Z H
 new : ∀ a o, Z a = some o -> b.Z a = none -> b.B a = none
 tp : ∀ a o, H a = some o -> jK o = true -> Z a = some o
 tab : jL CL b.Z
section
variable {K : PySem.W.Frag} {CL : Str -> Addr} {b : Bx} {H H' Z Z' : Hp} {δ δ' : List (Option T)} {σ σ' : L2.St} {ts Sx : List T} {vs Ro : List V} {t : T} {v : V}
theorem jL.mono {A B : Hp} (h : jL CL A) (e : aD A B) : jL CL B := fun x hx h0 => e _ _ (h x hx h0)
theorem bM.Kh (S : bM K CL b H Z δ σ ts vs) : jL CL Z := S.tab.mono S.zz
theorem bM.Kl (S : bM K CL b H Z δ σ ts vs) : jL CL H := S.Kh.mono S.zh
theorem Km {A B : Hp} (e : aD A B) {a : Addr} (h : B a = none) : A a = none := e.free h
theorem aD.upd {H : Hp} {p : Addr} {o : HO} (h : H p = none) : aD H (upd H p o) := fun b u e => by rw [aF (aX e h)]; exact e
theorem bM.view (S : bM K CL b H Z δ σ (t :: ts) (v :: vs)) : bz K CL H t.cZ v := by
 obtain ⟨fp, gp, _, r, _, _⟩ := S.rep
 cases r with
 | cons r _ => exact r.cZ S.zh fun _ _ => rfl
theorem bM.pop (S : bM K CL b H Z δ σ (t :: ts) (v :: vs)) : bM K CL b H Z δ σ ts vs := by
 obtain ⟨fp, gp, e, r, nd, k⟩ := S.rep
 cases r with
 | @cons _ _ _ _ f1 f2 r1 r2 =>
   refine ⟨⟨fp, f2, e, r2, nd.sublist (Vc (Va _) (Vx _ _)), fun a ha => k a ?_⟩, S.bh, S.zz, S.zh, S.new, S.tp, S.tab⟩
   rcases UY.mp ha with h | h
   . exact UO _ h
   . exact UB _ (UB _ h)
theorem bM.push {d : D} (S : bM K CL b H Z δ σ ts vs) (r : bz K CL Z d v) : bM K CL b H Z δ σ (.sh d :: ts) (v :: vs) := by
 obtain ⟨fp, gp, e, r2, nd, k⟩ := S.rep
 exact ⟨⟨fp, [] ++ gp, e, .cons (.sh r) r2, nd, k⟩, S.bh, S.zz, S.zh, S.new, S.tp, S.tab⟩
theorem bM.yk (S : bM K CL b H Z δ σ (t :: ts) (v :: vs)) : ∃ Z', aD Z Z' /\ bM K CL b H Z' δ σ (.sh t.cZ :: ts) (v :: vs) := by
 classical
 obtain ⟨fp, gp, e, r, nd, k⟩ := S.rep
 cases r with
 | @cons _ _ _ _ f1 f2 r1 r2 =>
   have nZ : ∀ a ∈ f1, Z a = none /\ b.B a = none := fun a ha => k a (UB _ (UO _ ha))
   have sz : aD Z (fun a => if a ∈ f1 then H a else Z a) := fun a o q => by
     by_cases ha : a ∈ f1
     . rw [(nZ a ha).1] at q; cases q
     . show (if a ∈ f1 then H a else Z a) = some o
       rw [UE ha]; exact q
   have M9 := Vo.mp nd
   have dj : ∀ a ∈ fp ++ f2, a ∉ f1 := fun a ha h1 => by
     rcases UY.mp ha with h | h
     . exact M9.2.2 a h a (UO _ h1) rfl
     . exact (Vo.mp M9.2.1).2.2 a h1 a h rfl
   refine ⟨fun a => if a ∈ f1 then H a else Z a, sz, ⟨⟨fp, [] ++ f2, e.mono sz (fun _ _ => rfl), .cons (.sh (r1.cZ sz fun a ha => UR ha)) (r2.mono sz fun _ _ => rfl), ?_, fun a ha => ?_⟩, S.bh, S.zz.trans sz, fun a o q => ?_, fun a o q z => ?_, fun a o q i => ?_, S.tab⟩⟩
   . exact nd.sublist (Vc (Va _) (Vx _ _))
   . have DM : a ∈ fp ++ f2 := ha
     refine ⟨?_, (k a ?_).2⟩
     . show (if a ∈ f1 then H a else Z a) = none
       rw [UE (dj a DM)]
       refine (k a ?_).1
       rcases UY.mp DM with h | h
       . exact UO _ h
       . exact UB _ (UB _ h)
     . rcases UY.mp DM with h | h
       . exact UO _ h
       . exact UB _ (UB _ h)
   . have q' : (if a ∈ f1 then H a else Z a) = some o := q
     by_cases ha : a ∈ f1
     . rw [UR ha] at q'; exact q'
     . rw [UE ha] at q'; exact S.zh a o q'
   . have q' : (if a ∈ f1 then H a else Z a) = some o := q
     by_cases ha : a ∈ f1
     . exact (nZ a ha).2
     . rw [UE ha] at q'; exact S.new a o q' z
   . exact sz a o (S.tp a o q i)
theorem bM.G0 {i : Nat} (S : bM K CL b H Z δ σ ts vs) (hi : δ[i]? = some (some t)) : ∃ v Z', σ[i]? = some (some v) /\ aD Z Z' /\ bM K CL b H Z' (δ.set i (some (.sh t.cZ))) σ (.sh t.cZ :: ts) (v :: vs) := by
 classical
 obtain ⟨fp, gp, e, r, nd, k⟩ := S.rep
 obtain ⟨v, f1, f2, f3, hv, qu, rt, put, _⟩ := e.get hi
 subst qu
 have nZ : ∀ a ∈ f2, Z a = none /\ b.B a = none := fun a ha => k a (by simp [ha])
 have sz : aD Z (fun a => if a ∈ f2 then H a else Z a) := fun a o q => by
   by_cases ha : a ∈ f2
   . rw [(nZ a ha).1] at q; cases q
   . show (if a ∈ f2 then H a else Z a) = some o
     rw [UE ha]; exact q
 have dj : ∀ a ∈ (f1 ++ f3) ++ gp, a ∉ f2 := fun a ha h2 => by
   have hp : ((f1 ++ (f2 ++ f3)) ++ gp).Perm (f2 ++ ((f1 ++ f3) ++ gp)) := by
     rw [← UH, ← UH]
     refine (List.perm_append_right_iff gp).mpr ?_
     rw [← UH]
     exact (List.perm_append_right_iff f3).mpr Vg
   exact (Vo.mp (hp.nodup_iff.mp nd)).2.2 a h2 a ha rfl
 have rF : bz K CL (fun a => if a ∈ f2 then H a else Z a) t.cZ v := rt.cZ sz fun a ha => UR ha
 have Kn : σ.set i (some v) = σ := by
   apply List.ext_getElem?
   intro j
   rw [List.getElem?_set]
   split
   . rename_i h; subst h
     split
     . exact hv.symm
     . rename_i h2; rw [List.getElem?_eq_none (by omega)]
   . rfl
 have e2 : dI K CL H (fun a => if a ∈ f2 then H a else Z a) (δ.set i (some (.sh t.cZ))) σ (f1 ++ ([] ++ f3)) := by
   have := put (H' := H) (t' := .sh t.cZ) (v' := v) (g := []) sz (fun _ _ => rfl) (.sh rF)
   rwa [Kn] at this
 refine ⟨v, fun a => if a ∈ f2 then H a else Z a, hv, sz, ⟨⟨f1 ++ ([] ++ f3), [] ++ gp, e2, .cons (.sh rF) (r.mono sz fun _ _ => rfl), ?_, fun a ha => ?_⟩, S.bh, S.zz.trans sz, fun a o q => ?_, fun a o q z => ?_, fun a o q i => sz a o (S.tp a o q i), S.tab⟩⟩
 . exact nd.sublist (Vc (Vc (Va _) (Vx _ _)) (Va _))
 . have DM : a ∈ (f1 ++ f3) ++ gp := ha
   have hm : a ∈ (f1 ++ (f2 ++ f3)) ++ gp := by
     simp only [UY] at DM ⊢
     rcases DM with (h | h) | h
     . exact .inl (.inl h)
     . exact .inl (.inr (.inr h))
     . exact .inr h
   refine ⟨?_, (k a hm).2⟩
   show (if a ∈ f2 then H a else Z a) = none
   rw [UE (dj a DM)]
   exact (k a hm).1
 . have q' : (if a ∈ f2 then H a else Z a) = some o := q
   by_cases ha : a ∈ f2
   . rw [UR ha] at q'; exact q'
   . rw [UE ha] at q'; exact S.zh a o q'
 . have q' : (if a ∈ f2 then H a else Z a) = some o := q
   by_cases ha : a ∈ f2
   . exact (nZ a ha).2
   . rw [UE ha] at q'; exact S.new a o q' z
theorem bM.move {i : Nat} (S : bM K CL b H Z δ σ ts vs) (hi : δ[i]? = some (some t)) : ∃ v, σ[i]? = some (some v) /\ bM K CL b H Z (δ.set i none) σ (t :: ts) (v :: vs) := by
 obtain ⟨fp, gp, e, r, nd, k⟩ := S.rep
 obtain ⟨v, f1, f2, f3, hv, qu, rt, _, del⟩ := e.get hi
 subst qu
 have Kn : σ.set i (some v) = σ := by
   apply List.ext_getElem?
   intro j
   rw [List.getElem?_set]
   split
   . rename_i h; subst h
     split
     . exact hv.symm
     . rename_i h2; rw [List.getElem?_eq_none (by omega)]
   . rfl
 have hp : ((f1 ++ (f2 ++ f3)) ++ gp).Perm ((f1 ++ f3) ++ (f2 ++ gp)) := by
   have h1 : (f2 ++ f3).Perm (f3 ++ f2) := Vg
   have h2 := (Vl f1 h1).append_right gp
   simp only [UH] at h2 ⊢
   exact h2
 refine ⟨v, hv, ⟨⟨f1 ++ f3, f2 ++ gp, ?_, .cons rt r, hp.nodup_iff.mp nd, fun a ha => k a (hp.mem_iff.mpr ha)⟩, S.bh, S.zz, S.zh, S.new, S.tp, S.tab⟩⟩
 have := del (o := some v)
 rwa [Kn] at this
theorem bM.look {i : Nat} (S : bM K CL b H Z δ σ ts vs) (hi : δ[i]? = some (some t)) : ∃ v, σ[i]? = some (some v) /\ bz K CL H t.cZ v := by
 obtain ⟨fp, gp, e, r, nd, k⟩ := S.rep
 obtain ⟨v, f1, f2, f3, hv, qu, rt, _, _⟩ := e.get hi
 exact ⟨v, hv, rt.cZ S.zh fun _ _ => rfl⟩
theorem bM.II {i : Nat} {d : D} (S : bM K CL b H Z δ σ ts vs) (hi : δ[i]? = some (some (.sh d))) : ∃ v, σ[i]? = some (some v) /\ bz K CL Z d v := by
 obtain ⟨fp, gp, e, r, nd, k⟩ := S.rep
 obtain ⟨v, f1, f2, f3, hv, qu, rt, _, _⟩ := e.get hi
 cases rt with
 | sh h => exact ⟨v, hv, h⟩
theorem bM.set {i : Nat} (S : bM K CL b H Z δ σ (t :: ts) (v :: vs)) (hi : i < δ.length) : bM K CL b H Z (δ.set i (some t)) (σ.set i (some v)) ts vs := by
 obtain ⟨fp, gp, e, r, nd, k⟩ := S.rep
 cases r with
 | @cons _ _ _ _ f1 f2 r1 r2 =>
   obtain ⟨f, h1, f', h2, h3⟩ := e.put r1 hi
   have hp : (f ++ f2).Perm (f' ++ (f1 ++ f2)) := by
     refine (h3.append_right f2).trans ?_
     rw [← UH]
     exact Vg.append_right f2
   have Nb : (f' ++ (f1 ++ f2)).Sublist (fp ++ (f1 ++ f2)) := Vc h2 (Va _)
   exact ⟨⟨f, f2, h1, r2, hp.nodup_iff.mpr (nd.sublist Nb), fun a ha => k a (Nb.subset (hp.mem_iff.mp ha))⟩, S.bh, S.zz, S.zh, S.new, S.tp, S.tab⟩
end
mutual
noncomputable def D.ic : D -> Bool
 | .tup ds => D.bf ds
 | .lst _ => false
 | .ins _ _ => false
 | .sG _ => false
 | .any => false
 | _ => true
noncomputable def D.bf : List D -> Bool
 | [] => true
 | d :: ds => d.ic && D.bf ds
end
mutual
noncomputable def T.clean : T -> Bool
 | .sh d => d.ic
 | .tup ts => T.cJ ts
 | .lst ts => T.cJ ts
 | .ins _ fs => T.aU fs
 | .sG jF => D.bf (jF.map (·.2))
 | .pin _ t => t.clean
noncomputable def T.cJ : List T -> Bool
 | [] => true
 | t :: ts => t.clean && T.cJ ts
noncomputable def T.aU : List (Str × T) -> Bool
 | [] => true
 | (_, t) :: ts => t.clean && T.aU ts
end
noncomputable def bJ (X : Cx) (CL : Str -> Addr) (b : Bx) (e : Expr) (δ : List (Option T)) (t : T) (δ' : List (Option T)) : Prop :=
 ∀ (H Z : Hp) (σ : L2.St) (ts : List T) (vs : List V) (Q : VK), bM X.K CL b H Z δ σ ts vs -> (∀ v H' Z', aD Z Z' -> aD H H' -> bM X.K CL b H' Z' δ' σ (t :: ts) (v :: vs) -> Q v H') -> DK X e σ H Q
noncomputable def cB (X : Cx) (CL : Str -> Addr) (b : Bx) (e : Expr) (δ : List (Option T)) (d : D) (δ' : List (Option T)) : Prop :=
 ∀ (H Z : Hp) (σ : L2.St) (ts : List T) (vs : List V) (Q : VK), bM X.K CL b H Z δ σ ts vs -> (∀ v H' Z', aD Z Z' -> aD H H' -> bM X.K CL b H' Z' δ' σ ts vs -> bz X.K CL H' d v -> Q v H') -> DK X e σ H Q
noncomputable def nU (X : Cx) (CL : Str -> Addr) (b : Bx) (e : Expr) (δ : List (Option T)) (p : Bool) (δ' : List (Option T)) : Prop :=
 ∀ (H Z : Hp) (σ : L2.St) (ts : List T) (vs : List V) (Q : Bool -> Hp -> Prop), bM X.K CL b H Z δ σ ts vs -> (∀ H' Z', aD Z Z' -> aD H H' -> bM X.K CL b H' Z' δ' σ ts vs -> Q p H') -> GZ X e σ H Q
noncomputable def xU (X : Cx) (CL : Str -> Addr) (b : Bx) (es : List Expr) (δ : List (Option T)) (tl : List T) (δ' : List (Option T)) : Prop :=
 ∀ (H Z : Hp) (σ : L2.St) (ts : List T) (vs : List V) (Q : List V -> Hp -> Prop), bM X.K CL b H Z δ σ ts vs →
   (∀ us H' Z', us.length = tl.length -> aD Z Z' -> aD H H' -> bM X.K CL b H' Z' δ' σ (tl.reverse ++ ts) (us.reverse ++ vs) -> Q us H') -> DL X es σ H Q
noncomputable def Gf (X : Cx) (CL : Str -> Addr) (b : Bx) (es : List Expr) (δ : List (Option T)) (ds : List D) (δ' : List (Option T)) : Prop :=
 ∀ (H Z : Hp) (σ : L2.St) (ts : List T) (vs : List V) (Q : List V -> Hp -> Prop), bM X.K CL b H Z δ σ ts vs →
   (∀ us H' Z', aD Z Z' -> aD H H' -> bM X.K CL b H' Z' δ' σ ts vs -> aE X.K CL H' ds us -> Q us H') -> DL X es σ H Q
structure cu where
 nx : List (Option T) -> Prop
 rt : T -> List (Option T) -> Prop
 bk : List (Option T) -> Prop := fun _ => False
 ct : List (Option T) -> Prop := fun _ => False
structure Meets (K : PySem.W.Frag) (CL : Str -> Addr) (b : Bx) (Z : Hp) (ts : List T) (vs : List V) (D : cu) (E : Ends) : Prop where
 nx : ∀ δ' σ' H' Z', aD Z Z' -> bM K CL b H' Z' δ' σ' ts vs -> D.nx δ' -> E.nx σ' H'
 rt : ∀ t v H' Z' δ' σ', aD Z Z' -> bM K CL b H' Z' δ' σ' (t :: ts) (v :: vs) -> D.rt t δ' -> E.rt v H'
 bk : ∀ δ' σ' H' Z', aD Z Z' -> bM K CL b H' Z' δ' σ' ts vs -> D.bk δ' -> E.bk σ' H'
 ct : ∀ δ' σ' H' Z', aD Z Z' -> bM K CL b H' Z' δ' σ' ts vs -> D.ct δ' -> E.ct σ' H'
noncomputable def Ko (X : Cx) (CL : Str -> Addr) (b : Bx) (st : Stmt) (δ : List (Option T)) (D : cu) : Prop :=
 ∀ (H Z : Hp) (σ : L2.St) (ts : List T) (vs : List V) (E : Ends), bM X.K CL b H Z δ σ ts vs -> Meets X.K CL b Z ts vs D E -> Kd X st E σ H
noncomputable def fJ (X : Cx) (CL : Str -> Addr) (b : Bx) (st : List Stmt) (δ : List (Option T)) (D : cu) : Prop :=
 ∀ (H Z : Hp) (σ : L2.St) (ts : List T) (vs : List V) (E : Ends), bM X.K CL b H Z δ σ ts vs -> Meets X.K CL b Z ts vs D E -> Ke X st E σ H
section
variable {K : PySem.W.Frag} {CL : Str -> Addr} {b : Bx} {H H' Z Z' : Hp} {δ δ' : List (Option T)} {σ σ' : L2.St} {ts Sx : List T} {vs Ro : List V} {t : T} {v : V}
theorem Meets.mono {D : cu} {E : Ends} (M : Meets K CL b Z ts vs D E) (e : aD Z Z') : Meets K CL b Z' ts vs D E :=
 ⟨fun _ _ _ _ s => M.nx _ _ _ _ (e.trans s), fun _ _ _ _ _ _ s => M.rt _ _ _ _ _ _ (e.trans s), fun _ _ _ _ s => M.bk _ _ _ _ (e.trans s), fun _ _ _ _ s => M.ct _ _ _ _ (e.trans s)⟩
theorem Ay {a : Addr} {xs : List V} (zh : ∀ a o, H a = some o -> jK o = true -> Z a = some o) (h : qb K H a xs) : qb K Z a xs := by
 rcases h with (h | ⟨o, h⟩) | h
 . exact .inl (.inl (zh _ _ h rfl))
 . exact .inl (.inr ⟨o, zh _ _ h rfl⟩)
 . exact .inr h
theorem bz.ic (zh : ∀ a o, H a = some o -> jK o = true -> Z a = some o) {d : D} {v : V} (k : d.ic = true) (h : bz K CL H d v) : bz K CL Z d v :=
 bz.rec (motive_1 := fun d v _ => d.ic = true -> bz K CL Z d v) (motive_2 := fun d v _ => D.bf d = true -> aE K CL Z d v) (motive_3 := fun d v _ => True) (motive_4 := fun d v _ => True)
   (fun _ => .non) (fun b _ => .bl b) (fun b _ => .int b) (fun b _ => .str b) (fun _ k => by rw [D.ic] at k; cases k) (fun b _ => .val b) (fun h _ r k => .tup (Ay zh h) (r (by rw [D.ic] at k; exact k))) (fun _ _ _ k => by rw [D.ic] at k; cases k) (fun _ _ _ k => by rw [D.ic] at k; cases k) (fun _ _ _ k => by rw [D.ic] at k; cases k) (fun _ => .nil) (fun _ _ h r k => by rw [D.bf, Vd] at k; exact .cons (h k.1) (r k.2)) trivial (fun _ _ _ _ => trivial) trivial (fun _ _ _ _ => trivial) h k
theorem aE.ic (zh : ∀ a o, H a = some o -> jK o = true -> Z a = some o) {d : List D} {v : List V} (k : D.bf d = true) (h : aE K CL H d v) : aE K CL Z d v :=
 aE.rec (motive_1 := fun d v _ => d.ic = true -> bz K CL Z d v) (motive_2 := fun d v _ => D.bf d = true -> aE K CL Z d v) (motive_3 := fun d v _ => True) (motive_4 := fun d v _ => True)
   (fun _ => .non) (fun b _ => .bl b) (fun b _ => .int b) (fun b _ => .str b) (fun _ k => by rw [D.ic] at k; cases k) (fun b _ => .val b) (fun h _ r k => .tup (Ay zh h) (r (by rw [D.ic] at k; exact k))) (fun _ _ _ k => by rw [D.ic] at k; cases k) (fun _ _ _ k => by rw [D.ic] at k; cases k) (fun _ _ _ k => by rw [D.ic] at k; cases k) (fun _ => .nil) (fun _ _ h r k => by rw [D.bf, Vd] at k; exact .cons (h k.1) (r k.2)) trivial (fun _ _ _ _ => trivial) trivial (fun _ _ _ _ => trivial) h k
theorem cQ.clean {Z1 : Hp} (zi : ∀ {d : D} {v : V}, d.ic = true -> bz K CL Z1 d v -> bz K CL Z d v) {jF : List (Key × D)} {gs : List (Key × V)} (k : D.bf (jF.map (·.2)) = true) (h : cQ K CL Z1 jF gs) : cQ K CL Z jF gs :=
 cQ.ind (P := fun jF gs => D.bf (jF.map (·.2)) = true -> cQ K CL Z jF gs) (fun _ => .nil) (fun h _ i k => by rw [U8, D.bf, Vd] at k; exact .cons (zi k.1 h) (i k.2)) h k
theorem b7.clean {Z1 : Hp} (zh : ∀ a xs, Z1 a = some (.tup xs) -> Z a = some (.tup xs)) (zi : ∀ {d : D} {v : V}, d.ic = true -> bz K CL Z1 d v -> bz K CL Z d v) {t : T} {v : V} {fp : List Addr} (k : t.clean = true) (h : b7 K CL H Z1 t v fp) : b7 K CL H Z t v fp :=
 b7.rec (motive_1 := fun t v fp _ => t.clean = true -> b7 K CL H Z t v fp) (motive_2 := fun t v fp _ => T.cJ t = true -> aM K CL H Z t v fp) (motive_3 := fun t v fp _ => T.aU t = true -> ck K CL H Z t v fp)
   (fun h k => .sh (zi (by rw [T.clean] at k; exact k) h)) (fun h _ r k => .tup (zh _ _ h) (r (by rw [T.clean] at k; exact k))) (fun h _ r k => .lst h (r (by rw [T.clean] at k; exact k))) (fun h _ r k => .ins h (r (by rw [T.clean] at k; exact k))) (fun h f k => .sG h (cQ.clean zi (by rw [T.clean] at k; exact k) f)) (fun _ r k => .pin (r (by rw [T.clean] at k; exact k))) (fun _ => .nil) (fun _ _ h r k => by rw [T.cJ, Vd] at k; exact .cons (h k.1) (r k.2)) (fun _ => .nil) (fun _ _ h r k => by rw [T.aU, Vd] at k; exact .cons (h k.1) (r k.2)) h k
theorem bM.back {W W' : Hp} {fp : List Addr} (S : bM K CL b H Z δ σ ts vs) (hh : aD H H') (zw : aD Z W) (ww : aD W W') (wh : aD W' H') (new : ∀ a o, W' a = some o -> W a = none -> H a = none)
   (tp : ∀ a o, H' a = some o -> jK o = true -> W' a = some o) (r : b7 K CL H' W' t v fp) (nd : fp.Nodup) (own : ∀ a ∈ fp, W' a = none /\ H a = none) (c : W = Z \/ t.clean = true) :
   ∃ Z', aD Z Z' /\ bM K CL b H' Z' δ σ (t :: ts) (v :: vs) := by
 classical
 let Z' : Hp := fun a => if (H a).isSome = true then Z a else W' a
 have zs : ∀ {a : Addr} {o : HO}, H a = some o -> Z' a = Z a := fun {a o} e => by
   show (if (H a).isSome = true then Z a else W' a) = Z a
   rw [UR (by rw [e]; rfl)]
 have zn : ∀ {a : Addr}, H a = none -> Z' a = W' a := fun {a} e => by
   show (if (H a).isSome = true then Z a else W' a) = W' a
   rw [UE (by rw [e]; simp)]
 have sz : aD Z Z' := fun a o q => by rw [zs (S.zh a o q)]; exact q
 have Sy : ∀ a o, Z' a = some o -> W' a = some o := fun a o q => by
   cases e : H a with
   | none => rw [zn e] at q; exact q
   | some u => rw [zs e] at q; exact ww a o (zw a o q)
 have Ql : ∀ a o, H' a = some o -> jK o = true -> Z' a = some o := fun a o q i => by
   cases e : H a with
   | none => rw [zn e]; exact tp a o q i
   | some u =>
     rw [zs e]
     have := hh a u e
     rw [q] at this; cases this
     exact S.tp a o e i
 have r' : b7 K CL H' Z' t v fp := by
   rcases c with c | c
   . have : Z' = W' := by
       funext a
       cases e : H a with
       | none => exact zn e
       | some u =>
         rw [zs e]
         cases q : W' a with
         | none =>
           cases q2 : Z a with
           | none => rfl
           | some o => rw [ww a o (zw a o q2)] at q; cases q
         | some o =>
           cases q2 : W a with
           | none => rw [new a o q q2] at e; cases e
           | some o2 =>
             have := ww a o2 q2
             rw [q] at this; cases this
             rw [← c]; exact q2
     rw [this]; exact r
   . refine b7.clean (fun a xs h => ?_) (fun {d v} k h => ?_) c r
     . exact Ql a _ (wh a _ h) rfl
     . exact bz.ic (H := H') Ql k (h.mono wh)
 obtain ⟨f0, g0, e0, r0, Sz, k0⟩ := S.rep
 have old : ∀ a ∈ f0 ++ g0, ∃ o, H a = some o := fun a ha => (UY.mp ha).elim (e0.there a) (r0.there a)
 have keep : ∀ a ∈ f0 ++ g0, H' a = H a := fun a ha => by
   obtain ⟨o, e⟩ := old a ha
   rw [e]; exact hh a o e
 refine ⟨Z', sz, ⟨⟨f0, fp ++ g0, e0.mono sz (fun a ha => keep a (UO _ ha)), .cons r' (r0.mono sz fun a ha => keep a (UB _ ha)), ?_, fun a ha => ?_⟩, S.bh.trans hh, S.zz.trans sz, fun a o q => wh a o (Sy a o q), fun a o q z => ?_, Ql, S.tab⟩⟩
 . have hp : (f0 ++ (fp ++ g0)).Perm (fp ++ (f0 ++ g0)) := by
     rw [← UH, ← UH]
     exact Vg.append_right g0
   refine hp.nodup_iff.mpr (Vo.mpr ⟨nd, Sz, fun a ha c hc e => ?_⟩)
   subst e
   obtain ⟨o, q⟩ := old a hc
   rw [(own a ha).2] at q; cases q
 . have : a ∈ f0 ++ g0 \/ a ∈ fp := by
     simp only [UY] at ha ⊢
     rcases ha with h | h | h
     . exact .inl (.inl h)
     . exact .inr h
     . exact .inl (.inr h)
   rcases this with h | h
   . obtain ⟨o, q⟩ := old a h
     exact ⟨by rw [zs q]; exact (k0 a h).1, (k0 a h).2⟩
   . exact ⟨by rw [zn (own a h).2]; exact (own a h).1, S.bh.free (own a h).2⟩
 . cases e : H a with
   | none => exact S.bh.free e
   | some u => rw [zs e] at q; exact S.new a o q z
end
section
variable {X : Cx} {CL : Str -> Addr} {b : Bx} {δ δ1 δ2 δ3 : List (Option T)} {e e1 e2 : Expr} {t t1 t2 : T} {d d1 d2 : D} {pos : Pos}
theorem IJ (h : bJ X CL b e δ t δ1) : cB X CL b e δ t.cZ δ1 := fun H Z σ ts vs Q S k => h H Z σ ts vs Q S fun v H' Z' z s S' => k v H' Z' z s S'.pop S'.view
theorem ah (h : bJ X CL b e δ (.sh d) δ1) : cB X CL b e δ d δ1 := by have := IJ h; rwa [T.cZ] at this
theorem bw (h : cB X CL b e δ d δ1) (i : d.ic = true) : bJ X CL b e δ (.sh d) δ1 := fun H Z σ ts vs Q S k => h H Z σ ts vs Q S fun v H' Z' z s S' r => k v H' Z' z s (S'.push (bz.ic S'.tp i r))
theorem tZ (h : bJ X CL b e δ t δ1) : bJ X CL b e δ (.sh t.cZ) δ1 := fun H Z σ ts vs Q S k => h H Z σ ts vs Q S fun v H' Z' z s S' => by
 obtain ⟨Z2, z2, S2⟩ := S'.yk
 exact k v H' Z2 (z.trans z2) s S2
theorem ai {i : Int} {j : Nat} : bJ X CL b (.Constant (.int i) j pos) δ (.sh (.int i)) δ := fun H Z σ ts vs Q S k => cA Jr (k _ _ Z (.refl _) (.refl _) (S.push (.int i)))
theorem IK {i : Bool} {j : Nat} : bJ X CL b (.Constant (.bool i) j pos) δ (.sh (.bl i)) δ := fun H Z σ ts vs Q S k => cA Mp (k _ _ Z (.refl _) (.refl _) (S.push (.bl i)))
theorem aB {x : Str} {j : Nat} : bJ X CL b (.Constant (.str x) j pos) δ (.sh (.str x)) δ := fun H Z σ ts vs Q S k => cA Js (k _ _ Z (.refl _) (.refl _) (S.push (.str x)))
section
variable (i : Nat) {x : Str} (hi : X.N[i]? = some x := by rfl) (hv : LV X.env.scope x := by first | exact Or.inl rfl | exact Or.inr (Or.inl rfl) | exact Or.inr (Or.inr rfl)) (hd : (x == ("__debug__" : Str)) = false := by decide) (kr : (x == ("__classdict__" : Str)) = false := by decide)
include hi hv hd kr
theorem Kp (h : δ[i]? = some (some (.sh d)) := by rfl) : bJ X CL b (.Name x pos) δ (.sh d) δ := fun H Z σ ts vs Q S k => by
 obtain ⟨v, e, r⟩ := S.II h
 exact cA (lE hi hv hd kr) ⟨v, e, k v H Z (.refl _) (.refl _) (S.push r)⟩
theorem G3 (h : δ[i]? = some (some t) := by rfl) : bJ X CL b (.Name x pos) δ (.sh t.cZ) (δ.set i (some (.sh t.cZ))) := fun H Z σ ts vs Q S k => by
 obtain ⟨v, Z', e, z, S'⟩ := S.G0 h
 exact cA (lE hi hv hd kr) ⟨v, e, k v H Z' z (.refl _) S'⟩
theorem G4 (h : δ[i]? = some (some t) := by rfl) : bJ X CL b (.Name x pos) δ t (δ.set i none) := fun H Z σ ts vs Q S k => by
 obtain ⟨v, e, S'⟩ := S.move h
 exact cA (lE hi hv hd kr) ⟨v, e, k v H Z (.refl _) (.refl _) S'⟩
theorem Kq (h : δ[i]? = some (some t) := by rfl) : cB X CL b (.Name x pos) δ t.cZ δ := fun H Z σ ts vs Q S k => by
 obtain ⟨v, e, r⟩ := S.look h
 exact cA (lE hi hv hd kr) ⟨v, e, k v H Z (.refl _) (.refl _) S r⟩
end
noncomputable def Kr : D -> Option V
 | .non => some .non
 | .bl b => some (.bl b)
 | .int i => some (.int i)
 | .str x => some (.str x)
 | _ => none
theorem bz.sc {K : PySem.W.Frag} {Z : Hp} {d : D} {v w : V} (r : bz K CL Z d v) (h : Kr d = some w) : v = w := by
 cases r <;> first | (exact U4 h) | (cases h)
theorem G5 {K : PySem.W.Frag} {Z : Hp} {d : D} {w : V} (h : Kr d = some w) : bz K CL Z d w := by
 cases d <;> first | (cases h; constructor) | (cases h)
theorem lF {op : Operator} {r : R2} {w1 w2 w : V} (ho : pC X (binaryOp op) r) (h1 : cB X CL b e1 δ d1 δ1) (h2 : cB X CL b e2 δ1 d2 δ2) (s1 : Kr d1 = some w1) (s2 : Kr d2 = some w2) (s3 : Kr d = some w)
   (hr : ∀ (H : Hp) (Q : VK), Q w H -> r w1 w2 H Q) : bJ X CL b (.BinOp e1 op e2 pos) δ (.sh d) δ2 := fun H Z σ ts vs Q S k => by
 refine cA (Ah ho dF dF) (h1 H Z σ ts vs _ S fun v1 H1 Z1 z1 k1 S1 r1 => h2 H1 Z1 σ ts vs _ S1 fun v2 H2 Z2 z2 k2 S2 r2 => ?_)
 rw [r1.sc s1, r2.sc s2]
 exact hr H2 Q (k w H2 Z2 (z1.trans z2) (k1.trans k2) (S2.push (G5 s3)))
theorem eo {i j : Int} (h1 : cB X CL b e1 δ (.int i) δ1) (h2 : cB X CL b e2 δ1 (.int j) δ2) : bJ X CL b (.BinOp e1 .Add e2 pos) δ (.sh (.int (i + j))) δ2 := lF JM h1 h2 rfl rfl rfl fun _ _ q => ⟨i, j, rfl, rfl, q⟩
theorem gn {i j : Int} (h1 : cB X CL b e1 δ (.int i) δ1) (h2 : cB X CL b e2 δ1 (.int j) δ2) : bJ X CL b (.BinOp e1 .Sub e2 pos) δ (.sh (.int (i - j))) δ2 := lF JN h1 h2 rfl rfl rfl fun _ _ q => ⟨i, j, rfl, rfl, q⟩
theorem t6 {i j : Int} (h1 : cB X CL b e1 δ (.int i) δ1) (h2 : cB X CL b e2 δ1 (.int j) δ2) (c : GA i j) : bJ X CL b (.BinOp e1 .Mult e2 pos) δ (.sh (.int (i * j))) δ2 := lF JQ h1 h2 rfl rfl rfl fun _ _ q => ⟨i, j, rfl, rfl, c, q⟩
theorem aR {i j : Int} (h1 : cB X CL b e1 δ (.int i) δ1) (h2 : cB X CL b e2 δ1 (.int j) δ2) (c : 0 < j) : bJ X CL b (.BinOp e1 .Mod e2 pos) δ (.sh (.int (i % j))) δ2 := lF JR h1 h2 rfl rfl rfl fun _ _ q => ⟨i, j, rfl, rfl, c, q⟩
theorem bC {i j : Int} (h1 : cB X CL b e1 δ (.int i) δ1) (h2 : cB X CL b e2 δ1 (.int j) δ2) (c : MF i j) : bJ X CL b (.BinOp e1 .FloorDiv e2 pos) δ (.sh (.int (i / j))) δ2 := lF GB h1 h2 rfl rfl rfl fun _ _ q => ⟨i, j, rfl, rfl, c, q⟩
theorem ym {i j : Int} (h1 : cB X CL b e1 δ (.int i) δ1) (h2 : cB X CL b e2 δ1 (.int j) δ2) (c : MG i j) : bJ X CL b (.BinOp e1 .Pow e2 pos) δ (.sh (.int (i ^ j.toNat))) δ2 := lF JS h1 h2 rfl rfl rfl fun _ _ q => ⟨i, j, rfl, rfl, c, q⟩
theorem cU {x y : Str} (h1 : cB X CL b e1 δ (.str x) δ1) (h2 : cB X CL b e2 δ1 (.str y) δ2) (c : x.length + y.length <= sizeLine) : bJ X CL b (.BinOp e1 .Add e2 pos) δ (.sh (.str (x ++ y))) δ2 := lF x8 h1 h2 rfl rfl rfl fun _ _ q => ⟨x, y, rfl, rfl, c, q⟩
theorem qP {op : CmpOp} {r : R2} {p : Bool} {w1 w2 : V} (ho : pC X (compareOp op) r) (h1 : cB X CL b e1 δ d1 δ1) (h2 : cB X CL b e2 δ1 d2 δ2) (s1 : Kr d1 = some w1) (s2 : Kr d2 = some w2)
   (hr : ∀ (H : Hp) (Q : VK), Q (.bl p) H -> r w1 w2 H Q) (hm : behindInMarks op e2 = false) : nU X CL b (.Compare e1 [op] [e2] pos) δ p δ2 /\ bJ X CL b (.Compare e1 [op] [e2] pos) δ (.sh (.bl p)) δ2 := by
 constructor
 . intro H Z σ ts vs Q S k
   refine Bv (qp ho dF dF hm) (h1 H Z σ ts vs _ S fun v1 H1 Z1 z1 k1 S1 r1 => h2 H1 Z1 σ ts vs _ S1 fun v2 H2 Z2 z2 k2 S2 r2 => ?_)
   rw [r1.sc s1, r2.sc s2]
   exact hr H2 _ ⟨p, rfl, k H2 Z2 (z1.trans z2) (k1.trans k2) S2⟩
 . intro H Z σ ts vs Q S k
   refine cA (qo ho dF dF hm) (h1 H Z σ ts vs _ S fun v1 H1 Z1 z1 k1 S1 r1 => h2 H1 Z1 σ ts vs _ S1 fun v2 H2 Z2 z2 k2 S2 r2 => ?_)
   rw [r1.sc s1, r2.sc s2]
   exact hr H2 _ (k _ H2 Z2 (z1.trans z2) (k1.trans k2) (S2.push (.bl p)))
theorem dJ {i j : Int} (h1 : cB X CL b e1 δ (.int i) δ1) (h2 : cB X CL b e2 δ1 (.int j) δ2) : nU X CL b (.Compare e1 [.Eq] [e2] pos) δ (decide (i = j)) δ2 /\ bJ X CL b (.Compare e1 [.Eq] [e2] pos) δ (.sh (.bl (decide (i = j)))) δ2 :=
 qP IG h1 h2 rfl rfl (fun _ _ q => ⟨rfl, by rw [show decide (V.int i = V.int j) = decide (i = j) by simp]; exact q⟩) (jI _)
theorem qQ {i j : Int} (h1 : cB X CL b e1 δ (.int i) δ1) (h2 : cB X CL b e2 δ1 (.int j) δ2) : nU X CL b (.Compare e1 [.NotEq] [e2] pos) δ (!decide (i = j)) δ2 /\ bJ X CL b (.Compare e1 [.NotEq] [e2] pos) δ (.sh (.bl (!decide (i = j)))) δ2 :=
 qP Dt h1 h2 rfl rfl (fun _ _ q => ⟨rfl, by rw [show decide (V.int i = V.int j) = decide (i = j) by simp]; exact q⟩) (jI _)
theorem b8 {i j : Str} (h1 : cB X CL b e1 δ (.str i) δ1) (h2 : cB X CL b e2 δ1 (.str j) δ2) : nU X CL b (.Compare e1 [.Eq] [e2] pos) δ (decide (i = j)) δ2 /\ bJ X CL b (.Compare e1 [.Eq] [e2] pos) δ (.sh (.bl (decide (i = j)))) δ2 :=
 qP IG h1 h2 rfl rfl (fun _ _ q => ⟨rfl, by rw [show decide (V.str i = V.str j) = decide (i = j) by simp]; exact q⟩) (jI _)
theorem Ks {i j : Str} (h1 : cB X CL b e1 δ (.str i) δ1) (h2 : cB X CL b e2 δ1 (.str j) δ2) : nU X CL b (.Compare e1 [.NotEq] [e2] pos) δ (!decide (i = j)) δ2 /\ bJ X CL b (.Compare e1 [.NotEq] [e2] pos) δ (.sh (.bl (!decide (i = j)))) δ2 :=
 qP Dt h1 h2 rfl rfl (fun _ _ q => ⟨rfl, by rw [show decide (V.str i = V.str j) = decide (i = j) by simp]; exact q⟩) (jI _)
theorem Az {i j : Int} (h1 : cB X CL b e1 δ (.int i) δ1) (h2 : cB X CL b e2 δ1 (.int j) δ2) : nU X CL b (.Compare e1 [.Lt] [e2] pos) δ (decide (i < j)) δ2 /\ bJ X CL b (.Compare e1 [.Lt] [e2] pos) δ (.sh (.bl (decide (i < j)))) δ2 := qP MJ h1 h2 rfl rfl (fun _ _ q => ⟨i, j, rfl, rfl, q⟩) (jI _)
theorem sX {i j : Int} (h1 : cB X CL b e1 δ (.int i) δ1) (h2 : cB X CL b e2 δ1 (.int j) δ2) : nU X CL b (.Compare e1 [.Gt] [e2] pos) δ (decide (j < i)) δ2 /\ bJ X CL b (.Compare e1 [.Gt] [e2] pos) δ (.sh (.bl (decide (j < i)))) δ2 := qP MK h1 h2 rfl rfl (fun _ _ q => ⟨i, j, rfl, rfl, q⟩) (jI _)
end
section
variable {K : PySem.W.Frag} {CL : Str -> Addr} {H Z : Hp}
theorem aM.split : ∀ {as bs : List T} {us ws : List V} {gp : List Addr}, as.length = us.length -> aM K CL H Z (as ++ bs) (us ++ ws) gp -> ∃ g1 g2, gp = g1 ++ g2 /\ aM K CL H Z as us g1 /\ aM K CL H Z bs ws g2
 | [], _, [], _, gp, _, r => ⟨[], gp, rfl, .nil, r⟩
 | [], _, _ :: _, _, _, h, _ => by simp at h
 | _ :: _, _, [], _, _, h, _ => by simp at h
 | a :: as, bs, u :: us, ws, gp, h, r => by
   cases r with
   | @cons _ _ _ _ f1 f2 r1 r2 =>
     obtain ⟨g1, g2, e, h1, h2⟩ := aM.split (as := as) (us := us) (by simpa using h) r2
     exact ⟨f1 ++ g1, g2, by rw [e, UH], .cons r1 h1, h2⟩
theorem aM.app {as bs : List T} {us ws : List V} {g1 g2 : List Addr} (h : aM K CL H Z as us g1) (q : aM K CL H Z bs ws g2) : aM K CL H Z (as ++ bs) (us ++ ws) (g1 ++ g2) :=
 aM.ind (P := fun as us g1 => aM K CL H Z (as ++ bs) (us ++ ws) (g1 ++ g2)) q (fun r _ i => by rw [UH]; exact .cons r i) h
theorem aM.rev : ∀ {as : List T} {us : List V} {g : List Addr}, aM K CL H Z as.reverse us.reverse g -> ∃ g', aM K CL H Z as us g' /\ g'.Perm g
 | [], [], g, r => by
   have r' : aM K CL H Z [] [] g := r
   cases r'
   exact ⟨[], .nil, Wa _⟩
 | [], u :: us, g, r => by have := r.length; simp at this
 | a :: as, [], g, r => by have := r.length; simp at this
 | a :: as, u :: us, g, r => by
   rw [VM, VM] at r
   have hl := r.length
   obtain ⟨g1, g2, e, r1, r2⟩ := aM.split (by simp at hl ⊢; omega) r
   subst e
   obtain ⟨g', r', p⟩ := aM.rev r1
   cases r2 with
   | @cons _ _ _ _ f1 f2 q1 q2 =>
     cases q2
     refine ⟨f1 ++ g', .cons q1 r', ?_⟩
     rw [Vr]
     exact (Vl f1 p).trans Vg
theorem aM.toF : ∀ {ds : List D} {us : List V} {g : List Addr}, aM K CL H Z (ds.map T.sh) us g -> aE K CL Z ds us /\ g = []
 | [], _, _, r => by
   have r' : aM K CL H Z [] _ _ := r
   cases r'
   exact ⟨.nil, rfl⟩
 | d :: ds, _, _, r => by
   have r' : aM K CL H Z (T.sh d :: ds.map T.sh) _ _ := r
   cases r' with
   | cons r1 r2 =>
     cases r1 with
     | sh h =>
       obtain ⟨q, e⟩ := aM.toF r2
       exact ⟨.cons h q, by rw [e]; rfl⟩
theorem fc : ∀ (ds : List D), T.fz (ds.map T.sh) = ds
 | [] => rfl
 | d :: ds => by rw [U8, T.fz, fc ds, T.cZ]
end
section
variable {K : PySem.W.Frag} {CL : Str -> Addr} {b : Bx} {H H' Z Z' : Hp} {δ δ' : List (Option T)} {σ σ' : L2.St} {ts tl : List T} {vs us : List V} {t : T} {v : V}
theorem bM.yo {p : Addr} (S : bM K CL b H Z δ σ (tl.reverse ++ ts) (us.reverse ++ vs)) (hl : us.length = tl.length) (hp : H p = none) :
   aD Z (upd Z p (.tup us)) /\ aD H (upd H p (.tup us)) /\ bM K CL b (upd H p (.tup us)) (upd Z p (.tup us)) δ σ (.tup tl :: ts) (.ref p :: vs) := by
 obtain ⟨fp, gp, e, r, nd, k⟩ := S.rep
 obtain ⟨g1, g2, eg, r1, r2⟩ := aM.split (by simp [hl]) r
 subst eg
 obtain ⟨g', r', pm⟩ := r1.rev
 have zp : Z p = none := S.zh.free hp
 have sz : aD Z (upd Z p (.tup us)) := aD.upd zp
 have sh : aD H (upd H p (.tup us)) := aD.upd hp
 have keep : ∀ a ∈ fp ++ (g1 ++ g2), a ≠ p := fun a ha => by
   have : ∃ o, H a = some o := by
     rcases UY.mp ha with h | h
     . exact e.there a h
     . exact r.there a h
   obtain ⟨o, q⟩ := this
   exact aX q hp
 have IL : (fp ++ (g' ++ g2)).Perm (fp ++ (g1 ++ g2)) := (pm.append_right g2).append_left fp
 have kk : ∀ a ∈ fp ++ (g' ++ g2), a ≠ p := fun a ha => keep a (IL.mem_iff.mp ha)
 refine ⟨sz, sh, ⟨⟨fp, g' ++ g2, e.mono sz (fun a ha => aF (keep a (UO _ ha))), .cons (.tup bB (r'.mono sz fun a ha => aF (kk a (by simp [ha])))) (r2.mono sz fun a ha => aF (keep a (by simp [ha]))), IL.nodup_iff.mpr nd, fun a ha => ?_⟩, S.bh.trans sh, S.zz.trans sz, fun a o q => ?_, fun a o q z => ?_, fun a o q i => ?_, S.tab⟩⟩
 . exact ⟨by rw [aF (kk a ha)]; exact (k a (IL.mem_iff.mp ha)).1, (k a (IL.mem_iff.mp ha)).2⟩
 . by_cases ha : a = p
   . subst ha; rw [bB] at q ⊢; exact q
   . rw [aF ha] at q ⊢; exact S.zh a o q
 . by_cases ha : a = p
   . subst ha; exact S.bh.free hp
   . rw [aF ha] at q; exact S.new a o q z
 . by_cases ha : a = p
   . subst ha; rw [bB] at q ⊢; exact q
   . rw [aF ha] at q ⊢; exact S.tp a o q i
theorem bM.nV {p : Addr} {g0 : List Addr} (S : bM K CL b H Z δ σ (tl.reverse ++ ts) (us.reverse ++ vs)) (hl : us.length = tl.length) (hp : H p = none) :
   aD H (upd H p (.lst us)) /\ bM K CL b (upd H p (.lst us)) Z δ σ (.lst tl :: ts) (.ref p :: vs) := by
 obtain ⟨fp, gp, e, r, nd, k⟩ := S.rep
 obtain ⟨g1, g2, eg, r1, r2⟩ := aM.split (by simp [hl]) r
 subst eg
 obtain ⟨g', r', pm⟩ := r1.rev
 have zp : Z p = none := S.zh.free hp
 have sh : aD H (upd H p (.lst us)) := aD.upd hp
 have keep : ∀ a ∈ fp ++ (g1 ++ g2), a ≠ p := fun a ha => by
   have : ∃ o, H a = some o := by
     rcases UY.mp ha with h | h
     . exact e.there a h
     . exact r.there a h
   obtain ⟨o, q⟩ := this
   exact aX q hp
 have IL : (fp ++ (g' ++ g2)).Perm (fp ++ (g1 ++ g2)) := (pm.append_right g2).append_left fp
 have kk : ∀ a ∈ fp ++ (g' ++ g2), a ≠ p := fun a ha => keep a (IL.mem_iff.mp ha)
 have Rp : (fp ++ ((p :: g') ++ g2)).Perm (p :: (fp ++ (g' ++ g2))) := by
   rw [Vb]; exact List.perm_middle
 refine ⟨sh, ⟨⟨fp, (p :: g') ++ g2, e.mono (.refl _) (fun a ha => aF (keep a (UO _ ha))), .cons (.lst bB (r'.mono (.refl _) fun a ha => aF (kk a (by simp [ha])))) (r2.mono (.refl _) fun a ha => aF (keep a (by simp [ha]))), ?_, fun a ha => ?_⟩, S.bh.trans sh, S.zz, S.zh.trans sh, S.new, fun a o q i => ?_, S.tab⟩⟩
 . refine Rp.nodup_iff.mpr (VH.mpr ⟨fun h => kk p h rfl, IL.nodup_iff.mpr nd⟩)
 . rcases UA.mp (Rp.mem_iff.mp ha) with h | h
   . subst h; exact ⟨zp, S.bh.free hp⟩
   . exact k a (IL.mem_iff.mp h)
 . by_cases ha : a = p
   . subst ha; rw [bB] at q; cases q; cases i
   . rw [aF ha] at q; exact S.tp a o q i
end
section
variable {X : Cx} {CL : Str -> Addr} {b : Bx} {δ δ1 δ2 δ3 : List (Option T)} {e e1 e2 e3 : Expr} {es : List Expr} {t t1 t2 : T} {d d1 d2 : D} {tl : List T} {ds : List D} {p q : Bool} {pos : Pos}
theorem c5 : xU X CL b [] δ [] δ := fun H Z σ ts vs Q S k => Bw fL (k [] H Z rfl (.refl _) (.refl _) S)
theorem di (h1 : bJ X CL b e δ t δ1) (h2 : xU X CL b es δ1 tl δ2) (hs : starEach (e :: es) X.env = (false, eval e X.env) :: starEach es X.env := by exact bG rfl) : xU X CL b (e :: es) δ (t :: tl) δ2 := fun H Z σ ts vs Q S k =>
 Bw (cI dF Dd hs) (h1 H Z σ ts vs _ S fun v H1 Z1 z1 k1 S1 => h2 H1 Z1 σ _ _ _ S1 fun us H2 Z2 hl z2 k2 S2 => k (v :: us) H2 Z2 (by simp [hl]) (z1.trans z2) (k1.trans k2) (by
   rw [VM, VM, UH, UH]
   exact S2))
theorem aT : Gf X CL b [] δ [] δ := fun H Z σ ts vs Q S k => Bw fL (k [] H Z (.refl _) (.refl _) S .nil)
theorem au (h1 : cB X CL b e δ d δ1) (h2 : Gf X CL b es δ1 ds δ2) (hs : starEach (e :: es) X.env = (false, eval e X.env) :: starEach es X.env := by exact bG rfl) : Gf X CL b (e :: es) δ (d :: ds) δ2 := fun H Z σ ts vs Q S k =>
 Bw (cI dF Dd hs) (h1 H Z σ ts vs _ S fun v H1 Z1 z1 k1 S1 r1 => h2 H1 Z1 σ _ _ _ S1 fun us H2 Z2 z2 k2 S2 r2 => k (v :: us) H2 Z2 (z1.trans z2) (k1.trans k2) S2 (.cons (r1.mono k2) r2))
theorem Ku {j : Nat} (h : xU X CL b es δ tl δ1) (hl : tl.length <= sizeLine) : bJ X CL b (.Tuple es j pos) δ (.tup tl) δ1 := fun H Z σ ts vs Q S k =>
 cA (JW Dd) (h H Z σ ts vs _ S fun us H1 Z1 hu z1 k1 S1 => ⟨by rw [hu]; exact hl, fun p hp => by
   obtain ⟨a, c, S2⟩ := S1.yo hu hp
   exact k _ _ _ (z1.trans a) (k1.trans c) S2⟩)
theorem aO {j : Nat} (h : xU X CL b es δ (ds.map T.sh) δ1) (hl : ds.length <= sizeLine) : bJ X CL b (.Tuple es j pos) δ (.sh (.tup ds)) δ1 := by
 have := tZ (Ku (pos := pos) (j := j) h (by simpa using hl))
 rwa [T.cZ, fc] at this
theorem dM (h : xU X CL b es δ tl δ1) (hl : tl.length <= sizeLine) : bJ X CL b (.List es pos) δ (.lst tl) δ1 := fun H Z σ ts vs Q S k =>
 cA (JX Dd) (h H Z σ ts vs _ S fun us H1 Z1 hu z1 k1 S1 => ⟨by rw [hu]; exact hl, fun p hp => by
   obtain ⟨c, S2⟩ := S1.nV (g0 := []) hu hp
   exact k _ _ _ z1 (k1.trans c) S2⟩)
theorem jM (h : bJ X CL b e δ (.sh (.bl p)) δ1) (he : ∀ whole, isTrue e X.env whole = (do let v ← whole; standAt e.pos; holding [v] (truthy v)) := by intro _; rfl) : nU X CL b e δ p δ1 := fun H Z σ ts vs Q S k =>
 Bv (Jt dF he) (h H Z σ ts vs _ S fun v H1 Z1 z1 k1 S1 => ⟨p, by have := S1.view; rw [T.cZ] at this; exact this.sc rfl, k H1 Z1 z1 k1 S1.pop⟩)
theorem yp (h : nU X CL b e δ p δ1) : nU X CL b (.UnaryOp .Not e pos) δ (!p) δ1 := fun H Z σ ts vs Q S k => Bv (Jw Kf) (h H Z σ ts vs _ S fun H1 Z1 z1 k1 S1 => k H1 Z1 z1 k1 S1)
noncomputable def Kv (X : Cx) (e : Expr) : TT := fun σ H Q => ∀ (whole : Sem Value) (pins : List (Addr × Obj)) (s : Shared), Inv X pins σ H s -> wpAny (model X.prog X.w) X.A (isTrue e X.env whole) (TP X pins σ Q) X.xe s
theorem Rq {e : Expr} : PW X e (Kv X e) := fun whole pins s _ _ _ I h => h whole pins s I
noncomputable def Kw (X : Cx) (CL : Str -> Addr) (b : Bx) (e : Expr) (δ : List (Option T)) (p : Bool) (δ' : List (Option T)) : Prop :=
 ∀ (H Z : Hp) (σ : L2.St) (ts : List T) (vs : List V) (Q : Bool -> Hp -> Prop), bM X.K CL b H Z δ σ ts vs -> (∀ H' Z', aD Z Z' -> aD H H' -> bM X.K CL b H' Z' δ' σ ts vs -> Q p H') -> Kv X e σ H Q
theorem G6 {t : TT} (h : PW X e t) {σ : L2.St} {H : Hp} {Q : Bool -> Hp -> Prop} (q : t σ H Q) : Kv X e σ H Q := fun whole pins s I => h whole pins s σ H Q I q
theorem qR (h : Kw X CL b e δ p δ1) : nU X CL b e δ p δ1 := fun H Z σ ts vs Q S k pins s I => h H Z σ ts vs Q S k _ pins s I
theorem t7 (h : nU X CL b e δ p δ1) : Kw X CL b (.BoolOp .And [e] pos) δ p δ1 := fun H Z σ ts vs Q S k => G6 (Gv Kf) (h H Z σ ts vs _ S k)
theorem jN (h : nU X CL b e δ p δ1) : Kw X CL b (.BoolOp .Or [e] pos) δ p δ1 := fun H Z σ ts vs Q S k => G6 (Ju Kf) (h H Z σ ts vs _ S k)
theorem yq (h : nU X CL b e δ p δ1) (h2 : p = true -> Kw X CL b (.BoolOp .And (e2 :: es) pos) δ1 q δ1) : Kw X CL b (.BoolOp .And (e :: e2 :: es) pos) δ (p && q) δ1 := fun H Z σ ts vs Q S k =>
 G6 (Jv Kf Rq) (h H Z σ ts vs _ S fun H1 Z1 z1 k1 S1 => by
   cases p with
   | true => exact DJ (h2 rfl H1 Z1 σ ts vs _ S1 fun H2 Z2 z2 k2 S2 => k H2 Z2 (z1.trans z2) (k1.trans k2) S2)
   | false => exact DI (k H1 Z1 z1 k1 S1))
theorem mP (h : nU X CL b e δ p δ1) (h2 : p = false -> Kw X CL b (.BoolOp .Or (e2 :: es) pos) δ1 q δ1) : Kw X CL b (.BoolOp .Or (e :: e2 :: es) pos) δ (p || q) δ1 := fun H Z σ ts vs Q S k =>
 G6 (Mq Kf Rq) (h H Z σ ts vs _ S fun H1 Z1 z1 k1 S1 => by
   cases p with
   | true => exact DJ (k H1 Z1 z1 k1 S1)
   | false => exact DI (h2 rfl H1 Z1 σ ts vs _ S1 fun H2 Z2 z2 k2 S2 => k H2 Z2 (z1.trans z2) (k1.trans k2) S2))
theorem DN {op : BoolOp} (h : bJ X CL b e δ t δ1) : bJ X CL b (.BoolOp op [e] pos) δ t δ1 := fun H Z σ ts vs Q S k => cA (Jx dF) (h H Z σ ts vs _ S k)
theorem DP (h : bJ X CL b e δ (.sh (.bl p)) δ1) (h2 : p = true -> bJ X CL b (.BoolOp .And (e2 :: es) pos) δ1 (.sh (.bl q)) δ1) : bJ X CL b (.BoolOp .And (e :: e2 :: es) pos) δ (.sh (.bl (p && q))) δ1 := fun H Z σ ts vs Q S k =>
 cA (Jy dF dF) (h H Z σ ts vs _ S fun v H1 Z1 z1 k1 S1 => by
   have hv : v = .bl p := by have := S1.view; rw [T.cZ] at this; exact this.sc rfl
   refine ⟨p, hv, ?_⟩
   cases p with
   | true => exact DJ (h2 rfl H1 Z1 σ ts vs _ S1.pop fun v H2 Z2 z2 k2 S2 => k v H2 Z2 (z1.trans z2) (k1.trans k2) S2)
   | false => exact DI (k _ H1 Z1 z1 k1 (S1.pop.push (.bl false))))
theorem DQ (h : bJ X CL b e δ (.sh (.bl p)) δ1) : bJ X CL b (.UnaryOp .Not e pos) δ (.sh (.bl (!p))) δ1 := fun H Z σ ts vs Q S k =>
 cA (L2.Jz dF) (h H Z σ ts vs _ S fun v H1 Z1 z1 k1 S1 => ⟨p, by have := S1.view; rw [T.cZ] at this; exact this.sc rfl, k _ H1 Z1 z1 k1 (S1.pop.push (.bl (!p)))⟩)
theorem qv {K : PySem.W.Frag} {Z : Hp} {vs : List V} {k : Int} (r : aE K CL Z ds vs) (h : sC ds k = some d) : ∃ v, sC vs k = some v /\ bz K CL Z d v := by
 unfold sC at h ⊢
 rw [← r.length]
 cases e : Bs ds.length k with
 | none => rw [e] at h; cases h
 | some j =>
   rw [e] at h
   exact r.get h
theorem aC {k : Int} (h1 : cB X CL b e1 δ (.tup ds) δ1) (h2 : cB X CL b e2 δ1 (.int k) δ2) (hk : sC ds k = some d) (hs : ku e2 := by exact fun _ _ => rfl) : cB X CL b (.Subscript e1 e2 pos) δ d δ2 := fun H Z σ ts vs Q S kk =>
 cA (vS DE dF dF hs) (h1 H Z σ ts vs _ S fun v1 H1 Z1 z1 k1 S1 r1 => h2 H1 Z1 σ ts vs _ S1 fun v2 H2 Z2 z2 k2 S2 r2 => by
   have Nf := r1.mono k2
   cases Nf with
   | tup hq rr =>
     obtain ⟨v, hv, rv⟩ := qv rr hk
     exact ⟨_, _, k, v, rfl, r2.sc rfl, hq, hv, kk v H2 Z2 (z1.trans z2) (k1.trans k2) S2 rv⟩)
theorem aK {k : Int} (h1 : cB X CL b e1 δ (.lst ds) δ1) (h2 : cB X CL b e2 δ1 (.int k) δ2) (hk : sC ds k = some d) (hs : ku e2 := by exact fun _ _ => rfl) : cB X CL b (.Subscript e1 e2 pos) δ d δ2 := fun H Z σ ts vs Q S kk =>
 cA (vS Au dF dF hs) (h1 H Z σ ts vs _ S fun v1 H1 Z1 z1 k1 S1 r1 => h2 H1 Z1 σ ts vs _ S1 fun v2 H2 Z2 z2 k2 S2 r2 => by
   have Nf := r1.mono k2
   cases Nf with
   | lst hq rr =>
     obtain ⟨v, hv, rv⟩ := qv rr hk
     exact ⟨_, _, k, v, rfl, r2.sc rfl, hq, hv, kk v H2 Z2 (z1.trans z2) (k1.trans k2) S2 rv⟩)
theorem DR {k : Int} {x : Str} {c : Nat} (h1 : cB X CL b e1 δ (.str x) δ1) (h2 : cB X CL b e2 δ1 (.int k) δ2) (hl : x.length <= sizeLine) (hk : sC x.cps.toList k = some c) (hs : ku e2 := by exact fun _ _ => rfl) : bJ X CL b (.Subscript e1 e2 pos) δ (.sh (.str ⟨#[c]⟩)) δ2 := fun H Z σ ts vs Q S kk =>
 cA (vS J5 dF dF hs) (h1 H Z σ ts vs _ S fun v1 H1 Z1 z1 k1 S1 r1 => h2 H1 Z1 σ ts vs _ S1 fun v2 H2 Z2 z2 k2 S2 r2 =>
   ⟨x, k, c, r1.sc rfl, r2.sc rfl, hl, hk, kk _ H2 Z2 (z1.trans z2) (k1.trans k2) (S2.push (.str _))⟩)
theorem DS {k : Int} (h1 : bJ X CL b e1 δ (.sh (.tup ds)) δ1) (h2 : cB X CL b e2 δ1 (.int k) δ2) (hk : sC ds k = some d) (hs : ku e2 := by exact fun _ _ => rfl) : bJ X CL b (.Subscript e1 e2 pos) δ (.sh d) δ2 := fun H Z σ ts vs Q S kk =>
 cA (vS DE dF dF hs) (h1 H Z σ ts vs _ S fun v1 H1 Z1 z1 k1 S1 => h2 H1 Z1 σ _ _ _ S1 fun v2 H2 Z2 z2 k2 S2 r2 => by
   obtain ⟨fp, gp, _, r, _, _⟩ := S2.rep
   cases r with
   | cons r _ =>
     cases r with
     | sh r =>
       cases r with
       | tup hq rr =>
         obtain ⟨v, hv, rv⟩ := qv rr hk
         exact ⟨_, _, k, v, rfl, r2.sc rfl, aD.Ge S2.zh hq, hv, kk v H2 Z2 (z1.trans z2) (k1.trans k2) (S2.pop.push rv)⟩)
theorem yr {k : Int} (h1 : bJ X CL b e1 δ (.sh (.lst ds)) δ1) (h2 : cB X CL b e2 δ1 (.int k) δ2) (hk : sC ds k = some d) (hs : ku e2 := by exact fun _ _ => rfl) : bJ X CL b (.Subscript e1 e2 pos) δ (.sh d) δ2 := fun H Z σ ts vs Q S kk =>
 cA (vS Au dF dF hs) (h1 H Z σ ts vs _ S fun v1 H1 Z1 z1 k1 S1 => h2 H1 Z1 σ _ _ _ S1 fun v2 H2 Z2 z2 k2 S2 r2 => by
   obtain ⟨fp, gp, _, r, _, _⟩ := S2.rep
   cases r with
   | cons r _ =>
     cases r with
     | sh r =>
       cases r with
       | lst hq rr =>
         obtain ⟨v, hv, rv⟩ := qv rr hk
         exact ⟨_, _, k, v, rfl, r2.sc rfl, S2.zh.seq hq, hv, kk v H2 Z2 (z1.trans z2) (k1.trans k2) (S2.pop.push rv)⟩)
end
section
variable {K : PySem.W.Frag} {CL : Str -> Addr} {b : Bx} {H H' Z Z' : Hp} {δ δ' : List (Option T)} {σ σ' : L2.St} {ts tl : List T} {vs us : List V} {t : T} {v : V}
theorem bM.pI : ∀ {ds : List D} {us : List V} {ts : List T} {vs : List V}, aE K CL Z ds us -> bM K CL b H Z δ σ ts vs -> bM K CL b H Z δ σ ((ds.map T.sh).reverse ++ ts) (us.reverse ++ vs)
 | _, _, _, _, .nil, S => S
 | _, _, ts, vs, .cons (d := d) (v := v) (ds := ds) (vs := us) r t, S => by
   rw [U8, VM, VM, UH, UH]
   exact bM.pI t (S.push r)
theorem bM.drops (S : bM K CL b H Z δ σ (tl ++ ts) (us ++ vs)) (hl : us.length = tl.length) : bM K CL b H Z δ σ ts vs := by
 induction tl generalizing us with
 | nil =>
   cases us with
   | nil => exact S
   | cons _ _ => simp at hl
 | cons t tl ih =>
   cases us with
   | nil => simp at hl
   | cons u us => exact ih S.pop (by simpa using hl)
theorem bM.G7 {ds : List D} (S : bM K CL b H Z δ σ ((ds.map T.sh).reverse ++ ts) (us.reverse ++ vs)) (hl : us.length = ds.length) : aE K CL Z ds us := by
 obtain ⟨fp, gp, e, r, nd, k⟩ := S.rep
 obtain ⟨g1, g2, eg, r1, r2⟩ := aM.split (by simp [hl]) r
 obtain ⟨g', r', pm⟩ := r1.rev
 exact r'.toF.1
end
section
variable {X : Cx} {CL : Str -> Addr} {b : Bx} {δ δ1 δ2 δ3 : List (Option T)} {e e1 e2 e3 : Expr} {es : List Expr} {t t1 t2 : T} {d d1 d2 : D} {tl : List T} {ds : List D} {p q : Bool} {pos pp : Pos}
theorem mQ (hm : X.mg "len" = none) (h : cB X CL b e δ (.lst ds) δ1) (hg : Gl X "len" := by rfl) (hs : starEach [e] X.env = (false, eval e X.env) :: starEach [] X.env := by exact bG rfl) (hpl : (backTo pos (starEach ([] : List Expr) X.env)).any (·.1) = false := by rfl) : bJ X CL b (.Call (.Name "len" pp) [e] [] pos) δ (.sh (.int ds.length)) δ1 := fun H Z σ ts vs Q S k =>
 cA (mE mK hg hm PySem.boot_len (cI dF fL hs) (he := hs)) (h H Z σ ts vs _ S fun v H1 Z1 z1 k1 S1 r => by
   cases r with
   | lst hq rr => exact ⟨_, _, rfl, .inl hq, by rw [← rr.length]; exact k _ H1 Z1 z1 k1 (S1.push (.int _))⟩)
theorem t8 (hm : X.mg "len" = none) (h : cB X CL b e δ (.tup ds) δ1) (hg : Gl X "len" := by rfl) (hs : starEach [e] X.env = (false, eval e X.env) :: starEach [] X.env := by exact bG rfl) : bJ X CL b (.Call (.Name "len" pp) [e] [] pos) δ (.sh (.int ds.length)) δ1 := fun H Z σ ts vs Q S k =>
 cA (mE mK hg hm PySem.boot_len (cI dF fL hs) (he := hs)) (h H Z σ ts vs _ S fun v H1 Z1 z1 k1 S1 r => by
   cases r with
   | tup hq rr => exact ⟨_, _, rfl, .inr hq, by rw [← rr.length]; exact k _ H1 Z1 z1 k1 (S1.push (.int _))⟩)
theorem bW (hm : X.mg "list" = none) (h : cB X CL b e δ (.lst ds) δ1) (hi : D.bf ds = true) (hg : Gl X "list" := by rfl) (hv : bootBuiltins "list" = some (.type "list") := by rfl) (hs : starEach [e] X.env = (false, eval e X.env) :: starEach [] X.env := by exact bG rfl) : bJ X CL b (.Call (.Name "list" pp) [e] [] pos) δ (.lst (ds.map T.sh)) δ1 := fun H Z σ ts vs Q S k =>
 cA (nR tX hg hm hv (cI dF fL hs) (he := hs)) (h H Z σ ts vs _ S fun v H1 Z1 z1 k1 S1 r => by
   cases r with
   | lst hq rr =>
     refine ⟨_, _, rfl, .inl hq, fun l hl => ?_⟩
     obtain ⟨c, S2⟩ := (bM.pI (aE.ic S1.tp hi rr) S1).nV (g0 := []) (by simp [rr.length]) hl
     exact k _ _ _ z1 (k1.trans c) S2)
noncomputable def lG (K : PySem.W.Frag) (CL : Str -> Addr) {A : Type} (n : Nat) (arg : A -> List D) (Pre : A -> Prop) (res : A -> T) : Sp := fun vs H Q _ =>
 ∃ (W : Hp) (a : A), aD W H /\ (∀ c o, H c = some o -> jK o = true -> W c = some o) /\ aE K CL W (arg a) vs /\ (arg a).length = n /\ Pre a /\ jL CL W ∧
   ∀ v H' W' fp, aD H H' -> aD W W' -> aD W' H' -> (∀ c o, W' c = some o -> W c = none -> H c = none) -> (∀ c o, H' c = some o -> jK o = true -> W' c = some o) →
     b7 K CL H' W' (res a) v fp -> fp.Nodup -> (∀ c ∈ fp, W' c = none /\ H c = none) -> Q v H'
section
variable {A : Type} {k n : Nat} {f : Addr} {fd : FuncData} {ps : List Str} {arg : A -> List D} {Pre : A -> Prop} {res : A -> T} {x : Str}
theorem G8 (a : A) (F : b5 X.prog X.w X.K X.mg X.base iT k f fd ps (lG X.K CL n arg Pre res)) (hr : ek k X.A) (hm : X.mg x = some (.ref f)) (hk : PySem.W.keepIn X.K (.ref f) = true) (hb : Binds X.K fd ps [])
   (h : Gf X CL b (e :: es) δ (arg a) δ1) (hn : (arg a).length = n) (hp : Pre a) (hc : (res a).clean = true) (hg : Gl X x)
   (sE : (x == ("__debug__" : Str)) = false := by decide) (he : starEach (e :: es) X.env = (false, eval e X.env) :: starEach es X.env := by exact bG rfl) (hpl : (backTo pos (starEach es X.env)).any (·.1) = false := by rfl) :
   bJ X CL b (.Call (.Name x pp) (e :: es) [] pos) δ (res a) δ1 := fun H Z σ ts vs Q S kk =>
 cA (Am F hr hg hm hk hb .nil Aw Dd sE he hpl) (h H Z σ ts vs _ S fun us H1 Z1 z1 k1 S1 r => by
   rw [Vr]
   refine ⟨H1, a, .refl _, fun _ _ q _ => q, r, hn, hp, S1.Kl, fun v H' W' fp hh ww wh nw tp rt nd own => ?_⟩
   obtain ⟨Z', z', S'⟩ := S1.back hh S1.zh ww wh nw tp rt nd own (.inr hc)
   exact kk v H' Z' (z1.trans z') (k1.trans hh) S')
theorem DT (a : A) (F : b5 X.prog X.w X.K X.mg X.base iT k f fd ps (lG X.K CL n arg Pre res)) (hr : ek k X.A) (hm : X.mg x = some (.ref f)) (hk : PySem.W.keepIn X.K (.ref f) = true) (hb : Binds X.K fd ps [])
   (h : xU X CL b (e :: es) δ ((arg a).map T.sh) δ1) (hn : (arg a).length = n) (hp : Pre a) (hg : Gl X x)
   (sE : (x == ("__debug__" : Str)) = false := by decide) (he : starEach (e :: es) X.env = (false, eval e X.env) :: starEach es X.env := by exact bG rfl) (hpl : (backTo pos (starEach es X.env)).any (·.1) = false := by rfl) :
   bJ X CL b (.Call (.Name x pp) (e :: es) [] pos) δ (res a) δ1 := fun H Z σ ts vs Q S kk =>
 cA (Am F hr hg hm hk hb .nil Aw Dd sE he hpl) (h H Z σ ts vs _ S fun us H1 Z1 hl z1 k1 S1 => by
   rw [Vr]
   have Rr : us.length = (arg a).length := by rw [hl, Uz]
   have S2 := S1.drops (by simp [Rr])
   refine ⟨Z1, a, S1.zh, S1.tp, S1.G7 Rr, hn, hp, S1.Kh, fun v H' W' fp hh ww wh nw tp rt nd own => ?_⟩
   obtain ⟨Z', z', S'⟩ := S2.back hh (.refl _) ww wh nw tp rt nd own (.inl rfl)
   exact kk v H' Z' (z1.trans z') (k1.trans hh) S')
end
variable {D D' : cu} {st : Stmt} {fK Ng : List Stmt}
theorem Meets.to {K : PySem.W.Frag} {Z : Hp} {ts : List T} {vs : List V} {E : Ends} (M : Meets K CL b Z ts vs D E) (h1 : ∀ δ, D'.nx δ -> D.nx δ) (h2 : ∀ t δ, D'.rt t δ -> D.rt t δ) (h3 : ∀ δ, D'.bk δ -> D.bk δ) (h4 : ∀ δ, D'.ct δ -> D.ct δ) : Meets K CL b Z ts vs D' E :=
 ⟨fun _ _ _ _ s S k => M.nx _ _ _ _ s S (h1 _ k), fun _ _ _ _ _ _ s S k => M.rt _ _ _ _ _ _ s S (h2 _ _ k), fun _ _ _ _ s S k => M.bk _ _ _ _ s S (h3 _ k), fun _ _ _ _ s S k => M.ct _ _ _ _ s S (h4 _ k)⟩
theorem aj (h : D.nx δ) : fJ X CL b [] δ D := fun H Z σ ts vs E S M => M8 Gw (M.nx δ σ H Z (.refl _) S h)
theorem dR (h : Ko X CL b st δ { D with nx := fun δ1 => fJ X CL b fK δ1 D }) : fJ X CL b (st :: fK) δ D := fun H Z σ ts vs E S M =>
 M8 (Dm Sw Kg) (h H Z σ ts vs _ S ⟨fun δ' σ' H' Z' s S' k => k H' Z' σ' ts vs E S' (M.mono s), M.rt, M.bk, M.ct⟩)
theorem Kx (h : bJ X CL b e δ t δ1) (k : D.rt t δ1) : Ko X CL b (.Return (some e) pos) δ D := fun H Z σ ts vs E S M => vW (JA dF) (h H Z σ ts vs _ S fun v H1 Z1 z1 k1 S1 => M.rt t v H1 Z1 δ1 σ z1 S1 k)
theorem Nh (h : nU X CL b e δ p δ1) (h1 : p = true -> fJ X CL b fK δ1 D) (h2 : p = false -> fJ X CL b Ng δ1 D) : Ko X CL b (.If e fK Ng pos) δ D := fun H Z σ ts vs E S M =>
 vW (Mv Kf Kg Kg) (h H Z σ ts vs _ S fun H1 Z1 z1 k1 S1 => by
   cases p with
   | true => exact DJ (h1 rfl H1 Z1 σ ts vs E S1 (M.mono z1))
   | false => exact DI (h2 rfl H1 Z1 σ ts vs E S1 (M.mono z1)))
theorem DU (i : Nat) {x : Str} {pos' : Pos} (h : bJ X CL b e δ t δ1) (k : D.nx (δ1.set i (some t))) (hl : i < δ1.length := by decide) (hN : X.N.Nodup := by assumption) (hi : X.N[i]? = some x := by rfl) (hx : Loc X.env.scope x := by first | exact .inl rfl | exact .inr rfl)
   (hs : swapsWith e (some (.Name x pos')) pos.line X.env = pure false := by rfl) (hf : X.fn x = true \/ X.env.scope.names.lookup x = some .local := by first | exact .inl rfl | exact .inr rfl | assumption) : Ko X CL b (.Assign [.Name x pos'] e pos) δ D := fun H Z σ ts vs E S M =>
 vW (JF hN hi hx dF hs hf) (h H Z σ ts vs _ S fun v H1 Z1 z1 k1 S1 => M.nx _ _ H1 Z1 z1 (S1.set hl) k)
end
noncomputable def entry (N : List Str) (ds : List D) : List (Option T) := ds.map (fun d => some (T.sh d)) ++ List.replicate (N.length - ds.length) none
theorem iV {K : PySem.W.Frag} {CL : Str -> Addr} {H Z : Hp} : ∀ {ds : List D} {vs : List V} (n : Nat), aE K CL Z ds vs -> dI K CL H Z (ds.map (fun d => some (T.sh d)) ++ List.replicate n none) (vs.map some ++ List.replicate n none) []
 | _, _, 0, .nil => .nil
 | _, _, n + 1, .nil => .skip (iV (ds := []) (vs := []) n .nil)
 | _, _, n, .cons r t => .cons (fp := []) (gp := []) (.sh r) (iV n t)
theorem bT {P : Program} {w : World} {K : PySem.W.Frag} {mg : Str -> Option Value} {base : Heap} {CL : Str -> Addr} {x qual : Str} {st : Stmt} {f : Addr} {fd : FuncData} {N ps : List Str} {k : Nat} {A : Type} {arg : A -> List D} {Pre : A -> Prop} {res : A -> T} (F : mO K x qual st f fd) (S : aV N ps (ay st))
   (hb : ∀ (eU : Value) (Ar : Around) (outer : List Env) (s : Shared) (H : Hp) (E : XK) (b : Bx) (a : A), ek k (Ar.deeper (envOfC qual (ay st) s.heap.objs.size f eU)) -> Pre a →
     fJ (vO iT P w K mg base N qual (ay st) f eU Ar outer s H E).LW CL b (e9 st) (entry N (arg a)) { nx := fun _ => res a = .sh .non, rt := fun t _ => t = res a }) :
   b5 P w K mg base iT (k + 1) f fd ps (lG K CL ps.length arg Pre res) := by
 refine F.ok S (fun vs H Q E h => ?_) (fun eU Ar outer s H vs Q E hr h => ?_)
 . obtain ⟨W, a, _, _, r, hl, _⟩ := h
   rw [← r.length]; exact hl
 . obtain ⟨W, a, wh, tp, r, hl, hp, tb, kk⟩ := h
   refine ⟨_, Kg, hb eU Ar outer s H E ⟨H, W⟩ a hr hp H W _ [] [] _ ⟨⟨[], [], ?_, .nil, List.nodup_nil, fun a ha => by cases ha⟩, .refl _, .refl _, wh, fun a o q z => ?_, tp, tb⟩ ⟨fun δ' σ' H' Z' s' S' e => ?_, fun t v H' Z' δ' σ' s' S' e => ?_, fun _ _ _ _ _ _ e => e.elim, fun _ _ _ _ _ _ e => e.elim⟩⟩
   . unfold entry L2.start
     rw [← r.length]
     exact iV _ r
   . have q' : W a = some o := q
     have z' : W a = none := z
     rw [q'] at z'; cases z'
   . exact kk .non H' Z' [] S'.bh S'.zz S'.zh S'.new S'.tp (by rw [show res a = .sh .non from e]; exact .sh .non) List.nodup_nil fun a ha => by cases ha
   . have e' : t = res a := e
     subst e'
     obtain ⟨fp, gp, _, r', nd, own⟩ := S'.rep
     cases r' with
     | @cons _ _ _ _ f1 f2 r1 r2 =>
       have h1 := (Vo.mp nd).2.1
       exact kk v H' Z' f1 S'.bh S'.zz S'.zh S'.new S'.tp r1 (Vo.mp h1).1 fun a ha => own a (UB _ (UO _ ha))
section
variable {prog : Program} {w : World} {A : Around} {R : Result -> Shared -> Prop} {s : Shared}
theorem t9 {elt target iter : Expr} {ifs : List Expr} {scope : Scope} {pos : Pos} {it acc : Value} {env : Env} (I : Nat -> Shared -> Prop)
   (turn : ∀ n s, I n s -> wpAny (model prog w) A (pyNext it) (fun r s₁ => match r with
     | none => R (.ok .next) s₁
     | some v => wpAny (model prog w) A (letOwnedTupleGo target it v) (fun _ IQ => wpAny (model prog w) A (assign target env v) (fun _ s₂ =>
         wpAny (model prog w) A (forIn ifs true fun c r => if r = true then do let ok ← isTrue c env (eval c env); pure (ForInStep.yield ok) else pure (ForInStep.yield r)) (fun ok s₃ =>
           if ok = true then wpAny (model prog w) A (eval elt env) (fun x s₄ =>
             wpAny (model prog w) A (call (.builtin "list.append") [acc, x]) (fun _ s₅ => ∃ m, m < n /\ I m s₅) (fun _ _ => False) s₄) (fun _ _ => False) s₃
           else ∃ m, m < n /\ I m s₃) (fun _ _ => False) s₂) (fun _ _ => False) IQ) (fun _ _ => False) s₁) (fun _ _ => False) s)
   (n : Nat) (h : I n s) :
   codeAny (model prog w) A (.compLoop (.ListComp elt [⟨target, iter, ifs, 0⟩] scope pos) 0 it acc env) R s := by
 refine codeAny_loop rfl I (fun n s hI => ?_) n h
 show wpAny _ A ((compTurn (.ListComp elt [⟨target, iter, ifs, 0⟩] scope pos) 0 it acc env).onRaise (fun x => do noteFrame x env; theTreesLotGoes x)) _ _ s
 refine wpAny_noted ?_
 rw [compTurn_list]
 refine UQ (wpAny_standAt (UQ (VN (turn n s hI) (fun r s₁ h₁ => ?_) fun _ _ h' => h'.elim)))
 cases r with
 | none => exact U6 h₁
 | some v =>
   refine UQ (VN h₁ (fun _ IQ Ni => ?_) fun _ _ h' => h'.elim)
   refine UQ (VN Ni (fun _ s₂ h₂ => UQ (VN h₂ (fun ok s₃ h₃ => ?_) fun _ _ h' => h'.elim)) fun _ _ h' => h'.elim)
   cases ok with
   | false => exact U6 ⟨rfl, h₃⟩
   | true =>
     exact UQ (UQ (VN h₃ (fun x s₄ h₄ => UQ (VN h₄ (fun _ s₅ h₅ => U6 (U6 ⟨rfl, h₅⟩)) fun _ _ h' => h'.elim)) fun _ _ h' => h'.elim))
end
noncomputable def eu (env : Env) : List (Str × NameKind) -> List (Str × Addr) -> List (Str × Addr)
 | [], cs => cs
 | (n, k) :: r, cs => eu env r (if k == .free then (n, (env.cells.lookup n).getD 0) :: cs else cs)
theorem sH {scope : Scope} {env : Env} (h : ∀ x ∈ scope.names, x.2 = .free -> ∃ c, env.cells.lookup x.1 = some c) : closureFor scope env = pure (eu env scope.names []) := by
 have go : ∀ (l : List (Str × NameKind)) (cs : List (Str × Addr)), (∀ x ∈ l, x.2 = .free -> ∃ c, env.cells.lookup x.1 = some c) →
     (forIn l cs fun x r => match x with | (name, kind) => if (kind == NameKind.free) = true then do let a ← cellOf env name; pure (ForInStep.yield ((name, a) :: r)) else pure (ForInStep.yield r) : Sem (List (Str × Addr))) = pure (eu env l cs) := by
   intro l
   induction l with
   | nil => intro cs _; rfl
   | cons x r ih =>
     intro cs hx
     obtain ⟨n, k⟩ := x
     rw [List.forIn_cons]
     by_cases hk : k = .free
     . subst hk
       obtain ⟨c, hc⟩ := hx (n, .free) UD rfl
       have e : cellOf env n = pure c := by unfold cellOf; rw [hc]
       simp only [beq_self_eq_true, if_true, e, pure_bind]
       rw [ih _ fun y hy => hx y (UC _ hy)]
       simp only [eu, beq_self_eq_true, if_true]
       rw [hc]; rfl
     . have hb : (k == NameKind.free) = false := by simpa using hk
       simp only [hb, Bool.false_eq_true, if_false, pure_bind]
       rw [ih _ fun y hy => hx y (UC _ hy)]
       simp only [eu, hb, Bool.false_eq_true, if_false]
 unfold closureFor
 have := go scope.names [] h
 simp only [bind_pure] at this ⊢
 exact this
theorem lH {env : Env} : ∀ {l : List (Str × NameKind)} {cs : List (Str × Addr)} {y : Str} {c : Addr}, (∀ x ∈ l, x.2 = .free -> ∃ c, env.cells.lookup x.1 = some c) -> (∀ y c, cs.lookup y = some c -> env.cells.lookup y = some c) →
   (eu env l cs).lookup y = some c -> env.cells.lookup y = some c
 | [], cs, y, c, _, h, e => h y c e
 | (n, k) :: r, cs, y, c, hx, h, e => by
   refine lH (l := r) (fun z hz => hx z (UC _ hz)) (fun z d hz => ?_) e
   by_cases hk : k = .free
   . subst hk
     obtain ⟨c', hc⟩ := hx (n, .free) UD rfl
     simp only [beq_self_eq_true, if_true, hc, Option.getD_some, Ve] at hz
     by_cases Qm : (z == n) = true
     . rw [Qm] at hz
       have : z = n := by simpa using Qm
       subst this
       cases hz
       exact hc
     . have : (z == n) = false := by simpa using Qm
       rw [this] at hz
       exact h z d hz
   . have hb : (k == NameKind.free) = false := by simpa using hk
     rw [hb] at hz
     exact h z d hz
theorem pJ {env : Env} {y : Str} : ∀ {l : List (Str × NameKind)} {cs : List (Str × Addr)}, (∃ c, cs.lookup y = some c) -> ∃ c, (eu env l cs).lookup y = some c
 | [], cs, h => h
 | (n, k) :: r, cs, h => by
   refine pJ (l := r) ?_
   by_cases hk : (k == NameKind.free) = true
   . rw [UR hk, Ve]
     by_cases hy : (y == n) = true
     . rw [hy]; exact ⟨_, rfl⟩
     . have : (y == n) = false := by simpa using hy
       rw [this]; exact h
   . rw [UE hk]; exact h
theorem lI {env : Env} {y : Str} : ∀ {l : List (Str × NameKind)} {cs : List (Str × Addr)}, l.lookup y = some .free -> ∃ c, (eu env l cs).lookup y = some c
 | [], _, h => by simp at h
 | (n, k) :: r, cs, h => by
   rw [Ve] at h
   by_cases hy : (y == n) = true
   . rw [hy] at h
     cases h
     refine pJ (l := r) ?_
     rw [UR (by rfl), Ve, hy]
     exact ⟨_, rfl⟩
   . have : (y == n) = false := by simpa using hy
     rw [this] at h
     exact lI (l := r) h
noncomputable def b9 (X : Cx) (scope : Scope) (Nc : List Str) (C : Addr) (s : Shared) (H : Hp) (fp : List Addr) : Cx where
 prog := X.prog
 w := X.w
 K := X.K
 mg := X.mg
 base := X.base
 A := X.A
 N := Nc
 s₀ := s
 H₀ := H
 env := compEnvC scope (eu X.env scope.names []) C X.env
 outer := X.stack
 stack := X.stack
 ex := fp
 fn := fun _ => false
 calm := X.calm
 pn := []
 xe := fun _ _ => False
structure iJ (X : Cx) (scope : Scope) (x : Str) (Nc : List Str) (ix : List Nat) : Prop where
 kind : scope.kind = .function
 ua : ∀ y ∈ scope.names, y.2 ≠ .cell
 nd : Nc.Nodup
 names : ∀ y ∈ scope.names, y.2 = .local -> scope.names.lookup y.1 = some .local
 own : scope.names.lookup x = some .local
 frees : ∀ y ∈ scope.names, y.2 = .free -> scope.names.lookup y.1 = some .free /\ (X.env.kindOf y.1 = some .cell \/ X.env.kindOf y.1 = some .free)
 hd : Nc = x :: ix.filterMap (X.N[·]?)
 Nj : ∀ i ∈ ix, ∃ y, X.N[i]? = some y /\ scope.names.lookup y = some .free
theorem c6 {env : Env} : ∀ {names : List (Str × NameKind)} {x : Str} {k : NameKind}, names.lookup x = some k -> 
   (names.map fun (n, k) => if (k == NameKind.free && env.scope.kind == .function && env.kindOf n == some .cell) then (n, NameKind.cell) else (n, k)).lookup x = some (if (k == NameKind.free && env.scope.kind == .function && env.kindOf x == some .cell) then .cell else k)
 | [], _, _, h => by simp at h
 | (n, k') :: r, x, k, h => by
   have ih := @c6 env r x k
   show List.lookup x ((if (k' == NameKind.free && env.scope.kind == .function && env.kindOf n == some .cell) = true then (n, NameKind.cell) else (n, k')) :: _) = _
   cases hx : x == n with
   | true =>
     simp only [Ve, hx] at h
     cases h
     have e : x = n := by simpa using hx
     subst e
     split <;> simp [Ve]
   | false =>
     simp only [Ve, hx] at h
     split
     . simp only [Ve, hx]; exact ih h
     . simp only [Ve, hx]; exact ih h
theorem fM {env : Env} : ∀ {names : List (Str × NameKind)} {x : Str}, names.lookup x = none -> 
   (names.map fun (n, k) => if (k == NameKind.free && env.scope.kind == .function && env.kindOf n == some .cell) then (n, NameKind.cell) else (n, k)).lookup x = none
 | [], _, _ => rfl
 | (n, k') :: r, x, h => by
   have ih := @fM env r x
   show List.lookup x ((if (k' == NameKind.free && env.scope.kind == .function && env.kindOf n == some .cell) = true then (n, NameKind.cell) else (n, k')) :: _) = _
   cases hx : x == n with
   | true => simp only [Ve, hx] at h; cases h
   | false =>
     simp only [Ve, hx] at h
     split
     . simp only [Ve, hx]; exact ih h
     . simp only [Ve, hx]; exact ih h
section
variable {X : Cx} {scope : Scope} {x : Str} {Nc : List Str} {ix : List Nat} {pins : List (Addr × Obj)} {σ : L2.St} {H : Hp} {s : Shared}
theorem By {fp : List Addr} {Ac : List (Addr × Obj)} {σ' : L2.St} {H' : Hp} {s' : Shared} {L4 : Heap} (I : Inv X pins σ H s) (qu : ∀ b ∈ fp, qc X pins H b)
   (J : Inv (b9 X scope Nc s.heap.objs.size s H fp) Ac σ' H' s') (hs : Heap.SameBut s.heap.objs.size s'.heap L4) : Inv X pins σ H' { s' with heap := L4 } := by
 have un : Un (C9 X.stack) fp H H' s.heap s'.heap := J.base
 have SD : Un (C9 X.stack) fp H H' s.heap L4 := by
   have ne : ∀ b o, s.heap.get? b = some o -> b ≠ s.heap.objs.size := fun b o e => Vq (UZ e)
   refine ⟨fun b o e n hb hx => (hs.2 b (ne b o e)).trans (un.keep b o e n hb hx), fun b o e n hb hx => ?_, un.free, fun b o e hx => ?_, un.tN, un.fz, un.tO⟩
   . obtain ⟨sl, q⟩ := un.slot b o e n hb hx
     exact ⟨sl, (hs.2 b (ne b o e)).trans q⟩
   . obtain ⟨o', q⟩ := un.there b o e hx
     exact ⟨o', (hs.2 b (ne b o e)).trans q⟩
 have nC : H' s.heap.objs.size = none := J.free
 have dB : ql X.prog X.w H' L4 := fun b u e => by
   refine (J.dB b u e).Be (fun c v hc q => (hs.2 c ?_).trans q) (fun _ q => q) fun _ _ q => q
   rintro rfl
   rcases hc with z | z
   . subst z; rw [nC] at e; cases e
   . rw [nC] at z; cases z
 obtain ⟨hh, g, d, t, LZ⟩ := s'
 obtain rfl : LZ = s.os := J.os
 show L2.Inv X pins σ H' { s with heap := L4, gens := g, drawn := d, toks := t }
 exact I.call (h' := L4) (g' := g) (d' := d) (t' := t) (ch := fp) SD dB J.bare fun b hb => ⟨(qu b hb).2.2.2.1, (qu b hb).2.1, (qu b hb).2.2.2.2.1, (qu b hb).2.2.2.2.2⟩
noncomputable def Ky (X : Cx) : List Expr -> TT
 | [] => fun _ H Q => Q true H
 | [c] => GZ X c
 | _ => fun _ _ _ => False
theorem DV {ifs : List Expr} {Q : Bool -> Hp -> Prop} (I : Inv X pins σ H s) (h : Ky X ifs σ H Q) (hx : X.xe = fun _ _ => False) :
   wpAny (model X.prog X.w) X.A (forIn ifs true fun c r => if r = true then do let ok ← isTrue c X.env (eval c X.env); pure (ForInStep.yield ok) else pure (ForInStep.yield r)) (TP X pins σ Q) (fun _ _ => False) s := by
 match ifs, h with
 | [], h => exact wpAny_tests_nil ⟨H, I, h⟩
 | [c], h =>
   have := h pins s I
   rw [hx] at this
   exact wpAny_tests_one this
end
noncomputable def OU (X : Cx) (CL : Str -> Addr) (b : Bx) (ifs : List Expr) (δ : List (Option T)) (p : Bool) : Prop :=
 match ifs with
 | [] => p = true
 | [c] => nU X CL b c δ p δ
 | _ => False
theorem OU.SG {X : Cx} {CL : Str -> Addr} {b : Bx} {ifs : List Expr} {δ : List (Option T)} {p : Bool} (h : OU X CL b ifs δ p) {H Z : Hp} {σ : L2.St} {Q : Bool -> Hp -> Prop} (S : bM X.K CL b H Z δ σ [] [])
   (k : ∀ H' Z', aD Z Z' -> aD H H' -> bM X.K CL b H' Z' δ σ [] [] -> Q p H') : Ky X ifs σ H Q := by
 match ifs, h with
 | [], h =>
   have e : p = true := h
   subst e
   exact k H Z (.refl _) (.refl _) S
 | [c], h => exact (show nU X CL b c δ p δ from h) H Z σ [] [] Q S k
theorem gi {ts : List T} : (T.lst ts).clean = T.cJ ts := by rw [T.clean]
theorem qS {g : D -> T} : ∀ {ds : List D}, (∀ d ∈ ds, (g d).clean = true) -> T.cJ (ds.map g) = true
 | [], _ => by rw [List.map_nil, T.cJ]
 | d :: ds, h => by
   rw [U8, T.cJ, h d UD, qS fun e he => h e (UC _ he)]
   rfl
section
variable {X : Cx} {CL : Str -> Addr} {b : Bx} {H Z W1 : Hp} {δ δc : List (Option T)} {σ : L2.St} {ts : List T} {vs us : List V} {ds : List D} {scope : Scope} {Nc : List Str} {ix : List Nat} {elt : Expr} {ifs : List Expr} {p : D -> Bool} {g : D -> T} {J : It}
end
section
variable {K : PySem.W.Frag} {CL : Str -> Addr} {b : Bx} {H H' Z Z' : Hp} {δ δ' : List (Option T)} {σ σ' : L2.St} {ts tl : List T} {vs us : List V} {t : T} {v : V}
theorem aM.at : ∀ {tl : List T} {us : List V} {fp : List Addr} {j : Nat} {t : T}, aM K CL H Z tl us fp -> tl[j]? = some t -> ∃ v f1 f2 f3, us[j]? = some v /\ fp = f1 ++ (f2 ++ f3) /\ b7 K CL H Z t v f2 ∧
   ∀ {H' : Hp} {t' : T} {v' : V} {g : List Addr}, (∀ a ∈ f1 ++ f3, H' a = H a) -> b7 K CL H' Z t' v' g -> aM K CL H' Z (tl.set j t') (us.set j v') (f1 ++ (g ++ f3))
 | _, _, _, _, _, .nil, e => by simp at e
 | _, _, _, 0, _, .cons (fp := fp) (gp := gp) r q, e => by
   simp at e
   subst e
   exact ⟨_, [], fp, gp, rfl, rfl, r, fun {H' t' v' g} k r' => aM.cons (fp := g) (gp := gp) r' (aM.mono (fp := gp) (.refl _) (fun a ha => k a (by simpa using ha)) q)⟩
 | _, _, _, j + 1, t, .cons (fp := fp) (gp := gp) r q, e => by
   obtain ⟨v, f1, f2, f3, h1, h2, h3, h4⟩ := aM.at (j := j) (t := t) q (by simpa using e)
   refine ⟨v, fp ++ f1, f2, f3, by simpa using h1, by rw [h2, List.append_assoc], h3, fun k r' => ?_⟩
   rw [UH]
   exact .cons (r.mono (.refl _) fun a ha => k a (by simp [ha])) (h4 (fun a ha => k a (by rw [UH]; exact UB _ ha)) r')
theorem qT {α : Type} {l : List α} {i : Nat} {x : α} (h : l[i]? = some x) : l.set i x = l := by
 apply List.ext_getElem?
 intro j
 rw [List.getElem?_set]
 split
 . rename_i e; subst e
   split
   . exact h.symm
   . rename_i h2; rw [List.getElem?_eq_none (by omega)]
 . rfl
theorem bM.write {a : Addr} {xs : List V} {f1 f2 f3 g gp Kz : List Addr} {δ2 : List (Option T)} (S : bM K CL b H Z δ σ ts vs) (nd : ((f1 ++ (f2 ++ f3)) ++ gp).Nodup) (own : ∀ c ∈ (f1 ++ (f2 ++ f3)) ++ gp, Z c = none /\ b.B c = none) (ha : a ∈ f2)
   (hH : ∃ o, H a = some o) (e' : dI K CL (upd H a (.lst xs)) Z δ2 σ (f1 ++ (g ++ f3))) (r' : aM K CL (upd H a (.lst xs)) Z tl us Kz) (pm : ((f1 ++ (g ++ f3)) ++ Kz).Nodup) (sub : ∀ c ∈ (f1 ++ (g ++ f3)) ++ Kz, c ∈ (f1 ++ (f2 ++ f3)) ++ gp) :
   bM K CL b (upd H a (.lst xs)) Z δ2 σ tl us := by
 have oa := own a (by simp [ha])
 refine ⟨⟨_, _, e', r', pm, fun c hc => own c (sub c hc)⟩, fun c o q => ?_, S.zz, fun c o q => ?_, S.new, fun c o q i => ?_, S.tab⟩
 . rw [aF (aX q oa.2)]; exact S.bh c o q
 . rw [aF (aX q oa.1)]; exact S.zh c o q
 . by_cases hc : c = a
   . subst hc; rw [bB] at q; cases q; cases i
   . rw [aF hc] at q; exact S.tp c o q i
theorem bM.append {i : Nat} (S : bM K CL b H Z δ σ (t :: ts) (v :: vs)) (hi : δ[i]? = some (some (.lst tl))) :
   ∃ a us, σ[i]? = some (some (.ref a)) /\ H a = some (.lst us) /\ us.length = tl.length /\ bM K CL b (upd H a (.lst (us ++ [v]))) Z (δ.set i (some (.lst (tl ++ [t])))) σ ts vs := by
 obtain ⟨fp, gp, e, r, nd, k⟩ := S.rep
 obtain ⟨v0, f1, f2, f3, hv, qu, rt, put, _⟩ := e.get hi
 subst qu
 cases rt with
 | @lst a us _ g ha rs =>
   cases r with
   | @cons _ _ _ _ ft gr q1 q2 =>
     have ne : ∀ c ∈ (f1 ++ (g ++ f3)) ++ (ft ++ gr), c ≠ a := fun c hc e => by
       subst e
       have hp : ((f1 ++ ((c :: g) ++ f3)) ++ (ft ++ gr)).Perm (c :: ((f1 ++ (g ++ f3)) ++ (ft ++ gr))) := by
         rw [Vb, ← Vb]
         exact (List.perm_middle.append_right _)
       exact (VH.mp (hp.nodup_iff.mp nd)).1 hc
     refine ⟨a, us, hv, ha, rs.length.symm, ?_⟩
     have r1 : b7 K CL (upd H a (.lst (us ++ [v]))) Z (.lst (tl ++ [t])) (.ref a) (a :: (g ++ (ft ++ []))) :=
       .lst bB (aM.app (rs.mono (.refl _) fun c hc => aF (ne c (by simp [hc]))) (.cons (q1.mono (.refl _) fun c hc => aF (ne c (by simp [hc]))) .nil))
     have e2 := put (H' := upd H a (.lst (us ++ [v]))) (.refl _) (fun c hc => aF (ne c (by
       rcases UY.mp hc with h | h
       . simp [h]
       . simp [h]))) r1
     rw [qT hv] at e2
     have hp : ((f1 ++ ((a :: (g ++ (ft ++ []))) ++ f3)) ++ gr).Perm ((f1 ++ ((a :: g) ++ f3)) ++ (ft ++ gr)) := by
       simp only [Vr, Vb, UH]
       refine Vl f1 (List.Perm.cons a (Vl g ?_))
       rw [← UH, ← UH]
       exact Vg.append_right gr
     exact S.write nd k (UD) ⟨_, ha⟩ e2 (q2.mono (.refl _) fun c hc => aF (ne c (by simp [hc]))) (hp.nodup_iff.mpr nd) fun c hc => hp.mem_iff.mp hc
theorem bM.setAt {i j : Nat} (S : bM K CL b H Z δ σ (t :: ts) (v :: vs)) (hi : δ[i]? = some (some (.lst tl))) (hj : j < tl.length) :
   ∃ a us, σ[i]? = some (some (.ref a)) /\ H a = some (.lst us) /\ us.length = tl.length /\ bM K CL b (upd H a (.lst (us.set j v))) Z (δ.set i (some (.lst (tl.set j t)))) σ ts vs := by
 obtain ⟨fp, gp, e, r, nd, k⟩ := S.rep
 obtain ⟨v0, f1, f2, f3, hv, qu, rt, put, _⟩ := e.get hi
 subst qu
 cases rt with
 | @lst a us _ g ha rs =>
   cases r with
   | @cons _ _ _ _ ft gr q1 q2 =>
     have ne : ∀ c ∈ (f1 ++ (g ++ f3)) ++ (ft ++ gr), c ≠ a := fun c hc e => by
       subst e
       have hp : ((f1 ++ ((c :: g) ++ f3)) ++ (ft ++ gr)).Perm (c :: ((f1 ++ (g ++ f3)) ++ (ft ++ gr))) := by
         rw [Vb, ← Vb]
         exact (List.perm_middle.append_right _)
       exact (VH.mp (hp.nodup_iff.mp nd)).1 hc
     refine ⟨a, us, hv, ha, rs.length.symm, ?_⟩
     obtain ⟨vj, g1, g2, g3, _, hg, _, set⟩ := rs.at (Vf hj)
     subst hg
     have r1 : b7 K CL (upd H a (.lst (us.set j v))) Z (.lst (tl.set j t)) (.ref a) (a :: (g1 ++ (ft ++ g3))) :=
       .lst bB (set (fun c hc => aF (ne c (by
         rcases UY.mp hc with h | h
         . simp [h]
         . simp [h]))) (q1.mono (.refl _) fun c hc => aF (ne c (by simp [hc]))))
     have e2 := put (H' := upd H a (.lst (us.set j v))) (.refl _) (fun c hc => aF (ne c (by
       rcases UY.mp hc with h | h
       . simp [h]
       . simp [h]))) r1
     rw [qT hv] at e2
     have hp : ((f1 ++ ((a :: (g1 ++ (ft ++ g3))) ++ f3)) ++ gr).Perm ((f1 ++ ((a :: (g1 ++ g3)) ++ f3)) ++ (ft ++ gr)) := by
       simp only [Vb, UH]
       refine Vl f1 (List.Perm.cons a (Vl g1 ?_))
       have := (Vg (l₁ := ft) (l₂ := g3 ++ f3)).append_right gr
       simp only [UH] at this
       exact this
     have sb : ((f1 ++ ((a :: (g1 ++ g3)) ++ f3)) ++ (ft ++ gr)).Sublist ((f1 ++ ((a :: (g1 ++ (g2 ++ g3))) ++ f3)) ++ (ft ++ gr)) := by
       refine Vc (Vc (Va _) (Vc (List.Sublist.cons₂ a ?_) (Va _))) (Va _)
       exact Vc (Va _) (Vx _ _)
     exact S.write nd k (UD) ⟨_, ha⟩ e2 (q2.mono (.refl _) fun c hc => aF (ne c (by simp [hc]))) (hp.nodup_iff.mpr (nd.sublist sb)) fun c hc => sb.subset (hp.mem_iff.mp hc)
end
section
variable {X : Cx} {CL : Str -> Addr} {b : Bx} {δ δ1 δ2 : List (Option T)} {e e2 : Expr} {t : T} {tl Gg tt Qn : List T} {D : cu} {pos pp pa pb : Pos}
theorem KC (i : Nat) {x : Str} (h0 : δ[i]? = some (some (.lst Gg))) (h : bJ X CL b e δ t δ1) (h1 : δ1[i]? = some (some (.lst tl))) (hl : tl.length < sizeLine) (k : D.nx (δ1.set i (some (.lst (tl ++ [t])))))
   (hi : X.N[i]? = some x := by rfl) (hv : LV X.env.scope x := by first | exact Or.inl rfl | exact Or.inr (Or.inl rfl) | exact Or.inr (Or.inr rfl)) (hd : (x == ("__debug__" : Str)) = false := by decide) (kr : (x == ("__classdict__" : Str)) = false := by decide)
   (mL : attributeBase (.Name x pp) "append" X.env (eval (.Name x pp) X.env) = eval (.Name x pp) X.env := by rfl)
   (tY : ((backTo pb (starEach [e] X.env)).all (fun x => !x.1) && (backToKw pb (keywordEach [] X.env)).all (fun x => x.1.isSome) && decide ([e].length + ([] : List Keyword).length + (if ([] : List Keyword).isEmpty then 0 else 1) < 30)) = true := by rfl)
   (hline : (pa.endLine == pb.line) = true := by rfl) (hs : starEach [e] X.env = (false, eval e X.env) :: starEach [] X.env := by exact bG rfl) (BD : swapsWith (.Call (.Attribute (.Name x pp) "append" pa) [e] [] pb) none pos.line X.env = pure false := by rfl) :
   Ko X CL b (.Expr (.Call (.Attribute (.Name x pp) "append" pa) [e] [] pb) pos) δ D := fun H Z σ ts vs E S M =>
 vW (Gy (DG PySem.F.plainAttrs_list PySem.F.slot_list_append PySem.F.type_list_append sV (lE hi hv hd kr) (cI dF fL hs) mL tY hline hs rfl) BD) (by
   obtain ⟨v0, e0, r0⟩ := S.look h0
   refine ⟨v0, e0, ?_, ?_⟩
   . rw [T.cZ] at r0
     cases r0 with
     | lst hq _ => exact .inl ⟨rfl, _, hq⟩
   . refine h H Z σ ts vs _ S fun v H1 Z1 z1 k1 S1 => ?_
     obtain ⟨a, us, ea, ha, hu, S2⟩ := S1.append h1
     rw [e0] at ea
     cases ea
     exact ⟨a, us, v, rfl, rfl, ha, by rw [hu]; exact hl, M.nx _ σ _ Z1 z1 S2 k⟩)
end
noncomputable def Nk : Option (Option T) -> Option T
 | some (some t) => some (.sh t.cZ)
 | _ => none
noncomputable def Rt : Option (Option T) -> Option T
 | some (some (T.sh d)) => some (.sh d)
 | _ => none
noncomputable def vX (δ : List (Option T)) (ix : List Nat) : List (Option T) := ix.map fun i => Nk δ[i]?
noncomputable def vY (δ : List (Option T)) (ix : List Nat) : List (Option T) := ix.map fun i => Rt δ[i]?
section
variable {K : PySem.W.Frag} {CL : Str -> Addr} {b : Bx} {H Z : Hp} {δ : List (Option T)} {σ : L2.St} {ts : List T} {vs : List V}
theorem vZ (S : bM K CL b H Z δ σ ts vs) : ∀ (ix : List Nat) (H' : Hp), dI K CL H' H (vX δ ix) (ix.map fun i => (σ[i]?).getD none) []
 | [], _ => .nil
 | i :: r, H' => by
   have ih := vZ S r H'
   show dI K CL H' H (Nk δ[i]? :: vX δ r) (((σ[i]?).getD none) :: r.map fun i => (σ[i]?).getD none) []
   cases e : δ[i]? with
   | none => exact .skip ih
   | some o =>
     cases o with
     | none => exact .skip ih
     | some t =>
       obtain ⟨v, hv, rv⟩ := S.look e
       rw [hv]
       exact .cons (fp := []) (gp := []) (.sh rv) ih
theorem v5 (S : bM K CL b H Z δ σ ts vs) : ∀ (ix : List Nat) (H' : Hp), dI K CL H' Z (vY δ ix) (ix.map fun i => (σ[i]?).getD none) []
 | [], _ => .nil
 | i :: r, H' => by
   have ih := v5 S r H'
   show dI K CL H' Z (Rt δ[i]? :: vY δ r) (((σ[i]?).getD none) :: r.map fun i => (σ[i]?).getD none) []
   cases e : δ[i]? with
   | none => exact .skip ih
   | some o =>
     cases o with
     | none => exact .skip ih
     | some t =>
       cases t with
       | sh d =>
         obtain ⟨v, hv, rv⟩ := S.II e
         rw [hv]
         exact .cons (fp := []) (gp := []) (.sh rv) ih
       | tup _ => exact .skip ih
       | lst _ => exact .skip ih
       | ins _ _ => exact .skip ih
       | sG _ => exact .skip ih
       | pin _ _ => exact .skip ih
end
section
variable {X : Cx} {CL : Str -> Addr} {b : Bx} {δ δ1 : List (Option T)} {scope : Scope} {x : Str} {Nc : List Str} {ix : List Nat} {elt iter : Expr} {ifs : List Expr} {px pos : Pos} {ds : List D}
structure Comes (X : Cx) (CL : Str -> Addr) (b : Bx) (δ1 : List (Option T)) (σ : L2.St) (ts : List T) (vs : List V) (Z H : Hp) (ds : List D) (J : It) (H1 : Hp) : Prop where
 ex : ∃ Z1 us, aD Z Z1 /\ aD H H1 /\ bM X.K CL b H1 Z1 δ1 σ ts vs /\ aE X.K CL Z1 ds us /\ (∀ i H2, aD Z1 H2 -> i < ds.length -> J.go i H2) ∧
   (∀ i H2 x H', aD Z1 H2 -> i < ds.length -> J.IE i H2 x H' -> H' = H2 /\ us[i]? = some x) /\ (∀ H2, aD Z1 H2 -> J.stop ds.length H2)
noncomputable def G9 (X : Cx) (CL : Str -> Addr) (b : Bx) (tg e : Expr) (δ : List (Option T)) (ds : List D) (δ1 : List (Option T)) : Prop :=
 ∃ wi, PI X tg e wi /\ ∀ (H Z : Hp) (σ : L2.St) (ts : List T) (vs : List V) (R : It -> Hp -> Prop), bM X.K CL b H Z δ σ ts vs -> (∀ J H1, Comes X CL b δ1 σ ts vs Z H ds J H1 -> R J H1) -> wi σ H R
theorem yt {tg : Expr} (h : bJ X CL b iter δ (.sh (.lst ds)) δ1) : G9 X CL b tg iter δ ds δ1 := by
 refine ⟨_, Gz dF, fun H Z σ ts vs R S k => h H Z σ ts vs _ S fun v H1 Z1 z1 k1 S1 => ?_⟩
 obtain ⟨fp, gp, _, r, _, _⟩ := S1.rep
 cases r with
 | cons r _ =>
   cases r with
   | sh r =>
     cases r with
     | @lst a us _ hq rr =>
       refine ⟨a, rfl, ⟨us, S1.zh.seq hq⟩, k _ _ ⟨Z1, us, z1, k1, S1.pop, rr, fun i H2 s hi => ?_, fun i H2 y H' s hi hy => ⟨hy.1, hy.2 us (s.seq hq)⟩, fun H2 s => ⟨us, s.seq hq, by rw [rr.length]; exact UJ _⟩⟩⟩
       have L5 : i < us.length := by rw [← rr.length]; exact hi
       exact ⟨us, us[i], s.seq hq, by simp [L5]⟩
theorem yu {tg : Expr} (h : bJ X CL b iter δ (.sh (.tup ds)) δ1) : G9 X CL b tg iter δ ds δ1 := by
 refine ⟨_, JH dF, fun H Z σ ts vs R S k => h H Z σ ts vs _ S fun v H1 Z1 z1 k1 S1 => ?_⟩
 obtain ⟨fp, gp, _, r, _, _⟩ := S1.rep
 cases r with
 | cons r _ =>
   cases r with
   | sh r =>
     cases r with
     | @tup a us _ hq rr =>
       refine ⟨a, rfl, ⟨us, aD.Ge S1.zh hq⟩, k _ _ ⟨Z1, us, z1, k1, S1.pop, rr, fun i H2 s hi => ?_, fun i H2 y H' s hi hy => ⟨hy.1, hy.2 us (aD.Ge s hq)⟩, fun H2 s => ⟨us, aD.Ge s hq, by rw [rr.length]; exact UJ _⟩⟩⟩
       have L5 : i < us.length := by rw [← rr.length]; exact hi
       exact ⟨us, us[i], aD.Ge s hq, by simp [L5]⟩
noncomputable def c7 (lo : Int) (n : Nat) : List D := (List.range n).map fun (i : Nat) => D.int (lo + i)
theorem DW {K : PySem.W.Frag} {Z : Hp} (lo : Int) (n : Nat) : aE K CL Z (c7 lo n) ((List.range n).map fun (i : Nat) => V.int (lo + i)) := by
 unfold c7
 generalize List.range n = l
 induction l with
 | nil => exact .nil
 | cons i r ih => exact .cons (.int _) ih
theorem gq {tg : Expr} {pr pc : Pos} {n : Int} (hm : X.mg "range" = none) (h : cB X CL b iter δ (.int n) δ1) (hn : -(2 ^ 62) <= n /\ n < 2 ^ 62) (hg : Gl X "range") (Nm : starEach [iter] X.env = [(false, eval iter X.env)] := by rfl) (KD : starEach [iter] X.env = (false, eval iter X.env) :: starEach [] X.env := by exact bG rfl) :
   G9 X CL b tg (.Call (.Name "range" pr) [iter] [] pc) δ (c7 0 n.toNat) δ1 := by
 refine ⟨_, Bk hg hm (cI dF fL KD) Nm, fun H Z σ ts vs R S k => h H Z σ ts vs _ S fun v H1 Z1 z1 k1 S1 r => ⟨n, by rw [r.sc rfl], hn.1, hn.2, k _ _ ⟨Z1, _, z1, k1, S1, DW 0 n.toNat, fun i H2 s hi => ?_, fun i H2 y H' s hi hy => ?_, fun H2 s => ?_⟩⟩⟩
 . show i < n.toNat
   have : (c7 0 n.toNat).length = n.toNat := by simp [c7]
   omega
 . have L5 : i < n.toNat := by simpa [c7] using hi
   refine ⟨hy.1, ?_⟩
   rw [Vu, List.getElem?_range L5, hy.2]
   rfl
 . show n.toNat <= (c7 0 n.toNat).length
   simp [c7]
theorem KG {D : cu} {fK : List Stmt} (i : Nat) {pos' : Pos} (P : Nat -> List (Option T) -> Prop) (h : G9 X CL b (.Name x pos') iter δ ds δ1) (h0 : P 0 δ1) (hl : ∀ j δ, P j δ -> i < δ.length)
   (hs : ∀ j d δ, ds[j]? = some d -> P j δ -> fJ X CL b fK (δ.set i (some (.sh d))) { nx := P (j + 1), rt := D.rt, bk := D.nx, ct := P (j + 1) }) (hd : ∀ δ, P ds.length δ -> D.nx δ)
   (hp : PassesOwn (model X.prog X.w) X.A X.env X.xe) (hc : X.calm = true) (hN : X.N.Nodup) (hi : X.N[i]? = some x) (hx : Loc X.env.scope x) (hf : X.fn x = true \/ X.env.scope.names.lookup x = some .local) (hq : ∀ x, foldedSetIterable iter X.env x = pure x := by intro _; rfl) :
   Ko X CL b (.For (.Name x pos') iter fK [] pos) δ D := fun H Z σ ts vs E S M => by
 obtain ⟨wi, pi, hw⟩ := h
 refine vW (JK hp hc pi (tR hN hi hx hf) Kg hq) (hw H Z σ ts vs _ S fun J H1 zz => ?_)
 obtain ⟨Z1, us, z1, k1, S1, rr, go, yl, st⟩ := zz
 refine ⟨fun j m σ H2 => m = ds.length - j /\ j <= ds.length /\ ∃ Z2 δ2, aD Z1 Z2 /\ bM X.K CL b H2 Z2 δ2 σ ts vs /\ P j δ2, ⟨_, rfl, U9 _, Z1, δ1, .refl _, S1, h0⟩, ?_⟩
 rintro j m σ H2 ⟨rfl, hj, Z2, δ2, s, S2, p2⟩
 by_cases De : j < ds.length
 . refine .inr ⟨go j H2 (s.trans S2.zh) De, fun σ' H' => ∃ Z2 δ2, aD Z1 Z2 /\ bM X.K CL b H' Z2 δ2 σ' ts vs /\ P (j + 1) δ2, fun σ' H' h => ⟨ds.length - (j + 1), by omega, rfl, De, h⟩, fun y H' hy => ?_⟩
   obtain ⟨e, hu⟩ := yl j H2 y H' (s.trans S2.zh) De hy
   subst e
   obtain ⟨d, Mi, rd⟩ := rr.Kc hu
   have S3 := (S2.push (rd.mono s)).set (hl j δ2 p2)
   exact hs j d δ2 Mi p2 _ Z2 _ ts vs _ S3 ⟨fun δ' σ' H' Z' s' S' k => ⟨Z', δ', s.trans s', S', k⟩, fun t v H' Z' δ' σ' s' S' k => M.rt t v H' Z' δ' σ' (z1.trans (s.trans s')) S' k, fun δ' σ' H' Z' s' S' k => M.nx δ' σ' H' Z' (z1.trans (s.trans s')) S' k, fun δ' σ' H' Z' s' S' k => ⟨Z', δ', s.trans s', S', k⟩⟩
 . have e : j = ds.length := by omega
   subst e
   exact .inl ⟨st H2 (s.trans S2.zh), M.nx δ2 σ H2 Z2 (z1.trans s) S2 (hd δ2 p2)⟩
noncomputable def Block (X : Cx) (CL : Str -> Addr) (scope : Scope) (Nc : List Str) (ifs : List Expr) (elt : Expr) (δc : List (Option T)) (ds : List D) (p : D -> Bool) (g : D -> T) : Prop :=
 ∀ C s0 H0 f0 b' d, d ∈ ds -> OU (b9 X scope Nc C s0 H0 f0) CL b' ifs (some (.sh d) :: δc) (p d) /\ (p d = true -> bJ (b9 X scope Nc C s0 H0 f0) CL b' elt (some (.sh d) :: δc) (g d) (some (.sh d) :: δc))
variable {p : D -> Bool} {g : D -> T} {δc : List (Option T)}
end
section
variable {X : Cx} {CL : Str -> Addr} {b : Bx} {δ δ1 : List (Option T)} {scope : Scope} {x : Str} {Nc : List Str} {ix : List Nat} {elt iter : Expr} {ifs : List Expr} {px pos : Pos} {ds : List D} {p : D -> Bool} {g : D -> T} {δc : List (Option T)}
noncomputable def Ul : L3.D -> String -> Option Bool
 | .non, n => if n = "int" \/ n = "str" \/ n = "list" \/ n = "tuple" \/ n = "bool" \/ n = "dict" then some false else none
 | .bl _, n => if n = "int" \/ n = "bool" then some true else if n = "str" \/ n = "list" \/ n = "tuple" \/ n = "dict" then some false else none
 | .int _, n => if n = "int" then some true else if n = "str" \/ n = "list" \/ n = "tuple" \/ n = "bool" \/ n = "dict" then some false else none
 | .str _, n => if n = "str" then some true else if n = "int" \/ n = "list" \/ n = "tuple" \/ n = "bool" \/ n = "dict" then some false else none
 | .lst _, n => if n = "list" then some true else if n = "int" \/ n = "str" \/ n = "tuple" \/ n = "bool" \/ n = "dict" then some false else none
 | .tup _, n => if n = "tuple" then some true else if n = "int" \/ n = "str" \/ n = "list" \/ n = "bool" \/ n = "dict" then some false else none
 | _, _ => none
noncomputable def KH (t n : String) : Option Bool := if (Value.type t == Value.type n) = true then some true else if PySem.W.kitMeta n = true then (fastBuiltinMro t).map (·.contains (.type n)) else none
theorem iK {K : PySem.W.Frag} {t n : String} : PySem.W.kitOne K (.type t) (.type n) = KH t n := rfl
theorem DX : (["NoneType", "bool", "int", "str", "list", "tuple"].all fun t => ["int", "str", "list", "tuple", "bool", "dict"].all fun n => KH t n == some (t == n || (t == "bool" && n == "int"))) = true := by decide +kernel
theorem kB {t n : String} (ht : t ∈ ["NoneType", "bool", "int", "str", "list", "tuple"]) (hn : n ∈ ["int", "str", "list", "tuple", "bool", "dict"]) : KH t n = some (t == n || (t == "bool" && n == "int")) := by
 have := DX
 rw [List.all_eq_true] at this
 have h := this t ht
 rw [List.all_eq_true] at h
 simpa using h n hn
noncomputable def L6 : L3.D -> Option String
 | .non => some "NoneType"
 | .bl _ => some "bool"
 | .int _ => some "int"
 | .str _ => some "str"
 | .lst _ => some "list"
 | .tup _ => some "tuple"
 | _ => none
theorem BE : pD X (.builtin "isinstance") (fun xs H Q => ∃ y n d t, xs = [y, .ty n] /\ bz X.K CL H d y /\ L6 d = some t /\ n ∈ ["int", "str", "list", "tuple", "bool", "dict"] /\ Q (.bl (t == n || (t == "bool" && n == "int"))) H) := by
 intro pins s σ H xs us Q I r h
 obtain ⟨y, n, d, t, rfl, rd, ht, hn, q⟩ := h
 obtain ⟨u, u2, rfl, ru, SJ⟩ := r.two
 cases (show u2 = Value.type n from SJ)
 have fin : ∀ tk, EP X pins σ Q (.bool (t == n || (t == "bool" && n == "int"))) { s with toks := tk } := fun tk => ⟨.bl _, H, I.tok tk, rfl, q⟩
 cases rd with
 | non => cases ht; cases (show u = Value.none from ru); exact VY PySem.W.kitx_none I.vJ True.intro (iK.trans (kB (by decide) hn)) (fun z => nomatch z) fin
 | bl c => cases ht; cases (show u = Value.bool c from ru); exact VY PySem.W.kitx_bool I.vJ True.intro (iK.trans (kB (by decide) hn)) (fun z => nomatch z) fin
 | int c => cases ht; obtain ⟨tt, e⟩ := (show ∃ t, u = Value.int c t from ru); cases e; exact VY PySem.W.kitx_int I.vJ True.intro (iK.trans (kB (by decide) hn)) (fun z => nomatch z) fin
 | str c => cases ht; obtain ⟨tt, e⟩ := (show ∃ t, u = Value.str c t from ru); cases e; exact VY PySem.W.kitx_str I.vJ True.intro (iK.trans (kB (by decide) hn)) (fun z => nomatch z) fin
 | @lst a ws _ hq rr =>
   cases ht
   cases (show u = Value.ref a from ru)
   obtain ⟨its, _, pl, _⟩ := I.list hq
   obtain ⟨o, n', e, c, _⟩ := pl
   exact VY PySem.W.kitx_list I.vJ ⟨o, e, c⟩ (iK.trans (kB (by decide) hn)) (fun z => nomatch z) fin
 | @tup a ws _ hq rr =>
   cases ht
   cases (show u = Value.ref a from ru)
   obtain ⟨its, _, pl, _⟩ := I.tuple hq
   obtain ⟨o, e, c, _⟩ := pl
   exact VY PySem.W.kitx_tuple I.vJ ⟨o, e, c⟩ (iK.trans (kB (by decide) hn)) (fun z => nomatch z) fin
 | ins _ _ => cases ht
 | any _ => cases ht
 | val _ => cases ht
 | sG _ _ => cases ht
theorem qw {e : Expr} {d : L3.D} {t n : String} {nm : Str} {pp pq : Pos} (hm : X.mg "isinstance" = none) (Gh : X.mg nm = none) (hg : Gl X "isinstance") (Hf : Gl X nm) (SK : bootBuiltins nm = some (.type n)) (SM : nm ≠ "__name__") (SN : (nm == ("__debug__" : Str)) = false) (h : cB X CL b e δ d δ1) (ht : L6 d = some t) (hn : n ∈ ["int", "str", "list", "tuple", "bool", "dict"])
   (hs : starEach [e, .Name nm pq] X.env = (false, eval e X.env) :: starEach [.Name nm pq] X.env := by exact bG rfl) :
   bJ X CL b (.Call (.Name "isinstance" pp) [e, .Name nm pq] [] pos) δ (.sh (.bl (t == n || (t == "bool" && n == "int")))) δ1 := fun H Z σ ts vs Q S k =>
 cA (mE (BE (CL := CL)) hg hm boot_isinstance (cI dF (cI (Gu Hf Gh SK (v := .ty n) rfl SM SN) fL) hs) (he := hs)) (h H Z σ ts vs _ S fun v H1 Z1 z1 k1 S1 r =>
   ⟨v, n, d, t, rfl, r, ht, hn, k _ H1 Z1 z1 k1 (S1.push (.bl _))⟩)
end
theorem aq {n : Nat} (h : Nat.ble n 1000 = true) : n <= sizeLine := VC (cG (UI h))
structure Vn (X : Cx) (i : Nat) (x : Str) : Prop where
 hi : X.N[i]? = some x
 hv : LV X.env.scope x
 hd : (x == ("__debug__" : Str)) = false
 kr : (x == ("__classdict__" : Str)) = false
structure Ln (X : Cx) (i : Nat) (x : Str) : Prop extends Vn X i x where
 loc : Loc X.env.scope x
 hf : X.fn x = true \/ X.env.scope.names.lookup x = some .local
structure Gx (X : Cx) : Prop where
 nd : X.N.Nodup
 calm : X.calm = true
 xe : X.xe = fun _ _ => False
structure Fc (X : Cx) (CL : Str -> Addr) (x : Str) (k n : Nat) {A : Type} (arg : A -> List D) (Pre : A -> Prop) (res : A -> T) : Prop where
 ex : ∃ f fd ps, b5 X.prog X.w X.K X.mg X.base iT k f fd ps (lG X.K CL n arg Pre res) /\ X.mg x = some (.ref f) /\ PySem.W.keepIn X.K (.ref f) = true /\ Binds X.K fd ps []
 room : ek k X.A
section
variable {X : Cx} {CL : Str -> Addr} {b : Bx} {δ δ1 δ2 : List (Option T)} {e e1 e2 : Expr} {es : List Expr} {d : L3.D} {t : T} {i : Nat} {x : Str} {pos pp : Pos} {D : cu} {fK : List Stmt} {ds : List L3.D}
theorem v_ (n : Vn X i x) (h : δ[i]? = some (some (.sh d)) := by rfl) : bJ X CL b (.Name x pos) δ (.sh d) δ := Kp i n.hi n.hv n.hd n.kr h
theorem vF (n : Vn X i x) (h : δ[i]? = some (some t) := by rfl) : bJ X CL b (.Name x pos) δ (.sh t.cZ) (δ.set i (some (.sh t.cZ))) := G3 i n.hi n.hv n.hd n.kr h
theorem vM (n : Vn X i x) (h : δ[i]? = some (some t) := by rfl) : bJ X CL b (.Name x pos) δ t (δ.set i none) := G4 i n.hi n.hv n.hd n.kr h
theorem vB (n : Vn X i x) (h : δ[i]? = some (some t) := by rfl) : cB X CL b (.Name x pos) δ t.cZ δ := Kq i n.hi n.hv n.hd n.kr h
theorem ig {k : Int} (h : cB X CL b e δ (.int k) δ1) : bJ X CL b (.UnaryOp .USub e pos) δ (.sh (.int (-k))) δ1 := fun H Z σ ts vs Q S kk =>
 cA (MB JT dF) (h H Z σ ts vs _ S fun v H1 Z1 z1 k1 S1 r => ⟨k, r.sc rfl, kk _ H1 Z1 z1 k1 (S1.push (.int _))⟩)
theorem vL (n : Vn X i x) (h : δ[i]? = some (some (.lst (ds.map T.sh))) := by rfl) : cB X CL b (.Name x pos) δ (.lst ds) δ := by
 have := vB (CL := CL) (b := b) (pos := pos) n h
 rwa [T.cZ, fc] at this
theorem c_ {k n : Nat} {A : Type} {arg : A -> List L3.D} {Pre : A -> Prop} {res : A -> T} (a : A) (F : Fc X CL x k n arg Pre res) (hg : Gl X x) (h : Gf X CL b (e :: es) δ (arg a) δ1) (hp : Pre a) (hc : (res a).clean = true) (hn : (arg a).length = n := by rfl)
   (sE : (x == ("__debug__" : Str)) = false := by decide) (he : starEach (e :: es) X.env = (false, eval e X.env) :: starEach es X.env := by exact bG rfl) (hpl : (backTo pos (starEach es X.env)).any (·.1) = false := by rfl) :
   bJ X CL b (.Call (.Name x pp) (e :: es) [] pos) δ (res a) δ1 := by
 obtain ⟨f, fd, ps, F1, m, k, b⟩ := F.ex
 exact G8 a F1 F.room m k b h hn hp hc hg sE he hpl
theorem cF {k n : Nat} {A : Type} {arg : A -> List L3.D} {Pre : A -> Prop} {res : A -> T} (a : A) (F : Fc X CL x k n arg Pre res) (hg : Gl X x) (h : xU X CL b (e :: es) δ ((arg a).map T.sh) δ1) (hp : Pre a) (hn : (arg a).length = n := by rfl)
   (sE : (x == ("__debug__" : Str)) = false := by decide) (he : starEach (e :: es) X.env = (false, eval e X.env) :: starEach es X.env := by exact bG rfl) (hpl : (backTo pos (starEach es X.env)).any (·.1) = false := by rfl) :
   bJ X CL b (.Call (.Name x pp) (e :: es) [] pos) δ (res a) δ1 := by
 obtain ⟨f, fd, ps, F1, m, k, b⟩ := F.ex
 exact DT a F1 F.room m k b h hn hp hg sE he hpl
theorem aL {pos' : Pos} (g : Gx X) (n : Ln X i x) (h : bJ X CL b e δ t δ1) (k : fJ X CL b fK (δ1.set i (some t)) D) (hl : i < δ1.length := by exact UI rfl) (hs : swapsWith e (some (.Name x pos')) pos.line X.env = pure false := by rfl) :
   fJ X CL b (.Assign [.Name x pos'] e pos :: fK) δ D := dR (DU i h k hl g.nd n.hi n.loc hs n.hf)
theorem aY (h : bJ X CL b e δ t δ1) (k : D.rt t δ1) : fJ X CL b (.Return (some e) pos :: fK) δ D := dR (Kx h k)
theorem bq {p : Bool} {a c : List Stmt} (h : nU X CL b e δ p δ1) (h1 : p = true -> fJ X CL b a δ1 { D with nx := fun δ2 => fJ X CL b fK δ2 D }) (h2 : p = false -> fJ X CL b c δ1 { D with nx := fun δ2 => fJ X CL b fK δ2 D }) : fJ X CL b (.If e a c pos :: fK) δ D := dR (Nh h h1 h2)
theorem fJ.to {D' : cu} (h : fJ X CL b fK δ D') (h1 : ∀ δ, D'.nx δ -> D.nx δ) (h2 : ∀ t δ, D'.rt t δ -> D.rt t δ) (h3 : ∀ δ, D'.bk δ -> D.bk δ) (h4 : ∀ δ, D'.ct δ -> D.ct δ) : fJ X CL b fK δ D := fun H Z σ ts vs E S M => h H Z σ ts vs E S (M.to h1 h2 h3 h4)
theorem DY {p : Bool} {a c : List Stmt} (J : List (Option T) -> Prop) (h : nU X CL b e δ p δ1) (h1 : p = true -> fJ X CL b a δ1 { D with nx := J }) (h2 : p = false -> fJ X CL b c δ1 { D with nx := J }) (k : ∀ δ2, J δ2 -> fJ X CL b fK δ2 D) : fJ X CL b (.If e a c pos :: fK) δ D :=
 bq h (fun hp => fJ.to (h1 hp) k (fun _ _ q => q) (fun _ q => q) (fun _ q => q)) (fun hp => fJ.to (h2 hp) k (fun _ _ q => q) (fun _ q => q) (fun _ q => q))
theorem pK {body : List Stmt} {pos' : Pos} (g : Gx X) (n : Ln X i x) (P : Nat -> List (Option T) -> Prop) (h : G9 X CL b (.Name x pos') e δ ds δ1) (h0 : P 0 δ1) (hl : ∀ j δ, P j δ -> i < δ.length)
   (hs : ∀ j d δ, ds[j]? = some d -> P j δ -> fJ X CL b body (δ.set i (some (.sh d))) { nx := P (j + 1), rt := D.rt, bk := fun δ2 => fJ X CL b fK δ2 D, ct := P (j + 1) }) (hd : ∀ δ, P ds.length δ -> fJ X CL b fK δ D) (hq : ∀ x, foldedSetIterable e X.env x = pure x := by intro _; rfl) :
   fJ X CL b (.For (.Name x pos') e body [] pos :: fK) δ D :=
 dR (KG (D := { D with nx := fun δ1 => fJ X CL b fK δ1 D }) i P h h0 hl hs hd (by rw [g.xe]; exact PassesOwn.never) g.calm g.nd n.hi n.loc n.hf hq)
theorem iL {e : Expr} {o : Option Expr} {l : Nat} {env : Env} (h : ∃ c, swapsWith e o l env = pure c) : swapsWith e o l env = pure true \/ swapsWith e o l env = pure false := by
 obtain ⟨c, h⟩ := h
 cases c
 . exact .inr h
 . exact .inl h
theorem dN {scope : Scope} {Nc : List Str} {C : Addr} {s : Shared} {H : Hp} {fp : List Addr} (h1 : Nc[i]? = some x) (h2 : scope.names.lookup x = some .local) (hd : (x == ("__debug__" : Str)) = false := by decide) (kr : (x == ("__classdict__" : Str)) = false := by decide) : Vn (b9 X scope Nc C s H fp) i x :=
 ⟨h1, .inl (lookup_relabel_local h2), hd, kr⟩
theorem nW {scope : Scope} {Nc : List Str} {C : Addr} {s : Shared} {H : Hp} {fp : List Addr} (h1 : Nc[i]? = some x) (h2 : scope.names.lookup x = some .free) (hd : (x == ("__debug__" : Str)) = false := by decide) (kr : (x == ("__classdict__" : Str)) = false := by decide) : Vn (b9 X scope Nc C s H fp) i x := by
 refine ⟨h1, ?_, hd, kr⟩
 have q := c6 (env := X.env) h2
 show (relabel scope X.env).names.lookup x = some .local \/ (relabel scope X.env).names.lookup x = some .cell \/ (relabel scope X.env).names.lookup x = some .free
 rw [show (relabel scope X.env).names.lookup x = _ from q]
 split
 . exact .inr (.inl rfl)
 . exact .inr (.inr rfl)
theorem fh {scope : Scope} {Nc : List Str} {C : Addr} {s : Shared} {H : Hp} {fp : List Addr} (h2 : scope.names.lookup x = some .globalImplicit) : Gl (b9 X scope Nc C s H fp) x := by
 have q := c6 (env := X.env) h2
 show (relabel scope X.env).names.lookup x = some .globalImplicit
 rw [show (relabel scope X.env).names.lookup x = _ from q]
 rfl
theorem uc {scope : Scope} {Nc : List Str} {C : Addr} {s : Shared} {H : Hp} {fp : List Addr} {k n : Nat} {A : Type} {arg : A -> List L3.D} {Pre : A -> Prop} {res : A -> T} (F : Fc X CL x k n arg Pre res) : Fc (b9 X scope Nc C s H fp) CL x k n arg Pre res := ⟨F.ex, F.room⟩
end
section
variable {X : Cx} {CL : Str -> Addr} {b : Bx} {δ δ1 δ2 : List (Option T)} {e e1 e2 : Expr} {es : List Expr} {ds : List L3.D} {pos : Pos}
theorem ud {i j : Bool} (h1 : cB X CL b e1 δ (.bl i) δ1) (h2 : cB X CL b e2 δ1 (.bl j) δ2) : nU X CL b (.Compare e1 [.NotEq] [e2] pos) δ (!decide (i = j)) δ2 /\ bJ X CL b (.Compare e1 [.NotEq] [e2] pos) δ (.sh (.bl (!decide (i = j)))) δ2 :=
 qP Dt h1 h2 rfl rfl (fun _ _ q => ⟨rfl, by rw [show decide (V.bl i = V.bl j) = decide (i = j) by simp]; exact q⟩) (jI _)
theorem AA (h : xU X CL b es δ (ds.map T.sh) δ1) (hl : ds.length <= sizeLine := by exact aq rfl) : bJ X CL b (.List es pos) δ (.sh (.lst ds)) δ1 := by
 have := tZ (dM (pos := pos) h (by simpa using hl))
 rwa [T.cZ, fc] at this
end
section
variable {X : Cx} {CL : Str -> Addr} {b : Bx} {δ δ1 : List (Option T)} {e : Expr} {d : L3.D} {t : String} {pos pp pq : Pos}
theorem yw : bootBuiltins "bool" = some (.type "bool") := by decide +kernel
theorem Ru (hm : X.mg "isinstance" = none) (Gh : X.mg "bool" = none) (hg : Gl X "isinstance") (Hf : Gl X "bool") (h : cB X CL b e δ d δ1) (ht : L6 d = some t := by rfl) (hs : starEach [e, .Name "bool" pq] X.env = (false, eval e X.env) :: starEach [.Name "bool" pq] X.env := by exact bG rfl) :
   bJ X CL b (.Call (.Name "isinstance" pp) [e, .Name "bool" pq] [] pos) δ (.sh (.bl (t == "bool" || (t == "bool" && "bool" == "int")))) δ1 := qw hm Gh hg Hf yw (by decide) (by decide) h ht (by decide) hs
theorem BF : bootBuiltins "str" = some (.type "str") := by decide +kernel
theorem SQ (hm : X.mg "isinstance" = none) (Gh : X.mg "str" = none) (hg : Gl X "isinstance") (Hf : Gl X "str") (h : cB X CL b e δ d δ1) (ht : L6 d = some t := by rfl) (hs : starEach [e, .Name "str" pq] X.env = (false, eval e X.env) :: starEach [.Name "str" pq] X.env := by exact bG rfl) :
   bJ X CL b (.Call (.Name "isinstance" pp) [e, .Name "str" pq] [] pos) δ (.sh (.bl (t == "str" || (t == "bool" && "str" == "int")))) δ1 := qw hm Gh hg Hf BF (by decide) (by decide) h ht (by decide) hs
theorem aZ : bootBuiltins "list" = some (.type "list") := by decide +kernel
theorem IU (hm : X.mg "isinstance" = none) (Gh : X.mg "list" = none) (hg : Gl X "isinstance") (Hf : Gl X "list") (h : cB X CL b e δ d δ1) (ht : L6 d = some t := by rfl) (hs : starEach [e, .Name "list" pq] X.env = (false, eval e X.env) :: starEach [.Name "list" pq] X.env := by exact bG rfl) :
   bJ X CL b (.Call (.Name "isinstance" pp) [e, .Name "list" pq] [] pos) δ (.sh (.bl (t == "list" || (t == "bool" && "list" == "int")))) δ1 := qw hm Gh hg Hf aZ (by decide) (by decide) h ht (by decide) hs
theorem v7 : bootBuiltins "tuple" = some (.type "tuple") := by decide +kernel
theorem IV (hm : X.mg "isinstance" = none) (Gh : X.mg "tuple" = none) (hg : Gl X "isinstance") (Hf : Gl X "tuple") (h : cB X CL b e δ d δ1) (ht : L6 d = some t := by rfl) (hs : starEach [e, .Name "tuple" pq] X.env = (false, eval e X.env) :: starEach [.Name "tuple" pq] X.env := by exact bG rfl) :
   bJ X CL b (.Call (.Name "isinstance" pp) [e, .Name "tuple" pq] [] pos) δ (.sh (.bl (t == "tuple" || (t == "bool" && "tuple" == "int")))) δ1 := qw hm Gh hg Hf v7 (by decide) (by decide) h ht (by decide) hs
end
noncomputable def nX (sc : Scope) (l : List (Str × NameKind)) : Bool := l.all fun p => sc.names.lookup p.1 == some p.2
theorem iW {sc : Scope} {l : List (Str × NameKind)} (h : nX sc l = true) (i : Nat) {x : Str} {k : NameKind} (hi : l[i]? = some (x, k)) : sc.names.lookup x = some k := by
 unfold nX at h
 rw [List.all_eq_true] at h
 exact V9.mp (h _ (Vk hi))
inductive Hg (X : Cx) : List Nat -> List Str -> Prop where
 | nil : Hg X [] []
 | cons {i : Nat} {y : Str} {ix : List Nat} {ys : List Str} (n : Vn X i y) (k : X.env.kindOf y = some .cell \/ X.env.kindOf y = some .free) (r : Hg X ix ys) : Hg X (i :: ix) (y :: ys)
noncomputable def DZ (scope : Scope) (x : Str) (v8 : List Str) : Bool :=
 scope.kind == .function && scope.names.lookup x == some .local && v8.all (fun y => scope.names.lookup y == some .free) && decide ((x :: v8).Nodup) &&
   scope.names.all fun y => y.2 != .cell && (y.2 != .local || scope.names.lookup y.1 == some .local) && (y.2 != .free || (v8.contains y.1 && scope.names.lookup y.1 == some .free))
theorem dW {X : Cx} {scope : Scope} {x : Str} {ix : List Nat} {v8 : List Str} (c : Hg X ix v8) (ok : DZ scope x v8 = true) : iJ X scope x (x :: v8) ix := by
 unfold DZ at ok
 simp only [Vd, List.all_eq_true, decide_eq_true_eq, V9] at ok
 obtain ⟨⟨⟨⟨h1, h2⟩, h3⟩, h4⟩, h5⟩ := ok
 have kc : ∀ y ∈ v8, X.env.kindOf y = some .cell \/ X.env.kindOf y = some .free := by
   clear h3 h4 h5
   induction c with
   | nil => intro y hy; cases hy
   | cons n k r ih =>
     intro y hy
     rcases UA.mp hy with e | hy
     . subst e; exact k
     . exact ih y hy
 refine ⟨h1, fun y hy e => ?_, h4, fun y hy e => ?_, h2, fun y hy e => ?_, ?_, fun i hi => ?_⟩
 . have := (h5 y hy).1.1
   rw [e] at this
   simp at this
 . have := (h5 y hy).1.2
   rw [e] at this
   simpa using this
 . have := (h5 y hy).2
   rw [e] at this
   simp at this
   exact ⟨this.2, kc _ this.1⟩
 . congr 1
   clear h3 h4 h5 kc
   induction c with
   | nil => rfl
   | cons n k r ih => rw [VF, n.hi, ← ih]
 . clear h4 h5 kc
   induction c with
   | nil => cases hi
   | @cons i' y ix ys n k r ih =>
     rcases UA.mp hi with e | hi
     . subst e; exact ⟨y, n.hi, h3 y UD⟩
     . exact ih (fun z hz => h3 z (UC _ hz)) hi
noncomputable def D.Hh : D -> Int
 | .int i => i
 | _ => 0
theorem gu {bs : List Int} {k : Int} (h0 : 0 <= k) (h1 : k < bs.length) : sC (bs.map D.int) k = some (.int (bs.getD k.toNat 0)) := by
 obtain ⟨j, rfl⟩ : ∃ j : Nat, k = j := ⟨k.toNat, by omega⟩
 refine qq ?_
 have hl : j < bs.length := by omega
 rw [Vu, Vf hl]
 simp [List.getD, hl]
theorem fB : ∀ (bs : List Int), D.bf (bs.map D.int) = true
 | [] => rfl
 | i :: r => by rw [U8, D.bf, fB r]; rfl
theorem jO {lo : Int} {n j : Nat} {d : D} (h : (c7 lo n)[j]? = some d) : d = .int (lo + j) /\ j < n := by
 have hl : j < n := by
   have := (Vw.mp h).1
   simpa [c7] using this
 refine ⟨?_, hl⟩
 unfold c7 at h
 rw [Vu, List.getElem?_range hl] at h
 exact (U4 h).symm
theorem pL {α : Type} (l : List α) : l.filter (fun _ => true) = l := by simp
theorem v9 {K : PySem.W.Frag} {CL : Str -> Addr} {Z : Hp} : ∀ (ns : List Int), aE K CL Z (ns.map D.int) (ns.map V.int)
 | [] => .nil
 | n :: r => .cons (.int n) (v9 r)
theorem KJ {K : PySem.W.Frag} {CL : Str -> Addr} {H : Hp} {a : Addr} {arg : List Int -> List D} {pre : List Int -> Prop} {res : List Int -> T} {ns : List Int} (ha : arg ns = [.lst (ns.map D.int)]) (hp : pre ns) (hr : res ns = .sh (.bl true)) (hS : nP K H a (ns.map V.int)) (h0 : ∀ x, Ax x = true -> CL x = 0 := by intros; rfl) :
   lG K CL 1 arg pre res [.ref a] H (fun v _ => v = .bl true) fun _ _ _ => False :=
 ⟨H, ns, .refl _, fun _ _ q _ => q, by rw [ha]; exact .cons (.lst hS (v9 ns)) .nil, by rw [ha]; rfl, hp, fun x hx e => absurd (h0 x hx) e, fun v H' W' fp _ _ _ _ _ r _ _ => by
   rw [hr] at r
   cases r with
   | sh r => exact r.sc rfl⟩
mutual
noncomputable def D.toPy : D -> PyData
 | .non => .none
 | .bl b => .bool b
 | .int i => .int i
 | .str x => .str x
 | .tup ds => .tuple (D.dG ds)
 | .lst ds => .list (D.dG ds)
 | .ins _ _ => .none
 | .sG _ => .none
 | .any => .none
 | .val _ => .none
noncomputable def D.dG : List D -> List PyData
 | [] => []
 | d :: ds => d.toPy :: D.dG ds
end
inductive kC : Nat -> D -> Prop where
 | non (n : Nat) : kC n .non
 | bl (n : Nat) (b : Bool) : kC n (.bl b)
 | int (n : Nat) (i : Int) : kC n (.int i)
 | str (n : Nat) (x : Str) (h : PyData.strOk x = true) : kC n (.str x)
 | tup {n : Nat} {ds : List D} (h : ∀ d ∈ ds, kC n d) : kC (n + 1) (.tup ds)
 | lst {n : Nat} {ds : List D} (h : ∀ d ∈ ds, kC n d) : kC (n + 1) (.lst ds)
noncomputable def Df (a b : D) : Bool := PyData.eqv a.toPy b.toPy
theorem kC.KL {n : Nat} : ∀ {ds : List D}, (∀ d ∈ ds, d.toPy.canLay0 = true /\ d.toPy.depth <= n) -> PyData.canLayAll0 (D.dG ds) = true /\ PyData.depthAll (D.dG ds) <= n
 | [], _ => ⟨by rw [D.dG, PyData.canLayAll0], by rw [D.dG, PyData.depthAll]; exact U9 _⟩
 | d :: ds, h => by
   have h1 := h d UD
   have h2 := kC.KL (ds := ds) fun e he => h e (UC _ he)
   rw [D.dG, PyData.canLayAll0, PyData.depthAll, h1.1, h2.1]
   exact ⟨rfl, Nat.max_le.mpr ⟨h1.2, h2.2⟩⟩
theorem kC.lay {n : Nat} {d : D} (h : kC n d) : d.toPy.canLay0 = true /\ d.toPy.depth <= n := by
 induction h with
 | non n => exact ⟨by rw [D.toPy, PyData.canLay0], by rw [D.toPy, PyData.depth]; exact U9 _⟩
 | bl n b => exact ⟨by rw [D.toPy, PyData.canLay0], by rw [D.toPy, PyData.depth]; exact U9 _⟩
 | int n i => exact ⟨by rw [D.toPy, PyData.canLay0], by rw [D.toPy, PyData.depth]; exact U9 _⟩
 | str n x hx => exact ⟨by rw [D.toPy, PyData.canLay0]; exact hx, by rw [D.toPy, PyData.depth]; exact U9 _⟩
 | @tup n ds _ ih =>
   have := kC.KL ih
   rw [D.toPy, PyData.canLay0, PyData.depth]
   exact ⟨this.1, by omega⟩
 | @lst n ds _ ih =>
   have := kC.KL ih
   rw [D.toPy, PyData.canLay0, PyData.depth]
   exact ⟨this.1, by omega⟩
section
variable {X : Cx} {CL : Str -> Addr} {pins : List (Addr × Obj)} {σ : L2.St} {H : Hp} {s : Shared}
theorem D0 (I : L2.Inv X pins σ H s) {n : Nat} {d : D} {v : V} {u : Value} (hd : kC n d) (q : bz X.K CL H d v) (r : RelV v u) : ∃ as, Reads s.heap u d.toPy as := by
 refine bz.rec (motive_1 := fun d v _ => ∀ (n : Nat) (u : Value), kC n d -> RelV v u -> ∃ as, Reads s.heap u d.toPy as)
   (motive_2 := fun ds vs _ => ∀ (n : Nat) (us : List Value), (∀ d ∈ ds, kC n d) -> Vals vs us -> ∃ as, ReadsAll s.heap us (D.dG ds) as) (motive_3 := fun _ _ _ => True) (motive_4 := fun _ _ _ => True)
   (fun _ _ _ r => ?non) (fun b _ _ _ r => ?bl) (fun i _ _ _ r => ?int) (fun x _ _ _ r => ?str) (fun _ _ _ hd _ => by cases hd) (fun _ _ _ hd _ => by cases hd) (fun hq _ ih n u hd r => ?tup) (fun hq _ ih n u hd r => ?lst) (fun _ _ _ _ _ hd _ => by cases hd) (fun _ _ _ _ _ hd _ => by cases hd)
   (fun _ _ _ r => ?nil) (fun _ _ ih SR n us h r => ?cons) trivial (fun _ _ _ _ => trivial) trivial (fun _ _ _ _ => trivial) q n u hd r
 case non => cases r; rw [D.toPy]; exact ⟨[], .none⟩
 case bl => cases r; rw [D.toPy]; exact ⟨[], .bool b⟩
 case int => obtain ⟨t, rfl⟩ := r; rw [D.toPy]; exact ⟨[], .int i t⟩
 case str => obtain ⟨t, rfl⟩ := r; rw [D.toPy]; exact ⟨[], .str x t⟩
 case tup =>
   cases hd with
   | tup hd =>
     cases r
     obtain ⟨its, rv, ⟨o, e, c, k, dt⟩, _⟩ := I.tuple hq
     obtain ⟨as, ra⟩ := ih _ _ hd rv
     rw [D.toPy]
     exact ⟨as, .tuple e c dt (by simpa using ra)⟩
 case lst =>
   cases hd with
   | lst hd =>
     cases r
     obtain ⟨its, rv, ⟨o, k, e, c, _, dt⟩, _⟩ := I.list hq
     obtain ⟨as, ra⟩ := ih _ _ hd rv
     rw [D.toPy]
     exact ⟨_, .list e c dt (by simpa using ra)⟩
 case nil => cases r; rw [D.dG]; exact ⟨[], .nil⟩
 case cons =>
   cases r with
   | cons r rs =>
     obtain ⟨as, ra⟩ := ih n _ (h _ UD) r
     obtain ⟨bs, rb⟩ := SR n _ (fun e he => h e (UC _ he)) rs
     rw [D.dG]
     exact ⟨as ++ bs, .cons ra rb⟩
end
section
variable {X : Cx} {CL : Str -> Addr} {b : Bx} {δ δ1 δ2 δ3 : List (Option T)} {e e1 e2 e3 : Expr} {d1 d2 : D} {ds : List D} {pos p2 pp : Pos} {n m : Nat} {i : Nat} {x : Str} {t : T} {fK : List Stmt} {DD : cu}
theorem KN (hu : X.A.units + 64 < cLine) : pC X (compareOp .Eq) (fun x y H Q => ∃ a c, bz X.K CL H a x /\ bz X.K CL H c y /\ kC 60 a /\ kC 60 c /\ Q (.bl (Df a c)) H) := by
 intro pins s σ H x y v u Q I rx ry h
 obtain ⟨a, c, ra, rc, da, dc, q⟩ := h
 obtain ⟨as, r1⟩ := D0 I da ra rx
 obtain ⟨bs, r2⟩ := D0 I dc rc ry
 exact SeqAt.rcAt_reads r1 r2 da.lay.1 dc.lay.1 (by have := da.lay.2; omega) X.prog X.w X.xe _ ⟨.bl _, H, I, rfl, q⟩
theorem Qo {op : CmpOp} {f : Bool -> Bool} (ho : pC X (compareOp op) (fun x y H Q => ∃ a c, bz X.K CL H a x /\ bz X.K CL H c y /\ kC 60 a /\ kC 60 c /\ Q (.bl (f (Df a c))) H)) (h1 : cB X CL b e1 δ d1 δ1) (h2 : cB X CL b e2 δ1 d2 δ2) (k1 : kC 60 d1) (k2 : kC 60 d2)
   (hm : behindInMarks op e2 = false) : nU X CL b (.Compare e1 [op] [e2] pos) δ (f (Df d1 d2)) δ2 /\ bJ X CL b (.Compare e1 [op] [e2] pos) δ (.sh (.bl (f (Df d1 d2)))) δ2 := by
 constructor
 . intro H Z σ ts vs Q S k
   refine Bv (qp ho dF dF hm) (h1 H Z σ ts vs _ S fun v1 H1 Z1 z1 Qp S1 r1 => h2 H1 Z1 σ ts vs _ S1 fun v2 H2 Z2 z2 Nn S2 r2 => ?_)
   exact ⟨d1, d2, r1.mono Nn, r2, k1, k2, _, rfl, k H2 Z2 (z1.trans z2) (Qp.trans Nn) S2⟩
 . intro H Z σ ts vs Q S k
   refine cA (qo ho dF dF hm) (h1 H Z σ ts vs _ S fun v1 H1 Z1 z1 Qp S1 r1 => h2 H1 Z1 σ ts vs _ S1 fun v2 H2 Z2 z2 Nn S2 r2 => ?_)
   exact ⟨d1, d2, r1.mono Nn, r2, k1, k2, k _ H2 Z2 (z1.trans z2) (Qp.trans Nn) (S2.push (.bl _))⟩
theorem D3 (hu : X.A.units + 64 < cLine) (h1 : cB X CL b e1 δ d1 δ1) (h2 : cB X CL b e2 δ1 d2 δ2) (k1 : kC 60 d1) (k2 : kC 60 d2) : nU X CL b (.Compare e1 [.Eq] [e2] pos) δ (Df d1 d2) δ2 /\ bJ X CL b (.Compare e1 [.Eq] [e2] pos) δ (.sh (.bl (Df d1 d2))) δ2 :=
 Qo (f := fun b => b) (KN hu) h1 h2 k1 k2 (jI _)
noncomputable def cutD {α : Type} (xs : List α) (lo hi : Option Int) : List α := (xs.drop (HT.dD xs.length 0 lo)).take (HT.dD xs.length xs.length hi - HT.dD xs.length 0 lo)
theorem aE.drop {K : PySem.W.Frag} {Z : Hp} : ∀ {ds : List L3.D} {vs : List V} (n : Nat), aE K CL Z ds vs -> aE K CL Z (ds.drop n) (vs.drop n)
 | _, _, 0, r => r
 | _, _, _ + 1, .nil => .nil
 | _, _, n + 1, .cons _ t => aE.drop n t
theorem aE.take {K : PySem.W.Frag} {Z : Hp} : ∀ {ds : List L3.D} {vs : List V} (n : Nat), aE K CL Z ds vs -> aE K CL Z (ds.take n) (vs.take n)
 | _, _, 0, _ => .nil
 | _, _, _ + 1, .nil => .nil
 | _, _, n + 1, .cons r t => .cons r (aE.take n t)
theorem aE.cut {K : PySem.W.Frag} {Z : Hp} {ds : List L3.D} {vs : List V} (r : aE K CL Z ds vs) (lo hi : Option Int) : aE K CL Z (cutD ds lo hi) (vR vs lo hi) := by
 unfold cutD vR
 rw [r.length]
 exact (r.drop _).take _
theorem wc : ∀ {ds : List L3.D}, D.bf ds = true -> ∀ d ∈ ds, d.ic = true
 | [], _, _, h => by cases h
 | d :: ds, k, e, h => by
   rw [D.bf, Vd] at k
   rcases UA.mp h with h | h
   . subst h; exact k.1
   . exact wc k.2 e h
theorem mR : ∀ {ds : List L3.D}, (∀ d ∈ ds, d.ic = true) -> D.bf ds = true
 | [], _ => rfl
 | d :: ds, h => by rw [D.bf, h d UD, mR fun e he => h e (UC _ he)]; rfl
theorem Hi {α : Type} {xs : List α} {lo hi : Option Int} {x : α} (h : x ∈ cutD xs lo hi) : x ∈ xs := List.mem_of_mem_drop (List.mem_of_mem_take h)
noncomputable def L7 (X : Cx) (CL : Str -> Addr) (b : Bx) (e : Option Expr) (δ : List (Option T)) (k : Option Int) (δ' : List (Option T)) : Prop :=
 ∃ t, PO X e t /\ ∀ (H Z : Hp) (σ : L2.St) (ts : List T) (vs : List V) (Q : Option Int -> Hp -> Prop), bM X.K CL b H Z δ σ ts vs -> (∀ H' Z', aD Z Z' -> aD H H' -> bM X.K CL b H' Z' δ' σ ts vs -> Q k H') -> t σ H Q
theorem kD : L7 X CL b none δ none δ := ⟨_, GO, fun H Z σ ts vs Q S k => k H Z (.refl _) (.refl _) S⟩
theorem kE {k : Int} (h : cB X CL b e δ (.int k) δ1) : L7 X CL b (some e) δ (some k) δ1 := ⟨_, GP dF, fun H Z σ ts vs Q S kk => h H Z σ ts vs _ S fun v H1 Z1 z1 k1 S1 r => ⟨k, r.sc rfl, kk H1 Z1 z1 k1 S1⟩⟩
theorem wg {lo hi : Option Expr} {l h : Option Int} (h1 : cB X CL b e δ (.lst ds) δ1) (SV : D.bf ds = true) (h2 : L7 X CL b lo δ1 l δ2) (h3 : L7 X CL b hi δ2 h δ3) : bJ X CL b (.Subscript e (.Slice lo hi none p2) pos) δ (.lst ((cutD ds l h).map T.sh)) δ3 := fun H Z σ ts vs Q S k => by
 obtain ⟨t2, Qq, w2⟩ := h2
 obtain ⟨t3, Qs, w3⟩ := h3
 refine cA (vQ GR dF Qq Qs) (h1 H Z σ ts vs _ S fun v H1 Z1 z1 k1 S1 r => w2 H1 Z1 σ ts vs _ S1 fun H2 Z2 z2 k2 S2 => w3 H2 Z2 σ ts vs _ S2 fun H3 Z3 z3 k3 S3 => ?_)
 have r' := r.mono (k2.trans k3)
 cases r' with
 | lst hq rr =>
   refine ⟨_, _, rfl, hq, fun p hp => ?_⟩
   have rc := aE.ic S3.tp (mR fun d hd => wc SV d (Hi hd)) (rr.cut l h)
   obtain ⟨c, S4⟩ := (bM.pI rc S3).nV (g0 := []) (by simp [rc.length]) hp
   exact k _ _ _ (z1.trans (z2.trans z3)) (k1.trans (k2.trans (k3.trans c))) S4
theorem k9 {tl Gg : List T} {pa pb : Pos} (n : Vn X i x) (h0 : δ[i]? = some (some (.lst Gg))) (h : bJ X CL b e δ t δ1) (h1 : δ1[i]? = some (some (.lst tl))) (hl : tl.length <= 1000000) (k : fJ X CL b fK (δ1.set i (some (.lst (tl ++ [t])))) DD)
   (mL : attributeBase (.Name x pp) "append" X.env (eval (.Name x pp) X.env) = eval (.Name x pp) X.env := by rfl)
   (tY : ((backTo pb (starEach [e] X.env)).all (fun x => !x.1) && (backToKw pb (keywordEach [] X.env)).all (fun x => x.1.isSome) && decide ([e].length + ([] : List Keyword).length + (if ([] : List Keyword).isEmpty then 0 else 1) < 30)) = true := by rfl)
   (hline : (pa.endLine == pb.line) = true := by rfl) (hs : starEach [e] X.env = (false, eval e X.env) :: starEach [] X.env := by exact bG rfl) (BD : swapsWith (.Call (.Attribute (.Name x pp) "append" pa) [e] [] pb) none pos.line X.env = pure false := by rfl) :
   fJ X CL b (.Expr (.Call (.Attribute (.Name x pp) "append" pa) [e] [] pb) pos :: fK) δ DD :=
 dR (KC i h0 h h1 (Nat.lt_of_le_of_lt hl (by rw [VP]; decide)) k n.hi n.hv n.hd n.kr mL tY hline hs BD)
theorem AF {tl : List T} {k : Int} {j : Nat} {ps : Pos} (n : Vn X i x) (h : bJ X CL b e δ t δ1) (h2 : cB X CL b e2 δ1 (.int k) δ1) (h1 : δ1[i]? = some (some (.lst tl))) (hk : Bs tl.length k = some j) (kk : fJ X CL b fK (δ1.set i (some (.lst (tl.set j t)))) DD)
   (ha : ∀ v, assign (.Subscript (.Name x pp) e2 ps) X.env v = (do
     let ov ← holding [v] (eval (.Name x pp) X.env)
     let iv ← holding [v, ov] (eval e2 X.env)
     standAt ps
     holding [v, ov, iv] (setItem ov iv v)
     release [v, ov, iv] []) := by intro _; rfl)
   (hs : swapsWithSole [.Subscript (.Name x pp) e2 ps] e pos.line X.env = pure false := by rfl) (hw : swappedStores [.Subscript (.Name x pp) e2 ps] e X.env = pure none := by rfl) (SW : (assignEach [.Subscript (.Name x pp) e2 ps] X.env).map (·.2) = [assign (.Subscript (.Name x pp) e2 ps) X.env] := by rfl) :
   fJ X CL b (.Assign [.Subscript (.Name x pp) e2 ps] e pos :: fK) δ DD := by
 refine dR fun H Z σ ts vs E S M => vW (JD dF (JC (lE n.hi n.hv n.hd n.kr) dF set_list ha) hs hw SW) (h H Z σ ts vs _ S fun v H1 Z1 z1 k1 S1 => ?_)
 have hj : j < tl.length := (tU hk).2.1
 obtain ⟨v0, e0, _⟩ := S1.look h1
 refine ⟨v0, e0, ?_⟩
 refine h2 H1 Z1 σ _ _ _ S1 fun v2 H2 Z2 z2 k2 S2 r2 => ?_
 obtain ⟨a, us, ea, DM, hu, S3⟩ := S2.setAt h1 hj
 rw [e0] at ea
 cases ea
 exact ⟨a, us, k, j, rfl, r2.sc rfl, DM, by rw [hu]; exact hk, M.nx _ σ _ Z2 (z1.trans z2) S3 kk⟩
theorem bU {n : Nat} (hn : ds.length = n) (hm : X.mg "len" = none) (h : cB X CL b e δ (.lst ds) δ1) (hg : Gl X "len") (hs : starEach [e] X.env = (false, eval e X.env) :: starEach [] X.env := by exact bG rfl) : bJ X CL b (.Call (.Name "len" pp) [e] [] pos) δ (.sh (.int n)) δ1 := by
 subst hn
 exact mQ hm h hg hs
theorem cC (h : bJ X CL b e δ (.lst (ds.map T.sh)) δ1) : cB X CL b e δ (.lst ds) δ1 := by
 have := IJ h
 rwa [T.cZ, fc] at this
end
theorem cK {α : Type} {f : α -> D} {l : List α} {k : Int} (z : α) (h0 : 0 <= k) (h1 : k < l.length) : sC (l.map f) k = some (f (l.getD k.toNat z)) := by
 obtain ⟨j, rfl⟩ : ∃ j : Nat, k = j := ⟨k.toNat, by omega⟩
 refine qq ?_
 have hl : j < l.length := by omega
 rw [Vu, Vf hl]
 simp [List.getD, hl]
theorem wj {α β : Type} {f : α -> β} {l : List α} {lo hi : Option Int} : cutD (l.map f) lo hi = (cutD l lo hi).map f := by
 unfold cutD
 rw [Uz, List.map_take, List.map_drop]
theorem mS {α : Type} {f : α -> D} (h : ∀ a, (f a).ic = true) : ∀ (l : List α), D.bf (l.map f) = true
 | [] => rfl
 | a :: l => by rw [U8, D.bf, h a, mS h l]; rfl
section
variable {X : Cx} {CL : Str -> Addr} {b : Bx} {δ δ1 δ2 δ3 : List (Option T)} {e e1 e2 e3 : Expr} {es : List Expr} {d d1 d2 : D} {ds : List D} {pos p2 pp : Pos} {n m : Nat} {i : Nat} {x : Str} {t : T} {fK : List Stmt} {DD : cu}
theorem mU (x : Str) : ∀ l : List Str, M3 (.str x) (l.map V.str) = decide (x ∈ l)
 | [] => by simp [M3]
 | y :: l => by
   have ih := mU x l
   unfold M3 at ih ⊢
   rw [U8, List.any_cons, ih]
   have e : ∀ a c : Str, GU (.str a) (.str c) = (a == c) := fun _ _ => rfl
   rw [e]
   by_cases h : y = x
   . subst h; simp
   . have h' : ¬ x = y := fun e => h e.symm
     simp [h, h']
theorem aE.strs {K : PySem.W.Frag} {Z : Hp} : ∀ {l : List Str} {vs : List V}, aE K CL Z (l.map D.str) vs -> vs = l.map V.str
 | [], _, r => by
   have r' : aE K CL Z [] _ := r
   cases r'; rfl
 | y :: l, _, r => by
   have r' : aE K CL Z (D.str y :: l.map D.str) _ := r
   cases r' with
   | cons r1 r2 => rw [r1.sc rfl, aE.strs r2]; rfl
theorem ez : ∀ l : List Str, (l.map V.str).all mG = true
 | [] => rfl
 | y :: l => by rw [U8, List.all_cons, ez l]; rfl
theorem Np {l : List Str} (h1 : cB X CL b e1 δ (.str x) δ1) (h2 : cB X CL b e2 δ1 (.tup (l.map .str)) δ2) (hm : behindInMarks .In e2 = false) :
   nU X CL b (.Compare e1 [.In] [e2] pos) δ (decide (x ∈ l)) δ2 /\ bJ X CL b (.Compare e1 [.In] [e2] pos) δ (.sh (.bl (decide (x ∈ l)))) δ2 := by
 constructor
 . intro H Z σ ts vs Q S k
   refine Bv (qp sU dF dF hm) (h1 H Z σ ts vs _ S fun v1 H1 Z1 z1 k1 S1 r1 => h2 H1 Z1 σ ts vs _ S1 fun v2 H2 Z2 z2 k2 S2 r2 => ?_)
   cases r2 with
   | tup hq rr =>
     have e := rr.strs
     subst e
     refine ⟨_, _, rfl, .inr hq, by rw [r1.sc rfl]; rfl, ez l, _, rfl, ?_⟩
     rw [UE UL, r1.sc rfl, mU]
     exact k H2 Z2 (z1.trans z2) (k1.trans k2) S2
 . intro H Z σ ts vs Q S k
   refine cA (qo sU dF dF hm) (h1 H Z σ ts vs _ S fun v1 H1 Z1 z1 k1 S1 r1 => h2 H1 Z1 σ ts vs _ S1 fun v2 H2 Z2 z2 k2 S2 r2 => ?_)
   cases r2 with
   | tup hq rr =>
     have e := rr.strs
     subst e
     refine ⟨_, _, rfl, .inr hq, by rw [r1.sc rfl]; rfl, ez l, ?_⟩
     rw [UE UL, r1.sc rfl, mU]
     exact k _ H2 Z2 (z1.trans z2) (k1.trans k2) (S2.push (.bl _))
theorem eB {l : List Str} {j : Nat} (h1 : cB X CL b e1 δ (.str x) δ1) (h2 : xU X CL b es δ1 ((l.map D.str).map T.sh) δ2) (hl : (l.map D.str).length <= sizeLine := by exact aq rfl) :
   nU X CL b (.Compare e1 [.In] [.Tuple es j p2] pos) δ (decide (x ∈ l)) δ2 /\ bJ X CL b (.Compare e1 [.In] [.Tuple es j p2] pos) δ (.sh (.bl (decide (x ∈ l)))) δ2 := Np h1 (ah (aO h2 hl)) rfl
noncomputable def qU : Expr -> Option Str
 | .Constant (.str x) _ _ => some x
 | _ => none
noncomputable def nY : List Expr -> Option (List Str)
 | [] => some []
 | e :: es => (qU e).bind fun x => (nY es).map (x :: ·)
theorem wk {e : Expr} {x : Str} (h : qU e = some x) : ∃ j p, e = .Constant (.str x) j p := by
 unfold qU at h
 split at h
 . cases h; exact ⟨_, _, rfl⟩
 . cases h
theorem cL : ∀ {es : List Expr} {l : List Str}, nY es = some l -> xU X CL b es δ ((l.map D.str).map T.sh) δ
 | [], l, h => by
   have e : l = [] := (U4 h).symm
   subst e
   exact c5
 | e :: es, l, h => by
   rw [nY] at h
   obtain ⟨x, hx, h⟩ := Option.bind_eq_some_iff.mp h
   obtain ⟨l', hl, rfl⟩ := Option.map_eq_some_iff.mp h
   obtain ⟨j, p, rfl⟩ := wk hx
   exact di aB (cL hl)
end
theorem D4 {α : Type} {l : List α} {k : Int} (z : α) (h0 : 0 <= k) (h1 : k < l.length) : sC l k = some (l.getD k.toNat z) := by
 obtain ⟨j, rfl⟩ : ∃ j : Nat, k = j := ⟨k.toNat, by omega⟩
 refine qq ?_
 have hl : j < l.length := by omega
 rw [Vf hl]
 simp [List.getD, hl]
theorem str_len (x y : Str) : (x ++ y).length = x.length + y.length := by
 show (x.cps ++ y.cps).size = _
 rw [Array.size_append]; rfl
theorem KP (x y : Str) (h1 : PyData.strOk x = true) (h2 : PyData.strOk y = true) : PyData.strOk (x ++ y) = true := by
 unfold PyData.strOk at *
 show (x.cps ++ y.cps).all _ = true
 rw [Array.all_append, h1, h2]; rfl
theorem wm (l : List Int) : T.cJ ((l.map D.int).map T.sh) = true := by
 rw [Vt]
 induction l with
 | nil => rfl
 | cons i r ih => rw [U8, T.cJ, ih]; rfl
section
variable {X : Cx} {tg : Expr}
end
section
variable {X : Cx} {CL : Str -> Addr} {b : Bx} {δ δ1 : List (Option T)} {e : Expr} {ds : List D} {tg : Expr} {pr pc : Pos}
end
section
variable {K : PySem.W.Frag} {CL : Str -> Addr} {b : Bx} {H Z : Hp} {δ : List (Option T)} {σ : L2.St} {ts tt : List T} {vs : List V} {t : T}
end
section
variable {X : Cx} {CL : Str -> Addr} {b : Bx} {δ : List (Option T)} {tt : List T} {t : T} {i : Nat} {x : Str} {pp pc ps : Pos} {kj : Nat}
end
section
variable {X : Cx} {CL : Str -> Addr} {b : Bx} {δ δ1 : List (Option T)} {e : Expr} {ds : List D} {t : T} {i : Nat} {x : Str} {pos pp p2 : Pos} {kj : Nat}
theorem Rw (n : Vn X i x) (h : δ[i]? = some (some (.lst (ds.map T.sh)))) : bJ X CL b (.Name x pos) δ (.sh (.lst ds)) (δ.set i (some (.sh (.lst ds)))) := by
 have := vF (CL := CL) (b := b) (pos := pos) n h
 rwa [T.cZ, fc] at this
end
section
variable {K : PySem.W.Frag} {CL : Str -> Addr} {b : Bx} {H H' Z Z' : Hp} {δ δ' : List (Option T)} {σ σ' : L2.St} {ts tl : List T} {vs us : List V} {t : T} {v : V}
theorem k8.get : ∀ {fs : List (Str × D)} {gs : List (Str × V)} {f : Str} {d : D}, k8 K CL Z fs gs -> fs.lookup f = some d -> ∃ v, gs.lookup f = some v /\ bz K CL Z d v
 | _, _, _, _, .nil, e => by simp at e
 | _, _, f, d, .cons (x := x) r t, e => by
   rw [Ve] at e ⊢
   cases h : f == x with
   | true => rw [h] at e; cases e; exact ⟨_, rfl, r⟩
   | false => rw [h] at e; exact k8.get t e
noncomputable def sI (f : Str) (t : T) : List (Str × T) -> List (Str × T)
 | [] => [(f, t)]
 | (g, x) :: r => if g = f then (g, t) :: r else (g, x) :: sI f t r
theorem ck.length {fs : List (Str × T)} {gs : List (Str × V)} {fp : List Addr} (h : ck K CL H Z fs gs fp) : fs.length = gs.length :=
 ck.ind (P := fun d v _ => d.length = v.length) rfl (fun _ _ i => congrArg (· + 1) i) h
theorem ck.put {f : Str} {g : List Addr} (q : b7 K CL H Z t v g) : ∀ {fs : List (Str × T)} {gs : List (Str × V)} {fp : List Addr}, ck K CL H Z fs gs fp →
   ∃ AG f', ck K CL H Z (sI f t fs) (gk f v gs) AG /\ f'.Sublist fp /\ AG.Perm (g ++ f')
 | _, _, _, .nil => ⟨g ++ [], [], .cons q .nil, Va _, Wa _⟩
 | _, _, _, .cons (x := x) (fp := fp) (gp := gp) r rs => by
   rw [sI, gk]
   by_cases h : x = f
   . rw [UR h, UR h]
     exact ⟨g ++ gp, gp, .cons q rs, Vx _ _, Wa _⟩
   . rw [UE h, UE h]
     obtain ⟨p, p', h1, h2, h3⟩ := ck.put (f := f) q rs
     refine ⟨fp ++ p, fp ++ p', .cons r h1, Vc (Va _) h2, (Vl fp h3).trans ?_⟩
     rw [← UH, ← UH]
     exact Vg.append_right p'
theorem bM.KQ {a : Addr} {o : HO} {AG gp fp Kz : List Addr} {δ2 : List (Option T)} (hm : jK o = false) (S : bM K CL b H Z δ σ ts vs) (own : ∀ c ∈ fp ++ gp, Z c = none /\ b.B c = none) (ha : a ∈ fp ++ gp)
   (e' : dI K CL (upd H a o) Z δ2 σ AG) (r' : aM K CL (upd H a o) Z tl us Kz) (pm : (AG ++ Kz).Nodup) (sub : ∀ c ∈ AG ++ Kz, c ∈ fp ++ gp) :
   bM K CL b (upd H a o) Z δ2 σ tl us := by
 have oa := own a ha
 refine ⟨⟨_, _, e', r', pm, fun c hc => own c (sub c hc)⟩, fun c u q => ?_, S.zz, fun c u q => ?_, S.new, fun c u q i => ?_, S.tab⟩
 . rw [aF (aX q oa.2)]; exact S.bh c u q
 . rw [aF (aX q oa.1)]; exact S.zh c u q
 . by_cases hc : c = a
   . subst hc; rw [bB] at q; cases q; rw [hm] at i; cases i
   . rw [aF hc] at q; exact S.tp c u q i
theorem bM.setField {i : Nat} {x : Addr} {c f : Str} {fs : List (Str × T)} (S : bM K CL b H Z δ σ (t :: ts) (v :: vs)) (hi : δ[i]? = some (some (.pin x (.ins c fs)))) :
   ∃ dx gs, σ[i]? = some (some (.ref x)) /\ H x = some (.ins (CL c) dx gs) /\ gs.length = fs.length /\ bM K CL b (upd H x (.ins (CL c) dx (gk f v gs))) Z (δ.set i (some (.pin x (.ins c (sI f t fs))))) σ ts vs := by
 obtain ⟨fp, gp, e, r, nd, k⟩ := S.rep
 obtain ⟨v0, f1, f2, f3, hv, qu, rt, put, _⟩ := e.get hi
 subst qu
 cases rt with
 | pin rt =>
 cases rt with
 | @ins a dx _ gs _ g ha rs =>
   cases r with
   | @cons _ _ _ _ ft gr q1 q2 =>
     have ne : ∀ c ∈ (f1 ++ (g ++ f3)) ++ (ft ++ gr), c ≠ x := fun c hc e => by
       subst e
       have hp : ((f1 ++ ((c :: g) ++ f3)) ++ (ft ++ gr)).Perm (c :: ((f1 ++ (g ++ f3)) ++ (ft ++ gr))) := by
         rw [Vb, ← Vb]
         exact (List.perm_middle.append_right _)
       exact (VH.mp (hp.nodup_iff.mp nd)).1 hc
     refine ⟨dx, gs, hv, ha, rs.length.symm, ?_⟩
     have SX := q1.mono (H' := upd H x (.ins (CL c) dx (gk f v gs))) (.refl _) fun c hc => aF (ne c (by simp [hc]))
     have SY := rs.mono (H' := upd H x (.ins (CL c) dx (gk f v gs))) (.refl _) fun c hc => aF (ne c (by simp [hc]))
     obtain ⟨p, p', h1, h2, h3⟩ := ck.put (f := f) SX SY
     have r1 : b7 K CL (upd H x (.ins (CL c) dx (gk f v gs))) Z (.pin x (.ins c (sI f t fs))) (.ref x) (x :: p) := .pin (.ins bB h1)
     have e2 := put (H' := upd H x (.ins (CL c) dx (gk f v gs))) (.refl _) (fun c hc => aF (ne c (by
       rcases UY.mp hc with h | h
       . simp [h]
       . simp [h]))) r1
     rw [qT hv] at e2
     have hp : ((f1 ++ ((x :: p) ++ f3)) ++ gr).Perm ((f1 ++ ((x :: p') ++ f3)) ++ (ft ++ gr)) := by
       have h4 : ((f1 ++ ((x :: p) ++ f3)) ++ gr).Perm ((f1 ++ ((x :: (ft ++ p')) ++ f3)) ++ gr) := ((h3.cons x).append_right f3).append_left f1 |>.append_right gr
       refine h4.trans ?_
       simp only [Vb, UH]
       refine Vl f1 (List.Perm.cons x ?_)
       have := (Vg (l₁ := ft) (l₂ := p' ++ f3)).append_right gr
       simp only [UH] at this
       exact this
     have sb : ((f1 ++ ((x :: p') ++ f3)) ++ (ft ++ gr)).Sublist ((f1 ++ ((x :: g) ++ f3)) ++ (ft ++ gr)) :=
       Vc (Vc (Va _) (Vc (List.Sublist.cons₂ x h2) (Va _))) (Va _)
     exact S.KQ rfl k (by simp) e2 (q2.mono (.refl _) fun c hc => aF (ne c (by simp [hc]))) (hp.nodup_iff.mpr (nd.sublist sb)) fun c hc => sb.subset (hp.mem_iff.mp hc)
end
section
variable {X : Cx} {CL : Str -> Addr} {b : Bx} {δ δ1 δ2 : List (Option T)} {e : Expr} {es : List Expr} {t : T} {d : D} {c f x : Str} {fs : List (Str × D)} {pos pp : Pos} {DD : cu} {i : Nat}
theorem uf (hc : vH X.K (CL c)) (n : aS X.K (CL c) f) (h : cB X CL b e δ (.ins c fs) δ1) (hl : fs.lookup f = some d) (hb : attributeBase e f X.env (eval e X.env) = eval e X.env := by rfl) :
   cB X CL b (.Attribute e f pos) δ d δ1 := fun H Z σ ts vs Q S k =>
 cA (Dv dF hb) (h H Z σ ts vs _ S fun v H' Z' z s S' r => by
   cases r with
   | @ins a dx _ gs _ ha rf =>
     obtain ⟨w, hw, J4⟩ := rf.get hl
     exact ⟨a, CL c, dx, gs, w, rfl, ha, hc, n, hw, k w H' Z' z s S' J4⟩)
theorem iX (hc : vH X.K (CL c)) (n : aS X.K (CL c) f) (h : bJ X CL b e δ (.sh (.ins c fs)) δ1) (hl : fs.lookup f = some d) (hb : attributeBase e f X.env (eval e X.env) = eval e X.env := by rfl) :
   bJ X CL b (.Attribute e f pos) δ (.sh d) δ1 := fun H Z σ ts vs Q S k =>
 cA (Dv dF hb) (h H Z σ ts vs _ S fun v H' Z' z s S' => by
   obtain ⟨fp, gp, _, r, _, _⟩ := S'.rep
   cases r with
   | cons r _ =>
     cases r with
     | sh r =>
       cases r with
       | @ins a dx _ gs _ ha rf =>
         obtain ⟨w, hw, J4⟩ := rf.get hl
         exact ⟨a, CL c, dx, gs, w, rfl, S'.zh _ _ ha, hc, n, hw, k w H' Z' z s (S'.pop.push J4)⟩)
theorem mV {fK : List Stmt} {a : Addr} {gs : List (Str × T)} {pa pb pc : Pos} (hc : vH X.K (CL c)) (n : aS X.K (CL c) f) (nm : Vn X i x) (h : bJ X CL b e δ t δ1) (h1 : δ1[i]? = some (some (.pin a (.ins c gs)))) (hl : gs.length < 1000)
   (k : fJ X CL b fK (δ1.set i (some (.pin a (.ins c (sI f t gs))))) DD) (hs : swapsWith e (some (.Attribute (.Name x pa) f pb)) pc.line X.env = pure false := by rfl) :
   fJ X CL b (.Assign [.Attribute (.Name x pa) f pb] e pc :: fK) δ DD := dR fun H Z σ ts vs E S M =>
 vW (JV (lE nm.hi nm.hv nm.hd nm.kr) dF hs) (h H Z σ ts vs _ S fun v H' Z' z s S' => by
   obtain ⟨dx, ws, hv, hx, hlen, S2⟩ := S'.setField (f := f) h1
   exact ⟨.ref a, hv, a, CL c, dx, ws, rfl, hx, hc, n, by rw [hlen]; exact hl, M.nx _ σ _ Z' z S2 k⟩)
end
noncomputable def Nq (K : PySem.W.Frag) (CL : Str -> Addr) {A : Type} (c : Str) (n : Nat) (arg : A -> List D) (Pre : A -> Prop) (res : A -> List (Str × T)) : Sp := fun vs H Q _ =>
 ∃ (W H0 : Hp) (a : A) (x dx : Addr) (us : List V), vs = .ref x :: us /\ H0 x = none /\ H0 dx = none /\ dx ≠ x /\ H = upd (upd H0 dx (.own x)) x (.ins (CL c) dx []) ∧
   aD W H0 /\ (∀ c o, H0 c = some o -> jK o = true -> W c = some o) /\ aE K CL W (arg a) us /\ (arg a).length + 1 = n /\ Pre a /\ jL CL W ∧
   ∀ H' W' fp, aD H0 H' -> aD W W' -> aD W' H' -> (∀ c o, W' c = some o -> W c = none -> H0 c = none) -> (∀ c o, H' c = some o -> jK o = true -> W' c = some o) →
     b7 K CL H' W' (.ins c (res a)) (.ref x) fp -> fp.Nodup -> (∀ c ∈ fp, W' c = none /\ H0 c = none) -> Q .non H'
section
variable {X : Cx} {CL : Str -> Addr} {b : Bx} {δ δ1 δ2 : List (Option T)} {e o : Expr} {es : List Expr} {pos pp apos : Pos}
variable {A : Type} {k n : Nat} {f : Addr} {fd : FuncData} {ps : List Str} {arg : A -> List D} {Pre : A -> Prop} {x c m : Str}
theorem Hj {res : A -> List (Str × T)} (a : A) (M : Mk X.K (CL c) f) (F : b5 X.prog X.w X.K X.mg X.base iT k f fd ps (Nq X.K CL c n arg Pre res)) (hr : ek (k + 1) X.A) (hm : X.mg x = some (.ref (CL c))) (hb : Binds X.K fd ps [])
   (h : Gf X CL b (e :: es) δ (arg a) δ1) (hn : (arg a).length + 1 = n) (hp : Pre a) (hc : T.aU (res a) = true) (hg : Gl X x)
   (sE : (x == ("__debug__" : Str)) = false := by decide) (he : starEach (e :: es) X.env = (false, eval e X.env) :: starEach es X.env := by exact bG rfl) (hpl : (backTo pos (starEach es X.env)).any (·.1) = false := by rfl) :
   bJ X CL b (.Call (.Name x pp) (e :: es) [] pos) δ (.ins c (res a)) δ1 := fun H Z σ ts vs Q S kk =>
 cA (An M F hr hg hm hb .nil Aw Dd sE he hpl) (h H Z σ ts vs _ S fun us H1 Z1 z1 k1 S1 r x dx hx Nr ne => by
   rw [Vr]
   refine ⟨H1, H1, a, x, dx, us, rfl, hx, Nr, ne, rfl, .refl _, fun _ _ q _ => q, r, hn, hp, S1.Kl, fun H' W' fp hh ww wh nw tp rt nd own => ⟨rfl, ?_⟩⟩
   obtain ⟨Z', z', S'⟩ := S1.back hh S1.zh ww wh nw tp rt nd own (.inr (by rw [T.clean]; exact hc))
   exact kk _ H' Z' (z1.trans z') (k1.trans hh) S')
end
theorem AH {P : Program} {w : World} {K : PySem.W.Frag} {mg : Str -> Option Value} {base : Heap} {CL : Str -> Addr} {x qual c : Str} {st : Stmt} {f : Addr} {fd : FuncData} {N ps : List Str} {k : Nat} {A : Type} {arg : A -> List D} {Pre : A -> Prop} {res : A -> List (Str × T)} (F : mO K x qual st f fd) (S : aV N ps (ay st))
   (hb : ∀ (eU : Value) (Ar : Around) (outer : List Env) (s : Shared) (H : Hp) (E : XK) (b : Bx) (a : A) (y : Addr), ek k (Ar.deeper (envOfC qual (ay st) s.heap.objs.size f eU)) -> Pre a →
     fJ (vO iT P w K mg base N qual (ay st) f eU Ar outer s H E).LW CL b (e9 st) (some (.pin y (.ins c [])) :: ((arg a).map (fun d => some (T.sh d)) ++ List.replicate (N.length - ((arg a).length + 1)) none))
       { nx := fun δ => δ[0]? = some (some (.pin y (.ins c (res a)))), rt := fun _ _ => False }) :
   b5 P w K mg base iT (k + 1) f fd ps (Nq K CL c ps.length arg Pre res) := by
 refine F.ok S (fun vs H Q E h => ?_) (fun eU Ar outer s H vs Q E hr h => ?_)
 . obtain ⟨W, H0, a, y, dx, us, rfl, _, _, _, _, _, _, r, hl, _⟩ := h
   rw [Vi, ← r.length]; exact hl
 . obtain ⟨W, H0, a, y, dx, us, rfl, hy, Nr, ne, rfl, wh, tp, r, hl, hp, tb, kk⟩ := h
   have old : ∀ {d : Addr} {o : HO}, H0 d = some o -> upd (upd H0 dx (.own y)) y (.ins (CL c) dx []) d = some o := fun {d o} q => by
     rw [aF (aX q hy), aF (aX q Nr)]; exact q
   refine ⟨_, Kg, hb eU Ar outer s _ E ⟨H0, W⟩ a y hr hp _ W _ [] [] _ ⟨⟨[y] ++ [], [], ?_, .nil, by simp, fun d hd => ?_⟩, fun d o q => old q, .refl _, fun d o q => old (wh d o q), fun d o q z => ?_, fun d o q i => ?_, tb⟩ ⟨fun δ' σ' H' Z' s' S' e => ?_, fun t v H' Z' δ' σ' s' S' e => e.elim, fun _ _ _ _ _ _ e => e.elim, fun _ _ _ _ _ _ e => e.elim⟩⟩
   . unfold L2.start
     rw [U8, Vi, Vb, ← r.length]
     exact .cons (.pin (.ins bB .nil)) (iV _ r)
   . have : d = y := by simpa using hd
     subst this
     exact ⟨Km wh hy, hy⟩
   . have q' : W d = some o := q
     have z' : W d = none := z
     rw [q'] at z'; cases z'
   . by_cases h1 : d = y
     . subst h1; rw [bB] at q; cases q; cases i
     . rw [aF h1] at q
       by_cases h2 : d = dx
       . subst h2; rw [bB] at q; cases q; cases i
       . rw [aF h2] at q; exact tp d o q i
   . obtain ⟨fp, gp, eE, _, nd, own⟩ := S'.rep
     obtain ⟨v, f1, f2, f3, hv, qu, rt, _, _⟩ := eE.get e
     subst qu
     cases rt with
     | pin rt =>
       refine kk H' Z' f2 S'.bh S'.zz S'.zh S'.new S'.tp rt ?_ fun d hd => own d (by simp [hd])
       have h1 := (Vo.mp nd).1
       exact (Vo.mp (Vo.mp h1).2.1).1
section
variable {X : Cx} {CL : Str -> Addr} {b : Bx} {δ δ1 δ2 : List (Option T)} {e e1 e2 : Expr} {es : List Expr} {t : T} {d : D} {ds ug : List D} {x : Str} {pos pp : Pos} {DD : cu} {i : Nat} {fK body : List Stmt}
theorem AI (g : Gx X) (P : Nat -> List (Option T) -> Prop) (m : Nat) (h0 : P m δ)
   (hs : ∀ m δ, P m δ -> ∃ p δ1, nU X CL b e δ p δ1 ∧
     (p = true -> fJ X CL b body δ1 { nx := fun δ2 => ∃ m', m' < m /\ P m' δ2, rt := DD.rt, bk := fun δ2 => fJ X CL b fK δ2 DD, ct := fun δ2 => ∃ m', m' < m /\ P m' δ2 }) /\ (p = false -> fJ X CL b fK δ1 DD)) :
   fJ X CL b (.While e body [] pos :: fK) δ DD := dR fun H Z σ ts vs E S M =>
 vW (Dn (by rw [g.xe]; exact PassesOwn.never) Kf Kg) (by
   refine ⟨fun m σ H => ∃ Z2 δ2, aD Z Z2 /\ bM X.K CL b H Z2 δ2 σ ts vs /\ P m δ2, ⟨m, Z, δ, .refl _, S, h0⟩, ?_⟩
   rintro m σ H ⟨Z2, δ2, z2, S2, p2⟩
   obtain ⟨p, δ3, ht, h1, h2⟩ := hs m δ2 p2
   refine ht H Z2 σ ts vs _ S2 fun H3 Z3 z3 k3 S3 => ?_
   cases p with
   | true =>
     rw [UR rfl]
     refine ⟨fun σ' H' => ∃ m', m' < m /\ ∃ Z2 δ2, aD Z Z2 /\ bM X.K CL b H' Z2 δ2 σ' ts vs /\ P m' δ2, fun σ' H' q => q, ?_⟩
     refine h1 rfl H3 Z3 σ ts vs _ S3 ⟨fun δ' σ' H' Z' s' S' ⟨m', l, q⟩ => ⟨m', l, Z', δ', z2.trans (z3.trans s'), S', q⟩, fun t v H' Z' δ' σ' s' S' q => M.rt t v H' Z' δ' σ' (z2.trans (z3.trans s')) S' q,
       fun δ' σ' H' Z' s' S' q => M.nx δ' σ' H' Z' (z2.trans (z3.trans s')) S' q, fun δ' σ' H' Z' s' S' ⟨m', l, q⟩ => ⟨m', l, Z', δ', z2.trans (z3.trans s'), S', q⟩⟩
   | false =>
     rw [UE (by decide)]
     exact M.nx δ3 σ H3 Z3 (z2.trans z3) S3 (h2 rfl))
noncomputable def Nt (K : PySem.W.Frag) : R2 := fun x y H Q => ∃ l b xs zs, x = .ref l /\ y = .ref b /\ nP K H l xs /\ nP K H b zs /\ xs.length + zs.length <= sizeLine /\ ∀ p, H p = none -> Q (.ref p) (upd H p (.lst (xs ++ zs)))
theorem AJ : pC X (binaryOp .Add) (Nt X.K) := by
 intro pins s σ H x y v u Q I rx ry h
 obtain ⟨l, b, xs, zs, rfl, rfl, hH, hB, hz, q⟩ := h
 cases rx
 cases ry
 obtain ⟨its, r, pl, _⟩ := I.list hH
 obtain ⟨DC, r2, S6, _⟩ := I.list hB
 have e1 := r.length
 have e2 := r2.length
 obtain ⟨⟨c1, dd, Um, sl⟩, ho, hc, n, hd⟩ := pl.isList
 obtain ⟨⟨c2, L0, Uo, L1⟩, Gd, GK, n2, hd2⟩ := S6.isList
 cases hc; cases GK; cases hd; cases hd2
 refine concat_meets ⟨_, ho, rfl⟩ ⟨_, Gd, rfl⟩ noFill_list_add seq_list_add PySem.F.slot_list_add PySem.F.entry_list_add (PySem.F.args_list_add_2 (Value.ref l) (Value.ref b))
   (list_addW l b its.toArray DC.toArray n n2 dd L0 sl L1 (by rw [U7, U7]; omega)) ⟨ho, Gd, ?_⟩
 have ea : its.toArray ++ DC.toArray = (its ++ DC).toArray := by simp
 rw [ea]
 exact ⟨.ref _, _, I.M4 (t' := s.toks) (r.append r2) (by rw [UM]; omega), rfl, q _ I.fresh⟩
theorem aE.app {K : PySem.W.Frag} {Z : Hp} {ds ug : List L3.D} {vs Qt : List V} (h : aE K CL Z ds vs) (r2 : aE K CL Z ug Qt) : aE K CL Z (ds ++ ug) (vs ++ Qt) :=
 aE.ind (P := fun ds vs => aE K CL Z (ds ++ ug) (vs ++ Qt)) r2 (fun r _ i => .cons r i) h
theorem AK (h1 : cB X CL b e1 δ (.lst ds) δ1) (h2 : cB X CL b e2 δ1 (.lst ug) δ2) (i1 : D.bf ds = true) (i2 : D.bf ug = true) (hz : ds.length + ug.length <= sizeLine) :
   bJ X CL b (.BinOp e1 .Add e2 pos) δ (.lst ((ds ++ ug).map T.sh)) δ2 := fun H Z σ ts vs Q S k =>
 cA (Ah AJ dF dF) (h1 H Z σ ts vs _ S fun v1 H1 Z1 z1 k1 S1 r1 => h2 H1 Z1 σ ts vs _ S1 fun v2 H2 Z2 z2 k2 S2 r2 => by
   have Nf := r1.mono k2
   cases Nf with
   | lst Nu Gi =>
     cases r2 with
     | lst Nv Gj =>
       refine ⟨_, _, _, _, rfl, rfl, Nu, Nv, by rw [← Gi.length, ← Gj.length]; exact hz, fun p hp => ?_⟩
       have rc := aE.app (aE.ic S2.tp i1 Gi) (aE.ic S2.tp i2 Gj)
       obtain ⟨c, S4⟩ := (bM.pI rc S2).nV (g0 := []) (by simp [rc.length, Gi.length, Gj.length]) hp
       exact k _ _ _ (z1.trans z2) (k1.trans (k2.trans c)) S4)
theorem boot_min : bootBuiltins "min" = some (.builtin "min") := by decide +kernel
theorem boot_str : bootBuiltins "str" = some (.type "str") := by decide +kernel
theorem AO {i j : Int} (g : Gx X) (hm : X.mg "min" = none) (hg : Gl X "min") (h : Gf X CL b [e1, e2] δ [.int i, .int j] δ1) (hs : starEach [e1, e2] X.env = (false, eval e1 X.env) :: starEach [e2] X.env := by exact bG rfl) (hpl : (backTo pos (starEach [e2] X.env)).any (·.1) = false := by rfl) :
   bJ X CL b (.Call (.Name "min" pp) [e1, e2] [] pos) δ (.sh (.int (if j < i then j else i))) δ1 := fun H Z σ ts vs Q S k =>
 cA (mE (Bm g.calm) hg hm boot_min Dd (he := hs) (hpl := hpl)) (h H Z σ ts vs _ S fun us H1 Z1 z1 k1 S1 r => by
   cases r with
   | cons r1 r =>
     cases r with
     | cons r2 r =>
       cases r
       rw [r1.sc rfl, r2.sc rfl]
       exact ⟨i, j, rfl, k _ H1 Z1 z1 k1 (S1.push (.int _))⟩)
theorem gK {i : Int} (hm : X.mg "str" = none) (hg : Gl X "str") (h : cB X CL b e δ (.int i) δ1) (hi : i.natAbs.log2 < 1920) (hs : starEach [e] X.env = (false, eval e X.env) :: starEach [] X.env := by exact bG rfl) :
   bJ X CL b (.Call (.Name "str" pp) [e] [] pos) δ (.sh (.str (toString i))) δ1 := fun H Z σ ts vs Q S k =>
 cA (nR tS hg hm boot_str (cI dF fL hs) (he := hs)) (h H Z σ ts vs _ S fun v H1 Z1 z1 k1 S1 r => by
   rw [r.sc rfl]
   exact ⟨i, rfl, hi, k _ H1 Z1 z1 k1 (S1.push (.str _))⟩)
end
structure Fm (X : Cx) (CL : Str -> Addr) (x : Str) (k n : Nat) {A : Type} (arg : A -> List D) (Pre : A -> Prop) (res : A -> List (Str × T)) : Prop where
 ex : ∃ f fd ps, Mk X.K (CL x) f /\ b5 X.prog X.w X.K X.mg X.base iT k f fd ps (Nq X.K CL x n arg Pre res) /\ X.mg x = some (.ref (CL x)) /\ Binds X.K fd ps []
 room : ek (k + 1) X.A
noncomputable def D5 (N : List Str) (y : Addr) (c : Str) (ds : List D) : List (Option T) := some (.pin y (.ins c [])) :: (ds.map (fun d => some (T.sh d)) ++ List.replicate (N.length - (ds.length + 1)) none)
theorem KR {K : PySem.W.Frag} {CL Rx : Str -> Addr} {arg : List Int -> List D} {pre : List Int -> Prop} {res : List Int -> T} (ha : ∀ a, arg a = [.lst (a.map .int)]) (hr : ∀ a, res a = .sh (.bl true)) (h0 : ∀ x, Ax x = true -> CL x = 0) :
   ∀ (vs : List V) (H : Hp) (Q : VK) (E : XK), lG K Rx 1 arg pre res vs H Q E -> lG K CL 1 arg pre res vs H Q E := by
 rintro vs H Q E ⟨W, a, h1, h2, h3, h4, h5, _, k⟩
 have KS : ∀ {l : List Int} {us : List V}, aE K Rx W (l.map .int) us -> aE K CL W (l.map .int) us := by
   intro l
   induction l with
   | nil => intro us r; cases r; exact .nil
   | cons i l ih =>
     intro us r
     cases r with
     | cons r t => cases r; exact .cons (.int i) (ih t)
 refine ⟨W, a, h1, h2, ?_, h4, h5, fun x hx e => absurd (h0 x hx) e, fun v H' W' fp a1 a2 a3 a4 a5 r nd own => k v H' W' fp a1 a2 a3 a4 a5 ?_ nd own⟩
 . rw [ha] at h3 ⊢
   cases h3 with
   | cons r t =>
     cases t
     cases r with
     | lst q rr => exact .cons (.lst q (KS rr)) .nil
 . rw [hr] at r ⊢
   cases r with
   | sh r => cases r; exact .sh (.bl _)
section
variable {X : Cx} {CL : Str -> Addr} {b : Bx} {δ δ1 δ2 : List (Option T)} {e e1 e2 o : Expr} {es : List Expr} {d : L3.D} {t : T} {i : Nat} {x c m : Str} {pos pp apos : Pos} {D : cu} {fK : List Stmt} {ds : List L3.D}
theorem S7 {k n : Nat} {A : Type} {arg : A -> List L3.D} {Pre : A -> Prop} {res : A -> List (Str × T)} (a : A) (F : Fm X CL x k n arg Pre res) (hg : Gl X x) (h : Gf X CL b (e :: es) δ (arg a) δ1) (hp : Pre a) (hc : T.aU (res a) = true) (hn : (arg a).length + 1 = n := by rfl)
   (sE : (x == ("__debug__" : Str)) = false := by decide) (he : starEach (e :: es) X.env = (false, eval e X.env) :: starEach es X.env := by exact bG rfl) (hpl : (backTo pos (starEach es X.env)).any (·.1) = false := by rfl) :
   bJ X CL b (.Call (.Name x pp) (e :: es) [] pos) δ (.ins x (res a)) δ1 := by
 obtain ⟨f, fd, ps, M, F1, m, b⟩ := F.ex
 exact Hj a M F1 F.room m b h hn hp hc hg sE he hpl
end
theorem fO {α : Type} {f : Str} {d : α} {fs : List (Str × α)} : ((f, d) :: fs).lookup f = some d := by
 rw [Ve, beq_self_eq_true]
theorem b4 {α : Type} {f g : Str} {d : α} {fs : List (Str × α)} (h : (f == g) = false) : ((g, d) :: fs).lookup f = fs.lookup f := by
 rw [Ve, h]
theorem eF {f : Str} {t : T} : sI f t [] = [(f, t)] := rfl
theorem bu {f g : Str} {t u : T} {fs : List (Str × T)} (h : ¬ g = f) : sI f t ((g, u) :: fs) = (g, u) :: sI f t fs := by
 rw [sI, UE h]
section
variable {X : Cx} {CL : Str -> Addr} {b : Bx} {δ δ1 δ2 : List (Option T)} {e1 e2 : Expr} {x : Str} {pos : Pos} {d : L3.D}
noncomputable def D6 (d : L3.D) : Option (List L3.D) := match d with
 | .lst ds => some ds
 | .tup ds => some ds
 | _ => none
theorem bz.D6 {K : PySem.W.Frag} {Z : Hp} {v : V} {ds : List L3.D} (r : bz K CL Z d v) (h : L3.D6 d = some ds) : ∃ p us, v = .ref p /\ (nP K Z p us \/ qb K Z p us) /\ aE K CL Z ds us := by
 cases r with
 | tup hq rr => cases h; exact ⟨_, _, rfl, .inr hq, rr⟩
 | lst hq rr => cases h; exact ⟨_, _, rfl, .inl hq, rr⟩
 | non => cases h
 | bl => cases h
 | int => cases h
 | str => cases h
 | any => cases h
 | val => cases h
 | sG => cases h
 | ins => cases h
theorem AQ {l : List Str} (h1 : cB X CL b e1 δ (.str x) δ1) (h2 : cB X CL b e2 δ1 d δ2) (hd : L3.D6 d = some (l.map .str)) (hm : behindInMarks .NotIn e2 = false) :
   nU X CL b (.Compare e1 [.NotIn] [e2] pos) δ (!decide (x ∈ l)) δ2 /\ bJ X CL b (.Compare e1 [.NotIn] [e2] pos) δ (.sh (.bl (!decide (x ∈ l)))) δ2 := by
 constructor
 . intro H Z σ ts vs Q S k
   refine Bv (qp mJ dF dF hm) (h1 H Z σ ts vs _ S fun v1 H1 Z1 z1 k1 S1 r1 => h2 H1 Z1 σ ts vs _ S1 fun v2 H2 Z2 z2 k2 S2 r2 => ?_)
   obtain ⟨p, us, rfl, hq, rr⟩ := bz.D6 r2 hd
   have e := rr.strs
   subst e
   refine ⟨_, _, rfl, hq, by rw [r1.sc rfl]; rfl, ez l, _, rfl, ?_⟩
   rw [UR rfl, r1.sc rfl, mU]
   exact k H2 Z2 (z1.trans z2) (k1.trans k2) S2
 . intro H Z σ ts vs Q S k
   refine cA (qo mJ dF dF hm) (h1 H Z σ ts vs _ S fun v1 H1 Z1 z1 k1 S1 r1 => h2 H1 Z1 σ ts vs _ S1 fun v2 H2 Z2 z2 k2 S2 r2 => ?_)
   obtain ⟨p, us, rfl, hq, rr⟩ := bz.D6 r2 hd
   have e := rr.strs
   subst e
   refine ⟨_, _, rfl, hq, by rw [r1.sc rfl]; rfl, ez l, ?_⟩
   rw [UR rfl, r1.sc rfl, mU]
   exact k _ H2 Z2 (z1.trans z2) (k1.trans k2) (S2.push (.bl _))
end
section
variable {X : Cx} {CL : Str -> Addr} {b : Bx} {δ δ1 δ2 : List (Option T)} {e : Expr} {es : List Expr} {d : L3.D} {ds : List L3.D} {t : T} {i : Nat} {x : Str} {pos pp : Pos} {DD : cu} {fK : List Stmt}
theorem aN : xU X CL b [] δ (([] : List L3.D).map T.sh) δ := c5
theorem ak (h1 : bJ X CL b e δ (.sh d) δ1) (h2 : xU X CL b es δ1 (ds.map T.sh) δ2) (hs : starEach (e :: es) X.env = (false, eval e X.env) :: starEach es X.env := by exact bG rfl) : xU X CL b (e :: es) δ ((d :: ds).map T.sh) δ2 := di h1 h2 hs
theorem fP (h : xU X CL b es δ (ds.map T.sh) δ1) (hl : ds.length <= sizeLine) : bJ X CL b (.List es pos) δ (.lst (ds.map T.sh)) δ1 := dM h (by simpa using hl)
theorem iM (l : List Str) : D.bf (l.map L3.D.str) = true := mS (fun _ => rfl) _
theorem qx (h : bJ X CL b e δ (.lst (ds.map T.sh)) δ1) : bJ X CL b e δ (.sh (.lst ds)) δ1 := by
 have := tZ h
 rwa [T.cZ, fc] at this
theorem uh (h : bJ X CL b e δ t δ1) (q : t.cZ = d) : bJ X CL b e δ (.sh d) δ1 := q ▸ tZ h
theorem wo {d2 : L3.D} (h : cB X CL b e δ d δ1) (q : d = d2) : cB X CL b e δ d2 δ1 := q ▸ h
theorem gw {t2 : T} (h : bJ X CL b e δ t δ1) (q : t = t2) : bJ X CL b e δ t2 δ1 := q ▸ h
end
structure Hl (Z H Z' H' : Hp) : Prop where
 z : aD Z Z'
 h : aD H H'
 zh : aD Z' H'
 new : ∀ a o, Z' a = some o -> Z a = none -> H a = none
 tp : ∀ a o, H' a = some o -> jK o = true -> Z' a = some o
theorem Hl.refl {Z H : Hp} (zh : aD Z H) (tp : ∀ a o, H a = some o -> jK o = true -> Z a = some o) : Hl Z H Z H := ⟨.refl _, .refl _, zh, fun a o q z => (by rw [q] at z; cases z), tp⟩
section
variable {K : PySem.W.Frag} {CL : Str -> Addr} {b : Bx} {H H' Z Z' : Hp} {δ : List (Option T)} {σ : L2.St} {ts : List T} {vs : List V}
noncomputable def Nx (δ : List (Option T)) : List Nat -> List D -> List (Option T)
 | i :: is, d :: ds => Nx (δ.set i (some (.sh d))) is ds
 | _, _ => δ
noncomputable def wA (σ : L2.St) : List Nat -> List V -> L2.St
 | i :: is, v :: vs => wA (σ.set i (some v)) is vs
 | _, _ => σ
end
section
variable {X : Cx} {CL : Str -> Addr} {b : Bx} {δ δ1 : List (Option T)} {ds : List D} {iter tg : Expr} {pos : Pos}
structure um (X : Cx) (CL : Str -> Addr) (b : Bx) (δ1 : List (Option T)) (σ : L2.St) (ts : List T) (vs : List V) (Z H : Hp) (ds : List D) (J : It) (H1 : Hp) : Prop where
 ex : ∃ Z1, aD Z Z1 /\ aD H H1 /\ bM X.K CL b H1 Z1 δ1 σ ts vs /\ (∀ i H2, aD Z1 H2 -> i < ds.length -> J.go i H2) ∧
   (∀ i Z2 H2 x H', aD Z1 Z2 -> aD Z2 H2 -> (∀ a o, H2 a = some o -> jK o = true -> Z2 a = some o) -> i < ds.length -> J.IE i H2 x H' -> ∃ Z3 d, ds[i]? = some d /\ Hl Z2 H2 Z3 H' /\ bz X.K CL Z3 d x) /\ (∀ H2, aD Z1 H2 -> J.stop ds.length H2)
noncomputable def OV (X : Cx) (CL : Str -> Addr) (b : Bx) (tg e : Expr) (δ : List (Option T)) (ds : List D) (δ1 : List (Option T)) : Prop :=
 ∃ wi, PI X tg e wi /\ ∀ (H Z : Hp) (σ : L2.St) (ts : List T) (vs : List V) (R : It -> Hp -> Prop), bM X.K CL b H Z δ σ ts vs -> (∀ J H1, um X CL b δ1 σ ts vs Z H ds J H1 -> R J H1) -> wi σ H R
theorem IW (h : G9 X CL b tg iter δ ds δ1) : OV X CL b tg iter δ ds δ1 := by
 obtain ⟨wi, pi, hw⟩ := h
 refine ⟨wi, pi, fun H Z σ ts vs R S k => hw H Z σ ts vs R S fun J H1 zz => ?_⟩
 obtain ⟨Z1, us, z1, k1, S1, rr, go, yl, st⟩ := zz
 refine k J H1 ⟨Z1, z1, k1, S1, go, fun i Z2 H2 x H' s1 s2 tp hi hy => ?_, st⟩
 obtain ⟨e, hu⟩ := yl i H2 x H' (s1.trans s2) hi hy
 subst e
 obtain ⟨d, hd, rd⟩ := rr.Kc hu
 exact ⟨Z2, d, hd, .refl s2 tp, rd.mono s1⟩
noncomputable def Ry (X : Cx) (CL : Str -> Addr) (tg : Expr) (is : List Nat) (parts : D -> Option (List D)) : Prop :=
 ∃ t : TG, PG X tg t /\ ∀ (Z H : Hp) (d : D) (ps : List D) (x : V) (σ : L2.St) (Q : L2.St -> Hp -> Prop), aD Z H -> bz X.K CL Z d x -> parts d = some ps -> (∀ ys, aE X.K CL Z ps ys -> Q (wA σ is ys) H) -> t x σ H Q
noncomputable def part1 (d : D) : Option (List D) := some [d]
theorem D7 {i : Nat} {x : Str} {px : Pos} (hN : X.N.Nodup) (n : Ln X i x) : Ry X CL (.Name x px) [i] part1 :=
 ⟨Af i, tR hN n.hi n.loc n.hf, fun Z H d ps x σ Q zh r e k => by
   cases e
   exact k [x] (.cons r .nil)⟩
end
structure jP (X : Cx) (scope : Scope) (xs : List Str) (Nc : List Str) (ix : List Nat) : Prop where
 kind : scope.kind = .function
 ua : ∀ y ∈ scope.names, y.2 ≠ .cell
 nd : Nc.Nodup
 names : ∀ y ∈ scope.names, y.2 = .local -> scope.names.lookup y.1 = some .local
 own : ∀ x ∈ xs, scope.names.lookup x = some .local
 frees : ∀ y ∈ scope.names, y.2 = .free -> scope.names.lookup y.1 = some .free /\ (X.env.kindOf y.1 = some .cell \/ X.env.kindOf y.1 = some .free)
 hd : Nc = xs ++ ix.filterMap (X.N[·]?)
 Nj : ∀ i ∈ ix, ∃ y, X.N[i]? = some y /\ scope.names.lookup y = some .free
noncomputable def BG (σ : L2.St) (ix : List Nat) (os : List (Option V)) : L2.St := os ++ ix.map fun i => (σ[i]?).getD none
section
variable {X : Cx} {scope : Scope} {xs : List Str} {Nc : List Str} {ix : List Nat} {pins : List (Addr × Obj)} {σ : L2.St} {H : Hp} {s : Shared}
theorem wB {fp : List Addr} (sc : jP X scope xs Nc ix) (I : Inv X pins σ H s) (qu : ∀ b ∈ fp, qc X pins H b /\ b < s.heap.objs.size) {h' : Heap} {m : Str -> Option Value} {tk : Nat}
   (hn : h'.Ns s.heap.objs.size m) (hk : ∀ b o, s.heap.get? b = some o -> h'.get? b = some o) :
   Inv (b9 X scope Nc s.heap.objs.size s H fp) [] (BG σ ix (List.replicate xs.length none)) H { s with heap := h', toks := tk } := by
 have frees : ∀ y ∈ scope.names, y.2 = .free -> ∃ c, X.env.cells.lookup y.1 = some c := fun y hy e => I.ok.has y.1 (sc.frees y hy e).2
 have sub : ∀ {y : Str} {c : Addr}, (eu X.env scope.names []).lookup y = some c -> X.env.cells.lookup y = some c := fun {y c} e => lH frees (fun _ _ z => by cases z) e
 have hlen : (BG σ ix (List.replicate xs.length none)).length = Nc.length := by
   have all : ∀ l : List Nat, (∀ i ∈ l, ∃ y, X.N[i]? = some y /\ scope.names.lookup y = some .free) -> (l.filterMap (X.N[·]?)).length = l.length := by
     intro l
     induction l with
     | nil => intro _; rfl
     | cons i r ih =>
       intro h
       obtain ⟨y, e, _⟩ := h i UD
       rw [VF, e]
       show _ + 1 = _ + 1
       rw [ih fun j hj => h j (UC _ hj)]
   unfold BG
   rw [sc.hd, UM, UM, Uz, VB, all ix sc.Nj]
 have C0 : s.heap.get? s.heap.objs.size = none := Heap.get?_none_of_le (UJ _)
 refine ⟨⟨I.ok.mod, sc.kind, I.ok.glob, I.ok.blt, UJ _, fun y z c h1 h2 => I.ok.inj y z c (sub h1) (sub h2), fun y hy => ?_, fun y c hf _ => (by cases (show false = true from hf)), I.ok.hd, I.ok.frames, .inl rfl, fun b hb => ⟨Vq (qu b hb).2, fun y c e => (qu b hb).1.2.2.2.2.1 y c (sub e)⟩, I.bs, U3 I.ok.Gr I.sz, fun b o e hb => ?_, fun b hb hf => ?_, I.stack, I.Ab⟩,
   rfl, I.bare, Un.kept hk, ⟨m, hn, fun i y v h1 h2 h3 => ?_⟩, fun y c e => ?_, I.dB.fresh (UJ _), fun y c e => I.kZ y c (sub e), fun p hp => absurd (show p ∈ ([] : List (Addr × Obj)) from hp) (by simp), I.dB.kept hk, hlen⟩
 . 
   have Rz : (relabel scope X.env).names.lookup y = some .cell \/ (relabel scope X.env).names.lookup y = some .free := hy
   cases e : scope.names.lookup y with
   | none => 
     have := fM (env := X.env) e
     rcases Rz with q | q <;> (rw [show (relabel scope X.env).names.lookup y = none from this] at q; cases q)
   | some k =>
     have q := c6 (env := X.env) e
     have hk : k = .free := by
       by_cases hk : k = .free
       . exact hk
       . have hb : (k == NameKind.free) = false := by simpa using hk
         rw [UE (by rw [hb]; simp)] at q
         have nc : k ≠ .cell := fun z => by
           subst z
           exact sc.ua _ (Vz e) rfl
         rcases Rz with z | z
         . rw [show (relabel scope X.env).names.lookup y = some k from q] at z
           exact absurd (U4 z) nc
         . rw [show (relabel scope X.env).names.lookup y = some k from q] at z
           exact absurd (U4 z) hk
     subst hk
     exact lI e
 . 
   rcases (qu b hb).1.2.2.2.1 with z | z
   . exact I.ok.Dk b o e z
   . exact absurd (U1 (UZ e) (U3 I.ok.Gr z)) (V2 _)
 . rcases UA.mp (I.tQ b hf) with z | z
   . exact (qu b hb).1.2.1 z
   . exact (qu b hb).1.2.2.1 z
 . 
   unfold BG at h2
   by_cases hi : i < xs.length
   . rw [V5 (by rw [VB]; exact hi), List.getElem?_replicate, UR hi] at h2
     cases h2
   . obtain ⟨n, rfl⟩ : ∃ n, i = xs.length + n := ⟨i - xs.length, by omega⟩
     rw [VJ (by rw [VB]; omega), VB, Nat.add_sub_cancel_left, Vu] at h2
     cases ei : ix[n]? with
     | none => rw [ei] at h2; cases h2
     | some j =>
       rw [ei] at h2
       have OX : (σ[j]?).getD none = some v := U4 h2
       have hj : σ[j]? = some (some v) := by
         cases q : σ[j]? with
         | none => rw [q] at OX; cases OX
         | some o => rw [q] at OX; exact congrArg some OX
       obtain ⟨y', RA, Qu⟩ := sc.Nj j (Vk ei)
       have S8 : Nc[xs.length + n]? = some y' := by
         have all : ∀ (l : List Nat) (i : Nat), (∀ j ∈ l, ∃ y, X.N[j]? = some y /\ scope.names.lookup y = some .free) -> l[i]? = some j -> (l.filterMap (X.N[·]?))[i]? = some y' := by
           intro l
           induction l with
           | nil => intro i _ h; simp at h
           | cons a r ih =>
             intro i h hi
             obtain ⟨ya, ea, _⟩ := h a UD
             rw [VF, ea]
             cases i with
             | zero =>
               simp at hi
               subst hi
               rw [RA] at ea
               cases ea
               rfl
             | succ i => exact ih i (fun j hj => h j (List.mem_cons_of_mem _ hj)) (by simpa using hi)
         rw [sc.hd, VJ (by omega), Nat.add_sub_cancel_left]
         exact all ix n sc.Nj ei
       have ey : y' = y := by
         have RB : Nc[xs.length + n]? = some y := h1
         rw [S8] at RB
         exact U4 RB
       subst ey
       have Ao := (sc.frees (y', .free) (Vz Qu) rfl).2
       have Qv : LV X.env.scope y' := Ao.elim (fun z => .inr (.inl z)) (fun z => .inr (.inr z))
       obtain ⟨m0, Up, S9⟩ := I.loc
       obtain ⟨u, ru, lk⟩ := S9 j y' v RA hj Qv
       refine ⟨u, ru, ?_⟩
       rcases lk with ⟨kk, _⟩ | ⟨_, c, hc, sO⟩
       . rcases Ao with z | z
         . rw [kk] at z; cases z
         . rw [kk] at z; cases z
       . obtain ⟨c', Mm⟩ := lI (env := X.env) (cs := []) Qu
         have : c' = c := by
           have := sub Mm
           rw [hc] at this
           exact (U4 this).symm
         subst this
         obtain ⟨o, ho, hd⟩ := sO
         refine .inr ⟨?_, c', Mm, o, hk _ _ ho, hd⟩
         have q := c6 (env := X.env) Qu
         show (relabel scope X.env).names.lookup y' = some .cell \/ (relabel scope X.env).names.lookup y' = some .free
         rw [show (relabel scope X.env).names.lookup y' = _ from q]
         split
         . exact .inl rfl
         . exact .inr rfl
 . obtain ⟨v, o, ho, hd⟩ := I.cell y c (sub e)
   exact ⟨v, o, hk _ _ ho, hd⟩
noncomputable def D8 (X : Cx) (tg elt : Expr) (ifs : List Expr) (n : Nat) (σ : L2.St) (ix : List Nat) (D : Addr) (N : Hp -> Prop) (xv : V) (os : List (Option V)) (H3 : Hp) : Prop :=
 ∃ t : TG, PG X tg t /\ t xv (BG σ ix os) H3 fun σ8 H4 => ∃ LZ, LZ.length = n /\ σ8 = BG σ ix LZ /\ Ky X ifs σ8 H4 fun ok H5 =>
   if ok = true then DK X elt σ8 H5 fun y H6 => ∃ acc, H6 D = some (.lst acc) /\ acc.length < sizeLine /\ N (upd H6 D (.lst (acc ++ [y]))) else N H5
theorem yx {elt iter tg : Expr} {pos : Pos} {ifs : List Expr} {J : It} {fp : List Addr} {it : Addr} {tn : Nat -> Heap -> Prop} {G : Addr -> Hp -> Prop} {RR : Value -> Addr -> Result -> Shared -> Prop} {E : Value -> Shared -> Prop}
   (sc : jP X scope xs Nc ix) (hc : X.calm = true) (I : Inv X pins σ H s) (Tn : Turn X.prog X.w X.K tg J fp it tn) (st : tn 0 s.heap) (hf : ∀ b ∈ fp, qc X pins H b)
   (loop : ∀ D, H D = none -> ∃ W : Nat -> Nat -> Hp -> Prop, (∃ m, W 0 m (upd H D (.lst []))) /\ ∀ i m H2, W i m H2 -> (J.stop i H2 /\ G D H2) ∨
     (J.go i H2 /\ ∃ N : Hp -> Prop, (∀ H', N H' -> ∃ m', m' < m /\ W (i + 1) m' H') /\ ∀ xv H3, J.IE i H2 xv H3 -> ∀ C s0 H0 f0 os, os.length = xs.length -> D8 (b9 X scope Nc C s0 H0 f0) tg elt ifs xs.length σ ix D N xv os H3))
   (Qw : ∀ D C s' H', (∃ m, s'.heap.Ns C m) -> (∃ o, s'.heap.get? C = some o /\ ∀ v, o.data ≠ .cell v) -> H' C = none -> (C ≠ X.env.locals /\ C ∉ X.fs /\ X.s₀.heap.objs.size <= C /\ (∀ y c, X.env.cells.lookup y = some c -> c ≠ C) /\ ∀ q ∈ X.pn ++ pins, q.1 ≠ C) -> (∀ h', Heap.SameBut C s'.heap h' -> Inv X pins σ H' { s' with heap := h' }) -> G D H' -> RR (.ref D) C (.ok .next) s') :
   wpAny (model X.prog X.w) X.A (newList []) (fun acc s₃ => wpAny (model X.prog X.w) X.A (newFunctionEnv scope X.env.globals (eu X.env scope.names []) [] X.env.qual none .none (some X.env)) (fun D9 s₄ =>
     codeAny (model X.prog X.w) X.A (.compStart (.ListComp elt [⟨tg, iter, ifs, 0⟩] scope pos) 0 (.ref it) acc { D9 with scope := relabel scope X.env }) (RR acc D9.locals) s₄) E s₃) E s := by
 refine VZ ?_
 have I3 : Inv X pins σ (upd H s.heap.objs.size (.lst [])) { s with heap := s.heap.push { cls := .type "list", dict := none, data := .seq ([] : List Value).toArray } } :=
   I.laid (t' := s.toks) (fun b u e => UU _ e) (UJ _) ⟨by show 0 <= sizeLine; exact U9 _, [], 0, .nil, Vm _ rfl⟩
 have hD : H s.heap.objs.size = none := I.dB.fresh (UJ _)
 obtain ⟨W, ⟨m0, w0⟩, turn⟩ := loop _ hD
 have Ea : ∀ b ∈ fp, qc X pins (upd H s.heap.objs.size (.lst [])) b /\ b < (s.heap.push { cls := .type "list", dict := none, data := .seq ([] : List Value).toArray }).objs.size := fun b hb => by
   obtain ⟨f0, f1⟩ := hf b hb
   obtain ⟨o, ho, _⟩ := Tn.obj 0 _ st b hb
   have De := UZ ho
   refine ⟨⟨by rw [aF (Vq De)]; exact f0, f1⟩, ?_⟩
   rw [Heap.size_push]; exact Nat.lt_succ_of_lt De
 have MA : tn 0 (s.heap.push { cls := .type "list", dict := none, data := .seq ([] : List Value).toArray }) := Tn.keep 0 _ _ st fun b _ o e => UU _ e
 generalize Tc : ({ s with heap := s.heap.push { cls := .type "list", dict := none, data := .seq ([] : List Value).toArray } } : Shared) = s3 at I3 ⊢
 have KW : s3.heap = s.heap.push { cls := .type "list", dict := none, data := .seq ([] : List Value).toArray } := by rw [← Tc]
 rw [← KW] at Ea MA
 refine wpAny_newFunctionEnv sc.ua (by intro y hy; simp at hy) (fun h₁ KY KZ => ?_) sc.kind
 have old : ∀ b o, s3.heap.get? b = some o -> h₁.get? b = some o := fun b o e => (KZ.2 b (Vq (UZ e))).trans (UU _ e)
 have J0 := wB (tk := s3.toks + ([] : List (Str × Value)).length) sc I3 Ea KY old
 have RC : tn 0 h₁ := Tn.keep 0 _ _ MA fun b _ o e => old b o e
 have IX : ∀ s4 : Shared, s4 = { s3 with heap := h₁, toks := s3.toks + ([] : List (Str × Value)).length } -> codeAny (model X.prog X.w) X.A (.compLoop (.ListComp elt [⟨tg, iter, ifs, 0⟩] scope pos) 0 (.ref it) (.ref s.heap.objs.size) (compEnvC scope (eu X.env scope.names []) s3.heap.objs.size X.env)) (RR (.ref s.heap.objs.size) s3.heap.objs.size) s4 := by
   rintro s4 rfl
   have stat : ∀ {H' : Hp}, (∀ b ∈ fp, H' b = none) -> ∀ b ∈ fp, qc (b9 X scope Nc s3.heap.objs.size s3 (upd H s.heap.objs.size (.lst [])) fp) [] H' b := fun {H'} hn b hb => by
     obtain ⟨⟨f0, f1, f2, f3, f4, f5⟩, De⟩ := Ea b hb
     refine ⟨hn b hb, Vq De, fun z => ?_, .inl hb, fun y c e => f4 y c (lH (fun y hy e => I.ok.has y.1 (sc.frees y hy e).2) (fun _ _ z => by cases z) e), fun p hp => absurd (show p ∈ ([] : List (Addr × Obj)) from hp) (by simp)⟩
     rcases UA.mp (I3.tQ b z) with q | q
     . exact f1 q
     . exact f2 q
   refine t9 (fun n s' => ∃ i o H', o.length = xs.length /\ Inv (b9 X scope Nc s3.heap.objs.size s3 (upd H s.heap.objs.size (.lst [])) fp) [] (BG σ ix o) H' s' /\ tn i s'.heap /\ (∀ b ∈ fp, H' b = none) /\ W i n H') ?_ m0 ⟨0, _, _, VB, J0, RC, fun b hb => (Ea b hb).1.1, w0⟩
   rintro n s5 ⟨i, o5, H5, Td, I5, LX, OG, w5⟩
   rcases turn i n H5 w5 with ⟨stop, g⟩ | ⟨go, N, hN, step⟩
   . refine dQ (Tn.done (b9 X scope Nc s3.heap.objs.size s3 (upd H s.heap.objs.size (.lst [])) fp) rfl rfl rfl hc i [] s5 _ H5 _ I5 (stat OG) LX stop) fun r s6 zz => ?_
     obtain ⟨hr, I6⟩ := zz
     subst hr
     obtain ⟨m6, RD, _⟩ := I6.loc
     obtain ⟨oc, Uq, Ur, Ox, Te, _⟩ := id RD
     have OY := I3.Dp (UJ s3.heap.objs.size) (H' := fun _ => none) rfl
     refine Qw _ _ s6 H5 ⟨m6, RD⟩ ⟨oc, Ox, fun v z => by rw [Te] at z; cases z⟩ I6.free ⟨OY.2.1, OY.2.2.1, ?_, OY.2.2.2.2.1, OY.2.2.2.2.2⟩ (fun h' Ny => By I3 (fun b hb => (Ea b hb).1) I6 Ny) g
     exact I3.sz
   . refine dQ (Tn.item (b9 X scope Nc s3.heap.objs.size s3 (upd H s.heap.objs.size (.lst [])) fp) rfl rfl rfl hc i [] s5 _ H5 _ I5 (stat OG) LX go) fun r s6 zz => ?_
     obtain ⟨u, hr, h6⟩ := zz
     subst hr
     refine dQ h6 fun _ s7 zz => ?_
     obtain ⟨xv, H7, I7, r7, y7, Qx, Tf⟩ := zz
     have Tg := I7.pinned (stat Tf) (Tn.obj _ _ Qx)
     obtain ⟨t, hg, ht⟩ := step xv _ y7 s3.heap.objs.size s3 (upd H s.heap.objs.size (.lst [])) fp o5 Td
     refine dQ (hg _ s7 _ H7 xv u _ Tg r7 ht) fun _ s8 zz => ?_
     obtain ⟨σ8, H8, I8, RG, Ti, e8, h8⟩ := zz
     subst e8
     refine dQ (DV I8 h8 rfl) fun ok s9 zz => ?_
     obtain ⟨H9, I9, q9⟩ := zz
     have again : ∀ {Ha : Hp} {sa : Shared}, Inv (b9 X scope Nc s3.heap.objs.size s3 (upd H s.heap.objs.size (.lst [])) fp) ([] ++ qL fp s7.heap) (BG σ ix RG) Ha sa -> N Ha -> ∃ m, m < n /\ ∃ i o H', o.length = xs.length /\ Inv (b9 X scope Nc s3.heap.objs.size s3 (upd H s.heap.objs.size (.lst [])) fp) [] (BG σ ix o) H' sa /\ tn i sa.heap /\ (∀ b ∈ fp, H' b = none) /\ W i m H' := fun {Ha sa} Ia na => by
       obtain ⟨m', hm, wa⟩ := hN Ha na
       refine ⟨m', hm, i + 1, RG, Ha, Ti, Ia.mD, Tn.keep _ _ _ Qx fun b hb o e => (Ia.pin (b, o) (UB _ (UB _ (iU hb e)))).1, fun b hb => ?_, wa⟩
       obtain ⟨o, e, d⟩ := Tn.obj _ _ Qx b hb
       exact (Ia.pin (b, o) (UB _ (UB _ (iU hb e)))).2.1
     cases ok with
     | false =>
       rw [UE UL] at q9 ⊢
       exact again I9 q9
     | true =>
       rw [UR rfl] at q9 ⊢
       refine dQ (q9 _ s9 I9) fun v sa zz => ?_
       obtain ⟨y, Ha, Ia, ra, acc, Qy, hlen, na⟩ := zz
       refine dQ (sV (X := b9 X scope Nc s3.heap.objs.size s3 (upd H s.heap.objs.size (.lst [])) fp) _ sa _ Ha (.ref s.heap.objs.size) [y] (.ref s.heap.objs.size) [v] (fun _ Hb => Hb = upd Ha s.heap.objs.size (.lst (acc ++ [y]))) Ia rfl (.cons ra .nil) ⟨_, acc, y, rfl, rfl, Qy, hlen, rfl⟩) fun _ sb zz => ?_
       obtain ⟨_, Hb, Ib, _, eb⟩ := zz
       subst eb
       exact again Ib na
 exact codeAny_compStart_list (IX _ rfl) (Tn.self _ 0 _ _ _ RC (IX _ rfl))
end
noncomputable def BH (ps : List D) : List (Option T) := ps.map fun p => some (.sh p)
theorem sY : ∀ {ys : List V} {os : List (Option V)} {pre r : L2.St}, os.length = ys.length -> wA (pre ++ (os ++ r)) (List.range' pre.length ys.length) ys = pre ++ (ys.map some ++ r)
 | [], os, pre, r, h => by
   have : os = [] := List.length_eq_zero_iff.mp h
   subst this
   rfl
 | y :: ys, os, pre, r, h => by
   match os, h with
   | o :: os, h =>
     show wA ((pre ++ (o :: (os ++ r))).set pre.length (some y)) (List.range' (pre.length + 1) ys.length) ys = _
     rw [List.set_append_right _ _ (UJ _), Nat.sub_self, List.set_cons_zero]
     have := sY (ys := ys) (os := os) (pre := pre ++ [some y]) (r := r) (by simpa using h)
     simp only [UM, Vi, List.length_nil, UH, List.singleton_append] at this
     rw [this]
     simp
theorem Ho {K : PySem.W.Frag} {CL : Str -> Addr} {H Z : Hp} : ∀ {ps : List D} {ys : List V} {δc : List (Option T)} {σc : L2.St}, aE K CL Z ps ys -> dI K CL H Z δc σc [] -> dI K CL H Z (BH ps ++ δc) (ys.map some ++ σc) [] := fun {ps ys δc σc} h e =>
 aE.ind (P := fun ps ys => dI K CL H Z (BH ps ++ δc) (ys.map some ++ σc) []) e (fun r _ i => .cons (fp := []) (gp := []) (.sh r) i) h
section
variable {X : Cx} {CL : Str -> Addr} {b : Bx} {H Z W1 : Hp} {δ δc : List (Option T)} {σ : L2.St} {ts : List T} {vs : List V} {ds : List D} {scope : Scope} {Nc : List Str} {n : Nat} {ix : List Nat} {elt tg : Expr} {ifs : List Expr} {p : D -> Bool} {g : D -> T} {J : It} {parts : D -> Option (List D)}
noncomputable def n5 (X : Cx) (CL : Str -> Addr) (scope : Scope) (Nc : List Str) (n : Nat) (tg : Expr) (parts : D -> Option (List D)) (ifs : List Expr) (elt : Expr) (δc : List (Option T)) (ds : List D) (p : D -> Bool) (g : D -> T) : Prop :=
 ∀ C s0 H0 f0 b', Ry (b9 X scope Nc C s0 H0 f0) CL tg (List.range' 0 n) parts /\ ∀ d, d ∈ ds -> ∃ ps, parts d = some ps /\ ps.length = n /\ OU (b9 X scope Nc C s0 H0 f0) CL b' ifs (BH ps ++ δc) (p d) /\ (p d = true -> bJ (b9 X scope Nc C s0 H0 f0) CL b' elt (BH ps ++ δc) (g d) (BH ps ++ δc))
structure GW (K : PySem.W.Frag) (CL : Str -> Addr) (H W1 : Hp) (D : Addr) (l : List T) (k : Nat) (H2 Z2 : Hp) (xV : List V) (fp : List Addr) : Prop where
 a1 : aD H H2
 a2 : aD W1 Z2
 a3 : aD Z2 H2
 a4 : Z2 D = none
 a5 : ∀ a o, Z2 a = some o -> W1 a = none -> H a = none
 a6 : ∀ a o, H2 a = some o -> jK o = true -> Z2 a = some o
 a7 : H2 D = some (.lst xV)
 a8 : aM K CL H2 Z2 l xV fp
 a9 : fp.Nodup
 b1 : D ∉ fp
 b2 : ∀ a ∈ fp, Z2 a = none /\ H a = none
 b3 : xV.length <= k
theorem qV (S : bM X.K CL b H Z δ σ ts vs) (zw : aD Z W1) (wh : aD W1 H) (tp : ∀ a o, H a = some o -> jK o = true -> W1 a = some o)
   (cap : ∀ H', dI X.K CL H' W1 δc (ix.map fun i => (σ[i]?).getD none) []) (inner : n5 X CL scope Nc n tg parts ifs elt δc ds p g)
   (Tj : ∀ i H2, aD W1 H2 -> i < ds.length -> J.go i H2)
   (hy : ∀ i Z2 H2 x H', aD W1 Z2 -> aD Z2 H2 -> (∀ a o, H2 a = some o -> jK o = true -> Z2 a = some o) -> i < ds.length -> J.IE i H2 x H' -> ∃ Z3 d, ds[i]? = some d /\ Hl Z2 H2 Z3 H' /\ bz X.K CL Z3 d x)
   (Nm : ∀ H2, aD W1 H2 -> J.stop ds.length H2) (hlen : ds.length <= sizeLine) (c : W1 = Z \/ ∀ d ∈ ds, (g d).clean = true) :
   ∀ D, H D = none -> ∃ W : Nat -> Nat -> Hp -> Prop, (∃ m, W 0 m (upd H D (.lst []))) /\ ∀ i m H2, W i m H2 -> (J.stop i H2 /\ ∃ Z2, aD Z Z2 /\ aD H H2 /\ bM X.K CL b H2 Z2 δ σ (.lst ((ds.filter p).map g) :: ts) (.ref D :: vs)) ∨
     (J.go i H2 /\ ∃ N : Hp -> Prop, (∀ H', N H' -> ∃ m', m' < m /\ W (i + 1) m' H') /\ ∀ xv H3, J.IE i H2 xv H3 -> ∀ C s0 H0 f0 os, os.length = n -> D8 (b9 X scope Nc C s0 H0 f0) tg elt ifs n σ ix D N xv os H3) := by
 intro D hD
 have wD : W1 D = none := wh.free hD
 refine ⟨fun i m H2 => m = ds.length - i /\ i <= ds.length /\ ∃ Z2 xV fp, GW X.K CL H W1 D (((ds.take i).filter p).map g) i H2 Z2 xV fp, ⟨ds.length, rfl, U9 _, W1, [], [], aD.upd hD, .refl _, wh.trans (aD.upd hD), wD, fun a o q z => ?_, fun a o q i => ?_, bB, .nil, List.nodup_nil, by simp, by simp, by simp⟩, ?_⟩
 . rw [q] at z; cases z
 . by_cases ha : a = D
   . subst ha; rw [bB] at q; cases q; cases i
   . rw [aF ha] at q; exact tp a o q i
 . rintro i m H2 ⟨rfl, hi, Z2, xV, fp, hh, wz, zh, zD, nw, Qz, OZ, ra, nd, nD, own, Us⟩
   by_cases De : i < ds.length
   . refine .inr ⟨Tj i H2 (wz.trans zh) De, fun H' => ∃ Z2 xV fp, GW X.K CL H W1 D (((ds.take (i + 1)).filter p).map g) (i + 1) H' Z2 xV fp, fun H' h => ⟨ds.length - (i + 1), by omega, rfl, De, h⟩, fun xv H3 y C s0 H0 f0 os J2 => ?_⟩
     obtain ⟨Z3, d, hd, gr, rd⟩ := hy i Z2 H2 xv H3 wz zh Qz De y
     have K0 : ∀ a, Z2 a = none -> (∃ o, H2 a = some o) -> Z3 a = none := fun a e ⟨o, e2⟩ => by
       cases q : Z3 a with
       | none => rfl
       | some u => rw [gr.new a u q e] at e2; cases e2
     have RH : ∀ a o, Z3 a = some o -> W1 a = none -> H a = none := fun a o q z => by
       cases e : Z2 a with
       | none => exact hh.free (gr.new a o q e)
       | some u =>
         have := gr.z a u e
         rw [q] at this; cases this
         exact nw a o e z
     have K1 : aM X.K CL H3 Z3 (((ds.take i).filter p).map g) xV fp := ra.mono gr.z fun a ha => by
       obtain ⟨o, e⟩ := ra.there a ha
       rw [e]; exact gr.h a o e
     have O1 : ∀ a ∈ fp, Z3 a = none /\ H a = none := fun a ha => ⟨K0 a (own a ha).1 (ra.there a ha), (own a ha).2⟩
     have QB : Z3 D = none := K0 D zD ⟨_, OZ⟩
     have IY : H3 D = some (.lst xV) := gr.h D _ OZ
     have KW := hh.trans gr.h
     have O2 := wz.trans gr.z
     have RJ := gr.zh
     have Tp := gr.tp
     clear own nw ra zD OZ hh wz zh Qz gr K0
     have QC : d ∈ ds := Vk hd
     have RK : ds.take (i + 1) = ds.take i ++ [d] := by rw [List.take_add_one, hd]; rfl
     obtain ⟨tgt, Tq⟩ := inner C s0 H0 f0 ⟨H3, Z3⟩
     obtain ⟨ps, Tr, hpl, it, ie⟩ := Tq d QC
     obtain ⟨t, pg, ht⟩ := tgt
     refine ⟨t, pg, ht Z3 H3 d ps xv _ _ RJ rd Tr fun ys RL => ?_⟩
     have QD : ys.length = n := by rw [← RL.length]; exact hpl
     have es : wA (BG σ ix os) (List.range' 0 n) ys = BG σ ix (ys.map some) := by
       have := sY (ys := ys) (os := os) (pre := []) (r := ix.map fun i => (σ[i]?).getD none) (by rw [J2, QD])
       rw [QD] at this
       exact this
     refine ⟨ys.map some, by rw [Uz]; exact QD, es, ?_⟩
     rw [es]
     have S0 : bM X.K CL ⟨H3, Z3⟩ H3 Z3 (BH ps ++ δc) (BG σ ix (ys.map some)) [] [] :=
       ⟨⟨[], [], Ho RL ((cap H3).mono O2 fun a ha => by cases ha), .nil, List.nodup_nil, fun a ha => by cases ha⟩, .refl _, .refl _, RJ, fun a o q z => (by have z' : Z3 a = none := z; rw [show Z3 a = some o from q] at z'; cases z'), Tp, (S.Kh.mono zw).mono O2⟩
     refine it.SG S0 fun H4 Z4 z4 k4 S4 => ?_
     have QF : ∀ a ∈ fp, H4 a = H3 a := fun a ha => by
       obtain ⟨o, e⟩ := K1.there a ha
       rw [e]; exact k4 a o e
     have Eb : ∀ a, Z3 a = none -> (∃ o, H3 a = some o) -> Z4 a = none := fun a e ⟨o, e2⟩ => by
       cases q : Z4 a with
       | none => rfl
       | some u =>
         have := S4.new a u q e
         rw [show H3 a = none from this] at e2; cases e2
     cases hp : p d with
     | false =>
       refine DI ⟨Z4, xV, fp, KW.trans k4, O2.trans z4, S4.zh, Eb D QB ⟨_, IY⟩, fun a o q z => ?_, S4.tp, k4 D _ IY, ?_, nd, nD, fun a ha => ⟨Eb a (O1 a ha).1 (K1.there a ha), (O1 a ha).2⟩, by omega⟩
       . cases e : Z3 a with
         | none => exact KW.free (S4.new a o q e)
         | some u => 
           have := z4 a u e
           rw [q] at this; cases this
           exact RH a o e z
       . rw [RK, List.filter_append, List.filter_cons_of_neg (by simp [hp]), List.filter_nil, Vr]
         exact K1.mono z4 QF
     | true =>
       refine DJ ((ie hp) H4 Z4 (BG σ ix (ys.map some)) [] [] _ S4 fun yv H5 Z5 z5 k5 S5 => ⟨xV, k5 D _ (k4 D _ IY), by omega, ?_⟩)
       obtain ⟨f1, g1, e1, r1, M9, Nz⟩ := S5.rep
       cases r1 with
       | @cons _ _ _ _ fy fn ry rn =>
         cases rn
         rw [Vr] at M9 Nz
         have Tt : fy.Nodup := (Vo.mp M9).2.1
         have Hq : ∀ a ∈ fy, Z5 a = none /\ H3 a = none := fun a ha => Nz a (UB _ ha)
         have yy : ∀ a, Z3 a = none -> (∃ o, H3 a = some o) -> Z5 a = none := fun a e ⟨o, e2⟩ => by
           cases q : Z5 a with
           | none => rfl
           | some u =>
             have := S5.new a u q e
             rw [show H3 a = none from this] at e2; cases e2
         have yD : ∀ a ∈ fy, a ≠ D := fun a ha e => by
           subst e
           rw [(Hq a ha).2] at IY; cases IY
         have Ut : H5 D = some (.lst xV) := k5 D _ (k4 D _ IY)
         have sD : aD H (upd H5 D (.lst (xV ++ [yv]))) := fun a o q => by
           rw [aF (aX q hD)]
           exact k5 a o (k4 a o (KW a o q))
         refine ⟨Z5, xV ++ [yv], fp ++ fy, sD, O2.trans (z4.trans z5), fun a o q => ?_, yy D QB ⟨_, IY⟩, fun a o q z => ?_, fun a o q im => ?_, bB, ?_, ?_, ?_, fun a ha => ?_, ?_⟩
         . rw [aF (aX q (yy D QB ⟨_, IY⟩))]; exact S5.zh a o q
         . cases e : Z3 a with
           | none => exact KW.free (S5.new a o q e)
           | some u =>
             have := z5 a u (z4 a u e)
             rw [q] at this; cases this
             exact RH a o e z
         . by_cases ha : a = D
           . subst ha; rw [bB] at q; cases q; cases im
           . rw [aF ha] at q; exact S5.tp a o q im
         . rw [RK, List.filter_append, List.filter_cons_of_pos hp, List.filter_nil, Vh]
           refine aM.app (K1.mono (z4.trans z5) fun a ha => ?_) (by
             have := aM.cons (fp := fy) (gp := []) (ry.mono (.refl _) fun a ha => aF (yD a ha)) (aM.nil (H := upd H5 D (.lst (xV ++ [yv]))) (Z := Z5))
             rwa [Vr] at this)
           have : a ≠ D := fun e => nD (e ▸ ha)
           rw [aF this]
           obtain ⟨o, e⟩ := K1.there a ha
           rw [e]; exact k5 a o (k4 a o e)
         . refine Vo.mpr ⟨nd, Tt, fun a ha a' DM e => ?_⟩
           subst e
           obtain ⟨o, e⟩ := K1.there a ha
           rw [(Hq a DM).2] at e; cases e
         . intro h
           rcases UY.mp h with h | h
           . exact nD h
           . exact yD D h rfl
         . rcases UY.mp ha with h | h
           . exact ⟨yy a (O1 a h).1 (K1.there a h), (O1 a h).2⟩
           . exact ⟨(Hq a h).1, KW.free (Hq a h).2⟩
         . rw [UM, U0]; omega
   . have e : i = ds.length := by omega
     subst e
     refine .inl ⟨Nm H2 (wz.trans zh), ?_⟩
     rw [List.take_length] at ra
     obtain ⟨Z', z', S'⟩ := S.back (H' := H2) (W := W1) (W' := Z2) (t := .lst ((ds.filter p).map g)) (v := .ref D) (fp := D :: fp) hh zw wz zh nw Qz (.lst OZ ra) (VH.mpr ⟨nD, nd⟩) (fun a ha => by
       rcases UA.mp ha with h | h
       . subst h; exact ⟨zD, hD⟩
       . exact own a h) (c.imp id fun c => by
         rw [gi]
         exact qS fun d hd => c d (List.mem_filter.mp hd).1)
     exact ⟨Z', z', hh, S'⟩
end
section
variable {X : Cx} {CL : Str -> Addr} {b : Bx} {δ δ1 : List (Option T)} {scope : Scope} {xs : List Str} {Nc : List Str} {ix : List Nat} {elt iter tg : Expr} {ifs : List Expr} {pos : Pos} {ds : List D} {p : D -> Bool} {g : D -> T} {δc : List (Option T)} {parts : D -> Option (List D)}
theorem sZ {J : It} {fp : List Addr} {it : Addr} {tn : Nat -> Heap -> Prop} {pins : List (Addr × Obj)} {σ : L2.St} {H H1 Z : Hp} {s : Shared} {ts : List T} {vs : List V} {RR : Value -> Addr -> Result -> Shared -> Prop} {E : Value -> Shared -> Prop}
   (sc : jP X scope xs Nc ix) (hc : X.calm = true) (C : um X CL b δ1 σ ts vs Z H ds J H1) (I : L2.Inv X pins σ H1 s) (Tn : Turn X.prog X.w X.K tg J fp it tn) (st : tn 0 s.heap) (hf : ∀ b ∈ fp, qc X pins H1 b)
   (hb : (δc = vX δ1 ix /\ ∀ d ∈ ds, (g d).clean = true) \/ δc = vY δ1 ix) (inner : n5 X CL scope Nc xs.length tg parts ifs elt δc ds p g) (hlen : ds.length <= sizeLine)
   (Qw : ∀ D C s' H' Z', (∃ m, s'.heap.Ns C m) -> (∃ o, s'.heap.get? C = some o /\ ∀ v, o.data ≠ .cell v) -> H' C = none -> (C ≠ X.env.locals /\ C ∉ X.fs /\ X.s₀.heap.objs.size <= C /\ (∀ y c, X.env.cells.lookup y = some c -> c ≠ C) /\ ∀ q ∈ X.pn ++ pins, q.1 ≠ C) -> (∀ h', Heap.SameBut C s'.heap h' -> L2.Inv X pins σ H' { s' with heap := h' }) -> aD Z Z' -> aD H H' -> bM X.K CL b H' Z' δ1 σ (.lst ((ds.filter p).map g) :: ts) (.ref D :: vs) -> RR (.ref D) C (.ok .next) s') :
   wpAny (model X.prog X.w) X.A (newList []) (fun acc s₃ => wpAny (model X.prog X.w) X.A (newFunctionEnv scope X.env.globals (eu X.env scope.names []) [] X.env.qual none .none (some X.env)) (fun D9 s₄ =>
     codeAny (model X.prog X.w) X.A (.compStart (.ListComp elt [⟨tg, iter, ifs, 0⟩] scope pos) 0 (.ref it) acc { D9 with scope := relabel scope X.env }) (RR acc D9.locals) s₄) E s₃) E s := by
 obtain ⟨Z1, z1, k1, S1, go, yl, RM⟩ := C.ex
 have lp : ∀ D, H1 D = none -> ∃ W : Nat -> Nat -> Hp -> Prop, (∃ m, W 0 m (upd H1 D (.lst []))) /\ ∀ i m H2, W i m H2 -> (J.stop i H2 /\ ∃ Z2, aD Z1 Z2 /\ aD H1 H2 /\ bM X.K CL b H2 Z2 δ1 σ (.lst ((ds.filter p).map g) :: ts) (.ref D :: vs)) ∨
     (J.go i H2 /\ ∃ N : Hp -> Prop, (∀ H', N H' -> ∃ m', m' < m /\ W (i + 1) m' H') /\ ∀ xv H3, J.IE i H2 xv H3 -> ∀ C s0 H0 f0 os, os.length = xs.length -> D8 (b9 X scope Nc C s0 H0 f0) tg elt ifs xs.length σ ix D N xv os H3) := by
   rcases hb with ⟨e, cl⟩ | e
   . subst e
     exact qV (W1 := H1) S1 S1.zh (.refl _) (fun _ _ q _ => q) (vZ S1 ix) inner (fun i H2 s => go i H2 (S1.zh.trans s)) (fun i Z2 H2 y H' s => yl i Z2 H2 y H' (S1.zh.trans s)) (fun H2 s => RM H2 (S1.zh.trans s)) hlen (.inr cl)
   . subst e
     exact qV (W1 := Z1) S1 (.refl _) S1.zh S1.tp (v5 S1 ix) inner go yl RM hlen (.inl rfl)
 exact yx sc hc I Tn st hf lp fun D C s' H' m io nC ch ci ⟨Z', z', k', S'⟩ => Qw D C s' H' Z' m io nC ch ci (z1.trans z') (k1.trans k') S'
theorem pM (sc : jP X scope xs Nc ix) {pins : List (Addr × Obj)} {σ : L2.St} {H : Hp} {s : Shared} (I : L2.Inv X pins σ H s) : closureFor scope X.env = pure (eu X.env scope.names []) :=
 sH fun y hy e => I.ok.has y.1 (sc.frees y hy e).2
theorem wC (sc : jP X scope xs Nc ix) (hc : X.calm = true) (h : OV X CL b tg iter δ ds δ1) (hb : (δc = vX δ1 ix /\ ∀ d ∈ ds, (g d).clean = true) \/ δc = vY δ1 ix) (inner : n5 X CL scope Nc xs.length tg parts ifs elt δc ds p g) (hlen : ds.length <= sizeLine)
   (hs : ∀ x, foldedSetIterable iter X.env x = pure x := by intro _; rfl) : bJ X CL b (.ListComp elt [⟨tg, iter, ifs, 0⟩] scope pos) δ (.lst ((ds.filter p).map g)) δ1 := fun H Z σ ts vs Q S k pins s I => by
 obtain ⟨wi, pi, hw⟩ := h
 rw [eval_ListComp]
 refine wpAny_comprehension_free (use := none) rfl hs (pM sc I) sc.kind sc.names ?_
 refine dQ (pi pins s σ H _ I (hw H Z σ ts vs (fun J H1 => um X CL b δ1 σ ts vs Z H ds J H1) S fun J H1 C => C)) fun v s1 h1 => dQ h1 fun OB s2 zz => ?_
 obtain ⟨it, fp, tn, J, H1, e, I1, Tn, st, hf, C⟩ := zz
 subst e
 refine sZ (RR := fun acc C => compPost (model X.prog X.w) X.A X.xe none (EP X pins σ Q) acc C) sc hc C I1 Tn st hf hb inner hlen fun D C' s' H' Z' m io nC ch ci z' k' S' => ?_
 obtain ⟨m, hn⟩ := m
 exact ⟨m, hn, fun h' Ny => ⟨.ref D, H', ci h' Ny, rfl, k _ H' Z' z' k' S'⟩⟩
theorem Hr {D : cu} {y : Str} {py NB : Pos} (i : Nat) (sc : jP X scope xs Nc ix) (hc : X.calm = true) (h : OV X CL b tg iter δ ds δ1) (hb : (δc = vX δ1 ix /\ ∀ d ∈ ds, (g d).clean = true) \/ δc = vY δ1 ix) (inner : n5 X CL scope Nc xs.length tg parts ifs elt δc ds p g) (hlen : ds.length <= sizeLine)
   (k : D.nx (δ1.set i (some (.lst ((ds.filter p).map g))))) (hl : i < δ1.length) (hN : X.N.Nodup) (hi : X.N[i]? = some y) (hx : Loc X.env.scope y) (Tv : X.fn y = true \/ X.env.scope.names.lookup y = some .local)
   (BD : swapsWith (.ListComp elt [⟨tg, iter, ifs, 0⟩] scope pos) (some (.Name y py)) NB.line X.env = pure true)
   (hs : ∀ x, foldedSetIterable iter X.env x = pure x := by intro _; rfl) : Ko X CL b (.Assign [.Name y py] (.ListComp elt [⟨tg, iter, ifs, 0⟩] scope pos) NB) δ D := fun H Z σ ts vs E S M pins s I => by
 obtain ⟨wi, pi, hw⟩ := h
 rw [exec_Assign_Name_used _ _ _ _ BD]
 refine UQ (wpAny_standAt (UQ ?_))
 show wpAny _ X.A (do let _ ← comprehension (.ListComp elt [⟨tg, iter, ifs, 0⟩] scope pos) scope X.env _ (newList []) false (eval iter X.env) (some (assign (.Name y py) X.env))) _ _ s
 refine UQ (VN (wpAny_comprehension_free (use := some (assign (.Name y py) X.env)) (Q := fun _ s' => SP X pins E .next s') rfl hs (pM sc I) sc.kind sc.names ?_) (fun _ s' hq => U6 (U6 hq)) fun _ _ e => e)
 refine dQ (pi pins s σ H _ I (hw H Z σ ts vs (fun J H1 => um X CL b δ1 σ ts vs Z H ds J H1) S fun J H1 C => C)) fun v s1 h1 => dQ h1 fun OB s2 zz => ?_
 obtain ⟨it, fp, tn, J, H1, e, I1, Tn, st, hf, C⟩ := zz
 subst e
 refine sZ (RR := fun acc C => compPost (model X.prog X.w) X.A X.xe (some (assign (.Name y py) X.env)) (fun _ s' => SP X pins E .next s') acc C) sc hc C I1 Tn st hf hb inner hlen fun D' C' s' H' Z' m io nC ch ci z' k' S' => ?_
 obtain ⟨m, hn⟩ := m
 obtain ⟨o, ho, sO⟩ := io
 have I' : L2.Inv X pins σ H' s' := ci s'.heap (.refl ..)
 have I2 : L2.Inv X (pins ++ [(C', o)]) σ H' s' := I'.qm fun q hq => by
   rcases UY.mp hq with z | z
   . exact I'.pin q (UB _ z)
   . have e : q = (C', o) := by simpa using z
     subst e
     exact ⟨ho, nC, ch.1, ch.2.1, sO⟩
 show wpAny _ X.A (assign (.Name y py) X.env (.ref D')) _ _ s'
 have hg : PG X (.Name y py) (Af i) := tR hN hi hx Tv
 refine dQ (hg _ s' σ H' (.ref D') (.ref D') (fun σ8 H8 => σ8 = σ.set i (some (.ref D')) /\ H8 = H') I2 rfl ⟨rfl, rfl⟩) fun _ s8 zz => ?_
 obtain ⟨σ8, H8, I8, e8, Tw⟩ := zz
 subst e8
 subst Tw
 obtain ⟨Tz, TF, _⟩ := I8.pin (C', o) (UB _ (UB _ (by simp)))
 refine ⟨m, hn.at' fun o' e' => by rw [ho] at e'; cases e'; exact Tz, fun h' Ny => ?_⟩
 have I9 : L2.Inv X pins (σ.set i (some (.ref D'))) _ s8 := I8.qm fun q hq => I8.pin q (UB _ (UO _ hq))
 have TH := I9.turned (it := C') (h' := h') (t' := s8.toks) (fun b o hb e => (Ny.2 b hb).trans e) TF ch.1.symm.symm (.inr ch.2.2.1) ch.2.2.2.1 ch.2.2.2.2
 exact ⟨_, _, TH, M.nx _ _ _ Z' z' (S'.set hl) k⟩
theorem K2 {D : cu} {fK : List Stmt} {i : Nat} {x : Str} {pos' pc : Pos} (gx : Gx X) (n : Ln X i x) (sc : jP X scope xs Nc ix) (h : OV X CL b tg iter δ ds δ1)
   (hb : (δc = vX δ1 ix /\ ∀ d ∈ ds, (g d).clean = true) \/ δc = vY δ1 ix) (inner : n5 X CL scope Nc xs.length tg parts ifs elt δc ds p g) (hlen : ds.length <= sizeLine) (k : fJ X CL b fK (δ1.set i (some (.lst ((ds.filter p).map g)))) D) (hl : i < δ1.length)
   (BD : swapsWith (.ListComp elt [⟨tg, iter, ifs, 0⟩] scope pc) (some (.Name x pos')) pos.line X.env = pure true \/ swapsWith (.ListComp elt [⟨tg, iter, ifs, 0⟩] scope pc) (some (.Name x pos')) pos.line X.env = pure false) (hs : ∀ x, foldedSetIterable iter X.env x = pure x := by intro _; rfl) :
   fJ X CL b (.Assign [.Name x pos'] (.ListComp elt [⟨tg, iter, ifs, 0⟩] scope pc) pos :: fK) δ D := by
 rcases BD with BD | BD
 . exact dR (Hr i sc gx.calm h hb inner hlen k hl gx.nd n.hi n.loc n.hf BD hs)
 . exact dR (DU i (wC sc gx.calm h hb inner hlen hs) k hl gx.nd n.hi n.loc BD n.hf)
theorem K3 {i : Nat} {x : Str} {C : Addr} {s : Shared} {H : Hp} {fp : List Addr} (h1 : Nc[i]? = some x) (h2 : scope.names.lookup x = some .local) (hd : (x == ("__debug__" : Str)) = false := by decide) (kr : (x == ("__classdict__" : Str)) = false := by decide) : Ln (b9 X scope Nc C s H fp) i x :=
 ⟨dN h1 h2 hd kr, .inl (lookup_relabel_local h2), .inr (lookup_relabel_local h2)⟩
end
section
variable {X : Cx} {elts : List Expr} {kk : Nat} {pt : Pos}
end
section
variable {X : Cx} {CL : Str -> Addr} {b : Bx} {δ δ1 : List (Option T)} {e : Expr} {ds : List D} {elts : List Expr} {kk : Nat} {pt pr pc : Pos}
end
section
variable {X : Cx}
end
section
variable {X : Cx} {CL : Str -> Addr} {b : Bx} {δ δ1 : List (Option T)} {e : Expr} {pos pp : Pos}
end
section
variable {X : Cx}
end
section
variable {X : Cx} {CL : Str -> Addr} {b : Bx} {δ δ1 : List (Option T)} {e : Expr} {pos pp : Pos}
end
section
variable {prog : Program} {w : World} {A : Around} {s : Shared}
end
section
variable {prog : Program} {w : World} {A : Around} {s : Shared}
end
section
variable {X : Cx}
end
section
variable {X : Cx} {CL : Str -> Addr} {b : Bx} {δ δ1 : List (Option T)} {e : Expr} {ds : List D} {pos pp pq pr : Pos}
end
noncomputable def D.TJ : L3.D -> L3.D
 | .tup (a :: _) => a
 | d => d
noncomputable def D.at2 : L3.D -> L3.D
 | .tup (_ :: a :: _) => a
 | d => d
section
variable {X : Cx} {CL : Str -> Addr} {b : Bx} {δ δ1 : List (Option T)} {e : Expr} {elts : List Expr} {kk : Nat} {pt pr pc : Pos}
end
section
variable {K : PySem.W.Frag} {CL : Str -> Addr} {b : Bx} {H H' Z Z' : Hp} {δ δ' : List (Option T)} {σ σ' : L2.St} {ts tl : List T} {vs us : List V} {t : T} {v : V}
end
section
variable {X : Cx} {CL : Str -> Addr} {b : Bx} {δ δ1 δ2 : List (Option T)} {e e2 : Expr} {t : T} {tl Gg tt Qn : List T} {D : cu} {pos pp pa pb : Pos}
end
section
variable {X : Cx} {CL : Str -> Addr} {b : Bx} {δ δ1 : List (Option T)} {e : Expr} {t : T} {i : Nat} {x : Str} {pos pp : Pos} {DD : cu} {fK : List Stmt}
end
section
variable {X : Cx}
end
section
variable {K : PySem.W.Frag} {CL : Str -> Addr} {b : Bx} {H Z : Hp} {δ : List (Option T)} {σ : L2.St} {ts tl : List T} {vs : List V} {t : T} {v : V}
end
section
variable {X : Cx} {CL : Str -> Addr} {b : Bx} {δ δ1 : List (Option T)} {e : Expr} {t : T} {tl Gg : List T} {D : cu} {pos pp pa pb pc : Pos} {kj i : Nat} {x : Str} {fK : List Stmt}
end
theorem pN : ∀ (l r : List Int), PyData.eqvAll (D.dG (l.map L3.D.int)) (D.dG (r.map L3.D.int)) = decide (l = r)
 | [], [] => by rw [List.map_nil, D.dG, PyData.eqvAll]; rfl
 | [], _ :: _ => by rw [List.map_nil, U8, D.dG, D.dG, PyData.eqvAll]; rfl
 | _ :: _, [] => by rw [List.map_nil, U8, D.dG, D.dG, PyData.eqvAll]; rfl
 | x :: l, y :: r => by
   rw [U8, U8, D.dG, D.dG, PyData.eqvAll, pN l r, D.toPy, D.toPy, PyData.eqv]
   by_cases e : x = y
   . subst e
     simp
   . have : (x == y) = false := by simpa using e
     rw [this, Bool.false_and, Vv (by simp [e])]
theorem Ec (l r : List Int) : Df (.lst (l.map .int)) (.lst (r.map .int)) = decide (l = r) := by
 unfold Df
 rw [D.toPy, D.toPy, PyData.eqv, pN]
section
variable {X : Cx} {CL : Str -> Addr} {b : Bx} {δ δ1 : List (Option T)} {e : Expr} {pos pp : Pos}
end
section
variable {K : PySem.W.Frag} {CL : Str -> Addr} {b : Bx} {H Z : Hp} {δ : List (Option T)} {σ : L2.St} {ts tl RN : List T} {vs : List V} {v : V}
end
section
variable {X : Cx} {CL : Str -> Addr} {b : Bx} {δ δ1 : List (Option T)} {e : Expr} {tl Gg RN : List T} {D : cu} {pos pp pa pb : Pos} {i : Nat} {x : Str} {fK : List Stmt}
end
section
variable {X : Cx} {CL : Str -> Addr} {b : Bx} {e1 e2 : Expr} {δ δ1 δ2 : List (Option T)} {ds : List L3.D} {pos : Pos}
end
section
variable {X : Cx} {CL : Str -> Addr} {b : Bx} {δ : List (Option T)} {x : Str} {pos : Pos}
theorem aE.IZ {K : PySem.W.Frag} {Z : Hp} : ∀ l : List Str, aE K CL Z (l.map .str) (l.map V.str)
 | [] => .nil
 | x :: l => .cons (.str x) (aE.IZ l)
end
section
variable {X : Cx} {CL : Str -> Addr} {b : Bx} {e1 e2 e iter : Expr} {δ δ1 δ2 : List (Option T)} {pos : Pos}
end
section
variable {X : Cx} {CL : Str -> Addr} {b : Bx} {e : Expr} {δ δ1 δ2 δ3 : List (Option T)} {pos p2 : Pos}
end
end L3
namespace L3
open PySem PySem.Spec PyProof.Rows L2 PySem.Builtin PySem.Builtin.Str
section
variable {X : Cx} {CL : Str -> Addr} {b : Bx} {e o : Expr} {δ δ1 δ2 : List (Option T)} {pos apos : Pos}
theorem Vals.strsFrom : ∀ (k : Nat) (l : List Str), Vals (l.map V.str) (strsFrom k l)
 | _, [] => .nil
 | k, x :: l => .cons ⟨_, rfl⟩ (Vals.strsFrom (k + 1) l)
noncomputable def uo (x y : Str) : Bool := !(y.length == 0) && !(decide (x.length < y.length) || decide (strKind x < strKind y)) && !(occurrences x y 0 x.length (x.length + 1)).isEmpty
noncomputable def splitM (x y : Str) : List Str := partsBetween x (occurrences x y 0 x.length (x.length + 1)) y.length
noncomputable def K4 : V -> List V -> Hp -> VK -> Prop := fun x vs H Q => ∃ z y, x = .str z /\ vs = [.str y] /\ uo z y = true /\ z.length <= sizeLine /\ (splitM z y).length <= sizeLine /\ ∀ p, H p = none -> Q (.ref p) (upd H p (.lst ((splitM z y).map V.str)))
theorem Ed : P6 X "str.split" K4 := by
 intro pins s σ H x vs v us Q I rx rv h
 obtain ⟨z, y, rfl, rfl, dB, hz, hp, q⟩ := h
 obtain ⟨t, rfl⟩ := rx
 obtain ⟨u, rfl, ru⟩ := rv.one
 obtain ⟨t', rfl⟩ := ru
 unfold uo at dB
 simp only [Vd, Bool.not_eq_true'] at dB
 obtain ⟨⟨h1, h2⟩, h3⟩ := dB
 refine call_meets F.slot_str_split (typeIs_str _ _ _) F.entry_str_split (F.args_str_split_2 _ _) (meets_str_split_sep z y t t' h2 h1 h3 hz hp) ?_
 exact ⟨.ref _, _, I.M4 (its := strsFrom s.toks (splitM z y)) (Vals.strsFrom _ _) (by rw [Uz]; exact hp), rfl, q _ I.fresh⟩
theorem Ef {z y : Str} {l : List Str} (h1 : cB X CL b o δ (.str z) δ1) (h2 : cB X CL b e δ1 (.str y) δ2) (dB : uo z y = true) (hz : z.length <= sizeLine) (hl : splitM z y = l) (hp : l.length <= sizeLine)
   (mL : attributeBase o "split" X.env (eval o X.env) = eval o X.env := by rfl)
   (tY : ((backTo pos (starEach [e] X.env)).all (fun x => !x.1) && (backToKw pos (keywordEach [] X.env)).all (fun x => x.1.isSome) && decide ([e].length + ([] : List Keyword).length + (if ([] : List Keyword).isEmpty then 0 else 1) < 30)) = true := by rfl)
   (hline : (apos.endLine == pos.line) = true := by rfl) (hs : starEach [e] X.env = (false, eval e X.env) :: starEach [] X.env := by exact bG rfl) :
   bJ X CL b (.Call (.Attribute o "split" apos) [e] [] pos) δ (.lst ((l.map L3.D.str).map T.sh)) δ2 := fun H Z σ ts vs Q S k =>
 cA (DG PySem.F.plainAttrs_str PySem.F.slot_str_split PySem.F.type_str_split Ed dF (cI dF fL hs) mL tY hline hs rfl)
   (h1 H Z σ ts vs _ S fun v1 H1 Z1 z1 k1 S1 r1 => by
     have e1 := r1.sc rfl
     subst e1
     refine ⟨rfl, h2 H1 Z1 σ ts vs _ S1 fun v2 H2 Z2 z2 k2 S2 r2 => ?_⟩
     have e2 := r2.sc rfl
     subst e2
     subst hl
     refine ⟨z, y, rfl, rfl, dB, hz, hp, fun p TL => ?_⟩
     have rc : aE X.K CL Z2 ((splitM z y).map L3.D.str) ((splitM z y).map V.str) := aE.IZ _
     obtain ⟨c, S4⟩ := (bM.pI rc S2).nV (g0 := []) (by simp) TL
     exact k _ _ _ (z1.trans z2) (k1.trans (k2.trans c)) S4)
end
end L3
namespace L3
open PySem PySem.Spec PyProof.Rows L2
section
variable {X : Cx} {CL : Str -> Addr} {b : Bx} {δ : List (Option T)} {pos pp : Pos} {x : Str}
end
section
variable {K : PySem.W.Frag} {CL : Str -> Addr} {b : Bx} {H Z : Hp} {δ : List (Option T)} {σ : L2.St} {ts tl : List T} {vs : List V} {t : T} {v : V} {d : D} {jF : List (Key × D)} {gs : List (Key × V)}
end
section
variable {X : Cx} {CL : Str -> Addr} {b : Bx} {δ δ1 δ2 : List (Option T)} {e e1 e2 : Expr} {t : T} {d : L3.D} {D : cu} {pos pp ps : Pos} {i : Nat} {x : Str} {fK : List Stmt} {jF : List (Key × L3.D)} {k : Key}
end
section
variable {K : PySem.W.Frag} {CL : Str -> Addr} {b : Bx} {H Z : Hp} {δ : List (Option T)} {σ : L2.St} {ts : List T} {vs : List V} {t : T} {v w : V} {f c : Str} {Dg : List (Str × T)}
theorem ck.Hs {ft : List Addr} (rt : b7 K CL H Z t v ft) : ∀ {wF : List (Str × T)} {gs : List (Str × V)} {fp : List Addr}, ck K CL H Z (wF ++ (f, .sh (.val v)) :: Dg) gs fp -> ∃ AG, ck K CL H Z (wF ++ (f, t) :: Dg) gs AG /\ AG.Perm (fp ++ ft)
 | [], _, _, r => by
   cases r with
   | @cons _ _ v' _ _ f1 gp h r =>
     cases h with
     | sh h =>
       cases h
       exact ⟨ft ++ gp, .cons rt r, Vg⟩
 | (y, u) :: wF, _, _, r => by
   cases r with
   | @cons _ _ v' _ _ f1 gp h r =>
     obtain ⟨AG, r', p⟩ := ck.Hs rt (wF := wF) r
     refine ⟨f1 ++ AG, .cons h r', ?_⟩
     rw [UH]
     exact p.append_left f1
theorem bM.Hs {wF : List (Str × T)} (S : bM K CL b H Z δ σ (.ins c (wF ++ (f, .sh (.val v)) :: Dg) :: t :: ts) (w :: v :: vs)) : bM K CL b H Z δ σ (.ins c (wF ++ (f, t) :: Dg) :: ts) (w :: vs) := by
 obtain ⟨fp, gp, e, r, nd, k⟩ := S.rep
 cases r with
 | @cons _ _ _ _ g1 g2 r1 r2 =>
   cases r2 with
   | @cons _ _ _ _ g3 g4 r3 r4 =>
     cases r1 with
     | @ins a dx _ gs _ TN ha rf =>
       obtain ⟨AG, TQ, p⟩ := ck.Hs r3 rf
       have pm : (fp ++ ((a :: AG) ++ g4)).Perm (fp ++ ((a :: TN) ++ (g3 ++ g4))) := by
         refine Vl fp ?_
         rw [← UH]
         refine List.Perm.append_right g4 ?_
         rw [Vb]
         exact List.Perm.cons a p
       exact ⟨⟨fp, (a :: AG) ++ g4, e, .cons (.ins ha TQ) r4, pm.nodup_iff.mpr nd, fun c hc => k c (pm.mem_iff.mp hc)⟩, S.bh, S.zz, S.zh, S.new, S.tp, S.tab⟩
end
noncomputable def O4 (X : Cx) (CL : Str -> Addr) (b : Bx) (es : List Expr) (δ : List (Option T)) (dv : V -> List D) (t : T) (δ' : List (Option T)) : Prop :=
 ∀ (H Z : Hp) (σ : L2.St) (ts : List T) (vs : List V) (Q : List V -> Hp -> Prop), bM X.K CL b H Z δ σ ts vs →
   (∀ us H' Z' v, aD Z Z' -> aD H H' -> bM X.K CL b H' Z' δ' σ (t :: ts) (v :: vs) -> aE X.K CL H' (dv v) us -> Q us H') -> DL X es σ H Q
theorem T.qW {f : Str} {v : V} {Dg : List (Str × T)} (h2 : T.aU Dg = true) : ∀ {wF : List (Str × T)}, T.aU wF = true -> T.aU (wF ++ (f, .sh (.val v)) :: Dg) = true
 | [], _ => by rw [List.nil_append, T.aU, h2]; rfl
 | (x, t) :: wF, h => by
   rw [T.aU, Vd] at h
   rw [Vb, T.aU, h.1, T.qW h2 h.2]; rfl
section
variable {X : Cx} {CL : Str -> Addr} {b : Bx} {δ δ1 δ2 : List (Option T)} {e o : Expr} {es : List Expr} {pos pp apos : Pos} {t : T} {ds : List D} {d : D} {dv : V -> List D}
theorem Eg (h : bJ X CL b e δ t δ1) (r : Gf X CL b es δ1 ds δ2) (hs : notStar e = true := by rfl) : O4 X CL b (e :: es) δ (fun v => .val v :: ds) t δ2 := fun H Z σ ts vs Q S k =>
 Bw (cI dF Dd (bG hs)) (h H Z σ ts vs _ S fun v H1 Z1 z1 k1 S1 => r H1 Z1 σ _ _ _ S1 fun us H2 Z2 z2 k2 S2 r2 => k (v :: us) H2 Z2 v (z1.trans z2) (k1.trans k2) S2 (.cons (.val v) r2))
theorem wG (h : cB X CL b e δ d δ1) (r : O4 X CL b es δ1 dv t δ2) (hs : notStar e = true := by rfl) : O4 X CL b (e :: es) δ (fun v => d :: dv v) t δ2 := fun H Z σ ts vs Q S k =>
 Bw (cI dF Dd (bG hs)) (h H Z σ ts vs _ S fun v H1 Z1 z1 k1 S1 r1 => r H1 Z1 σ ts vs _ S1 fun us H2 Z2 v2 z2 k2 S2 r2 => k (v :: us) H2 Z2 v2 (z1.trans z2) (k1.trans k2) S2 (.cons (r1.mono k2) r2))
variable {A : Type} {k n : Nat} {arg : A -> List D} {Pre : A -> Prop} {x c m f : Str}
theorem TR {res : A -> List (Str × T)} (a : V -> A) {wF Dg : List (Str × T)} (F : Fm X CL x k n arg Pre res) (hg : Gl X x) (h : O4 X CL b (e :: es) δ dv t δ1) (ha : ∀ v, arg (a v) = dv v) (hp : ∀ v, Pre (a v)) (hr : ∀ v, res (a v) = wF ++ (f, .sh (.val v)) :: Dg) (hc : T.aU wF = true) (GK : T.aU Dg = true) (hn : ∀ v, (arg (a v)).length + 1 = n := by exact fun _ => rfl)
   (sE : (x == ("__debug__" : Str)) = false := by decide) (he : starEach (e :: es) X.env = (false, eval e X.env) :: starEach es X.env := by exact bG rfl) (hpl : (backTo pos (starEach es X.env)).any (·.1) = false := by rfl) :
   bJ X CL b (.Call (.Name x pp) (e :: es) [] pos) δ (.ins x (wF ++ (f, t) :: Dg)) δ1 := fun H Z σ ts vs Q S kk => by
 obtain ⟨f', fd, ps, M, F1, hm, hb⟩ := F.ex
 exact cA (An M F1 F.room hg hm hb .nil Aw Dd sE he hpl) (h H Z σ ts vs _ S fun us H1 Z1 v z1 k1 S1 r y dx hx Nr ne => by
   rw [Vr]
   refine ⟨H1, H1, a v, y, dx, us, rfl, hx, Nr, ne, rfl, .refl _, fun _ _ q _ => q, by rw [ha]; exact r, hn v, hp v, S1.Kl, fun H' W' fp hh ww wh nw tp rt nd own => ⟨rfl, ?_⟩⟩
   obtain ⟨Z', z', S'⟩ := S1.back hh S1.zh ww wh nw tp rt nd own (.inr (by rw [T.clean, hr]; exact T.qW GK hc))
   rw [hr] at S'
   exact kk _ H' Z' (z1.trans z') (k1.trans hh) S'.Hs)
end
section
variable {X : Cx}
end
section
variable {X : Cx} {CL : Str -> Addr} {b : Bx} {δ δ1 : List (Option T)} {e : Expr} {pos pp : Pos} {l : List Bool}
end
namespace Rv
theorem BI : PySem.Slot "reversed" "__init__" "object.__init__" :=
 .of (owner := "object") (n := "__init__") (by rw [typeLookup_type, builtinLookup_eq_fast]; kernel_rfl) (by decide +kernel) (by decide +kernel) (by decide +kernel)
   (by first | exact .inl (by decide +kernel) | exact .inr (by decide +kernel)) (by rw [isSubtype_type]; kernel_rfl)
theorem called : TypeCalled "reversed" "reversed.__new__" "object.__init__" :=
 ⟨by decide +kernel, by decide +kernel, ⟨_, _, PySem.F.mro_reversed⟩, PySem.F.made_reversed, by decide +kernel, PySem.F.sub_reversed_self, BI⟩
noncomputable def obj (t : Addr) (i : Int) : Obj := { cls := .type "reversed", data := .fields #[.ref t, rawInt i] }
section
variable {prog : Program} {w : World} {A : Around} {E : Value -> Shared -> Prop} {s : Shared}
end
end Rv
namespace Rv
section
variable {prog : Program} {w : World} {A : Around} {E : Value -> Shared -> Prop} {s : Shared}
end
end Rv
section
variable {X : Cx} {tg : Expr}
end
section
variable {X : Cx} {CL : Str -> Addr} {b : Bx} {δ δ1 : List (Option T)} {e : Expr} {ds : List D} {tg : Expr} {pr pc : Pos}
end
section
variable {X : Cx} {CL : Str -> Addr} {b : Bx} {δ δ1 : List (Option T)} {e : Expr} {t : T} {tl Gg tt Qn : List T} {D : cu} {pos pp pa pb : Pos}
variable {fK : List Stmt} {i i2 : Nat} {x y : Str} {DD : cu}
end
section
variable {X : Cx} {CL : Str -> Addr} {b : Bx} {δ δ1 : List (Option T)} {e : Expr} {ds : List D} {tg : Expr} {pr pc : Pos} {l : Bool}
end
section
variable {X : Cx} {CL : Str -> Addr} {b : Bx} {δ : List (Option T)}
noncomputable def constInt : Expr -> Option Int
 | .Constant (.int i) _ _ => some i
 | .UnaryOp .USub (.Constant (.int i) _ _) _ => some (-i)
 | _ => none
noncomputable def n6 : List Expr -> Option (List Int)
 | [] => some []
 | e :: es => (constInt e).bind fun x => (n6 es).map (x :: ·)
theorem BJ {e : Expr} {x : Int} (h : constInt e = some x) : bJ X CL b e δ (.sh (.int x)) δ := by
 unfold constInt at h
 split at h
 . cases h; exact ai
 . cases h; exact ig (ah ai)
 . cases h
theorem wH {e : Expr} {x : Int} (h : constInt e = some x) : notStar e = true := by
 unfold constInt at h
 split at h
 . rfl
 . rfl
 . cases h
theorem AU : ∀ {es : List Expr} {l : List Int}, n6 es = some l -> xU X CL b es δ ((l.map D.int).map T.sh) δ
 | [], l, h => by
   have e : l = [] := (U4 h).symm
   subst e
   exact c5
 | e :: es, l, h => by
   rw [n6] at h
   obtain ⟨x, hx, h⟩ := Option.bind_eq_some_iff.mp h
   obtain ⟨l', hl, rfl⟩ := Option.map_eq_some_iff.mp h
   exact di (BJ hx) (AU hl) (bG (wH hx))
end
section
variable {K : PySem.W.Frag} {CL : Str -> Addr} {b : Bx} {H Z : Hp} {δ : List (Option T)} {σ : L2.St} {ts tl : List T} {vs : List V} {ds : List D} {us : List V}
end
section
variable {X : Cx} {CL : Str -> Addr} {b : Bx} {δ δ1 : List (Option T)} {e : Expr} {tl Gg : List T} {ds : List L3.D} {D : cu} {pos pp pa pb : Pos} {i : Nat} {x : Str} {fK : List Stmt}
end
section
variable {X : Cx} {CL : Str -> Addr} {b : Bx} {δ δ1 δ2 δ3 : List (Option T)} {e e1 e2 : Expr} {ds ug : List L3.D} {pos p2 : Pos}
theorem bM.Eh {K : PySem.W.Frag} {H Z : Hp} {σ : L2.St} {ts : List T} {v : V} {vs : List V} {d : L3.D} (S : bM K CL b H Z δ σ (.sh d :: ts) (v :: vs)) : bz K CL Z d v := by
 obtain ⟨fp, gp, e0, r0, nd, ow⟩ := S.rep
 cases r0 with
 | cons q1 q2 =>
   cases q1 with
   | sh r => exact r
theorem iY {lo hi : Option Expr} {l h : Option Int} (h1 : bJ X CL b e δ (.sh (.tup ds)) δ1) (hw : ¬ (HT.dD ds.length 0 l = 0 /\ HT.dD ds.length ds.length h = ds.length)) (h2 : L7 X CL b lo δ1 l δ2) (h3 : L7 X CL b hi δ2 h δ3) :
   bJ X CL b (.Subscript e (.Slice lo hi none p2) pos) δ (.sh (.tup (cutD ds l h))) δ3 := fun H Z σ ts vs Q S k => by
 obtain ⟨t2, Qq, w2⟩ := h2
 obtain ⟨t3, Qs, w3⟩ := h3
 refine cA (vQ J3 dF Qq Qs) (h1 H Z σ ts vs _ S fun v H1 Z1 z1 k1 S1 => w2 H1 Z1 σ _ _ _ S1 fun H2 Z2 z2 k2 S2 => w3 H2 Z2 σ _ _ _ S2 fun H3 Z3 z3 k3 S3 => ?_)
 have r := S3.Eh
 cases r with
 | tup hq rr =>
   refine ⟨_, _, rfl, aD.Ge S3.zh hq, by rw [← rr.length]; exact hw, fun p hp => ?_⟩
   have rc := rr.cut l h
   obtain ⟨a, c, S4⟩ := (bM.pI rc S3.pop).yo (by simp [rc.length]) hp
   obtain ⟨Z5, z5, S5⟩ := S4.yk
   rw [T.cZ, fc] at S5
   exact k _ _ Z5 (z1.trans (z2.trans (z3.trans (a.trans z5)))) (k1.trans (k2.trans (k3.trans c))) S5
end
section
variable {a₀ xs : Array Keyed} {ι : Nat -> Nat} {n : Nat}
noncomputable def turned (ι : Nat -> Nat) (i j : Nat) : Nat -> Nat := fun k => if i <= k /\ k < j then ι (i + j - 1 - k) else ι k
end
section
variable {prog : Program} {w : World} {A : Around} {E : Value -> Shared -> Prop} {s : Shared} {a₀ : Array Keyed}
end
section
variable {X : Cx}
end
section
variable {X : Cx} {CL : Str -> Addr} {b : Bx} {δ δ1 : List (Option T)} {e : Expr} {pos pp p1 p2 : Pos} {kj : Nat}
end
section
variable {X : Cx} {i : Nat} {x : Str}
theorem TV (hi : X.N[i]? = some x) (h : X.env.scope.names.lookup x = some .local) (hf : X.fn x = true) (hd : (x == ("__debug__" : Str)) = false := by decide) (hc : (x == ("__classdict__" : Str)) = false := by decide) : Ln X i x := ⟨⟨hi, .inl h, hd, hc⟩, .inl h, .inl hf⟩
theorem TX (hi : X.N[i]? = some x) (h : X.env.scope.names.lookup x = some .cell) (hf : X.fn x = true) (hd : (x == ("__debug__" : Str)) = false := by decide) (hc : (x == ("__classdict__" : Str)) = false := by decide) : Ln X i x := ⟨⟨hi, .inr (.inl h), hd, hc⟩, .inr h, .inl hf⟩
end
theorem eG {P : Program} {w : World} {K : PySem.W.Frag} {mg : Str -> Option Value} {base : Heap} {k : Nat} {f : Addr} {fd : FuncData} {ps : List Str} {sp : Sp} {x : Str} (G : b5 P w K mg base iT k f fd ps sp) (m : mg x = some (.ref f)) (q : PySem.W.keepIn K (.ref f) = true) (b : Binds K fd ps []) :
   ∃ f fd ps, b5 P w K mg base iT k f fd ps sp /\ mg x = some (.ref f) /\ PySem.W.keepIn K (.ref f) = true /\ Binds K fd ps [] := ⟨_, _, _, G, m, q, b⟩
section
variable {X : Cx} {CL : Str -> Addr} {b : Bx} {δ δ1 δc : List (Option T)} {scope : Scope} {y : Str} {Nc : List Str} {ix : List Nat} {elt iter : Expr} {ifs : List Expr} {px pc pos : Pos} {p : L3.D -> Bool} {g : L3.D -> T} {ds : List L3.D}
theorem NC (sc : iJ X scope y Nc ix) : jP X scope [y] Nc ix := ⟨sc.kind, sc.ua, sc.nd, sc.names, (fun x hx => by rw [UG] at hx; subst hx; exact sc.own), sc.frees, sc.hd, sc.Nj⟩
theorem NF (sc : iJ X scope y Nc ix) (h : Block X CL scope Nc ifs elt δc ds p g) (h1 : (y == ("__debug__" : Str)) = false) (h2 : (y == ("__classdict__" : Str)) = false) : n5 X CL scope Nc [y].length (.Name y px) part1 ifs elt δc ds p g := fun C s0 H0 f0 b' =>
 ⟨D7 (i := 0) sc.nd (K3 (by rw [sc.hd]; rfl) sc.own h1 h2), fun d hd => ⟨[d], rfl, rfl, (h C s0 H0 f0 b' d hd).1, (h C s0 H0 f0 b' d hd).2⟩⟩
theorem Ht (sc : iJ X scope y Nc ix) (hc : X.calm = true) (h : G9 X CL b (.Name y px) iter δ ds δ1) (hb : (δc = vX δ1 ix /\ ∀ d ∈ ds, (g d).clean = true) \/ δc = vY δ1 ix) (inner : Block X CL scope Nc ifs elt δc ds p g) (hlen : ds.length <= sizeLine)
   (hs : ∀ x, foldedSetIterable iter X.env x = pure x := by intro _; rfl) (h1 : (y == ("__debug__" : Str)) = false := by decide) (h2 : (y == ("__classdict__" : Str)) = false := by decide) : bJ X CL b (.ListComp elt [⟨.Name y px, iter, ifs, 0⟩] scope pos) δ (.lst ((ds.filter p).map g)) δ1 :=
 wC (xs := [y]) (NC sc) hc (IW h) hb (NF sc inner h1 h2) hlen hs
theorem n8 {D : cu} {fK : List Stmt} {i : Nat} {x : Str} {pos' : Pos} {gg : L3.D -> T} (g : Gx X) (n : Ln X i x) (sc : iJ X scope y Nc ix) (h : G9 X CL b (.Name y px) iter δ ds δ1) (hb : (δc = vX δ1 ix /\ ∀ d ∈ ds, (gg d).clean = true) \/ δc = vY δ1 ix) (inner : Block X CL scope Nc ifs elt δc ds p gg)
   (hlen : ds.length <= sizeLine) (k : fJ X CL b fK (δ1.set i (some (.lst ((ds.filter p).map gg)))) D) (hl : i < δ1.length)
   (BD : swapsWith (.ListComp elt [⟨.Name y px, iter, ifs, 0⟩] scope pc) (some (.Name x pos')) pos.line X.env = pure true \/ swapsWith (.ListComp elt [⟨.Name y px, iter, ifs, 0⟩] scope pc) (some (.Name x pos')) pos.line X.env = pure false) (hs : ∀ x, foldedSetIterable iter X.env x = pure x := by intro _; rfl)
   (h1 : (y == ("__debug__" : Str)) = false := by decide) (h2 : (y == ("__classdict__" : Str)) = false := by decide) : fJ X CL b (.Assign [.Name x pos'] (.ListComp elt [⟨.Name y px, iter, ifs, 0⟩] scope pc) pos :: fK) δ D :=
 K2 (xs := [y]) g n (NC sc) (IW h) hb (NF sc inner h1 h2) hlen k hl BD hs
end
section
variable {X : Cx} {CL : Str -> Addr} {b : Bx} {δ : List (Option T)} {i : Nat} {x : Str} {d : L3.D} {pos : Pos}
theorem aA (n : Ln X i x) (h : δ[i]? = some (some (.sh d)) := by rfl) : cB X CL b (.Name x pos) δ d δ := ah (v_ n.1 h)
end
structure dH (X : Cx) : Prop where
 g : Gx X
 u : X.A.units + 64 < cLine
noncomputable abbrev aJ (X : Cx) (CL : Str -> Addr) (b : Bx) (st : Stmt) (N : List Str) (l : List L3.D) (r : T) : Prop := fJ X CL b (e9 st) (entry N l) { nx := fun _ => r = .sh .non, rt := fun TY _ => TY = r }
noncomputable abbrev aG : NameKind := .globalImplicit
noncomputable abbrev az : NameKind := .local
theorem bI {N P : List Str} {sc : Scope} (h1 : sc.kind = .function := by rfl) (h2 : sc.isCoroutine = false := by rfl) (h3 : sc.isGenerator = false := by rfl) (h4 : N.Nodup := by decide +kernel) (h5 : N.take P.length = P := by rfl) (h6 : ∀ x ∈ P, sc.names.lookup x = some .local \/ sc.names.lookup x = some .cell := by decide +kernel) (h7 : ∀ y ∈ sc.names, y.2 ≠ .free := by decide +kernel) : aV N P sc := ⟨h1, h2, h3, h4, h5, h6, h7⟩
section
variable {X : Cx} {i : Nat} {x : Str} {tb : List (Str × NameKind)}
theorem bR (c : nX X.env.scope tb = true) (j : Nat) (hj : tb[j]? = some (x, .local) := by rfl) (hi : X.N[i]? = some x := by rfl) (hf : X.fn x = true := by rfl) (hd : (x == ("__debug__" : Str)) = false := by decide) (hc : (x == ("__classdict__" : Str)) = false := by decide) : Ln X i x := TV hi (iW c j hj) hf hd hc
theorem O5 (c : nX X.env.scope tb = true) (j : Nat) (hj : tb[j]? = some (x, .cell) := by rfl) (hi : X.N[i]? = some x := by rfl) (hf : X.fn x = true := by rfl) (hd : (x == ("__debug__" : Str)) = false := by decide) (hc : (x == ("__classdict__" : Str)) = false := by decide) : Ln X i x := TX hi (iW c j hj) hf hd hc
theorem eV (c : nX X.env.scope tb = true) (j : Nat) (hj : tb[j]? = some (x, .globalImplicit) := by rfl) : Gl X x := iW c j hj
theorem gy {CL : Str -> Addr} {k n m : Nat} {A : Type} {arg : A -> List D} {Pre : A -> Prop} {res : A -> T} (F : ∃ f fd ps, b5 X.prog X.w X.K X.mg X.base iT k f fd ps (lG X.K CL n arg Pre res) /\ X.mg x = some (.ref f) /\ PySem.W.keepIn X.K (.ref f) = true /\ Binds X.K fd ps []) (r : ek m X.A) (h : k <= m := by decide) : Fc X CL x k n arg Pre res := ⟨F, r.mono h⟩
end
section
variable {K : PySem.W.Frag} {CL : Str -> Addr} {b : Bx} {H H' Z Z' : Hp} {δ δ' : List (Option T)} {σ σ' : L2.St} {ts tl : List T} {vs us : List V} {t : T} {v : V} {y : Addr} {i : Nat}
end
section
variable {K : PySem.W.Frag} {CL : Str -> Addr} {b : Bx} {H Z : Hp} {σ : L2.St} {ts : List T} {vs : List V}
end
section
variable {X : Cx} {CL : Str -> Addr} {b : Bx} {δ δ1 δ2 : List (Option T)} {e : Expr} {es : List Expr} {t : T} {d : L3.D} {pos pp : Pos} {D : cu} {i : Nat} {x : Str} {is : List Nat} {fx : List Addr -> Prop} {al : List Addr -> List T} {y : Addr}
variable {fK : List Stmt}
end
section
variable {X : Cx} {CL : Str -> Addr} {b : Bx} {δ δ1 δ2 : List (Option T)} {e e2 : Expr} {t : T} {tl Gg RN : List T} {D : cu} {pos pp pa pb : Pos} {y : Addr} {fK : List Stmt}
section
variable {i : Nat} {x : Str}
end
end
section
variable {α β : Type} {g : α -> Int}
end
section
variable {X : Cx} {CL : Str -> Addr} {pins : List (Addr × Obj)} {σ : L2.St} {H : Hp} {s : Shared} {x q : Str} {params : Arguments} {body : Expr} {scope : Scope} {pos : Pos}
end
section
variable {X : Cx} {scope : Scope} {x q : Str} {Nc : List Str} {ix : List Nat} {pins : List (Addr × Obj)} {σ : L2.St} {H : Hp} {s : Shared} {A : Around} {f c : Addr}
end
section
variable {X : Cx} {pins : List (Addr × Obj)} {σ : L2.St} {H : Hp} {s : Shared}
end
section
variable {α β : Type} {F : α -> β -> Prop} {g1 : α -> Int} {g2 : β -> Int}
end
section
variable {X : Cx} {pins : List (Addr × Obj)} {σ : L2.St} {H : Hp} {s : Shared} {a kS f l : Addr} {us : List Value} {xs : List V} {kz : List Int} {J : Hp -> Prop} {e1 : Nat} {A : Around} {E : Value -> Shared -> Prop} {P : PySem.Fin -> Shared -> Prop}
end
section
variable {K : PySem.W.Frag} {CL : Str -> Addr} {Z : Hp} {g : D -> Int}
end
section
variable {X : Cx} {CL : Str -> Addr} {b : Bx} {δ δ1 : List (Option T)} {e body : Expr} {ds : List L3.D} {g : L3.D -> Int} {scope : Scope} {y q tx : Str} {Nc : List Str} {ix : List Nat} {params : Arguments} {pos pp lp p2 : Pos}
variable {A : Around} {f c : Addr} {s : Shared} {H : Hp} {i : Nat} {x : Str}
end
section
variable {X : Cx}
end
section
variable {X : Cx} {CL : Str -> Addr} {b : Bx} {δ δ1 δ2 : List (Option T)} {o e : Expr} {apos pos : Pos}
end
section
variable {X : Cx} {CL : Str -> Addr} {b : Bx} {δ : List (Option T)} {e : Expr} {es : List Expr} {d : L3.D} {ds : List L3.D}
end
section
variable {X : Cx} {CL : Str -> Addr} {b : Bx} {δ δ1 : List (Option T)} {scope : Scope} {y : Str} {Nc : List Str} {ix : List Nat} {elt iter : Expr} {ifs : List Expr} {px pos : Pos} {p : L3.D -> Bool} {g : L3.D -> T} {ds : List L3.D}
end
section
variable {X : Cx}
end
section
variable {X : Cx} {CL : Str -> Addr} {b : Bx} {δ δ1 : List (Option T)} {e : Expr} {pos pp pq pr : Pos}
end
section
variable {X : Cx} {CL : Str -> Addr} {b : Bx} {δ δ1 : List (Option T)} {ds : List L3.D} {i q : Nat} {x y : Str} {pos pp pos' : Pos}
end
section
variable {X : Cx} {CL : Str -> Addr} {b : Bx} {e o : Expr} {δ δ1 δ2 : List (Option T)} {pos apos : Pos}
theorem Hu {l : List Str} {its : List Value} (r : Vals (l.map V.str) its) : ∃ ps : List (Str × Tok), its = strValues ps /\ ps.map (·.1) = l := by
 induction l generalizing its with
 | nil => cases r; exact ⟨[], rfl, rfl⟩
 | cons x l ih =>
   rw [U8] at r
   cases r with
   | cons r rs =>
     obtain ⟨t, rfl⟩ := r
     obtain ⟨ps, e1, e2⟩ := ih rs
     exact ⟨(x, t) :: ps, by rw [e1]; rfl, by rw [U8, e2]⟩
theorem Hv : P6 X "str.join" (fun x vs H Q => ∃ (z : Str) (p : Addr) (l : List Str), x = .str z /\ vs = [.ref p] /\ nP X.K H p (l.map V.str) /\ JoinOk z l = true /\ Q (.str (Txt.join z l)) H) := by
 intro pins s σ H x vs v us Q I rx rv h
 obtain ⟨z, p, l, rfl, rfl, hq, dB, q⟩ := h
 obtain ⟨t, rfl⟩ := rx
 obtain ⟨u, rfl, ru⟩ := rv.one
 cases ru
 obtain ⟨its, r, pl, _⟩ := I.list hq
 obtain ⟨ps, rfl, e⟩ := Hu r
 exact SC.join pl.isList e dB fun t' k => ⟨.str _, H, I.tok k, ⟨_, rfl⟩, q⟩
theorem kF {z : Str} {l : List Str} (h1 : cB X CL b o δ (.str z) δ1) (h2 : cB X CL b e δ1 (.lst (l.map L3.D.str)) δ2) (dB : JoinOk z l = true)
   (mL : attributeBase o "join" X.env (eval o X.env) = eval o X.env := by rfl)
   (tY : ((backTo pos (starEach [e] X.env)).all (fun x => !x.1) && (backToKw pos (keywordEach [] X.env)).all (fun x => x.1.isSome) && decide ([e].length + ([] : List Keyword).length + (if ([] : List Keyword).isEmpty then 0 else 1) < 30)) = true := by rfl)
   (hline : (apos.endLine == pos.line) = true := by rfl) (hs : starEach [e] X.env = (false, eval e X.env) :: starEach [] X.env := by exact bG rfl) :
   bJ X CL b (.Call (.Attribute o "join" apos) [e] [] pos) δ (.sh (.str (Txt.join z l))) δ2 := fun H Z σ ts vs Q S k =>
 cA (DG PySem.F.plainAttrs_str PySem.F.slot_str_join PySem.F.type_str_join Hv dF (cI dF fL hs) mL tY hline hs rfl)
   (h1 H Z σ ts vs _ S fun v1 H1 Z1 z1 k1 S1 r1 => by
     have e1 := r1.sc rfl
     subst e1
     refine ⟨rfl, h2 H1 Z1 σ ts vs _ S1 fun v2 H2 Z2 z2 k2 S2 r2 => ?_⟩
     cases r2 with
     | @lst p us _ hq rr =>
       have e2 := rr.strs
       subst e2
       exact ⟨z, p, l, rfl, rfl, hq, dB, k _ _ _ (z1.trans z2) (k1.trans k2) (S2.push (.str _))⟩)
end
noncomputable def NK (lo c : Int) (n : Nat) : It := ⟨fun i _ => i < n, fun i H x H' => H' = H /\ x = .int (lo + i * c), fun i _ => n <= i⟩
theorem BK {P : Program} {w : World} {K : PySem.W.Frag} {tg : Expr} (it : Addr) (lo c : Int) (n : Nat) : Turn P w K tg (NK lo c n) [it] it (fun i h => IsRangeIter h it (lo + (i : Nat) * c) ((n : Int) - (i : Nat)) c) where
 mem := UG.mpr rfl
 obj := fun i h st b hb => by
   cases UG.mp hb
   exact ⟨_, st, fun v z => by
     have z' : Data.fields _ = Data.cell v := z
     cases z'⟩
 keep := fun i h h' st k => k it (UG.mpr rfl) _ st
 item := by
   intro X hP hw hK hc i pins s σ H E I hf st hg
   subst hP hw hK
   obtain ⟨f0, f1, f2, f3, f4, f5⟩ := hf it (UG.mpr rfl)
   have W := Walks.range (prog := X.prog) (w := X.w) (I.ok.hd hc) it lo c n
   refine W.item i s _ _ hg st fun v h' tk hv Dq kk => ?_
   obtain ⟨t, rfl⟩ := hv
   have I1 : Inv X pins σ H { s with heap := h', toks := tk } := I.turned (fun b o hb e => kk b o (by simpa using hb) e) f0 f1 f3 f4 f5
   exact ⟨_, rfl, Ag (s := { s with heap := h', toks := tk }) (n := "range_iterator") Dq rfl rfl (by decide) ⟨.int (lo + i * c), H, I1, ⟨t, rfl⟩, ⟨rfl, rfl⟩, Dq, fun b hb => (hf b hb).1⟩⟩
 done := by
   intro X hP hw hK hc i pins s σ H E I hf st hg
   subst hP hw hK
   obtain ⟨f0, f1, f2, f3, f4, f5⟩ := hf it (UG.mpr rfl)
   exact wpAny_pyNext_range_end (I.ok.hd hc) st (by have : n <= i := hg; omega) fun h' eb => ⟨rfl, I.turned (t' := s.toks) (fun b o hb e => eb b o hb e) f0 f1 f3 f4 f5⟩
 self := fun _ _ _ _ _ st h => wpAny_pyIter_rangeiter st h
noncomputable def iZ (lo hi : Int) : Nat := ((hi - lo + 1) / 2).toNat
theorem step_size {lo hi : Int} (h0 : 0 <= lo) (h1 : lo <= 1000) (h2 : 0 <= hi) (h3 : hi <= 1000) : Builtin.Range.rangeSize lo hi 2 = (iZ lo hi : Int) /\ Builtin.Range.small lo hi 2 = true := by
 have e : Builtin.Range.rangeSize lo hi 2 = (iZ lo hi : Int) := by
   unfold Builtin.Range.rangeSize iZ
   simp only [show (2 : Int) > 0 by decide, if_true]
   split <;> omega
 refine ⟨e, ?_⟩
 unfold Builtin.Range.small
 rw [e]
 unfold iZ
 simp only [Builtin.Range.rangeFitsLong, Vd, Bool.or_eq_true, decide_eq_true_eq, V9, show (2 : Int) > 0 by decide, if_true]
 omega
section
variable {X : Cx} {tg : Expr}
noncomputable def NP (ta : TA) : TI := fun σ H R => ta σ H fun vs H1 => ∃ i j : Int, vs = [.int i, .int j, .int 2] /\ (0 <= i /\ i <= 1000 /\ 0 <= j /\ j <= 1000) /\ R (NK i 2 (iZ i j)) H1
theorem BL {a b c : Expr} {ta : TA} {p pos : Pos} (hg : Gl X "range") (hm : X.mg "range" = none) (ha : PA X [a, b, c] ta) (hs : starEach [a, b, c] X.env = [(false, eval a X.env), (false, eval b X.env), (false, eval c X.env)] := by rfl) (MN : starEach [b, c] X.env = [(false, eval b X.env), (false, eval c X.env)] := by rfl) :
   PI X tg (.Call (.Name "range" p) [a, b, c] [] pos) (NP ta) := by
 intro pins s σ H R I h
 refine Call_ (qK I hg hm boot_range (V1 (dQ (ha pos pins s σ H _ I h) fun us s1 ⟨vs, H1, I1, r1, q1⟩ => ?_) (by rw [hs, MN]) (by rw [MN]; rfl)))
 obtain ⟨i, j, e, ⟨q1, q2, q3, q4⟩, q⟩ := q1
 subst e
 cases r1 with
 | cons r rr =>
   cases rr with
   | cons r' rr =>
     cases rr with
     | cons T3 rr =>
       cases rr
       obtain ⟨t, rfl⟩ := r
       obtain ⟨t', rfl⟩ := r'
       obtain ⟨T4, rfl⟩ := T3
       obtain ⟨hn, Dh⟩ := step_size q1 q2 q3 q4
       refine call_range_3 (by decide) ?_ (.inl (PyProof.noPylong_small (by decide)))
       refine wpAny_pyIter_range (IsRange.new ..) Dh ?_
       have I2 := I1.kept (t' := s1.toks) (h' := s1.heap.push { cls := .type "range", data := .fields #[.int i t, .int j t', .int 2 T4] }) fun b o e => UU _ e
       refine ⟨_, [_], _, _, H1, rfl, I2.kept (t' := s1.toks) fun b o e => UU _ e, BK _ i 2 (iZ i j), ?_, fun b hb => ?_, q⟩
       . have e1 : i + ((0 : Nat) : Int) * 2 = i := by omega
         have e2 : ((iZ i j : Nat) : Int) - ((0 : Nat) : Int) = Builtin.Range.rangeSize i j 2 := by rw [hn]; omega
         show IsRangeIter _ _ (i + ((0 : Nat) : Int) * 2) (((iZ i j : Nat) : Int) - ((0 : Nat) : Int)) 2
         rw [e1, e2]
         exact Vm _ rfl
       . cases UG.mp hb
         exact I2.Dp (UJ _) (I2.dB.fresh (UJ _))
end
noncomputable def jE (lo : Int) (n : Nat) : List D := (List.range n).map fun (i : Nat) => D.int (lo + i * 2)
section
variable {X : Cx} {CL : Str -> Addr} {b : Bx} {δ δ1 δ2 δ3 : List (Option T)} {e e1 e2 e3 : Expr} {ds ug : List L3.D} {pos p2 pr pc : Pos} {tg : Expr}
theorem Ei {K : PySem.W.Frag} {Z : Hp} (lo : Int) (n : Nat) : aE K CL Z (jE lo n) ((List.range n).map fun (i : Nat) => V.int (lo + i * 2)) := by
 unfold jE
 generalize List.range n = l
 induction l with
 | nil => exact .nil
 | cons i r ih => exact .cons (.int _) ih
theorem step_get {lo : Int} {n j : Nat} {d : D} (h : (jE lo n)[j]? = some d) : d = .int (lo + j * 2) /\ j < n := by
 unfold jE at h
 rw [Vu] at h
 cases e : (List.range n)[j]? with
 | none => rw [e] at h; cases h
 | some i =>
   rw [e] at h
   obtain ⟨h1, h2⟩ := Vw.mp e
   rw [Vj] at h1
   rw [List.getElem_range] at h2
   subst h2
   exact ⟨(U4 h).symm, h1⟩
theorem tu {m n : Int} (hm : X.mg "range" = none) (h : Gf X CL b [e1, e2, e3] δ [.int m, .int n, .int 2] δ1) (hn : 0 <= m /\ m <= 1000 /\ 0 <= n /\ n <= 1000) (hg : Gl X "range")
   (Nm : starEach [e1, e2, e3] X.env = [(false, eval e1 X.env), (false, eval e2 X.env), (false, eval e3 X.env)] := by rfl) (KD : starEach [e2, e3] X.env = [(false, eval e2 X.env), (false, eval e3 X.env)] := by rfl) :
   G9 X CL b tg (.Call (.Name "range" pr) [e1, e2, e3] [] pc) δ (jE m (iZ m n)) δ1 := by
 refine ⟨_, BL hg hm Dd Nm KD, fun H Z σ ts vs R S k => h H Z σ ts vs _ S fun Ro H1 Z1 z1 k1 S1 r => ?_⟩
 cases r with
 | cons r1 r =>
   cases r with
   | cons r2 r =>
     cases r with
     | cons r3 r =>
       cases r
       rw [r1.sc rfl, r2.sc rfl, r3.sc rfl]
       refine ⟨m, n, rfl, hn, k _ _ ⟨Z1, _, z1, k1, S1, Ei m (iZ m n), fun i H2 s hi => ?_, fun i H2 y H' s hi hy => ?_, fun H2 s => ?_⟩⟩
       . show i < iZ m n
         rw [jE, Uz, Vj] at hi
         exact hi
       . rw [jE, Uz, Vj] at hi
         refine ⟨hy.1, ?_⟩
         rw [Vu, List.getElem?_range hi, hy.2]
         rfl
       . show iZ m n <= (jE m (iZ m n)).length
         rw [jE, Uz, Vj]
         exact UJ _
noncomputable def NQ (K : PySem.W.Frag) : R2 := fun x y H Q => ∃ a b xs ys, x = .ref a /\ y = .ref b /\ qb K H a xs /\ qb K H b ys /\ ys ≠ [] /\ xs.length + ys.length <= sizeLine ∧
 (xs = [] -> Q (.ref b) H) /\ (xs ≠ [] -> ∀ p, H p = none -> Q (.ref p) (upd H p (.tup (xs ++ ys))))
theorem Hw : pC X (binaryOp .Add) (NQ X.K) := by
 intro pins s σ H x y v u Q I rx ry h
 obtain ⟨a, b, xs, ys, rfl, rfl, ha, hb, hy, hz, q1, q2⟩ := h
 by_cases hx : xs = []
 . subst hx
   cases rx
   cases ry
   obtain ⟨its, r1, p1, _⟩ := I.tuple ha
   obtain ⟨DC, r2, p2, _⟩ := I.tuple hb
   cases r1
   obtain ⟨⟨cls, dd, data, sl⟩, ho, hc, n, hd⟩ := id p1
   obtain ⟨⟨P1, L0, data2, L1⟩, Gd, GK, n2, hd2⟩ := id p2
   simp only at hc hd GK hd2
   subst hc hd GK hd2
   exact concat_meets ⟨_, ho, rfl⟩ ⟨_, Gd, rfl⟩ noFill_tuple_add seq_tuple_add PySem.F.slot_tuple_add Wb (V7 _ _)
     (tuple_addW0 a b _ _ n n2 dd L0 sl L1 rfl) ⟨ho, Gd, ⟨.ref b, H, I, rfl, q1 rfl⟩⟩
 . exact GQ pins s σ H _ _ v u Q I rx ry ⟨a, b, xs, ys, rfl, rfl, ha, hb, hx, hz, fun e => absurd e hy, fun _ => q2 hx⟩
theorem fC (h1 : bJ X CL b e1 δ (.sh (.tup ds)) δ1) (h2 : bJ X CL b e2 δ1 (.sh (.tup ug)) δ2) (n2 : ug ≠ []) (hz : ds.length + ug.length <= sizeLine) :
   bJ X CL b (.BinOp e1 .Add e2 pos) δ (.sh (.tup (ds ++ ug))) δ2 := fun H Z σ ts vs Q S k =>
 cA (Ah Hw dF dF) (h1 H Z σ ts vs _ S fun v1 H1 Z1 z1 k1 S1 => h2 H1 Z1 σ _ _ _ S1 fun v2 H2 Z2 z2 k2 S2 => by
   have r2 := S2.Eh
   have r1 := S2.pop.Eh
   have T5 := r2
   cases r1 with
   | tup Nu Gi =>
     cases r2 with
     | tup Nv Gj =>
       have e1 := Gi.length
       have e2 := Gj.length
       refine ⟨_, _, _, _, rfl, rfl, aD.Ge S2.zh Nu, aD.Ge S2.zh Nv, fun z => n2 (List.eq_nil_of_length_eq_zero (by rw [e2, z]; rfl)), by omega, fun z => ?_, fun _ p hp => ?_⟩
       . have : ds = [] := List.eq_nil_of_length_eq_zero (by rw [e1, z]; rfl)
         subst this
         exact k _ _ _ (z1.trans z2) (k1.trans k2) (S2.pop.pop.push T5)
       . have rc := aE.app Gi Gj
         obtain ⟨a, c, S4⟩ := (bM.pI rc S2.pop.pop).yo (by simp [rc.length, e1, e2]) hp
         obtain ⟨Z5, z5, S5⟩ := S4.yk
         rw [T.cZ, fc] at S5
         exact k _ _ Z5 (z1.trans (z2.trans (a.trans z5))) (k1.trans (k2.trans c)) S5)
theorem Ej (h1 : bJ X CL b e1 δ (.sh (.lst ds)) δ1) (h2 : bJ X CL b e2 δ1 (.sh (.lst ug)) δ2) (hz : ds.length + ug.length <= sizeLine) :
   bJ X CL b (.BinOp e1 .Add e2 pos) δ (.lst ((ds ++ ug).map T.sh)) δ2 := fun H Z σ ts vs Q S k =>
 cA (Ah AJ dF dF) (h1 H Z σ ts vs _ S fun v1 H1 Z1 z1 k1 S1 => h2 H1 Z1 σ _ _ _ S1 fun v2 H2 Z2 z2 k2 S2 => by
   have r2 := S2.Eh
   have r1 := S2.pop.Eh
   cases r1 with
   | lst Nu Gi =>
     cases r2 with
     | lst Nv Gj =>
       refine ⟨_, _, _, _, rfl, rfl, S2.zh.seq Nu, S2.zh.seq Nv, by rw [← Gi.length, ← Gj.length]; exact hz, fun p hp => ?_⟩
       have rc := aE.app Gi Gj
       obtain ⟨c, S4⟩ := (bM.pI rc S2.pop.pop).nV (g0 := []) (by simp [rc.length, Gi.length, Gj.length]) hp
       exact k _ _ _ (z1.trans z2) (k1.trans (k2.trans c)) S4)
theorem uq : pD X (.type "str") (fun xs H Q => ∃ x, xs = [.str x] /\ Q (.str x) H) := by
 intro pins s σ H xs us Q I r h
 obtain ⟨i, rfl, q⟩ := h
 obtain ⟨u, rfl, t, rfl⟩ := vals1 r
 exact PySem.P.str_of_str ⟨.str _, H, I, ⟨_, rfl⟩, q⟩
theorem mW {pp : Pos} {i : Str} (hm : X.mg "str" = none) (hg : Gl X "str") (h : cB X CL b e δ (.str i) δ1) (hs : starEach [e] X.env = (false, eval e X.env) :: starEach [] X.env := by exact bG rfl) :
   bJ X CL b (.Call (.Name "str" pp) [e] [] pos) δ (.sh (.str i)) δ1 := fun H Z σ ts vs Q S k =>
 cA (nR uq hg hm boot_str (cI dF fL hs) (he := hs)) (h H Z σ ts vs _ S fun v H1 Z1 z1 k1 S1 r => by
   rw [r.sc rfl]
   exact ⟨i, rfl, k _ H1 Z1 z1 k1 (S1.push (.str _))⟩)
end
section
variable {X : Cx} {elts : List Expr} {kk : Nat} {pt : Pos}
end
section
variable {X : Cx} {CL : Str -> Addr} {b : Bx} {δ δ1 δ2 : List (Option T)} {e e1 e2 : Expr} {ds es : List D} {elts : List Expr} {kk : Nat} {pt pr pc pos apos : Pos}
end
section
variable {X : Cx} {CL : Str -> Addr} {b : Bx} {δ δ1 δ2 : List (Option T)} {e e2 : Expr} {t : T} {tl Gg tt Qn : List T} {DD : cu} {fK : List Stmt} {x : Str} {i : Nat} {pos pp pa pb ps : Pos}
end
section
variable {X : Cx}
end
section
variable {X : Cx} {CL : Str -> Addr} {b : Bx} {δ δ1 δ2 : List (Option T)} {o e : Expr} {apos pos : Pos}
end
end L3
namespace Law
open PySem L2 L3
noncomputable def top (i : Nat) : Stmt := PySem.Challenge.pw_moodtree_k62_a_line_of_a_row.main.body.getD i (.Pass ⟨0, 0, 0, 0⟩)
noncomputable def qX : Nat -> List Int -> Int -> List Int
 | 0, _, _ => []
 | n + 1, es, k => if k = -1 then [] else k :: qX n es (es.getD k.toNat 0)
noncomputable def qe (es : List Int) (m : Int) : List Int := qX (es.length + 1) es (es.getD m.toNat 0)
noncomputable def iN (es : List Int) : Prop := ∀ k : Nat, k < es.length -> -1 <= es.getD k 0 /\ es.getD k 0 < k
theorem iN.at {es : List Int} (h : iN es) {k : Int} (h0 : 0 <= k) (h1 : k < es.length) : -1 <= es.getD k.toNat 0 /\ es.getD k.toNat 0 < k := by
 have := h k.toNat (by omega)
 omega
noncomputable def wI (ks : List Str) (es ss : List Int) : L3.D := .ins "Tree" [("kinds", .lst (ks.map .str)), ("elders", .lst (es.map .int)), ("starts", .lst (ss.map .int))]
theorem yz {ks : List Str} {es ss : List Int} : List.lookup ("kinds" : Str) [(("kinds" : Str), L3.D.lst (ks.map .str)), ("elders", .lst (es.map .int)), ("starts", .lst (ss.map .int))] = some (.lst (ks.map .str)) := fO
theorem wJ {ks : List Str} {es ss : List Int} : List.lookup ("elders" : Str) [(("kinds" : Str), L3.D.lst (ks.map .str)), ("elders", .lst (es.map .int)), ("starts", .lst (ss.map .int))] = some (.lst (es.map .int)) := by
 rw [b4 (by decide +kernel), fO]
theorem wK {ks : List Str} {es ss : List Int} : List.lookup ("starts" : Str) [(("kinds" : Str), L3.D.lst (ks.map .str)), ("elders", .lst (es.map .int)), ("starts", .lst (ss.map .int))] = some (.lst (ss.map .int)) := by
 rw [b4 (by decide +kernel), b4 (by decide +kernel), fO]
theorem dm (ds : List L3.D) : T.cZ (.lst (ds.map T.sh)) = .lst ds := by rw [T.cZ, fc]
theorem gA (l : List Int) : (T.lst ((l.map L3.D.int).map T.sh)).clean = true := by rw [gi]; exact wm _
theorem lJ (l : List Str) : (T.lst ((l.map L3.D.str).map T.sh)).clean = true := by
 rw [gi]
 induction l with
 | nil => rfl
 | cons x l ih => exact ih
noncomputable def pO (ks : List Str) (es ss : List Int) : List (Str × T) := [("kinds", .lst ((ks.map .str).map T.sh)), ("elders", .lst ((es.map .int).map T.sh)), ("starts", .lst ((ss.map .int).map T.sh))]
theorem BO (ks : List Str) (es ss : List Int) : T.cZ (.ins "Tree" (pO ks es ss)) = wI ks es ss := by
 unfold pO
 rw [T.cZ, T.kY, T.kY, T.kY, T.kY, dm, dm, dm]
 rfl
theorem pP (ks : List Str) (es ss : List Int) : T.aU (pO ks es ss) = true := by
 unfold pO
 rw [T.aU, T.aU, T.aU, T.aU, lJ, gA, gA]
 rfl
theorem ur {es : List Int} (h : iN es) : ∀ (n : Nat) {k x : Int}, -1 <= k -> k < es.length -> x ∈ qX n es k -> 0 <= x /\ x <= k
 | 0, k, x, _, _, hx => by rw [qX] at hx; cases hx
 | n + 1, k, x, h0, h1, hx => by
   rw [qX] at hx
   split at hx
   . cases hx
   . rename_i hk
     have ha := h.at (k := k) (by omega) h1
     rcases UA.mp hx with rfl | hx
     . omega
     . have := ur h n (by omega) (by omega) hx
       omega
theorem wL {es : List Int} (h : iN es) : ∀ (a b : Nat) {k : Int}, -1 <= k -> k < es.length -> k < a -> k < b -> qX a es k = qX b es k
 | 0, 0, _, _, _, _, _ => rfl
 | 0, b + 1, k, h0, _, ha, _ => by
   rw [qX, qX, UR (by omega)]
 | a + 1, 0, k, h0, _, _, hb => by
   rw [qX, qX, UR (by omega)]
 | a + 1, b + 1, k, h0, h1, ha, hb => by
   rw [qX, qX]
   split
   . rfl
   . have hk := h.at (k := k) (by omega) h1
     rw [wL h a b hk.1 (by omega) (by omega) (by omega)]
theorem Hx {es : List Int} (h : iN es) {m x : Int} (h0 : 0 <= m) (h1 : m < es.length) (hx : x ∈ qe es m) : 0 <= x /\ x < m /\ x < es.length := by
 have hm := h.at h0 h1
 have := ur h _ hm.1 (by omega) hx
 omega
noncomputable def Ek (es : List Int) : Prop := iN es /\ ∀ k : Nat, k + 1 < es.length -> es.getD (k + 1) 0 = k \/ es.getD (k + 1) 0 ∈ qe es k
theorem AV {es : List Int} {x : Int} (h : iN es) : ∀ (n : Nat) {k : Int}, -1 <= k -> k < es.length -> qX n (es ++ [x]) k = qX n es k
 | 0, _, _, _ => rfl
 | n + 1, k, h0, h1 => by
   rw [qX, qX]
   split
   . rfl
   . have hk := h.at (k := k) (by omega) h1
     have e : (es ++ [x]).getD k.toNat 0 = es.getD k.toNat 0 := by
       rw [UN, V5 (by omega), ← UN]
     rw [e, AV h n hk.1 (by omega)]
theorem qY {es : List Int} {x : Int} {k : Nat} (h : k < es.length) : (es ++ [x]).getD k 0 = es.getD k 0 := by
 rw [UN, V5 h, ← UN]
theorem Hy {es : List Int} {x : Int} (h : iN es) {m : Int} (h0 : 0 <= m) (h1 : m < es.length) : qe (es ++ [x]) m = qe es m := by
 have hm := h.at h0 h1
 unfold qe
 rw [qY (by omega), AV h _ hm.1 (by omega), wL h _ (es.length + 1) hm.1 (by omega) (by rw [UM]; omega) (by omega)]
theorem iN.snoc {es : List Int} (h : iN es) {x : Int} (h0 : -1 <= x) (h1 : x < es.length) : iN (es ++ [x]) := fun k hk => by
 rw [UM] at hk
 simp only [Vi, List.length_nil] at hk
 by_cases e : k < es.length
 . rw [qY e]
   exact h k e
 . have : k = es.length := by omega
   subst this
   rw [UN, VJ (UJ _)]
   simp
   omega
theorem Ek.snoc {es : List Int} (h : Ek es) {x : Int} {k : Nat} (hk : k + 1 = es.length) (hx : x = k \/ x ∈ qe es k) : Ek (es ++ [x]) := by
 have RP : -1 <= x /\ x < es.length := by
   rcases hx with e | e
   . omega
   . have := Hx h.1 (m := (k : Int)) (by omega) (by omega) e
     omega
 refine ⟨h.1.snoc RP.1 RP.2, fun j hj => ?_⟩
 rw [UM] at hj
 simp only [Vi, List.length_nil] at hj
 rw [Hy h.1 (by omega) (by omega)]
 by_cases e : j + 1 < es.length
 . rw [qY e]
   exact h.2 j e
 . have : j = k := by omega
   subst this
   have e2 : (es ++ [x]).getD (j + 1) 0 = x := by
     rw [UN, VJ (by omega), hk, Nat.sub_self]
     rfl
   rw [e2]
   exact hx
theorem uv : ∀ (n : Nat) (es : List Int) (k : Int), (qX n es k).length <= n
 | 0, _, _ => UJ _
 | n + 1, es, k => by
   rw [qX]
   split
   . exact U9 _
   . exact Nat.succ_le_succ (uv n es _)
noncomputable def vI (es : List Int) (m : Int) : List Int := ((List.range es.length).filter (fun (i : Nat) => decide (es.getD i 0 = m))).map (fun (i : Nat) => (i : Int))
theorem Hz (es : List Int) (m : Int) : (vI es m).length <= es.length := by
 unfold vI
 rw [Uz]
 exact U3 (List.length_filter_le _ _) (by simp)
noncomputable def qZ (bs nm : List L3.D) (tr : L3.D) (is os ws : List L3.D) : L3.D := .ins "Chart" [("boxes", .lst bs), ("names", .lst nm), ("tree", tr), ("ins", .lst is), ("outs", .lst os), ("ways", .lst ws)]
section
variable {bs nm is os ws : List L3.D} {tr : L3.D}
theorem pQ : List.lookup ("boxes" : Str) [(("boxes" : Str), L3.D.lst bs), ("names", .lst nm), ("tree", tr), ("ins", .lst is), ("outs", .lst os), ("ways", .lst ws)] = some (.lst bs) := fO
theorem gM : List.lookup ("names" : Str) [(("boxes" : Str), L3.D.lst bs), ("names", .lst nm), ("tree", tr), ("ins", .lst is), ("outs", .lst os), ("ways", .lst ws)] = some (.lst nm) := by
 rw [b4 (by decide +kernel), fO]
theorem yC : List.lookup ("tree" : Str) [(("boxes" : Str), L3.D.lst bs), ("names", .lst nm), ("tree", tr), ("ins", .lst is), ("outs", .lst os), ("ways", .lst ws)] = some tr := by
 rw [b4 (by decide +kernel), b4 (by decide +kernel), fO]
theorem BP : List.lookup ("ins" : Str) [(("boxes" : Str), L3.D.lst bs), ("names", .lst nm), ("tree", tr), ("ins", .lst is), ("outs", .lst os), ("ways", .lst ws)] = some (.lst is) := by
 rw [b4 (by decide +kernel), b4 (by decide +kernel), b4 (by decide +kernel), fO]
theorem yE : List.lookup ("outs" : Str) [(("boxes" : Str), L3.D.lst bs), ("names", .lst nm), ("tree", tr), ("ins", .lst is), ("outs", .lst os), ("ways", .lst ws)] = some (.lst os) := by
 rw [b4 (by decide +kernel), b4 (by decide +kernel), b4 (by decide +kernel), b4 (by decide +kernel), fO]
theorem yF : List.lookup ("ways" : Str) [(("boxes" : Str), L3.D.lst bs), ("names", .lst nm), ("tree", tr), ("ins", .lst is), ("outs", .lst os), ("ways", .lst ws)] = some (.lst ws) := by
 rw [b4 (by decide +kernel), b4 (by decide +kernel), b4 (by decide +kernel), b4 (by decide +kernel), b4 (by decide +kernel), fO]
end
noncomputable def n9 (bs nm : List L3.D) : List (Str × T) := [("boxes", .lst (bs.map T.sh)), ("names", .lst (nm.map T.sh))]
noncomputable def oh (is os ws : List L3.D) : List (Str × T) := [("ins", .lst (is.map T.sh)), ("outs", .lst (os.map T.sh)), ("ways", .lst (ws.map T.sh))]
noncomputable def i6 (bs nm : List L3.D) (t : T) (is os ws : List L3.D) : List (Str × T) := n9 bs nm ++ (("tree" : Str), t) :: oh is os ws
theorem yG (bs nm : List L3.D) (t : T) (is os ws : List L3.D) : T.cZ (.ins "Chart" (i6 bs nm t is os ws)) = qZ bs nm t.cZ is os ws := by
 unfold i6 n9 oh
 rw [Vb, Vb, List.nil_append, T.cZ, T.kY, T.kY, T.kY, T.kY, T.kY, T.kY, T.kY, dm, dm, dm, dm, dm]
 rfl
theorem bN {ds : List L3.D} (h : D.bf ds = true) : (T.lst (ds.map T.sh)).clean = true := by
 rw [gi]
 induction ds with
 | nil => rfl
 | cons d ds ih =>
   rw [D.bf, Vd] at h
   rw [U8, T.cJ, ih h.2, T.clean, h.1]; rfl
theorem uw {bs nm : List L3.D} (h1 : D.bf bs = true) (h2 : D.bf nm = true) : T.aU (n9 bs nm) = true := by
 unfold n9
 rw [T.aU, T.aU, T.aU, bN h1, bN h2]; rfl
theorem ux {is os ws : List L3.D} (h1 : D.bf is = true) (h2 : D.bf os = true) (h3 : D.bf ws = true) : T.aU (oh is os ws) = true := by
 unfold oh
 rw [T.aU, T.aU, T.aU, T.aU, bN h1, bN h2, bN h3]; rfl
noncomputable def jG (p : Str × Int) : L3.D := .tup [.str p.1, .int p.2]
noncomputable def cE (ns : List Int) (k : Int) : Int := if k < ns.length then ns.getD k.toNat 0 else 0
noncomputable def BQ : List Nat := (List.range 26).map (· + 97) ++ (List.range 10).map (· + 48)
theorem El : ("abcdefghijklmnopqrstuvwxyz0123456789" : Str).cps.toList = BQ := by decide +kernel
noncomputable def qf (k : Int) : Str := ⟨#[BQ.getD k.toNat 0]⟩
theorem K5 : ∀ n ∈ BQ, n < 1114112 := by decide +kernel
theorem Em (k : Int) : PyData.strOk (qf k) = true := by
 unfold PyData.strOk qf
 have : BQ.getD k.toNat 0 < 1114112 := by
   rw [UN]
   cases e : BQ[k.toNat]? with
   | none => decide
   | some n => exact K5 n (Vk e)
 simpa [List.getD_eq_getElem?_getD] using this
noncomputable def NR (m : Int) : Int := (m * 48271 + 11) % 2147483647
noncomputable def yH (p : Int × Str) : Nat -> Int × Str
 | 0 => p
 | n + 1 => (NR (yH p n).1, (yH p n).2 ++ qf (NR (yH p n).1 % 36))
theorem q8 (l : List Int) : kC 60 (.lst (l.map .int)) := .lst fun d hd => by
 obtain ⟨i, _, rfl⟩ := Vs.mp hd
 exact .int _ _
noncomputable def En (p : Int × Int) : L3.D := .tup [.int p.1, .int p.2]
theorem AW {l : List (Int × Int)} {j : Nat} {d : L3.D} (h : (l.map En)[j]? = some d) : ∃ p, l[j]? = some p /\ d = En p := by
 rw [Vu] at h
 cases e : l[j]? with
 | none => rw [e] at h; cases h
 | some p => rw [e] at h; exact ⟨p, rfl, (U4 h).symm⟩
theorem tD {α : Type} {l : List α} {j : Nat} {p : α} (h : l[j]? = some p) : l.take (j + 1) = l.take j ++ [p] := by
 rw [List.take_add_one, h]
 rfl
noncomputable def Gk : Nat -> Int -> Str -> Str
 | 0, _, x => x
 | n + 1, r, x => if 0 < r then Gk n (r / 36) (x ++ qf (r % 36)) else x
theorem AX : ∀ (n : Nat) (r : Int) (x : Str), (Gk n r x).length <= x.length + n
 | 0, r, x => UJ _
 | n + 1, r, x => by
   rw [Gk]
   split
   . have := AX n (r / 36) (x ++ qf (r % 36))
     rw [str_len] at this
     have e : (qf (r % 36)).length = 1 := rfl
     omega
   . omega
theorem Eo : ∀ (n : Nat) (r : Int) (x : Str), PyData.strOk x = true -> PyData.strOk (Gk n r x) = true
 | 0, r, x, h => h
 | n + 1, r, x, h => by
   rw [Gk]
   split
   . exact Eo n _ _ (KP _ _ h (Em _))
   . exact h
theorem HB (n : Nat) {r : Int} (x : Str) (h : ¬ 0 < r) : Gk n r x = x := by
 cases n with
 | zero => rfl
 | succ n => rw [Gk, UE h]
noncomputable def yI (m : Int) : Str := Gk 20 (m / 26) (qf (m % 26))
theorem Ep (m : Int) : (yI m).length <= 21 := by
 have := AX 20 (m / 26) (qf (m % 26))
 have e : (qf (m % 26)).length = 1 := rfl
 unfold yI
 omega
noncomputable def w19 : List Str := ["all", "and", "box", "call", "do", "far", "if", "in", "leaf", "near", "on", "one", "open", "out", "put", "say", "shut", "then", "to"]
noncomputable def K6 (m : Int) (us : List Str) (j : Nat) : Bool := !decide (yI (m + j) ∈ us) && !decide (yI (m + j) ∈ w19)
noncomputable def gO (m : Int) (us : List Str) : Str := match (List.range (us.length + 20)).find? (K6 m us) with
 | some j => yI (m + j)
 | none => ""
theorem BR (m : Int) (us : List Str) : (gO m us).length <= 21 := by
 unfold gO
 split
 . exact Ep _
 . exact U9 _
theorem Er (m : Int) (us : List Str) : PyData.strOk (gO m us) = true := by
 unfold gO
 split
 . exact Eo _ _ _ (Em _)
 . decide +kernel
theorem Es {m : Int} {us : List Str} {j : Nat} (hj : j < us.length + 20) (DB : ∀ i, i < j -> K6 m us i = false) (h : K6 m us j = true) : gO m us = yI (m + j) := by
 have e : (List.range (us.length + 20)).find? (K6 m us) = some j := by
   rw [List.find?_range_eq_some]
   exact ⟨h, V8.mpr hj, fun i hi => by rw [DB i hi]; rfl⟩
 unfold gO
 rw [e]
theorem Et {m : Int} {us : List Str} (DB : ∀ i, i < us.length + 20 -> K6 m us i = false) : gO m us = "" := by
 have e : (List.range (us.length + 20)).find? (K6 m us) = none := by
   rw [List.find?_eq_none]
   intro i hi
   rw [DB i (V8.mp hi)]
   exact UL
 unfold gO
 rw [e]
noncomputable def mX (c st : Int) : Nat -> List Str
 | 0 => []
 | n + 1 => mX c st n ++ [gO (c + n * st) (mX c st n)]
theorem rg (c st : Int) : ∀ n, (mX c st n).length = n
 | 0 => rfl
 | n + 1 => by rw [mX, UM, rg c st n]; rfl
theorem AY (c st : Int) : ∀ n, ∀ x ∈ mX c st n, x.length <= 21 /\ PyData.strOk x = true
 | 0, x, h => by cases h
 | n + 1, x, h => by
   rw [mX] at h
   rcases UY.mp h with h | h
   . exact AY c st n x h
   . cases UG.mp h
     exact ⟨BR _ _, Er _ _⟩
noncomputable def tE (s : List Int) : Int := ([1, 26, 936, 33696, 1213056] : List Int).getD (cE s 1 % 5).toNat 0
noncomputable def K7 (s : List Int) (n : Nat) : List Str := mX (cE s 0 % (26 * 36 ^ (10 : Int).toNat)) (tE s) n
theorem Eu (s : List Int) : 0 <= tE s /\ tE s <= 1213056 := by
 unfold tE
 have a := UT (cE s 1) (show (5 : Int) ≠ 0 by decide)
 have c := UK (cE s 1) (show (0 : Int) < 5 by decide)
 have : (cE s 1 % 5).toNat = 0 \/ (cE s 1 % 5).toNat = 1 \/ (cE s 1 % 5).toNat = 2 \/ (cE s 1 % 5).toNat = 3 \/ (cE s 1 % 5).toNat = 4 := by omega
 rcases this with e | e | e | e | e <;> rw [e] <;> decide
noncomputable def bX (es : List Int) (k : Nat) : List Int := if (12 : Int) < (([(k : Int)] ++ qe es k).length : Nat) then cutD ([(k : Int)] ++ qe es k) (some 1) none else [(k : Int)] ++ qe es k
theorem pR {es : List Int} {k : Nat} (h : iN es) (hk : k + 1 = es.length) : 0 < (bX es k).length /\ (bX es k).length <= es.length + 2 /\ ∀ x ∈ bX es k, 0 <= x /\ x < es.length := by
 have hm : ∀ x ∈ [(k : Int)] ++ qe es k, 0 <= x /\ x < es.length := fun x hx => by
   rcases UY.mp hx with h1 | h1
   . have : x = k := UG.mp h1
     omega
   . have ha := h.at (k := (k : Int)) (by omega) (by omega)
     have := ur h _ ha.1 (by omega) h1
     omega
 have hl : ([(k : Int)] ++ qe es k).length <= es.length + 2 := by
   have := uv (es.length + 1) es (es.getD (k : Int).toNat 0)
   rw [UM]
   unfold qe
   rw [U0]
   omega
 unfold bX
 split
 . rename_i QG
   have e : cutD ([(k : Int)] ++ qe es k) (some 1) none = qe es k := by
     generalize qe es k = l at QG
     unfold cutD
     have h1 : HT.dD ([(k : Int)] ++ l).length 0 (some 1) = 1 := by
       rw [UM] at QG ⊢
       rw [U0] at QG ⊢
       unfold HT.dD
       simp
     have h2 : HT.dD ([(k : Int)] ++ l).length ([(k : Int)] ++ l).length none = ([(k : Int)] ++ l).length := rfl
     rw [h1, h2]
     simp
   rw [e]
   have T6 := UM (as := [(k : Int)]) (bs := qe es k)
   rw [U0] at T6
   exact ⟨by omega, by omega, fun x hx => hm x (UB _ hx)⟩
 . exact ⟨by rw [UM, U0]; omega, hl, hm⟩
theorem getD_mem {l : List Int} {n : Nat} (h : n < l.length) : l.getD n 0 ∈ l := by
 rw [UN, Vf h]
 exact List.getElem_mem h
noncomputable def mY (es : List Int) (p : Int × Int) : List Int := if p.1 % 8 < 3 then es ++ [(bX es (es.length - 1)).getD (p.1 / 8 % ((bX es (es.length - 1)).length : Nat)).toNat 0] else es
noncomputable def HC (l : List (Int × Int)) : List Int := l.foldl mY [-1]
theorem HD {es : List Int} (p : Int × Int) (h : iN es) (h0 : 0 < es.length) : iN (mY es p) /\ (mY es p).length = es.length + (if p.1 % 8 < 3 then 1 else 0) := by
 unfold mY
 split
 . obtain ⟨r1, r2, r3⟩ := pR (k := es.length - 1) h (by omega)
   have b1 := UT (p.1 / 8) (b := ((bX es (es.length - 1)).length : Nat)) (by omega)
   have b2 := UK (p.1 / 8) (b := ((bX es (es.length - 1)).length : Nat)) (by omega)
   have hx := r3 _ (getD_mem (l := bX es (es.length - 1)) (n := (p.1 / 8 % ((bX es (es.length - 1)).length : Nat)).toNat) (by omega))
   refine ⟨h.snoc (by omega) hx.2, ?_⟩
   rw [UM, U0]
 . exact ⟨h, rfl⟩
noncomputable def jQ : List (Int × Int) -> Nat
 | [] => 0
 | p :: r => (if p.1 % 8 < 3 then 1 else 0) + jQ r
theorem uy : ∀ (l : List (Int × Int)) (es : List Int), iN es -> 0 < es.length -> iN (l.foldl mY es) /\ (l.foldl mY es).length = es.length + jQ l
 | [], es, h, h0 => ⟨h, rfl⟩
 | p :: r, es, h, h0 => by
   obtain ⟨a, c⟩ := HD p h h0
   obtain ⟨a2, c2⟩ := uy r (mY es p) a (by omega)
   refine ⟨a2, ?_⟩
   rw [List.foldl_cons, c2, c, jQ]
   omega
theorem wM : iN [-1] := fun k hk => by
 have : k = 0 := by
   rw [U0] at hk
   omega
 subst this
 exact ⟨Int.le_refl _, show (-1 : Int) < ((0 : Nat) : Int) by decide⟩
theorem kG : ∀ l : List (Int × Int), jQ l <= l.length
 | [] => UJ _
 | p :: r => by
   have := kG r
   rw [jQ, Vi]
   split <;> omega
theorem HF (l : List (Int × Int)) : iN (HC l) /\ (HC l).length = 1 + jQ l := uy l [-1] wM (VQ 0)
noncomputable def oi (l : List (Int × Int)) : List Int := (l.filter fun p => decide (p.1 % 8 < 3)).map (·.2)
theorem lK : ∀ l : List (Int × Int), (oi l).length = jQ l
 | [] => rfl
 | p :: r => by
   have := lK r
   unfold oi at this ⊢
   rw [jQ, List.filter_cons]
   split
   . rename_i h
     rw [UR (UX h), U8, Vi, this]
     omega
   . rename_i h
     rw [UE (fun z => h (decide_eq_true z)), this]
     omega
noncomputable def kindB (es cs : List Int) (k : Nat) : Str := if vI es k = [] then "leaf" else if cs.getD k 0 % 2 = 1 then "all" else "one"
noncomputable def lg (es cs : List Int) (k : Nat) : Int := if vI es k = [] then -1 else if cs.getD k 0 % 2 = 1 then -1 else (vI es k).getD (cs.getD k 0 / 2 % ((vI es k).length : Nat)).toNat 0
noncomputable def eW (es cs : List Int) (n : Nat) : List Str := (List.range n).map (kindB es cs)
noncomputable def eX (es cs : List Int) (n : Nat) : List Int := (List.range n).map (lg es cs)
theorem rj (es cs : List Int) (n : Nat) : (eW es cs n).length = n := by rw [eW, Uz, Vj]
theorem rm (es cs : List Int) (n : Nat) : (eX es cs n).length = n := by rw [eX, Uz, Vj]
theorem jR (es cs : List Int) (n : Nat) {x : Str} (h : x = kindB es cs n) : ((eW es cs n).map L3.D.str).map T.sh ++ [T.sh (.str x)] = ((eW es cs (n + 1)).map L3.D.str).map T.sh := by
 subst h
 rw [eW, eW, List.range_succ, Vh, Vh, Vh]
 rfl
theorem wN (es cs : List Int) (n : Nat) {x : Int} (h : x = lg es cs n) : ((eX es cs n).map L3.D.int).map T.sh ++ [T.sh (.int x)] = ((eX es cs (n + 1)).map L3.D.int).map T.sh := by
 subst h
 rw [eX, eX, List.range_succ, Vh, Vh, Vh]
 rfl
noncomputable def Sm : Nat -> L3.D -> Prop
 | _, .int _ => True
 | _, .str _ => True
 | n + 1, .lst ds => ds.length <= 1000 /\ ∀ d ∈ ds, Sm n d
 | n + 1, .tup ds => ds.length <= 1000 /\ ∀ d ∈ ds, Sm n d
 | _, _ => False
theorem uz {ds : List L3.D} {j : Nat} (h : j < ds.length) : sC ds (j : Int) = some ds[j] := qq (Vf h)
noncomputable def i7 (bs : List L3.D) (ns ks : List Str) (es ss : List Int) (is os ws : List L3.D) : L3.D := .lst [.lst bs, .lst (ns.map .str), .lst (ks.map .str), .lst (es.map .int), .lst (ss.map .int), .lst is, .lst os, .lst ws]
theorem AZ (n : Nat) (l : List Str) (h : l.length <= 1000) : Sm (n + 1) (.lst (l.map .str)) := by
 refine ⟨by rw [Uz]; exact h, fun d hd => ?_⟩
 obtain ⟨x, _, rfl⟩ := Vs.mp hd
 cases n <;> trivial
theorem A0 (n : Nat) (l : List Int) (h : l.length <= 1000) : Sm (n + 1) (.lst (l.map .int)) := by
 refine ⟨by rw [Uz]; exact h, fun d hd => ?_⟩
 obtain ⟨x, _, rfl⟩ := Vs.mp hd
 cases n <;> trivial
structure mZ (P : L3.D -> Prop) (d : L3.D) : Prop where
 im : d.ic = true
 sm : ∀ n, Sm (n + 2) d
 dp : ∀ n, kC (n + 2) d
 pr : P d
noncomputable def rq (nb : Nat) (d : L3.D) : Prop := ∃ a c : Int, d = .tup [.int a, .int c] /\ (a = -1 \/ (0 <= a /\ a < nb)) /\ c.natAbs < 10 ^ 30
noncomputable def oj (nb : Nat) (d : L3.D) : Prop := (∃ n : Str, d = .tup [.str "call", .str n] /\ n.length <= 21) \/ (∃ (k : Int) (t : L3.D), d = .tup [.str "put", .int k, t] /\ (0 <= k /\ k < nb) /\ rq nb t) \/ (∃ (n : Str) (t : L3.D), d = .tup [.str "say", .str n, t] /\ n.length <= 21 /\ rq nb t)
noncomputable def I0 (nb nm : Nat) (d : L3.D) : Prop := (∃ (w : Str) (k : Int), d = .tup [.str w, .int k] /\ (w = "open" \/ w = "shut") /\ 0 <= k /\ k < nm) \/ (∃ (w : Str) (s t : L3.D), d = .tup [.str w, s, t] /\ w ∈ (["<", "<=", "=", "!="] : List Str) /\ rq nb s /\ rq nb t)
inductive qg where
 | io (w : Str) (m : Int)
 | keep (m o t : Int)
 | put (k x y : Int)
 | say (w : Str) (n : Int)
 | num (w : Str) (n : Int)
 | txt (w x : Str)
noncomputable def qg.d : qg -> L3.D
 | .io w m => .tup [.str w, .int m]
 | .keep m o t => .tup [.str "keep", .int m, .int o, .int t]
 | .put k x y => .tup [.str "put", .int k, .int x, .int y]
 | .say w n => .tup [.str "say", .str w, .int n]
 | .num w n => .tup [.str w, .int n]
 | .txt w x => .tup [.str w, .str x]
noncomputable def L8 (bs : List (Str × Int)) (k : Int) : Str := (bs.getD k.toNat (Str.empty, 0)).1
noncomputable def HG (bs : List (Str × Int)) (ns : List Str) : qg -> List Str
 | .io w m => [w, ns.getD m.toNat Str.empty]
 | .keep m o t => ["keep", ns.getD m.toNat Str.empty, ns.getD t.toNat Str.empty]
 | .put k x y => ["put", L8 bs k, Str.ofString (toString x), Str.ofString (toString y)]
 | .say w n => ["say", w, Str.ofString (toString n)]
 | .num w n => [w, Str.ofString (toString n)]
 | .txt w x => [w, x]
noncomputable def NS (bs : List (Str × Int)) (ns : List Str) (r : qg) : Str := Txt.join " " (HG bs ns r)
noncomputable def tF (bs : List (Str × Int)) (ns : List Str) : qg -> Prop
 | .io w m => (w = "in" \/ w = "out") /\ 0 <= m /\ m < ns.length
 | .keep m o t => (0 <= m /\ m < ns.length) /\ 0 <= t /\ t < ns.length
 | .put k x y => (0 <= k /\ k < bs.length) /\ x.natAbs.log2 < 1920 /\ y.natAbs.log2 < 1920
 | .say w n => w.length <= 21 /\ n.natAbs.log2 < 1920
 | .num w n => (w = "way" \/ w = "rest") /\ n.natAbs.log2 < 1920
 | .txt w x => (w = "sign" \/ w = "call") /\ x.length <= 21
theorem join_eq (l : List Str) : Txt.join " " l = Str.join " " l := StrLaws.glued_eq_join _ _
theorem HJ {l : List Str} (h : (l.map (·.length)).sum + l.length <= 100000) : JoinOk " " l = true := by
 unfold JoinOk
 rw [StrLaws.joinTotal, Bool.not_eq_true']
 have e : (" " : Str).length = 1 := rfl
 rw [e, Nat.mul_one]
 refine Vv ?_
 rw [VP]
 omega
theorem A1 {bs : List (Str × Int)} {ns : List Str} {r : qg} (h1 : ∀ x ∈ ns, x.length <= 21) (h2 : ∀ p ∈ bs, p.1.length <= 21) (hr : tF bs ns r) : ∀ x ∈ HG bs ns r, x.length <= 2000 := by
 have hn : ∀ k : Int, (ns.getD k.toNat Str.empty).length <= 21 := fun k => by
   rw [UN]
   cases e : ns[k.toNat]? with
   | none => exact U9 _
   | some x => exact h1 x (Vk e)
 have hb : ∀ k : Int, (L8 bs k).length <= 21 := fun k => by
   unfold L8
   rw [UN]
   cases e : bs[k.toNat]? with
   | none => exact U9 _
   | some x => exact h2 x (Vk e)
 cases r with
 | io w m =>
   intro x hx
   rcases UA.mp hx with rfl | hx
   . rcases hr.1 with rfl | rfl <;> decide +kernel
   . cases UG.mp hx
     exact U3 (hn m) (by decide)
 | keep m o t =>
   intro x hx
   rcases UA.mp hx with rfl | hx
   . decide +kernel
   rcases UA.mp hx with rfl | hx
   . exact U3 (hn m) (by decide)
   . cases UG.mp hx
     exact U3 (hn t) (by decide)
 | put k a c =>
   intro x hx
   rcases UA.mp hx with rfl | hx
   . decide +kernel
   rcases UA.mp hx with rfl | hx
   . exact U3 (hb k) (by decide)
   rcases UA.mp hx with rfl | hx
   . exact U3 (VD hr.2.1) (by decide)
   . cases UG.mp hx
     exact U3 (VD hr.2.2) (by decide)
 | say w n =>
   intro x hx
   rcases UA.mp hx with rfl | hx
   . decide +kernel
   rcases UA.mp hx with rfl | hx
   . exact U3 hr.1 (by decide)
   . cases UG.mp hx
     exact U3 (VD hr.2) (by decide)
 | num w n =>
   intro x hx
   rcases UA.mp hx with rfl | hx
   . rcases hr.1 with rfl | rfl <;> decide +kernel
   . cases UG.mp hx
     exact U3 (VD hr.2) (by decide)
 | txt w y =>
   intro x hx
   rcases UA.mp hx with rfl | hx
   . rcases hr.1 with rfl | rfl <;> decide +kernel
   . cases UG.mp hx
     exact U3 hr.2 (by decide)
theorem K8 {l : List Str} (h : ∀ x ∈ l, x.length <= 2000) : (l.map (·.length)).sum <= l.length * 2000 := by
 induction l with
 | nil => exact UJ _
 | cons x l ih =>
   have a := h x UD
   have c := ih fun y hy => h y (UC _ hy)
   rw [U8, List.sum_cons, Vi]
   omega
theorem HK (bs : List (Str × Int)) (ns : List Str) (r : qg) : (HG bs ns r).length <= 4 := by
 cases r <;> exact UI rfl
theorem BU {bs : List (Str × Int)} {ns : List Str} {r : qg} (h1 : ∀ x ∈ ns, x.length <= 21) (h2 : ∀ p ∈ bs, p.1.length <= 21) (hr : tF bs ns r) : JoinOk " " (HG bs ns r) = true := by
 have a := K8 (A1 h1 h2 hr)
 have c := HK bs ns r
 exact HJ (by omega)
theorem Ew (a c : Str) : Txt.join " " [a, c] = a ++ " " ++ c := by rw [join_eq]; rfl
theorem Ex (a c d : Str) : Txt.join " " [a, c, d] = a ++ " " ++ c ++ " " ++ d := by
 rw [join_eq]
 show a ++ " " ++ (c ++ " " ++ d) = _
 rw [VW (a ++ " ") c " ", VW (a ++ " ") (c ++ " ") d]
theorem NT (a c d e : Str) : Txt.join " " [a, c, d, e] = a ++ " " ++ c ++ " " ++ d ++ " " ++ e := by
 have := Ex c d e
 rw [join_eq] at this ⊢
 show a ++ " " ++ Str.join " " [c, d, e] = _
 rw [this]
 rw [VW (a ++ " ") c " ", VW (a ++ " ") (c ++ " ") d, VW (a ++ " ") (c ++ " " ++ d) " ", VW (a ++ " ") (c ++ " " ++ d ++ " ") e]
noncomputable def uA (c : Int) : Int := if c % 2 = 1 then 0 - c / 2 % 10 ^ (30 : Int).toNat else c / 2 % 10 ^ (30 : Int).toNat
noncomputable def K9 (p c : Int) (n : Nat) : L3.D := .tup [.int (p % ((n : Int) + 1) - 1), .int (uA c)]
noncomputable def HL (c : Int) (n : Nat) : Int := c % ((n : Int) + 1) - 1
noncomputable def Ey (a c : Int) (n : Nat) : Str := if HL c n = -1 then "new" else (["new", "near", "far"] : List Str).getD (a / 8 % 3).toNat Str.empty
noncomputable def Ez (a c src : Int) (n : Nat) (ns : List Str) : L3.D := .tup [.int src, .str (ns.getD (a / 24 % (ns.length : Int)).toNat Str.empty), .tup [], .tup [], .int (HL c n), .str (Ey a c n)]
noncomputable def uB (a c : Int) (n m : Nat) : L3.D := if a / 8 % 6 > 3 then .tup [.str ((["open", "shut"] : List Str).getD (a / 8 % 6 - 4).toNat Str.empty), .int (c % (m : Int))]
 else .tup [.str ((["<", "<=", "=", "!="] : List Str).getD (a / 8 % 6).toNat Str.empty), K9 (a / 8 / 6) c n, K9 (a / 8 / 24) (c * 48271 % 2147483647) n]
noncomputable def gP (a c : Int) (n : Nat) (ns : List Str) : L3.D := if a / 8 % 3 = 0 then .tup [.str "call", .str (ns.getD (c % (ns.length : Int)).toNat Str.empty)]
 else if a / 8 % 3 = 1 /\ 0 < n then .tup [.str "put", .int (a / 24 / 4 % (n : Int)), K9 (a / 24) (c / 3) n] else .tup [.str "say", .str (ns.getD (c % (ns.length : Int)).toNat Str.empty), K9 (a / 24) (c / 3) n]
structure WY where
 src : Int
 sg : Str
 qs : List L3.D
 ds : List L3.D
 tg : Int
 md : Str
noncomputable def WY.d (w : WY) : L3.D := .tup [.int w.src, .str w.sg, .tup w.qs, .tup w.ds, .int w.tg, .str w.md]
structure OW where
 is : List (List L3.D)
 os : List (List L3.D)
 ws : List WY
noncomputable def Ma : WY := ⟨0, Str.empty, [], [], 0, Str.empty⟩
noncomputable def QH (a c src : Int) (n : Nat) (ns : List Str) : WY := ⟨src, ns.getD (a / 24 % (ns.length : Int)).toNat Str.empty, [], [], HL c n, Ey a c n⟩
noncomputable def fD (l : List WY) : WY := l.getD (l.length - 1) Ma
noncomputable def iO (l : List (List L3.D)) (d : L3.D) : List (List L3.D) := l.set (l.length - 1) (l.getD (l.length - 1) [] ++ [d])
noncomputable def iP (nb nm : Nat) (ns : List Str) (o : OW) (p : Int × Int) : OW :=
 if p.1 % 8 < 3 then ⟨o.is ++ [[]], o.os ++ [[]], o.ws⟩
 else if p.1 % 8 = 3 then ⟨iO o.is (gP p.1 p.2 nb ns), o.os, o.ws⟩
 else if p.1 % 8 = 4 then ⟨o.is, iO o.os (gP p.1 p.2 nb ns), o.ws⟩
 else if p.1 % 8 = 5 \/ o.ws = [] \/ (fD o.ws).src ≠ (o.is.length : Int) - 1 then ⟨o.is, o.os, o.ws ++ [QH p.1 p.2 ((o.is.length : Int) - 1) nm ns]⟩
 else if p.1 % 8 = 6 then ⟨o.is, o.os, o.ws.set (o.ws.length - 1) { fD o.ws with qs := (fD o.ws).qs ++ [uB p.1 p.2 nb nm] }⟩
 else ⟨o.is, o.os, o.ws.set (o.ws.length - 1) { fD o.ws with ds := (fD o.ws).ds ++ [gP p.1 p.2 nb ns] }⟩
noncomputable def EA : OW := ⟨[[]], [[]], []⟩
structure Ja (nm : Nat) (w : WY) : Prop where
 s1 : PyData.strOk w.sg = true
 s2 : PyData.strOk w.md = true
 s3 : w.sg.length <= 21
 tg : w.tg = -1 /\ w.md = "new" \/ (0 <= w.tg /\ w.tg < nm) /\ w.md ∈ (["new", "near", "far"] : List Str)
structure jS (nb nm m k : Nat) (w : WY) : Prop where
 l3 : w.qs.length + w.ds.length <= k
 g1 : ∀ d ∈ w.qs, mZ (I0 nb nm) d
 g2 : ∀ d ∈ w.ds, mZ (oj nb) d
 fin : Ja nm w
 sr : 0 <= w.src /\ w.src < m
structure gB (P : L3.D -> Prop) (k : Nat) (l : List L3.D) : Prop where
 l1 : l.length <= k
 g1 : ∀ d ∈ l, mZ P d
structure wO (nb nm k : Nat) (o : OW) : Prop where
 n0 : 0 < o.is.length
 n1 : o.is.length <= k + 1
 n2 : o.os.length = o.is.length
 ii : ∀ l ∈ o.is, gB (oj nb) k l
 oo : ∀ l ∈ o.os, gB (oj nb) k l
 wl : o.ws.length <= k
 ww : ∀ w ∈ o.ws, jS nb nm o.is.length k w
theorem jS.up {nb nm m m2 k : Nat} {w : WY} (h : jS nb nm m k w) (hm : m <= m2) : jS nb nm m2 (k + 1) w := ⟨Vp h.l3, h.g1, h.g2, h.fin, h.sr.1, by have := h.sr.2; omega⟩
theorem jS.l1 {nb nm m k : Nat} {w : WY} (h : jS nb nm m k w) : w.qs.length <= k := by have := h.l3; omega
theorem jS.l2 {nb nm m k : Nat} {w : WY} (h : jS nb nm m k w) : w.ds.length <= k := by have := h.l3; omega
theorem gB.up {P : L3.D -> Prop} {k : Nat} {l : List L3.D} (h : gB P k l) : gB P (k + 1) l := ⟨Vp h.l1, h.g1⟩
theorem gB.add {P : L3.D -> Prop} {k : Nat} {l : List L3.D} {d : L3.D} (h : gB P k l) (g : mZ P d) : gB P (k + 1) (l ++ [d]) := by
 refine ⟨?_, fun x hx => ?_⟩
 . have := h.l1
   rw [UM, U0]
   omega
 . rcases UY.mp hx with hx | hx
   . exact h.g1 x hx
   . cases UG.mp hx
     exact g
theorem gB.nil (P : L3.D -> Prop) (k : Nat) : gB P k [] := ⟨U9 _, fun x hx => by cases hx⟩
theorem m5 {α : Type} {l : List α} (z : α) (h : 0 < l.length) : l.getD (l.length - 1) z ∈ l := by
 rw [UN, Vf (by omega)]
 exact List.getElem_mem _
theorem wQ {P : L3.D -> Prop} {k : Nat} {l : List (List L3.D)} {d : L3.D} (h0 : 0 < l.length) (h : ∀ x ∈ l, gB P k x) (g : mZ P d) : ∀ x ∈ iO l d, gB P (k + 1) x := fun x hx => by
 rcases List.mem_or_eq_of_mem_set hx with hx | rfl
 . exact (h x hx).up
 . exact (h _ (m5 [] h0)).add g
theorem qy (n : Nat) (p c : Int) (nb : Nat) : Sm (n + 1) (K9 p c nb) := by
 refine ⟨by show (2 : Nat) <= 1000; decide, fun d hd => ?_⟩
 rcases UA.mp hd with rfl | hd
 . cases n <;> trivial
 . cases UG.mp hd
   cases n <;> trivial
theorem qz (n : Nat) (p c : Int) (nb : Nat) : kC (n + 1) (K9 p c nb) := by
 refine .tup fun d hd => ?_
 rcases UA.mp hd with rfl | hd
 . exact .int _ _
 . cases UG.mp hd
   exact .int _ _
theorem good2 {P : L3.D -> Prop} {x y : L3.D} (hP : P (.tup [x, y])) (a : x.ic = true) (a2 : y.ic = true) (c : ∀ n, Sm (n + 1) x) (c2 : ∀ n, Sm (n + 1) y) (e : ∀ n, kC (n + 1) x) (e2 : ∀ n, kC (n + 1) y) : mZ P (.tup [x, y]) := by
 refine ⟨?_, fun n => ⟨by show (2 : Nat) <= 1000; decide, fun d hd => ?_⟩, fun n => .tup fun d hd => ?_, hP⟩
 . rw [L3.D.ic, D.bf, D.bf, D.bf, a, a2]; rfl
 . rcases UA.mp hd with rfl | hd
   . exact c n
   . cases UG.mp hd
     exact c2 n
 . rcases UA.mp hd with rfl | hd
   . exact e n
   . cases UG.mp hd
     exact e2 n
theorem good3 {P : L3.D -> Prop} {x y z : L3.D} (hP : P (.tup [x, y, z])) (a : x.ic = true) (a2 : y.ic = true) (a3 : z.ic = true) (c : ∀ n, Sm (n + 1) x) (c2 : ∀ n, Sm (n + 1) y) (c3 : ∀ n, Sm (n + 1) z) (e : ∀ n, kC (n + 1) x) (e2 : ∀ n, kC (n + 1) y) (e3 : ∀ n, kC (n + 1) z) : mZ P (.tup [x, y, z]) := by
 refine ⟨?_, fun n => ⟨by show (3 : Nat) <= 1000; decide, fun d hd => ?_⟩, fun n => .tup fun d hd => ?_, hP⟩
 . rw [L3.D.ic, D.bf, D.bf, D.bf, D.bf, a, a2, a3]; rfl
 . rcases UA.mp hd with rfl | hd
   . exact c n
   rcases UA.mp hd with rfl | hd
   . exact c2 n
   . cases UG.mp hd
     exact c3 n
 . rcases UA.mp hd with rfl | hd
   . exact e n
   rcases UA.mp hd with rfl | hd
   . exact e2 n
   . cases UG.mp hd
     exact e3 n
theorem lM (n : Nat) (x : Str) : Sm (n + 1) (.str x) := trivial
theorem EB (n : Nat) (x : Int) : Sm (n + 1) (.int x) := trivial
theorem kH {l : List Str} (h : ∀ x ∈ l, PyData.strOk x = true) (k : Nat) : PyData.strOk (l.getD k Str.empty) = true := by
 rw [UN]
 cases e : l[k]? with
 | none => decide +kernel
 | some x => exact h x (Vk e)
theorem rz {l : List Str} (h : ∀ x ∈ l, x.length <= 21) (k : Nat) : (l.getD k Str.empty).length <= 21 := by
 rw [UN]
 cases e : l[k]? with
 | none => exact U9 _
 | some x => exact h x (Vk e)
theorem La (c : Int) : (uA c).natAbs < 10 ^ 30 := by
 have a := UT (c / 2) (show (10 ^ (30 : Int).toNat : Int) ≠ 0 by decide +kernel)
 have d := UK (c / 2) (show (0 : Int) < 10 ^ (30 : Int).toNat by decide +kernel)
 have e : (10 ^ (30 : Int).toNat : Int) = ((10 ^ 30 : Nat) : Int) := by decide +kernel
 unfold uA
 generalize (10 ^ (30 : Int).toNat : Int) = z at a d e ⊢
 generalize (10 ^ 30 : Nat) = y at e ⊢
 split <;> omega
theorem qA (p c : Int) (nb : Nat) : rq nb (K9 p c nb) := by
 have a := UT p (show ((nb : Int) + 1) ≠ 0 by omega)
 have d := UK p (show (0 : Int) < (nb : Int) + 1 by omega)
 exact ⟨_, _, rfl, by omega, La c⟩
structure BV (ns : List Str) : Prop where
 ln : ∀ x ∈ ns, x.length <= 21
 ok : ∀ x ∈ ns, PyData.strOk x = true
theorem gj (a c : Int) (nb : Nat) {ns : List Str} (h : BV ns) : mZ (oj nb) (gP a c nb ns) := by
 unfold gP
 split
 . exact good2 (.inl ⟨_, rfl, rz h.ln _⟩) rfl rfl (fun n => lM n _) (fun n => lM n _) (fun n => .str _ _ (by decide +kernel)) (fun n => .str _ _ (kH h.ok _))
 split
 . rename_i hb
   exact good3 (.inr (.inl ⟨_, _, rfl, ⟨UT _ (by omega), UK _ (by omega)⟩, qA _ _ _⟩)) rfl rfl rfl (fun n => lM n _) (fun n => EB n _) (fun n => qy n _ _ _) (fun n => .str _ _ (by decide +kernel)) (fun n => .int _ _) (fun n => qz n _ _ _)
 . exact good3 (.inr (.inr ⟨_, _, rfl, rz h.ln _, qA _ _ _⟩)) rfl rfl rfl (fun n => lM n _) (fun n => lM n _) (fun n => qy n _ _ _) (fun n => .str _ _ (by decide +kernel)) (fun n => .str _ _ (kH h.ok _)) (fun n => qz n _ _ _)
theorem yJ {l : List Str} {k : Nat} (h : k < l.length) : l.getD k Str.empty ∈ l := by
 rw [UN, Vf h]
 exact List.getElem_mem h
theorem wR (a c : Int) (nb : Nat) {nm : Nat} (h : 0 < nm) : mZ (I0 nb nm) (uB a c nb nm) := by
 have q1 := UT (a / 8) (show (6 : Int) ≠ 0 by decide)
 have q2 := UK (a / 8) (show 0 < (6 : Int) by decide)
 unfold uB
 split
 . refine good2 (.inl ⟨_, _, rfl, ?_, UT _ (by omega), UK _ (by omega)⟩) rfl rfl (fun n => lM n _) (fun n => EB n _) (fun n => .str _ _ (kH (by decide +kernel) _)) (fun n => .int _ _)
   have := yJ (l := ["open", "shut"]) (k := (a / 8 % 6 - 4).toNat) (by show _ < 2; omega)
   rcases UA.mp this with e | e
   . exact .inl e
   . exact .inr (UG.mp e)
 . exact good3 (.inr ⟨_, _, _, rfl, yJ (l := ["<", "<=", "=", "!="]) (by show _ < 4; omega), qA _ _ _, qA _ _ _⟩) rfl rfl rfl (fun n => lM n _) (fun n => qy n _ _ _) (fun n => qy n _ _ _) (fun n => .str _ _ (kH (by decide +kernel) _)) (fun n => qz n _ _ _) (fun n => qz n _ _ _)
theorem Lb (a c : Int) (n : Nat) : PyData.strOk (Ey a c n) = true := by
 unfold Ey
 split
 . decide +kernel
 . exact kH (by decide +kernel) _
theorem HM (a c src : Int) {nm : Nat} {ns : List Str} (h : BV ns) : Ja nm (QH a c src nm ns) := by
 have m0 := UT c (show ((nm : Int) + 1) ≠ 0 by omega)
 have m1 := UK c (show (0 : Int) < (nm : Int) + 1 by omega)
 have q1 := UT (a / 8) (show (3 : Int) ≠ 0 by decide)
 have q2 := UK (a / 8) (show 0 < (3 : Int) by decide)
 refine ⟨kH h.ok _, Lb _ _ _, rz h.ln _, ?_⟩
 show HL c nm = -1 /\ Ey a c nm = "new" \/ (0 <= HL c nm /\ HL c nm < nm) /\ Ey a c nm ∈ (["new", "near", "far"] : List Str)
 unfold Ey
 split
 . rename_i e
   exact .inl ⟨e, rfl⟩
 . rename_i e
   refine .inr ⟨?_, yJ (l := ["new", "near", "far"]) (by show _ < 3; omega)⟩
   unfold HL at e ⊢
   omega
theorem EC {nb nm m k j : Nat} {l : List WY} {w : WY} (h : ∀ x ∈ l, jS nb nm m k x) (hw : jS nb nm m (k + 1) w) : ∀ x ∈ l.set j w, jS nb nm m (k + 1) x := fun x hx => by
 rcases List.mem_or_eq_of_mem_set hx with hx | rfl
 . exact (h x hx).up (UJ _)
 . exact hw
theorem uC {α : Type} {P : α -> Prop} {l : List α} {y : α} (h : ∀ x ∈ l, P x) (hy : P y) : ∀ x ∈ l ++ [y], P x := fun x hx => by
 rcases UY.mp hx with hx | hx
 . exact h x hx
 . cases UG.mp hx
   exact hy
theorem HN {k nb nm : Nat} {ns : List Str} {o : OW} (p : Int × Int) (hn : BV ns) (hm : 0 < nm) (h : wO nb nm k o) : wO nb nm (k + 1) (iP nb nm ns o p) := by
 obtain ⟨n0, n1, n2, ii, oo, wl, ww⟩ := h
 have iu : ∀ l ∈ o.is, gB (oj nb) (k + 1) l := fun l hl => (ii l hl).up
 have ou : ∀ l ∈ o.os, gB (oj nb) (k + 1) l := fun l hl => (oo l hl).up
 have wu : ∀ w ∈ o.ws, jS nb nm o.is.length (k + 1) w := fun w hw => (ww w hw).up (UJ _)
 unfold iP
 split
 . have e1 : (o.is ++ [[]]).length = o.is.length + 1 := by rw [UM, U0]
   refine ⟨?_, ?_, ?_, uC iu (gB.nil _ _), uC ou (gB.nil _ _), Vp wl, fun w hw => (ww w hw).up ?_⟩
   . show 0 < (o.is ++ [[]]).length
     omega
   . show (o.is ++ [[]]).length <= _
     omega
   . show (o.os ++ [[]]).length = (o.is ++ [[]]).length
     rw [UM, UM, n2]
   . show o.is.length <= (o.is ++ [[]]).length
     omega
 split
 . have e1 : (iO o.is (gP p.1 p.2 nb ns)).length = o.is.length := by rw [iO, List.length_set]
   refine ⟨?_, ?_, ?_, wQ n0 ii (gj _ _ _ hn), ou, Vp wl, fun w hw => (ww w hw).up ?_⟩
   . show 0 < (iO o.is _).length
     omega
   . show (iO o.is _).length <= _
     omega
   . show o.os.length = (iO o.is _).length
     omega
   . show o.is.length <= (iO o.is _).length
     omega
 split
 . refine ⟨n0, Vp n1, ?_, iu, wQ (by omega) oo (gj _ _ _ hn), Vp wl, wu⟩
   show (iO o.os _).length = _
   rw [iO, List.length_set, n2]
 split
 . refine ⟨n0, Vp n1, n2, iu, ou, ?_, uC wu ⟨U9 _, (fun d hd => by cases hd), (fun d hd => by cases hd), HM _ _ _ hn, ?_⟩⟩
   . show (o.ws ++ [_]).length <= _
     rw [UM, U0]; omega
   . show 0 <= (o.is.length : Int) - 1 /\ (o.is.length : Int) - 1 < o.is.length
     omega
 rename_i hz
 have Lc : o.ws ≠ [] := fun z => hz (.inr (.inl z))
 have hl : jS nb nm o.is.length k (fD o.ws) := ww _ (m5 Ma (V4.mpr Lc))
 have hlen : ∀ w, (o.ws.set (o.ws.length - 1) w).length <= k + 1 := fun w => by
   rw [List.length_set]; omega
 split
 . have := (gB.mk hl.l1 hl.g1).add (wR p.1 p.2 nb hm)
   have h3 := hl.l3
   exact ⟨n0, Vp n1, n2, iu, ou, hlen _, EC ww ⟨by show ((fD o.ws).qs ++ [_]).length + (fD o.ws).ds.length <= _; rw [UM, U0]; omega, this.g1, hl.g2, ⟨hl.fin.1, hl.fin.2, hl.fin.3, hl.fin.4⟩, hl.sr⟩⟩
 . have := (gB.mk hl.l2 hl.g2).add (gj p.1 p.2 nb hn)
   have h3 := hl.l3
   exact ⟨n0, Vp n1, n2, iu, ou, hlen _, EC ww ⟨by show (fD o.ws).qs.length + ((fD o.ws).ds ++ [_]).length <= _; rw [UM, U0]; omega, hl.g1, this.g1, ⟨hl.fin.1, hl.fin.2, hl.fin.3, hl.fin.4⟩, hl.sr⟩⟩
theorem yK {nb nm : Nat} {ns : List Str} (hn : BV ns) (hm : 0 < nm) : ∀ (l : List (Int × Int)) (k : Nat) (o : OW), wO nb nm k o -> wO nb nm (k + l.length) (l.foldl (iP nb nm ns) o)
 | [], k, o, h => h
 | p :: r, k, o, h => by
   have := yK hn hm r (k + 1) _ (HN (nb := nb) (nm := nm) p hn hm h)
   rw [List.foldl_cons, Vi]
   rwa [show k + (r.length + 1) = k + 1 + r.length by omega]
theorem ED (nb nm : Nat) : wO nb nm 0 EA := ⟨UJ _, UJ _, rfl, fun l hl => by cases UG.mp hl; exact gB.nil _ _, fun l hl => by cases UG.mp hl; exact gB.nil _ _, UJ _, fun w hw => by cases hw⟩
noncomputable def HP (nb nm : Nat) (ns : List Str) (l : List (Int × Int)) : OW := l.foldl (iP nb nm ns) EA
theorem rA {P : L3.D -> Prop} {k : Nat} {l : List L3.D} (h : gB P k l) : (L3.D.tup l).ic = true := by
 rw [L3.D.ic]
 exact mR fun d hd => (h.g1 d hd).im
section
variable {nb nm m k : Nat}
theorem yL {w : WY} (h : jS nb nm m k w) : w.d.ic = true := by
 have a := rA ⟨h.l1, h.g1⟩
 have c := rA ⟨h.l2, h.g2⟩
 show (L3.D.tup _).ic = true
 rw [L3.D.ic, D.bf, D.bf, D.bf, D.bf, D.bf, D.bf, D.bf, a, c]
 rfl
theorem qB {P : L3.D -> Prop} {l : List (List L3.D)} (h : ∀ x ∈ l, gB P k x) : D.bf (l.map L3.D.tup) = true := mR fun d hd => by
 obtain ⟨x, hx, rfl⟩ := Vs.mp hd
 exact rA (h x hx)
theorem A2 {l : List WY} (h : ∀ x ∈ l, jS nb nm m k x) : D.bf (l.map WY.d) = true := mR fun d hd => by
 obtain ⟨x, hx, rfl⟩ := Vs.mp hd
 exact yL (h x hx)
theorem EE {P : L3.D -> Prop} {n : Nat} {l : List (List L3.D)} (h : ∀ x ∈ l, gB P k x) (hk : k <= 1000) (hl : l.length <= 1000) : Sm (n + 4) (.lst (l.map L3.D.tup)) := by
 refine ⟨by rw [Uz]; exact hl, fun d hd => ?_⟩
 obtain ⟨x, hx, rfl⟩ := Vs.mp hd
 have hx := h x hx
 exact ⟨U3 hx.l1 hk, fun d hd => (hx.g1 d hd).sm n⟩
theorem Ld {n : Nat} {l : List WY} (h : ∀ x ∈ l, jS nb nm m k x) (hk : k <= 1000) (hl : l.length <= 1000) : Sm (n + 5) (.lst (l.map WY.d)) := by
 refine ⟨by rw [Uz]; exact hl, fun d hd => ?_⟩
 obtain ⟨x, hx, rfl⟩ := Vs.mp hd
 have hx := h x hx
 refine ⟨by show (6 : Nat) <= 1000; decide, fun d hd => ?_⟩
 rcases UA.mp hd with rfl | hd
 . trivial
 rcases UA.mp hd with rfl | hd
 . trivial
 rcases UA.mp hd with rfl | hd
 . exact ⟨U3 hx.l1 hk, fun d hd => (hx.g1 d hd).sm n⟩
 rcases UA.mp hd with rfl | hd
 . exact ⟨U3 hx.l2 hk, fun d hd => (hx.g2 d hd).sm n⟩
 rcases UA.mp hd with rfl | hd
 . trivial
 . cases UG.mp hd
   trivial
theorem Le {l : List WY} (h : ∀ x ∈ l, jS nb nm m k x) : kC 60 (.lst (l.map WY.d)) := by
 refine .lst fun d hd => ?_
 obtain ⟨x, hx, rfl⟩ := Vs.mp hd
 have hx := h x hx
 refine .tup fun d hd => ?_
 rcases UA.mp hd with rfl | hd
 . exact .int _ _
 rcases UA.mp hd with rfl | hd
 . exact .str _ _ hx.fin.s1
 rcases UA.mp hd with rfl | hd
 . exact .tup fun d hd => (hx.g1 d hd).dp 55
 rcases UA.mp hd with rfl | hd
 . exact .tup fun d hd => (hx.g2 d hd).dp 55
 rcases UA.mp hd with rfl | hd
 . exact .int _ _
 . cases UG.mp hd
   exact .str _ _ hx.fin.s2
end
theorem uD (ds : List L3.D) : Df (.lst ds) (.lst []) = decide (ds = []) := by
 unfold Df
 cases ds with
 | nil => decide +kernel
 | cons d ds =>
   rw [D.toPy, D.toPy, PyData.eqv, D.dG, D.dG, PyData.eqvAll]
   exact (Vv (fun z => by cases z)).symm
theorem uE {n : Nat} (h : 0 < n) : Bs n (-1) = some (n - 1) := by
 unfold Bs
 rw [UE (by decide), UR (by omega)]
 congr 1
 omega
theorem rB {α : Type} {f : α -> L3.D} {l : List α} (z : α) (h : 0 < l.length) : sC (l.map f) (-1) = some (f (l.getD (l.length - 1) z)) := by
 unfold sC
 rw [Uz, uE h]
 show (l.map f)[l.length - 1]? = _
 rw [Vu, Vf (by omega), UN, Vf (by omega)]
 rfl
theorem EF {α : Type} {f : α -> L3.D} {l : List α} (z : α) (h : 0 < l.length) : sC (l.map f) ((l.length : Int) - 1) = some (f (l.getD (l.length - 1) z)) := by
 have := cK (f := f) (l := l) (k := (l.length : Int) - 1) z (by omega) (by omega)
 rwa [show ((l.length : Int) - 1).toNat = l.length - 1 by omega] at this
theorem EG {n : Nat} (h : 0 < n) : Bs n ((n : Int) - 1) = some (n - 1) := by
 unfold Bs
 rw [UR (by omega), UR (by omega)]
 congr 1
 omega
noncomputable def tG (l : List (List L3.D)) : T := .lst ((l.map L3.D.tup).map T.sh)
noncomputable def Di (l : List WY) : T := .lst ((l.map WY.d).map T.sh)
theorem wU (l : List (List L3.D)) : T.lst ((l.map L3.D.tup).map T.sh ++ [T.sh (.tup [])]) = tG (l ++ [[]]) := by
 rw [tG, Vh, Vh]
 rfl
theorem EH (l : List WY) (w : WY) : T.lst ((l.map WY.d).map T.sh ++ [T.sh w.d]) = Di (l ++ [w]) := by
 rw [Di, Vh, Vh]
 rfl
theorem A3 (l : List (List L3.D)) (d : L3.D) : T.lst (((l.map L3.D.tup).map T.sh).set (l.length - 1) (T.sh (.tup (l.getD (l.length - 1) [] ++ [d])))) = tG (iO l d) := by
 rw [tG, iO, List.map_set, List.map_set]
theorem A4 (l : List WY) (j : Nat) (w : WY) : T.lst (((l.map WY.d).map T.sh).set j (T.sh w.d)) = Di (l.set j w) := by
 rw [Di, List.map_set, List.map_set]
theorem uF {bs nm is os ws : List L3.D} {t : T} (h1 : D.bf bs = true) (h2 : D.bf nm = true) (h3 : t.clean = true) (h4 : D.bf is = true) (h5 : D.bf os = true) (h6 : D.bf ws = true) : T.aU (i6 bs nm t is os ws) = true := by
 unfold i6 n9 oh
 rw [Vb, Vb, List.nil_append, T.aU, T.aU, T.aU, T.aU, T.aU, T.aU, T.aU, bN h1, bN h2, h3, bN h4, bN h5, bN h6]
 rfl
theorem QI : ¬ (HT.dD 6 0 none = 0 /\ HT.dD 6 6 (some 2) = 6) := by decide
theorem QJ : ¬ (HT.dD 6 0 (some 3) = 0 /\ HT.dD 6 6 none = 6) := by decide
theorem QK : ¬ (HT.dD 6 0 none = 0 /\ HT.dD 6 6 (some 3) = 6) := by decide
theorem QL : ¬ (HT.dD 6 0 (some 4) = 0 /\ HT.dD 6 6 none = 6) := by decide
noncomputable abbrev kI : Stmt := top 7
noncomputable abbrev om : Type := List Int × Int
noncomputable def dY : om -> List L3.D := fun (ns, j) => [.lst (ns.map .int), .int j]
noncomputable def dZ : om -> Prop := fun (ns, j) => 0 <= j
noncomputable def d7 : om -> T := fun (ns, j) => (.sh (.int (cE ns j)) : T)
structure BW (X : Cx) (CL : Str -> Addr) : Prop extends dH X where
 bY : Ln X 0 "script"
 xW : Ln X 1 "k"
 bK : Gl X "len"
 bL : X.mg "len" = none
theorem BX {X : Cx} {CL : Str -> Addr} {b : Bx} (E : BW X CL) (ns j) (h : dZ (ns, j)) :
   aJ X CL b kI ["script", "k"] (dY (ns, j)) (d7 (ns, j)) := by
 dsimp only [aJ, dZ, dY, d7] at h ⊢
 refine bq (Az (aA E.xW) (ah (mQ E.bL (aA E.bY) E.bK))).1 (fun hp => ?_) (fun hp => ?_)
 . have e : j < ns.length := by simpa using of_decide_eq_true hp
   refine aY (bw (aK (aA E.bY) (aA E.xW) (gu h e)) rfl) ?_
   show T.sh _ = T.sh (.int (cE ns j))
   rw [cE, UR e]
 . have e : ¬ j < ns.length := by simpa using of_decide_eq_false hp
   refine aj (aY ai ?_)
   show T.sh _ = T.sh (.int (cE ns j))
   rw [cE, UE e]
theorem lN : nX (ay kI) ([("script", az), ("k", az), ("len", aG)]) = true := by decide +kernel
theorem rC : aV ["script", "k"] ["script", "k"] (ay kI) := bI
noncomputable abbrev qC : Stmt := top 8
noncomputable abbrev uG : Type := List Int × Int
noncomputable def kJ : uG -> List L3.D := fun (es, m) => [.lst (es.map .int), .int m]
noncomputable def kK : uG -> Prop := fun (es, m) => iN es /\ 0 <= m /\ m < es.length /\ es.length <= 1000
noncomputable def kL : uG -> T := fun (es, m) => (.lst (((qe es m).map .int).map T.sh) : T)
structure HQ (X : Cx) (CL : Str -> Addr) : Prop extends dH X where
 bx : Ln X 0 "elders"
 cV : Ln X 1 "mood"
 aW : Ln X 2 "found"
 EI : Ln X 3 "at"
theorem HR {X : Cx} {CL : Str -> Addr} {b : Bx} (E : HQ X CL) (es m) (h : kK (es, m)) :
   aJ X CL b qC ["elders", "mood", "found", "at"] (kJ (es, m)) (kL (es, m)) := by
 dsimp only [aJ, kK, kJ, kL] at h ⊢
 obtain ⟨ht, h0, h1, hlen⟩ := h
 refine aL E.g E.aW (dM c5 (U9 _)) ?_
 refine aL E.g E.EI (bw (aK (aA E.bx) (aA E.cV) (gu h0 h1)) rfl) ?_
 have hm := ht.at h0 h1
 refine AI E.g (fun n δ => ∃ (k : Int) (l : List Int), δ = [some (.sh (.lst (es.map .int))), some (.sh (.int m)), some (.lst ((l.map .int).map T.sh)), some (.sh (.int k))] /\ -1 <= k /\ k < n /\ k < es.length /\ l ++ qX n es k = qe es m /\ l.length + n <= es.length + 1) (es.length + 1)
   ⟨es.getD m.toNat 0, [], rfl, hm.1, by omega, by omega, rfl, by simp⟩ ?_
 rintro n δ ⟨k, l, rfl, k0, k1, k2, k3, k4⟩
 refine ⟨_, _, (qQ (aA E.EI) (ah (ig (ah ai)))).1, fun hp => ?_, fun hp => ?_⟩
 . have hk : ¬ k = -1 := by simpa using hp
   have ha := ht.at (k := k) (by omega) k2
   cases n with
   | zero => omega
   | succ n =>
     refine k9 E.aW.1 rfl (v_ E.EI.1) rfl (by simp; omega) ?_
     refine aL E.g E.EI (bw (aK (aA E.bx) (aA E.EI) (gu (by omega) k2)) rfl) ?_
     refine aj ⟨n, VQ _, es.getD k.toNat 0, l ++ [k], ?_, ha.1, by omega, by omega, ?_, by simp; omega⟩
     . show [_, _, some (T.lst (((l.map D.int).map T.sh) ++ [T.sh (.int k)])), _] = _
       simp
     . rw [← k3, qX, UE hk, UH]
       rfl
 . have hk : k = -1 := by simpa using hp
   subst hk
   have e : l = qe es m := by
     rw [← k3]
     cases n with
     | zero => rw [qX, Vr]
     | succ n => rw [qX, UR rfl, Vr]
   subst e
   exact aY (vM E.aW.1) rfl
theorem m7 : nX (ay qC) ([("elders", az), ("mood", az), ("found", az), ("at", az)]) = true := by decide +kernel
theorem wV : aV ["elders", "mood", "found", "at"] ["elders", "mood"] (ay qC) := bI
noncomputable abbrev gQ : Stmt := top 12
noncomputable abbrev jT : Type := (List (Int × Int))
noncomputable def fj : jT -> List L3.D := fun l => [.lst (l.map En)]
noncomputable def fk : jT -> Prop := fun l => l.length <= 100
noncomputable def fq : jT -> T := fun l => (.lst (((HC l).map .int).map T.sh) : T)
structure wW (X : Cx) (CL : Str -> Addr) : Prop extends dH X where
 gR : Ln X 0 "items"
 bx : Ln X 1 "elders"
 bO : Ln X 2 "item"
 yM : Ln X 3 "last"
 kM : Ln X 4 "roads"
 bK : Gl X "len"
 uH : Gl X "_law_chain"
 bL : X.mg "len" = none
 HS : Fc X CL "_law_chain" 1 2 kJ kK kL
theorem wX {X : Cx} {CL : Str -> Addr} {b : Bx} (E : wW X CL) (l) (h : fk l) :
   aJ X CL b gQ ["items", "elders", "item", "last", "roads"] (fj l) (fq l) := by
 dsimp only [aJ, fk, fj, fq] at h ⊢
 refine aL E.g E.bx (dM (di (ig (ah ai)) c5) (aq rfl)) ?_
 refine pK E.g E.bO (fun j δ => ∃ o4 o5 o6, δ = [some (.sh (.lst (l.map En))), some (.lst ((((l.take j).foldl mY [-1]).map .int).map T.sh)), o4, o5, o6])
   (yt (v_ E.gR.1)) ⟨_, _, _, rfl⟩ (fun j δ ⟨_, _, _, e⟩ => by subst e; exact UI rfl) ?turn ?fin
 case turn =>
   rintro j d δ hj ⟨o4, o5, o6, rfl⟩
   obtain ⟨p, hp, rfl⟩ := AW hj
   obtain ⟨ht, hl⟩ := uy (l.take j) [-1] wM (VQ 0)
   have hm := kG (l.take j)
   have RQ := List.length_take_le j l
   have T7 : (l.take j).length <= l.length := by rw [VR]; omega
   rw [U0] at hl
   show fJ X CL b _ _ { nx := fun δ => ∃ o4 o5 o6, δ = [_, some (.lst ((((l.take (j + 1)).foldl mY [-1]).map .int).map T.sh)), o4, o5, o6], rt := _, bk := _, ct := _ }
   rw [tD hp, List.foldl_append]
   generalize (l.take j).foldl mY [-1] = es at ht hl ⊢
   show fJ X CL b _ _ { nx := fun δ => ∃ o4 o5 o6, δ = [_, some (.lst (((mY es p).map .int).map T.sh)), o4, o5, o6], rt := _, bk := _, ct := _ }
   refine bq (Az (ah (aR (aC (aA E.bO) (ah ai) rfl) (ah ai) (by decide))) (ah ai)).1 (fun hq => ?_) (fun hq => ?_)
   . have hq : p.1 % 8 < 3 := UX hq
     obtain ⟨k, hk⟩ : ∃ k : Nat, es.length = k + 1 := ⟨es.length - 1, by omega⟩
     obtain ⟨r1, r2, r3⟩ := pR (k := k) ht hk.symm
     refine aL E.g E.yM (gw (gn (ah (bU (Uz ..) E.bL (vL E.bx.1) E.bK)) (ah ai)) (t2 := .sh (.int (k : Int))) (by rw [hk]; congr 2; omega)) ?_
     have Uu : (qe es (k : Int)).length <= es.length + 1 := uv _ _ _
     refine aL E.g E.kM (AK (ds := [.int (k : Int)]) (ug := (qe es (k : Int)).map .int) (cC (ds := [.int (k : Int)]) (dM (di (v_ E.yM.1) c5) (aq rfl)))
       (cC (c_ (es, (k : Int)) E.HS E.uH (au (vL E.bx.1) (au (aA E.yM) aT)) (show iN es /\ (0 : Int) <= k /\ (k : Int) < es.length /\ es.length <= 1000 from ⟨ht, by omega, by omega, by omega⟩) (gA _))) rfl (fB _) (VC (cG (by rw [Uz, U0]; omega)))) ?_
     have er : ([L3.D.int (k : Int)] ++ (qe es (k : Int)).map L3.D.int) = ([(k : Int)] ++ qe es k).map L3.D.int := rfl
     rw [er]
     refine DY (fun δ => δ = [some (.sh (.lst (l.map En))), some (.lst ((es.map .int).map T.sh)), some (.sh (En p)), some (.sh (.int k)), some (.lst (((bX es k).map .int).map T.sh))])
       (sX (ah (bU (Uz ..) E.bL (vL E.kM.1) E.bK)) (ah ai)).1 (fun hp => ?_) (fun hp => ?_) ?_
     . have e : (12 : Int) < (([(k : Int)] ++ qe es k).length : Nat) := UX hp
       refine aL E.g E.kM (wg (vL E.kM.1) (fB _) (kE (ah ai)) kD) (aj ?_)
       rw [wj]
       unfold bX
       rw [UR e]
       rfl
     . have e : ¬ (12 : Int) < (([(k : Int)] ++ qe es k).length : Nat) := UW hp
       refine aj ?_
       unfold bX
       rw [UE e]
       rfl
     rintro δ rfl
     have RT : ((es.map L3.D.int).map T.sh) ++ [T.sh (.int ((bX es k).getD (p.1 / 8 % ((bX es k).length : Nat)).toNat 0))] = ((mY es p).map L3.D.int).map T.sh := by
       unfold mY
       rw [UR hq, hk, Nat.add_sub_cancel, Vh, Vh]
       rfl
     generalize bX es k = rs at r1 r2 RT ⊢
     have b1 := UT (p.1 / 8) (b := (rs.length : Nat)) (by omega)
     have b2 := UK (p.1 / 8) (b := (rs.length : Nat)) (by omega)
     refine k9 E.bx.1 rfl (bw (aK (vL E.kM.1) (ah (aR (ah (bC (aC (aA E.bO) (ah ai) rfl) (ah ai) ⟨by decide, by decide⟩)) (ah (bU (Uz ..) E.bL (vL E.kM.1) E.bK)) (by omega))) (gu b1 b2)) rfl) rfl (by rw [Uz, Uz]; omega) (aj (aj ?_))
     rw [RT]
     exact ⟨_, _, _, rfl⟩
   . have hq : ¬ p.1 % 8 < 3 := UW hq
     rw [mY, UE hq]
     exact aj (aj ⟨_, _, _, rfl⟩)
 case fin =>
   rintro δ ⟨o4, o5, o6, rfl⟩
   refine aY (vM E.bx.1) ?_
   rw [Uz, List.take_length]
   rfl
theorem cM : nX (ay gQ) ([("items", az), ("elders", az), ("item", az), ("last", az), ("roads", az), ("len", aG), ("_law_chain", aG)]) = true := by decide +kernel
theorem m8 : aV ["items", "elders", "item", "last", "roads"] ["items"] (ay gQ) := bI
noncomputable abbrev kN : Stmt := top 9
noncomputable abbrev oq : Type := Int × List Str
noncomputable def gS : oq -> List L3.D := fun (m, us) => [.int m, .lst (us.map .str)]
noncomputable def fE : oq -> Prop := fun (m, us) => 0 <= m /\ m < 100000000000000000000 /\ us.length <= 100
noncomputable def gT : oq -> T := fun (m, us) => (.sh (.str (gO m us)) : T)
structure BZ (X : Cx) (CL : Str -> Addr) : Prop extends dH X where
 wY : Ln X 0 "number"
 EJ : Ln X 1 "used"
 oz : Ln X 2 "letters"
 cN : Ln X 3 "words"
 yN : Ln X 4 "more"
 iy : Ln X 5 "name"
 rD : Ln X 6 "rest"
 cX : Gl X "range"
 bK : Gl X "len"
 cY : X.mg "range" = none
 bL : X.mg "len" = none
theorem B3 {X : Cx} {CL : Str -> Addr} {b : Bx} (E : BZ X CL) (m us) (h : fE (m, us)) :
   aJ X CL b kN ["number", "used", "letters", "words", "more", "name", "rest"] (gS (m, us)) (gT (m, us)) := by
 dsimp only [aJ, fE, gS, gT] at h ⊢
 obtain ⟨h0, h1, h2⟩ := h
 have NV : BQ.length = 36 := by decide +kernel
 refine aL E.g E.oz aB ?_
 refine aL E.g E.cN (Ef (l := w19) (ah aB) (ah aB) (by decide +kernel) (by rw [VP]; decide +kernel) (by decide +kernel) (aq rfl)) ?_
 refine pK E.g E.yN (fun j δ => (∃ o5 o6 o7, δ = [some (.sh (.int m)), some (.sh (.lst (us.map .str))), some (.sh (.str "abcdefghijklmnopqrstuvwxyz0123456789")), some (.lst ((w19.map .str).map T.sh)), o5, o6, o7]) /\ ∀ i, i < j -> K6 m us i = false)
   (gq E.cY (ah (eo (ah (bU (Uz ..) E.bL (aA E.EJ) E.bK)) (ah ai))) (by omega) E.cX) ⟨⟨_, _, _, rfl⟩, fun i hi => absurd hi (Nat.not_lt_zero _)⟩ (fun j δ ⟨⟨_, _, _, e⟩, _⟩ => by subst e; exact UI rfl) ?turn ?fin
 case turn =>
   rintro j d δ hj ⟨⟨o5, o6, o7, rfl⟩, DB⟩
   obtain ⟨rfl, yO⟩ := jO hj
   rw [V0]
   have yO : j < us.length + 20 := by omega
   have b1 := UT (m + j) (show (26 : Int) ≠ 0 by decide)
   have b2 := UK (m + j) (show (0 : Int) < 26 by decide)
   refine aL E.g E.iy (gw (DR (aA E.oz) (ah (aR (ah (eo (aA E.wY) (aA E.yN))) (ah ai) (by decide))) (by rw [VP]; decide +kernel) (by rw [El]; exact D4 0 b1 (by rw [NV]; omega))) (t2 := .sh (.str (qf ((m + j) % 26)))) rfl) ?_
   refine aL E.g E.rD (bC (ah (eo (aA E.wY) (aA E.yN))) (ah ai) ⟨by decide, by decide⟩) ?_
   refine AI E.g (fun n δ => ∃ (r : Int) (x : Str), δ = [some (.sh (.int m)), some (.sh (.lst (us.map .str))), some (.sh (.str "abcdefghijklmnopqrstuvwxyz0123456789")), some (.lst ((w19.map .str).map T.sh)), some (.sh (.int j)), some (.sh (.str x)), some (.sh (.int r))] /\ 0 <= r /\ r < 36 ^ n /\ x.length + n <= 21 /\ Gk n r x = yI (m + j)) 20
     ⟨_, _, rfl, by omega, by have e : (36 : Int) ^ 20 = 13367494538843734067838845976576 := by decide +kernel
                              omega, UJ _, rfl⟩ ?_
   rintro n δ ⟨r, x, rfl, r0, r1, x1, hx⟩
   refine ⟨_, _, (sX (aA E.rD) (ah ai)).1, fun hp => ?_, fun hp => ?_⟩
   . have hp : 0 < r := UX hp
     cases n with
     | zero =>
       have : r < 1 := r1
       omega
     | succ n =>
       have c1 := UT r (show (36 : Int) ≠ 0 by decide)
       have c2 := UK r (show (0 : Int) < 36 by decide)
       refine aL E.g E.iy (cU (aA E.iy) (ah (gw (DR (aA E.oz) (ah (aR (aA E.rD) (ah ai) (by decide))) (by rw [VP]; decide +kernel) (by rw [El]; exact D4 0 c1 (by rw [NV]; omega))) (t2 := .sh (.str (qf (r % 36)))) rfl)) (by rw [VP]; show x.length + 1 <= _; omega)) ?_
       refine aL E.g E.rD (bC (aA E.rD) (ah ai) ⟨by decide, by decide⟩) ?_
       refine aj ⟨n, VQ _, r / 36, x ++ qf (r % 36), rfl, Int.ediv_nonneg r0 (by decide), Int.ediv_lt_of_lt_mul (by decide) (by rw [← Int.pow_succ]; exact r1), ?_, ?_⟩
       . rw [str_len]
         show x.length + 1 + n <= 21
         omega
       . rw [← hx, Gk, UR hp]
   . have hp : ¬ 0 < r := UW hp
     rw [HB n x hp] at hx
     subst hx
     refine bq (qR (yq (AQ (aA E.iy) (aA E.EJ) rfl rfl).1 (fun hb => (t7 (AQ (aA E.iy) (vL E.cN.1) rfl rfl).1)))) (fun hq => ?_) (fun hq => aj (aj ⟨⟨_, _, _, rfl⟩, fun i hi => ?_⟩))
     . refine aY (v_ E.iy.1) ?_
       show T.sh _ = T.sh (.str (gO m us))
       rw [Es yO DB hq]
     . rcases Nat.lt_succ_iff_lt_or_eq.mp hi with h | rfl
       . exact DB i h
       . exact hq
 case fin =>
   rintro δ ⟨⟨o5, o6, o7, rfl⟩, DB⟩
   refine aY aB ?_
   have e : (c7 0 ((us.length : Int) + 20).toNat).length = us.length + 20 := by
     rw [c7, Uz, Vj]
     omega
   rw [e] at DB
   show T.sh _ = T.sh (.str (gO m us))
   rw [Et DB]
theorem cO : nX (ay kN) ([("number", az), ("used", az), ("letters", az), ("words", az), ("more", az), ("name", az), ("rest", az), ("range", aG), ("len", aG)]) = true := by decide +kernel
theorem rE : aV ["number", "used", "letters", "words", "more", "name", "rest"] ["number", "used"] (ay kN) := bI
noncomputable abbrev i9 : Stmt := top 10
noncomputable abbrev lO : Type := List Int × Nat
noncomputable def fQ : lO -> List L3.D := fun (s, n) => [.lst (s.map .int), .int n]
noncomputable def fS : lO -> Prop := fun (s, n) => n <= 100
noncomputable def fT : lO -> T := fun (s, n) => (.lst (((K7 s n).map .str).map T.sh) : T)
structure yP (X : Cx) (CL : Str -> Addr) : Prop extends dH X where
 bY : Ln X 0 "script"
 dX : Ln X 1 "many"
 EK : Ln X 2 "base"
 EL : Ln X 3 "step"
 aW : Ln X 4 "found"
 xW : Ln X 5 "k"
 cH : Gl X "_law_cell_at"
 cX : Gl X "range"
 rG : Gl X "_law_name_by"
 d8 : Fc X CL "_law_cell_at" 1 2 dY dZ d7
 cY : X.mg "range" = none
 B4 : Fc X CL "_law_name_by" 1 2 gS fE gT
theorem yQ {X : Cx} {CL : Str -> Addr} {b : Bx} (E : yP X CL) (s n) (h : fS (s, n)) :
   aJ X CL b i9 ["script", "many", "base", "step", "found", "k"] (fQ (s, n)) (fT (s, n)) := by
 dsimp only [aJ, fS, fQ, fT] at h ⊢
 have e0 := UT (cE s 1) (show (5 : Int) ≠ 0 by decide)
 have e1 := UK (cE s 1) (show (0 : Int) < 5 by decide)
 have b0 := UT (cE s 0) (show (26 * 36 ^ (10 : Int).toNat : Int) ≠ 0 by decide +kernel)
 have b1 := UK (cE s 0) (show (0 : Int) < 26 * 36 ^ (10 : Int).toNat by decide +kernel)
 have b2 : (26 * 36 ^ (10 : Int).toNat : Int) <= 100000000000000000 := by decide +kernel
 have st := Eu s
 refine aL E.g E.EK (aR (ah (c_ ((s, 0)) E.d8 E.cH (au (aA E.bY) (au (ah ai) aT)) (show (0 : Int) <= 0 by omega) rfl)) (ah (t6 (ah ai) (ah (ym (ah ai) (ah ai) ⟨by decide, by decide, by decide⟩)) (.inl ⟨by decide, by decide⟩))) (by decide +kernel)) ?_
 refine aL E.g E.EL (gw (bw (aK (ds := ([1, 26, 936, 33696, 1213056] : List Int).map .int) (cC (fP (AU rfl) (aq rfl))) (ah (aR (ah (c_ ((s, 1)) E.d8 E.cH (au (aA E.bY) (au (ah ai) aT)) (show (0 : Int) <= 1 by omega) rfl)) (ah ai) (by decide))) (gu e0 e1)) rfl) (t2 := .sh (.int (tE s))) rfl) ?_
 unfold K7
 generalize cE s 0 % (26 * 36 ^ (10 : Int).toNat) = c at b0 b1 ⊢
 generalize tE s = sp at st ⊢
 refine aL E.g E.aW (dM c5 (U9 _)) ?_
 refine pK E.g E.xW (fun j δ => ∃ o, δ = [some (.sh (.lst (s.map .int))), some (.sh (.int n)), some (.sh (.int c)), some (.sh (.int sp)), some (.lst (((mX c sp j).map .str).map T.sh)), o])
   (gq E.cY (aA E.dX) (by omega) E.cX) ⟨_, rfl⟩ (fun j δ ⟨_, e⟩ => by subst e; exact UI rfl) ?turn ?fin
 case turn =>
   rintro j d δ hj ⟨o, rfl⟩
   obtain ⟨rfl, yO⟩ := jO hj
   rw [V0]
   have Uv := rg c sp j
   have hk : 0 <= (j : Int) * sp /\ (j : Int) * sp <= 1000 * 1213056 := ⟨Int.mul_nonneg (by omega) st.1, Int.mul_le_mul (by omega) st.2 st.1 (by decide)⟩
   have en : ((mX c sp j).map L3.D.str).map T.sh ++ [T.sh (.str (gO (c + j * sp) (mX c sp j)))] = ((mX c sp (j + 1)).map L3.D.str).map T.sh := by
     rw [mX, Vh, Vh]
     rfl
   refine k9 E.aW.1 rfl (gw (c_ ((c + j * sp, mX c sp j)) E.B4 E.rG (au (ah (eo (aA E.EK) (ah (t6 (aA E.xW) (aA E.EL) (.inl ⟨by omega, by omega⟩))))) (au (vL E.aW.1) aT)) (by dsimp only [fE]; exact (⟨by omega, by omega, by omega⟩)) rfl) (t2 := .sh (.str (gO (c + j * sp) (mX c sp j)))) rfl) rfl (by rw [List.length_map, List.length_map]; omega) (aj ?_)
   rw [en]
   exact ⟨_, rfl⟩
 case fin =>
   rintro δ ⟨o, rfl⟩
   have e : (c7 0 (n : Int).toNat).length = n := by
     rw [c7, Uz, Vj]
     omega
   rw [e]
   exact aY (vM E.aW.1) rfl
theorem cy : nX (ay i9) ([("script", az), ("many", az), ("base", az), ("step", az), ("found", az), ("k", az), ("_law_cell_at", aG), ("range", aG), ("_law_name_by", aG)]) = true := by decide +kernel
theorem pS : aV ["script", "many", "base", "step", "found", "k"] ["script", "many"] (ay i9) := bI
noncomputable abbrev ja : Stmt := top 17
noncomputable abbrev lP : Type := List Int × List Int
noncomputable def fU : lP -> List L3.D := fun (es, cs) => [.lst (es.map .int), .lst (cs.map .int)]
noncomputable def eH : lP -> Prop := fun (es, cs) => es.length <= 100 /\ cs.length = es.length
noncomputable def fV : lP -> T := fun (es, cs) => (.lst [.lst (((eW es cs es.length).map .str).map T.sh), .lst (((eX es cs es.length).map .int).map T.sh)] : T)
structure yR (X : Cx) (CL : Str -> Addr) : Prop extends dH X where
 bx : Ln X 0 "elders"
 ER : X.env.kindOf "elders" = some .cell
 A5 : Ln X 1 "cells"
 jb : Ln X 2 "kinds"
 jU : Ln X 3 "starts"
 cV : Ln X 4 "mood"
 Lf : X.env.kindOf "mood" = some .cell
 uI : Ln X 5 "near"
 uJ : Ln X 6 "start"
 cX : Gl X "range"
 bK : Gl X "len"
 cY : X.mg "range" = none
 bL : X.mg "len" = none
theorem yS {X : Cx} {CL : Str -> Addr} {b : Bx} (E : yR X CL) (es cs) (h : eH (es, cs)) :
   aJ X CL b ja ["elders", "cells", "kinds", "starts", "mood", "near", "start"] (fU (es, cs)) (fV (es, cs)) := by
 dsimp only [aJ, eH, fU, fV] at h ⊢
 obtain ⟨hl, hc⟩ := h
 refine aL E.g E.jb (dM c5 (U9 _)) ?_
 refine aL E.g E.jU (dM c5 (U9 _)) ?_
 refine pK E.g E.cV (fun j δ => ∃ o4 o5 o6, δ = [some (.sh (.lst (es.map .int))), some (.sh (.lst (cs.map .int))), some (.lst (((eW es cs j).map .str).map T.sh)), some (.lst (((eX es cs j).map .int).map T.sh)), o4, o5, o6])
   (gq E.cY (ah (bU (Uz ..) E.bL (aA E.bx) E.bK)) (by omega) E.cX) ⟨_, _, _, rfl⟩ (fun j δ ⟨_, _, _, e⟩ => by subst e; exact UI rfl) ?turn ?fin
 case turn =>
   rintro j d δ hj ⟨o4, o5, o6, rfl⟩
   obtain ⟨rfl, yO⟩ := jO hj
   have yO : j < es.length := by omega
   rw [V0]
   have kl := rj es cs j
   have sl := rm es cs j
   refine n8 (p := fun d => decide (es.getD d.Hh.toNat 0 = (j : Int))) (gg := fun d => T.sh d) E.g E.uI (dW (.cons E.bx.1 (.inl E.ER) (.cons E.cV.1 (.inl E.Lf) .nil)) (by decide +kernel))
     (gq E.cY (ah (bU (Uz ..) E.bL (aA E.bx) E.bK)) (by omega) E.cX) (.inr rfl) (fun C s0 H0 f0 b' d hd => ?Lg) (VC (cG (by simp [c7]; omega))) ?rest (by exact UI rfl) (iL ⟨_, rfl⟩)
   case Lg =>
     obtain ⟨i, hi, rfl⟩ := Vs.mp hd
     have L5 : i < es.length := by simpa using hi
     exact ⟨(dJ (aK (ah (v_ (nW (i := 1) rfl (by decide +kernel)))) (ah (v_ (dN (i := 0) rfl (by decide +kernel)))) (gu (show (0 : Int) <= 0 + (i : Int) by omega) (show 0 + (i : Int) < es.length by omega))) (ah (v_ (nW (i := 2) rfl (by decide +kernel))))).1, fun _ => v_ (dN (i := 0) rfl (by decide +kernel))⟩
   case rest =>
   have eq : ((c7 0 ((es.length : Nat) : Int).toNat).filter fun d => decide (es.getD d.Hh.toNat 0 = (j : Int))).map (fun d => T.sh d) = ((vI es j).map .int).map T.sh := by
     unfold c7 vI
     rw [List.filter_map, Vt, Vt, Vt, VL]
     have e1 : ((fun d : L3.D => decide (es.getD d.Hh.toNat 0 = (j : Int))) ∘ fun i : Nat => L3.D.int (0 + (i : Int))) = fun i : Nat => decide (es.getD i 0 = (j : Int)) := by
       funext i
       show decide (es.getD (0 + (i : Int)).toNat 0 = (j : Int)) = _
       rw [V0, VL]
     rw [e1]
     congr 1
     funext i
     show T.sh (.int (0 + (i : Int))) = T.sh (.int i)
     rw [V0]
   rw [eq]
   have Uw := Hz es j
   refine aL E.g E.uJ (ig (ah ai)) ?_
   refine DY (fun δ => δ = [some (.sh (.lst (es.map .int))), some (.sh (.lst (cs.map .int))), some (.lst (((eW es cs (j + 1)).map .str).map T.sh)), some (.lst (((eX es cs j).map .int).map T.sh)), some (.sh (.int j)), some (.lst (((vI es j).map .int).map T.sh)), some (.sh (.int (lg es cs j)))])
     (D3 E.u (vL E.uI.1) (cC (dM c5 (U9 _))) (q8 _) (q8 [])).1 (fun hp => ?_) (fun hp => ?_) ?_
   . have hz : vI es j = [] := UX ((Ec (vI es j) []).symm.trans hp)
     refine k9 E.jb.1 rfl aB rfl (by rw [Uz, Uz]; omega) (aj ?_)
     rw [jR es cs j (by rw [kindB, UR hz])]
     rw [show lg es cs j = -1 by rw [lg, UR hz]]
     rfl
   . have hz : ¬ vI es j = [] := fun z => by
       rw [z] at hp
       exact absurd hp (by decide)
     have NW : 0 < (vI es j).length := V4.mpr hz
     refine DY (fun δ => δ = [some (.sh (.lst (es.map .int))), some (.sh (.lst (cs.map .int))), some (.lst (((eW es cs (j + 1)).map .str).map T.sh)), some (.lst (((eX es cs j).map .int).map T.sh)), some (.sh (.int j)), some (.lst (((vI es j).map .int).map T.sh)), some (.sh (.int (lg es cs j)))])
       (dJ (ah (aR (aK (aA E.A5) (aA E.cV) (gu (by omega) (by omega))) (ah ai) (by decide))) (ah ai)).1 (fun hq => ?_) (fun hq => ?_) (fun δ e => aj e)
     . have hq : cs.getD (j : Int).toNat 0 % 2 = 1 := UX hq
       rw [VL] at hq
       refine k9 E.jb.1 rfl aB rfl (by rw [Uz, Uz]; omega) (aj ?_)
       rw [jR es cs j (by rw [kindB, UE hz, UR hq])]
       rw [show lg es cs j = -1 by rw [lg, UE hz, UR hq]]
       rfl
     . have hq : ¬ cs.getD (j : Int).toNat 0 % 2 = 1 := UW hq
       rw [VL] at hq
       have b1 := UT (cs.getD (j : Int).toNat 0 / 2) (b := ((vI es j).length : Nat)) (by omega)
       have b2 := UK (cs.getD (j : Int).toNat 0 / 2) (b := ((vI es j).length : Nat)) (by omega)
       refine k9 E.jb.1 rfl aB rfl (by rw [Uz, Uz]; omega) ?_
       refine aL E.g E.uJ (bw (aK (vL E.uI.1) (ah (aR (ah (bC (aK (aA E.A5) (aA E.cV) (gu (by omega) (by omega))) (ah ai) ⟨by decide, by decide⟩)) (ah (bU (Uz ..) E.bL (vL E.uI.1) E.bK)) (by omega))) (gu b1 b2)) rfl) (aj ?_)
       rw [jR es cs j (by rw [kindB, UE hz, UE hq])]
       rw [show lg es cs j = (vI es j).getD (cs.getD (j : Int).toNat 0 / 2 % ((vI es j).length : Nat)).toNat 0 by rw [lg, UE hz, UE hq, VL]]
       rfl
   rintro δ rfl
   refine k9 E.jU.1 rfl (v_ E.uJ.1) rfl (by rw [Uz, Uz]; omega) (aj ?_)
   rw [wN es cs j rfl]
   exact ⟨_, _, _, rfl⟩
 case fin =>
   rintro δ ⟨o4, o5, o6, rfl⟩
   have e : (c7 0 (es.length : Int).toNat).length = es.length := by
     rw [c7, Uz, Vj]
     omega
   rw [e]
   exact aY (dM (di (vM E.jb.1) (di (vM E.jU.1) c5)) (aq rfl)) rfl
theorem bS : nX (ay ja) ([("elders", .cell), ("cells", az), ("kinds", az), ("starts", az), ("mood", .cell), ("near", az), ("start", az), ("range", aG), ("len", aG)]) = true := by decide +kernel
theorem pT : aV ["elders", "cells", "kinds", "starts", "mood", "near", "start"] ["elders", "cells"] (ay ja) := bI
noncomputable abbrev gU : Stmt := top 11
noncomputable abbrev jV : Type := Int
noncomputable def cR : jV -> List L3.D := fun c => [.int c]
noncomputable def cS : jV -> Prop := fun c => True
noncomputable def cT : jV -> T := fun c => (.sh (.int (uA c)) : T)
structure wZ (X : Cx) (CL : Str -> Addr) : Prop extends dH X where
 rH : Ln X 0 "cell"
 lQ : Ln X 1 "size"
theorem w4 {X : Cx} {CL : Str -> Addr} {b : Bx} (E : wZ X CL) (c) (h : cS c) :
   aJ X CL b gU ["cell", "size"] (cR c) (cT c) := by
 dsimp only [aJ, cS, cR, cT] at h ⊢
 refine aL E.g E.lQ (aR (ah (bC (aA E.rH) (ah ai) ⟨by decide, by decide⟩)) (ah (ym (ah ai) (ah ai) ⟨by decide, by decide, by decide⟩)) (by decide)) ?_
 refine bq (dJ (ah (aR (aA E.rH) (ah ai) (by decide))) (ah ai)).1 (fun hp => ?_) (fun hp => aj ?_)
 . refine aY (gn (ah ai) (aA E.lQ)) ?_
   show T.sh _ = T.sh (.int (uA c))
   unfold uA
   rw [UR (UX hp)]
 . refine aY (v_ E.lQ.1) ?_
   show T.sh _ = T.sh (.int (uA c))
   unfold uA
   rw [UE (UW hp)]
theorem m9 : nX (ay gU) ([("cell", az), ("size", az)]) = true := by decide +kernel
theorem ng : aV ["cell", "size"] ["cell"] (ay gU) := bI
noncomputable abbrev kO : Stmt := top 13
noncomputable abbrev oA : Type := Int × Int × Nat × List Str
noncomputable def gW : oA -> List L3.D := fun (a, c, n, ns) => [.tup [.int a, .int c], .int n, .lst (ns.map .str)]
noncomputable def c9 : oA -> Prop := fun (a, c, n, ns) => n <= 1000 /\ 0 < ns.length /\ ns.length <= 1000
noncomputable def gX : oA -> T := fun (a, c, n, ns) => (.sh (gP a c n ns) : T)
structure B5 (X : Cx) (CL : Str -> Addr) : Prop extends dH X where
 bO : Ln X 0 "item"
 cz : Ln X 1 "boxes"
 bD : Ln X 2 "names"
 iz : Ln X 3 "pick"
 iy : Ln X 4 "name"
 yT : Ln X 5 "term"
 bK : Gl X "len"
 dw : Gl X "_law_number_by"
 bL : X.mg "len" = none
 d9 : Fc X CL "_law_number_by" 1 1 cR cS cT
theorem B6 {X : Cx} {CL : Str -> Addr} {b : Bx} (E : B5 X CL) (a c n ns) (h : c9 (a, c, n, ns)) :
   aJ X CL b kO ["item", "boxes", "names", "pick", "name", "term"] (gW (a, c, n, ns)) (gX (a, c, n, ns)) := by
 dsimp only [aJ, c9, gW, gX] at h ⊢
 obtain ⟨h1, h2, h3⟩ := h
 have e1 := UT c (show (ns.length : Int) ≠ 0 by omega)
 have e2 := UK c (show 0 < (ns.length : Int) by omega)
 refine aL E.g E.iz (bC (aC (aA E.bO) (ah ai) rfl) (ah ai) ⟨by decide, by decide⟩) ?_
 refine aL E.g E.iy (bw (aK (aA E.bD) (ah (aR (aC (aA E.bO) (ah ai) rfl) (ah (bU (Uz _) E.bL (aA E.bD) E.bK)) (by omega))) (cK Str.empty e1 e2)) rfl) ?_
 refine aL E.g E.yT (aO (ak (gn (ah (aR (aA E.iz) (ah (eo (aA E.cz) (ah ai))) (by omega))) (ah ai)) (ak (c_ (c / 3) E.d9 E.dw (au (ah (bC (aC (aA E.bO) (ah ai) rfl) (ah ai) ⟨by decide, by decide⟩)) aT) (trivial) rfl) aN)) (aq rfl)) ?_
 refine bq (dJ (ah (aR (ah (bC (aC (aA E.bO) (ah ai) rfl) (ah ai) ⟨by decide, by decide⟩)) (ah ai) (by decide))) (ah ai)).1 (fun hp => ?_) (fun hp => aj ?_)
 . have Jb : a / 8 % 3 = 0 := UX hp
   refine aY (aO (ak aB (ak (v_ E.iy.1) aN)) (aq rfl)) ?_
   show T.sh _ = T.sh (gP a c n ns)
   rw [gP, UR Jb]
 have Jb : ¬ a / 8 % 3 = 0 := UW hp
 refine bq (qR (yq (dJ (ah (aR (ah (bC (aC (aA E.bO) (ah ai) rfl) (ah ai) ⟨by decide, by decide⟩)) (ah ai) (by decide))) (ah ai)).1 (fun _ => t7 (sX (aA E.cz) (ah ai)).1))) (fun hq => ?_) (fun hq => aj ?_)
 . have GF : a / 8 % 3 = 1 /\ 0 < n := by
     simp at hq
     omega
   refine aY (aO (ak aB (ak (aR (ah (bC (aA E.iz) (ah ai) ⟨by decide, by decide⟩)) (aA E.cz) (by omega)) (ak (v_ E.yT.1) aN))) (aq rfl)) ?_
   show T.sh _ = T.sh (gP a c n ns)
   rw [gP, UE Jb, UR GF]
   rfl
 . have GF : ¬ (a / 8 % 3 = 1 /\ 0 < n) := by
     simp at hq
     omega
   refine aY (aO (ak aB (ak (v_ E.iy.1) (ak (v_ E.yT.1) aN))) (aq rfl)) ?_
   show T.sh _ = T.sh (gP a c n ns)
   rw [gP, UE Jb, UE GF]
   rfl
theorem dg : nX (ay kO) ([("item", az), ("boxes", az), ("names", az), ("pick", az), ("name", az), ("term", az), ("len", aG), ("_law_number_by", aG)]) = true := by decide +kernel
theorem rJ : aV ["item", "boxes", "names", "pick", "name", "term"] ["item", "boxes", "names"] (ay kO) := bI
noncomputable abbrev nh : Stmt := top 14
noncomputable abbrev rK : Type := Int × Int × Int × Nat × List Str
noncomputable def jc : rK -> List L3.D := fun (a, c, src, n, ns) => [.tup [.int a, .int c], .int src, .int n, .lst (ns.map .str)]
noncomputable def gC : rK -> Prop := fun (a, c, src, n, ns) => n <= 1000 /\ 0 < ns.length /\ ns.length <= 1000
noncomputable def jd : rK -> T := fun (a, c, src, n, ns) => (.sh (Ez a c src n ns) : T)
structure EV (X : Cx) (CL : Str -> Addr) : Prop extends dH X where
 bO : Ln X 0 "item"
 w6 : Ln X 1 "source"
 dX : Ln X 2 "many"
 bD : Ln X 3 "names"
 ni : Ln X 4 "target"
 uK : Ln X 5 "mode"
 bK : Gl X "len"
 bL : X.mg "len" = none
theorem EW {X : Cx} {CL : Str -> Addr} {b : Bx} (E : EV X CL) (a c src n ns) (h : gC (a, c, src, n, ns)) :
   aJ X CL b nh ["item", "source", "many", "names", "target", "mode"] (jc (a, c, src, n, ns)) (jd (a, c, src, n, ns)) := by
 dsimp only [aJ, gC, jc, jd] at h ⊢
 obtain ⟨h1, h2, h3⟩ := h
 have e1 := UT (a / 24) (show (ns.length : Int) ≠ 0 by omega)
 have e2 := UK (a / 24) (show 0 < (ns.length : Int) by omega)
 refine aL E.g E.ni (gn (ah (aR (aC (aA E.bO) (ah ai) rfl) (ah (eo (aA E.dX) (ah ai))) (by omega))) (ah ai)) ?_
 refine aL E.g E.uK aB ?_
 refine bq (qQ (aA E.ni) (ah (ig (ah ai)))).1 (fun hp => ?_) (fun hp => aj ?_)
 . refine aL E.g E.uK (bw (aK (cC (fP (ak aB (ak aB (ak aB aN))) (aq rfl))) (ah (aR (ah (bC (aC (aA E.bO) (ah ai) rfl) (ah ai) ⟨by decide, by decide⟩)) (ah ai) (by decide))) (cK (f := L3.D.str) (l := ["new", "near", "far"]) Str.empty (UT _ (by decide)) (UK _ (by decide)))) rfl) (aj ?_)
   have hm : Ey a c n = (["new", "near", "far"] : List Str).getD (a / 8 % 3).toNat Str.empty := by
     unfold Ey
     rw [if_neg (by simpa [HL] using hp)]
   refine aY (aO (ak (v_ E.w6.1) (ak (bw (aK (aA E.bD) (ah (aR (ah (bC (aC (aA E.bO) (ah ai) rfl) (ah ai) ⟨by decide, by decide⟩)) (ah (bU (Uz _) E.bL (aA E.bD) E.bK)) (by omega))) (cK Str.empty e1 e2)) rfl) (ak (aO aN (aq rfl)) (ak (aO aN (aq rfl)) (ak (v_ E.ni.1) (ak (v_ E.uK.1) aN)))))) (aq rfl)) ?_
   show T.sh _ = T.sh (Ez a c src n ns)
   rw [Ez, hm]
   rfl
 . have hm : Ey a c n = "new" := by
     unfold Ey
     rw [if_pos (by simpa [HL] using hp)]
   refine aY (aO (ak (v_ E.w6.1) (ak (bw (aK (aA E.bD) (ah (aR (ah (bC (aC (aA E.bO) (ah ai) rfl) (ah ai) ⟨by decide, by decide⟩)) (ah (bU (Uz _) E.bL (aA E.bD) E.bK)) (by omega))) (cK Str.empty e1 e2)) rfl) (ak (aO aN (aq rfl)) (ak (aO aN (aq rfl)) (ak (v_ E.ni.1) (ak (v_ E.uK.1) aN)))))) (aq rfl)) ?_
   show T.sh _ = T.sh (Ez a c src n ns)
   rw [Ez, hm]
   rfl
theorem eY : nX (ay nh) ([("item", az), ("source", az), ("many", az), ("names", az), ("target", az), ("mode", az), ("len", aG)]) = true := by decide +kernel
theorem tH : aV ["item", "source", "many", "names", "target", "mode"] ["item", "source", "many", "names"] (ay nh) := bI
noncomputable abbrev nj : Stmt := top 15
noncomputable abbrev rL : Type := Int × Int × Nat × Nat
noncomputable def je : rL -> List L3.D := fun (a, c, n, m) => [.tup [.int a, .int c], .int n, .int m]
noncomputable def gD : rL -> Prop := fun (a, c, n, m) => n <= 1000 /\ 0 < m /\ m <= 1000
noncomputable def jf : rL -> T := fun (a, c, n, m) => (.sh (uB a c n m) : T)
structure EX (X : Cx) (CL : Str -> Addr) : Prop extends dH X where
 bO : Ln X 0 "item"
 cz : Ln X 1 "boxes"
 dX : Ln X 2 "many"
 iz : Ln X 3 "pick"
 tK : Ln X 4 "one"
 eK : Ln X 5 "other"
 dw : Gl X "_law_number_by"
 d9 : Fc X CL "_law_number_by" 1 1 cR cS cT
theorem EY {X : Cx} {CL : Str -> Addr} {b : Bx} (E : EX X CL) (a c n m) (h : gD (a, c, n, m)) :
   aJ X CL b nj ["item", "boxes", "many", "pick", "one", "other"] (je (a, c, n, m)) (jf (a, c, n, m)) := by
 dsimp only [aJ, gD, je, jf] at h ⊢
 obtain ⟨h1, h2, h3⟩ := h
 have q1 := UT (a / 8) (show (6 : Int) ≠ 0 by decide)
 have q2 := UK (a / 8) (show 0 < (6 : Int) by decide)
 refine aL E.g E.iz (bC (aC (aA E.bO) (ah ai) rfl) (ah ai) ⟨by decide, by decide⟩) ?_
 refine bq (sX (ah (aR (aA E.iz) (ah ai) (by decide))) (ah ai)).1 (fun hp => ?_) (fun hp => aj ?_)
 . have Jb : a / 8 % 6 > 3 := UX hp
   refine aY (aO (ak (bw (aK (cC (fP (ak aB (ak aB aN)) (aq rfl))) (ah (gn (ah (aR (aA E.iz) (ah ai) (by decide))) (ah ai))) (cK (f := L3.D.str) (l := ["open", "shut"]) Str.empty (by omega) (by show a / 8 % 6 - 4 < 2; omega))) rfl) (ak (aR (aC (aA E.bO) (ah ai) rfl) (aA E.dX) (by omega)) aN)) (aq rfl)) ?_
   show T.sh _ = T.sh (uB a c n m)
   rw [uB, UR Jb]
 . have Jb : ¬ a / 8 % 6 > 3 := UW hp
   refine aL E.g E.tK (aO (ak (gn (ah (aR (ah (bC (aA E.iz) (ah ai) ⟨by decide, by decide⟩)) (ah (eo (aA E.cz) (ah ai))) (by omega))) (ah ai)) (ak (c_ (c) E.d9 E.dw (au (aC (aA E.bO) (ah ai) rfl) aT) (trivial) rfl) aN)) (aq rfl)) ?_
   refine aL E.g E.eK (aO (ak (gn (ah (aR (ah (bC (aA E.iz) (ah ai) ⟨by decide, by decide⟩)) (ah (eo (aA E.cz) (ah ai))) (by omega))) (ah ai)) (ak (c_ (c * 48271 % 2147483647) E.d9 E.dw (au (ah (aR (ah (t6 (aC (aA E.bO) (ah ai) rfl) (ah ai) (.inr ⟨by decide, by decide⟩))) (ah ai) (by decide))) aT) (trivial) rfl) aN)) (aq rfl)) ?_
   refine aY (aO (ak (bw (aK (cC (fP (ak aB (ak aB (ak aB (ak aB aN)))) (aq rfl))) (ah (aR (aA E.iz) (ah ai) (by decide))) (cK (f := L3.D.str) (l := ["<", "<=", "=", "!="]) Str.empty q1 (by show a / 8 % 6 < 4; omega))) rfl) (ak (v_ E.tK.1) (ak (v_ E.eK.1) aN))) (aq rfl)) ?_
   show T.sh _ = T.sh (uB a c n m)
   rw [uB, UE Jb]
   rfl
theorem eZ : nX (ay nj) ([("item", az), ("boxes", az), ("many", az), ("pick", az), ("one", az), ("other", az), ("_law_number_by", aG)]) = true := by decide +kernel
theorem tL : aV ["item", "boxes", "many", "pick", "one", "other"] ["item", "boxes", "many"] (ay nj) := bI
noncomputable abbrev kP : Stmt := top 16
noncomputable abbrev oB : Type := (List (Int × Int)) × Nat × Nat × List Str
noncomputable def gY : oB -> List L3.D := fun (l, nb, nm, ns) => [.lst (l.map En), .int nb, .int nm, .lst (ns.map .str)]
noncomputable def fF : oB -> Prop := fun (l, nb, nm, ns) => l.length <= 100 /\ nb <= 1000 /\ (0 < nm /\ nm <= 1000) /\ (0 < ns.length /\ ns.length <= 1000) /\ BV ns
noncomputable def gZ : oB -> T := fun (l, nb, nm, ns) => (.lst [tG (HP nb nm ns l).is, tG (HP nb nm ns l).os, Di (HP nb nm ns l).ws] : T)
structure B7 (X : Cx) (CL : Str -> Addr) : Prop extends dH X where
 gR : Ln X 0 "items"
 cz : Ln X 1 "boxes"
 dX : Ln X 2 "many"
 bD : Ln X 3 "names"
 pU : Ln X 4 "ins"
 lR : Ln X 5 "outs"
 gE : Ln X 6 "ways"
 bO : Ln X 7 "item"
 dO : Ln X 8 "kind"
 cV : Ln X 9 "mood"
 pV : Ln X 10 "way"
 bK : Gl X "len"
 gF : Gl X "_law_deed_by"
 sJ : Gl X "_law_way_by"
 sL : Gl X "_law_ask_by"
 bL : X.mg "len" = none
 oE : Fc X CL "_law_deed_by" 2 3 gW c9 gX
 EZ : Fc X CL "_law_way_by" 1 4 jc gC jd
 E1 : Fc X CL "_law_ask_by" 2 3 je gD jf
theorem B8 {X : Cx} {CL : Str -> Addr} {b : Bx} (E : B7 X CL) (l nb nm ns) (h : fF (l, nb, nm, ns)) :
   aJ X CL b kP ["items", "boxes", "many", "names", "ins", "outs", "ways", "item", "kind", "mood", "way"] (gY (l, nb, nm, ns)) (gZ (l, nb, nm, ns)) := by
 dsimp only [aJ, fF, gY, gZ] at h ⊢
 obtain ⟨hl, hb, ⟨QM, hm⟩, ⟨O6, hs⟩, hn⟩ := h
 refine aL E.g E.pU (dM (di (aO aN (aq rfl)) c5) (aq rfl)) ?_
 refine aL E.g E.lR (dM (di (aO aN (aq rfl)) c5) (aq rfl)) ?_
 refine aL E.g E.gE (dM c5 (U9 _)) ?_
 refine pK E.g E.bO (fun j δ => ∃ o8 o9 Lh Li, δ = [some (.sh (.lst (l.map En))), some (.sh (.int nb)), some (.sh (.int nm)), some (.sh (.lst (ns.map .str))), some (tG ((l.take j).foldl (iP nb nm ns) EA).is), some (tG ((l.take j).foldl (iP nb nm ns) EA).os), some (Di ((l.take j).foldl (iP nb nm ns) EA).ws), o8, o9, Lh, Li])
   (yt (v_ E.gR.1)) ⟨_, _, _, _, rfl⟩ (fun j δ ⟨_, _, _, _, e⟩ => by subst e; exact UI rfl) ?turn ?fin
 case turn =>
   rintro j d δ hj ⟨o8, o9, Lh, Li, rfl⟩
   obtain ⟨p, hp, rfl⟩ := AW hj
   have ok := yK (nb := nb) (nm := nm) hn QM (l.take j) 0 EA (ED _ _)
   rw [Nat.zero_add] at ok
   have RQ : (l.take j).length <= 100 := by rw [VR]; omega
   generalize (l.take j).length = k at ok RQ
   show fJ X CL b _ _ { nx := fun δ => ∃ o8 o9 Lh Li, δ = [_, _, _, _, some (tG ((l.take (j + 1)).foldl (iP nb nm ns) EA).is), some (tG ((l.take (j + 1)).foldl (iP nb nm ns) EA).os), some (Di ((l.take (j + 1)).foldl (iP nb nm ns) EA).ws), o8, o9, Lh, Li], rt := _, bk := _, ct := _ }
   rw [tD hp, List.foldl_append]
   generalize (l.take j).foldl (iP nb nm ns) EA = o at ok ⊢
   show fJ X CL b _ _ { nx := fun δ => ∃ o8 o9 Lh Li, δ = [_, _, _, _, some (tG (iP nb nm ns o p).is), some (tG (iP nb nm ns o p).os), some (Di (iP nb nm ns o p).ws), o8, o9, Lh, Li], rt := _, bk := _, ct := _ }
   obtain ⟨is, os, ws⟩ := o
   obtain ⟨n0, n1, n2, ii, oo, wl, ww⟩ := ok
   dsimp only at n0 n1 n2 ii oo wl ww
   refine aL E.g E.dO (aR (aC (aA E.bO) (ah ai) rfl) (ah ai) (by decide)) ?_
   refine aL E.g E.cV (gn (ah (bU (Uz ..) E.bL (vL E.pU.1) E.bK)) (ah ai)) ?_
   have RV : ((is.map L3.D.tup).map T.sh).length = is.length := by rw [Uz, Uz]
   have Qf : ((os.map L3.D.tup).map T.sh).length = os.length := by rw [Uz, Uz]
   have QN : ((ws.map WY.d).map T.sh).length = ws.length := by rw [Uz, Uz]
   refine bq (Az (aA E.dO) (ah ai)).1 (fun h3 => ?_) (fun h3 => ?_)
   . have h3 : p.1 % 8 < 3 := UX h3
     refine k9 E.pU.1 rfl (aO aN (aq rfl)) rfl (by rw [RV]; omega) ?_
     refine k9 E.lR.1 rfl (aO aN (aq rfl)) rfl (by rw [Qf]; omega) (aj (aj ?_))
     rw [iP, UR h3, ← wU, ← wU]
     exact ⟨_, _, _, _, rfl⟩
   have h3 : ¬ p.1 % 8 < 3 := UW h3
   refine bq (dJ (aA E.dO) (ah ai)).1 (fun h4 => ?_) (fun h4 => ?_)
   . have h4 : p.1 % 8 = 3 := UX h4
     have hg := (ii _ (m5 [] n0))
     have T8 := hg.l1
     refine AF E.pU.1 (fC (bw (aK (vL E.pU.1) (aA E.cV) (EF [] n0)) (rA hg)) (aO (ak (c_ ((p.1, p.2, nb, ns)) E.oE E.gF (au (aA E.bO) (au (aA E.cz) (au (aA E.bD) aT))) (by dsimp only [c9]; exact (⟨hb, O6, hs⟩)) (by exact (gj p.1 p.2 nb hn).im)) aN) (aq rfl)) (by intro z; cases z) (Nat.le_of_lt (cG (by rw [List.length_singleton]; omega)))) (aA E.cV) rfl (by rw [RV]; exact EG n0) (aj (aj (aj ?_)))
     rw [iP, UE h3, UR h4, ← A3]
     exact ⟨_, _, _, _, rfl⟩
   have h4 : ¬ p.1 % 8 = 3 := UW h4
   refine bq (dJ (aA E.dO) (ah ai)).1 (fun h5 => ?_) (fun h5 => ?_)
   . have h5 : p.1 % 8 = 4 := UX h5
     have m0 : 0 < os.length := by omega
     have hg := (oo _ (m5 [] m0))
     have T8 := hg.l1
     rw [← n2]
     refine AF E.lR.1 (fC (bw (aK (vL E.lR.1) (aA E.cV) (EF [] m0)) (rA hg)) (aO (ak (c_ ((p.1, p.2, nb, ns)) E.oE E.gF (au (aA E.bO) (au (aA E.cz) (au (aA E.bD) aT))) (by dsimp only [c9]; exact (⟨hb, O6, hs⟩)) (by exact (gj p.1 p.2 nb hn).im)) aN) (aq rfl)) (by intro z; cases z) (Nat.le_of_lt (cG (by rw [List.length_singleton]; omega)))) (aA E.cV) rfl (by rw [Qf]; exact EG m0) (aj (aj (aj (aj ?_))))
     rw [iP, UE h3, UE h4, UR h5, ← A3]
     exact ⟨_, _, _, _, rfl⟩
   have h5 : ¬ p.1 % 8 = 4 := UW h5
   have NW : ∀ {z : Bool}, Df (.lst (ws.map WY.d)) (.lst []) = z -> z = false -> 0 < ws.length := fun e z => by
     subst z
     rw [uD] at e
     have := UW e
     exact V4.mpr fun w => this (by rw [w]; rfl)
   refine bq (p := decide (p.1 % 8 = 5) || (Df (.lst (ws.map WY.d)) (.lst []) || !decide ((fD ws).src = (is.length : Int) - 1))) (qR (mP (dJ (aA E.dO) (ah ai)).1 (fun _ => mP (D3 E.u (vL E.gE.1) (cC (dM c5 (U9 _))) (Le ww) (q8 [])).1 (fun hz => jN (qQ (aC (aK (vL E.gE.1) (ah (ig (ah ai))) (rB Ma (NW rfl hz))) (ah ai) rfl) (aA E.cV)).1)))) (fun h6 => ?_) (fun h6 => ?_)
   . have h6 : p.1 % 8 = 5 \/ ws = [] \/ (fD ws).src ≠ (is.length : Int) - 1 := by
       rw [uD, Bool.or_eq_true, Bool.or_eq_true, Bool.not_eq_true'] at h6
       rcases h6 with h | h | h
       . exact .inl (UX h)
       . exact .inr (.inl (List.map_eq_nil_iff.mp (UX h)))
       . exact .inr (.inr (UW h))
     refine k9 E.gE.1 rfl (gw (c_ ((p.1, p.2, (is.length : Int) - 1, nm, ns)) E.EZ E.sJ (au (aA E.bO) (au (aA E.cV) (au (aA E.dX) (au (aA E.bD) aT)))) (by dsimp only [gC]; exact (⟨hm, O6, hs⟩)) rfl) (t2 := .sh (QH p.1 p.2 ((is.length : Int) - 1) nm ns).d) rfl) rfl (by rw [QN]; omega) (aj (aj (aj (aj (aj ?_)))))
     rw [iP, UE h3, UE h4, UE h5, UR h6, ← EH]
     exact ⟨_, _, _, _, rfl⟩
   have h6 : ¬ (p.1 % 8 = 5 \/ ws = [] \/ (fD ws).src ≠ (is.length : Int) - 1) := by
     rw [uD, Bool.or_eq_false_iff, Bool.or_eq_false_iff, Bool.not_eq_false'] at h6
     obtain ⟨a1, a2, a3⟩ := h6
     rintro (h | h | h)
     . exact UW a1 h
     . exact UW a2 (by rw [h]; rfl)
     . exact h (UX a3)
   have Lc : 0 < ws.length := V4.mpr fun z => h6 (.inr (.inl z))
   have hg := ww _ (m5 Ma Lc)
   have e1 := hg.l1
   have e2 := hg.l2
   refine bq (dJ (aA E.dO) (ah ai)).1 (fun h7 => ?_) (fun h7 => ?_)
   . have h7 : p.1 % 8 = 6 := UX h7
     refine aL E.g E.pV (bw (aK (vL E.gE.1) (ah (ig (ah ai))) (rB Ma Lc)) (yL hg)) ?_
     refine AF E.gE.1 (gw (fC (fC (iY (v_ E.pV.1) (by exact QI) kD (kE (ah ai))) (aO (ak (fC (DS (v_ E.pV.1) (ah ai) rfl) (aO (ak (c_ ((p.1, p.2, nb, nm)) E.E1 E.sL (au (aA E.bO) (au (aA E.cz) (au (aA E.dX) aT))) (by dsimp only [gD]; exact (⟨hb, QM, hm⟩)) (by exact (wR p.1 p.2 nb QM).im)) aN) (aq rfl)) (by intro z; cases z) (Nat.le_of_lt (cG (by rw [List.length_singleton]; omega)))) aN) (aq rfl)) (by intro z; cases z) (aq rfl)) (iY (v_ E.pV.1) (by exact QJ) (kE (ah ai)) kD) (by intro z; cases z) (aq rfl)) (t2 := .sh (WY.d { fD ws with qs := (fD ws).qs ++ [uB p.1 p.2 nb nm] })) rfl) (ah (ig (ah ai))) rfl (by rw [QN]; exact uE Lc) (aj (aj (aj (aj (aj (aj ?_))))))
     rw [iP, UE h3, UE h4, UE h5, UE h6, UR h7, ← A4]
     exact ⟨_, _, _, _, rfl⟩
   . have h7 : ¬ p.1 % 8 = 6 := UW h7
     refine aL E.g E.pV (bw (aK (vL E.gE.1) (ah (ig (ah ai))) (rB Ma Lc)) (yL hg)) ?_
     refine AF E.gE.1 (gw (fC (fC (iY (v_ E.pV.1) (by exact QK) kD (kE (ah ai))) (aO (ak (fC (DS (v_ E.pV.1) (ah ai) rfl) (aO (ak (c_ ((p.1, p.2, nb, ns)) E.oE E.gF (au (aA E.bO) (au (aA E.cz) (au (aA E.bD) aT))) (by dsimp only [c9]; exact (⟨hb, O6, hs⟩)) (by exact (gj p.1 p.2 nb hn).im)) aN) (aq rfl)) (by intro z; cases z) (Nat.le_of_lt (cG (by rw [List.length_singleton]; omega)))) aN) (aq rfl)) (by intro z; cases z) (aq rfl)) (iY (v_ E.pV.1) (by exact QL) (kE (ah ai)) kD) (by intro z; cases z) (aq rfl)) (t2 := .sh (WY.d { fD ws with ds := (fD ws).ds ++ [gP p.1 p.2 nb ns] })) rfl) (ah (ig (ah ai))) rfl (by rw [QN]; exact uE Lc) (aj (aj (aj (aj (aj (aj ?_))))))
     rw [iP, UE h3, UE h4, UE h5, UE h6, UE h7, ← A4]
     exact ⟨_, _, _, _, rfl⟩
 case fin =>
   rintro δ ⟨o8, o9, Lh, Li, rfl⟩
   rw [Uz, List.take_length]
   exact aY (dM (di (vM E.pU.1) (di (vM E.lR.1) (di (vM E.gE.1) c5))) (aq rfl)) rfl
theorem bA : nX (ay kP) ([("items", az), ("boxes", az), ("many", az), ("names", az), ("ins", az), ("outs", az), ("ways", az), ("item", az), ("kind", az), ("mood", az), ("way", az), ("len", aG), ("_law_deed_by", aG), ("_law_way_by", aG), ("_law_ask_by", aG)]) = true := by decide +kernel
theorem rM : aV ["items", "boxes", "many", "names", "ins", "outs", "ways", "item", "kind", "mood", "way"] ["items", "boxes", "many", "names"] (ay kP) := bI
noncomputable def Jc (s : List Int) : Int := if 82 < (s.length : Int) then 82 else s.length
theorem yU (s : List Int) : 0 <= Jc s /\ Jc s <= 82 /\ Jc s <= s.length := by
 unfold Jc
 split <;> omega
noncomputable def Lj (s : List Int) (k : Int) : Int × Int := (s.getD k.toNat 0, cE s (k + 1))
noncomputable def iQ (s : List Int) : List (Int × Int) := (List.range (iZ 2 (Jc s))).map fun (i : Nat) => Lj s (2 + (i : Int) * 2)
theorem rN (s : List Int) : (iQ s).length <= 40 := by
 have := yU s
 unfold iQ iZ
 rw [Uz, Vj]
 omega
noncomputable def Gm (s : List Int) : Int := cE s 1 / 5
noncomputable def dP (s : List Int) : List Int := HC (iQ s)
noncomputable def oF (s : List Int) : List Str := K7 s ((dP s).length + 4)
noncomputable def QO (s : List Int) (ns : List Str) (k : Int) : Str × Int := (ns.getD k.toNat Str.empty, uA (cE s (3 + 2 * k)))
noncomputable def nq (s : List Int) : List (Str × Int) := (List.range (Gm s % 4).toNat).map fun (k : Nat) => QO s (oF s) (0 + (k : Int))
noncomputable def Gn (s : List Int) : List Int := [Gm s / 4] ++ oi (iQ s)
noncomputable def xX (s : List Int) : OW := HP (nq s).length (dP s).length (oF s) (iQ s)
noncomputable def Mb (s : List Int) : List Str := (oF s).take (dP s).length
noncomputable def uL (s : List Int) : L3.D := i7 ((nq s).map jG) (Mb s) (eW (dP s) (Gn s) (dP s).length) (dP s) (eX (dP s) (Gn s) (dP s).length) ((xX s).is.map .tup) ((xX s).os.map .tup) ((xX s).ws.map WY.d)
theorem nu (s : List Int) : 0 < (dP s).length /\ (dP s).length <= 41 /\ (Gn s).length = (dP s).length := by
 have a := (HF (iQ s)).2
 have c := kG (iQ s)
 have d := rN s
 have e := lK (iQ s)
 unfold dP Gn
 rw [UM, U0]
 omega
theorem w9 (s : List Int) : (oF s).length = (dP s).length + 4 := rg _ _ _
theorem qD (s : List Int) : ∀ x ∈ oF s, x.length <= 21 /\ PyData.strOk x = true := AY _ _ _
theorem A6 (s : List Int) : (Mb s).length = (dP s).length := by
 have := w9 s
 unfold Mb
 rw [VR]
 omega
theorem Lk (s : List Int) : ∀ x ∈ Mb s, x.length <= 21 := fun x hx => (qD s x (List.mem_of_mem_take hx)).1
theorem rO (s : List Int) : (nq s).length <= 3 := by
 have a := UT (Gm s) (show (4 : Int) ≠ 0 by decide)
 have c := UK (Gm s) (show (0 : Int) < 4 by decide)
 unfold nq
 rw [Uz, Vj]
 omega
theorem HV (s : List Int) : ∀ p ∈ nq s, p.1.length <= 21 := fun p hp => by
 obtain ⟨k, _, rfl⟩ := Vs.mp hp
 show ((oF s).getD _ Str.empty).length <= 21
 rw [UN]
 cases e : (oF s)[(0 + (k : Int)).toNat]? with
 | none => exact U9 _
 | some x => exact (qD s x (Vk e)).1
theorem E2 (s : List Int) : BV (oF s) := ⟨fun x hx => (qD s x hx).1, fun x hx => (qD s x hx).2⟩
theorem yV (s : List Int) : wO (nq s).length (dP s).length 40 (xX s) := by
 have a := yK (nb := (nq s).length) (nm := (dP s).length) (E2 s) (nu s).1 (iQ s) 0 EA (ED _ _)
 have c := rN s
 rw [Nat.zero_add] at a
 have up : ∀ (n k : Nat) (o : OW), wO (nq s).length (dP s).length k o -> wO (nq s).length (dP s).length (k + n) o := by
   intro n
   induction n with
   | zero =>
     intro k o h
     exact h
   | succ n ih =>
     intro k o h
     obtain ⟨n0, n1, n2, ii, oo, wl, ww⟩ := ih k o h
     exact ⟨n0, Vp n1, n2, fun l hl => (ii l hl).up, fun l hl => (oo l hl).up, Vp wl, fun w hw => (ww w hw).up (UJ _)⟩
 have := up (40 - (iQ s).length) _ _ a
 rwa [show (iQ s).length + (40 - (iQ s).length) = 40 by omega] at this
theorem E3 (l : List (Str × Int)) : D.bf (l.map jG) = true := mS (fun _ => rfl) _
theorem E4 (s : List Int) : Sm 8 (uL s) := by
 have o := yV s
 have e := nu s
 have b := rO s
 have n := A6 s
 have o0 := o.n1
 have o1 := o.n2
 have o2 := o.wl
 refine ⟨by show (8 : Nat) <= 1000; decide, fun d hd => ?_⟩
 rcases UA.mp hd with rfl | hd
 . refine ⟨by rw [Uz]; omega, fun d hd => ?_⟩
   obtain ⟨p, _, rfl⟩ := Vs.mp hd
   refine ⟨by show (2 : Nat) <= 1000; decide, fun d hd => ?_⟩
   rcases UA.mp hd with rfl | hd
   . trivial
   . cases UG.mp hd
     trivial
 rcases UA.mp hd with rfl | hd
 . exact AZ 6 _ (by omega)
 rcases UA.mp hd with rfl | hd
 . exact AZ 6 _ (by rw [rj]; omega)
 rcases UA.mp hd with rfl | hd
 . exact A0 6 _ (by omega)
 rcases UA.mp hd with rfl | hd
 . exact A0 6 _ (by rw [rm]; omega)
 rcases UA.mp hd with rfl | hd
 . exact EE (n := 3) o.ii (by decide) (by omega)
 rcases UA.mp hd with rfl | hd
 . exact EE (n := 3) o.oo (by decide) (by omega)
 . cases UG.mp hd
   exact Ld (n := 2) o.ww (by decide) (by omega)
theorem E5 {α : Type} (l : List α) (n : Nat) : cutD l none (some (n : Int)) = l.take n := by
 unfold cutD
 rw [HT.GL]
 show (l.drop 0).take (min n l.length - 0) = _
 rw [List.drop_zero, Nat.sub_zero, ← List.take_eq_take_min]
noncomputable abbrev jg : Stmt := top 18
noncomputable abbrev lS : Type := List Int
noncomputable def fW : lS -> List L3.D := fun s => [.lst (s.map .int)]
noncomputable def fX : lS -> Prop := fun s => s.length <= 1000
noncomputable def fY : lS -> T := fun s => (.sh (uL s) : T)
structure yW (X : Cx) (CL : Str -> Addr) : Prop extends dH X where
 bY : Ln X 0 "script"
 xg : X.env.kindOf "script" = some .cell
 yX : Ln X 1 "head"
 gR : Ln X 2 "items"
 bx : Ln X 3 "elders"
 bD : Ln X 4 "names"
 HW : X.env.kindOf "names" = some .cell
 cz : Ln X 5 "boxes"
 rP : Ln X 6 "shapes"
 E6 : Ln X 7 "owns"
 cH : Gl X "_law_cell_at"
 cX : Gl X "range"
 E7 : Gl X "min"
 bK : Gl X "len"
 oG : Gl X "_law_elders_by"
 qh : Gl X "_law_names_by"
 qi : Gl X "_law_kinds_by"
 rQ : Gl X "_law_owns_by"
 d8 : Fc X CL "_law_cell_at" 1 2 dY dZ d7
 cY : X.mg "range" = none
 E8 : X.mg "min" = none
 bL : X.mg "len" = none
 xh : Fc X CL "_law_elders_by" 2 1 fj fk fq
 yZ : Fc X CL "_law_names_by" 2 2 fQ fS fT
 y9 : Fc X CL "_law_kinds_by" 1 2 fU eH fV
 B9 : Fc X CL "_law_owns_by" 3 4 gY fF gZ
 d9 : Fc X CL "_law_number_by" 1 1 cR cS cT
theorem za {X : Cx} {CL : Str -> Addr} {b : Bx} (E : yW X CL) (s) (h : fX s) :
   aJ X CL b jg ["script", "head", "items", "elders", "names", "boxes", "shapes", "owns"] (fW s) (fY s) := by
 dsimp only [aJ, fX, fW, fY] at h ⊢
 have hm := yU s
 have hi := rN s
 obtain ⟨e0, e1, e2⟩ := nu s
 have n1 := w9 s
 refine aL E.g E.yX (gw (bC (ah (c_ ((s, 1)) E.d8 E.cH (au (aA E.bY) (au (ah ai) aT)) (show (0 : Int) <= 1 by omega) rfl)) (ah ai) ⟨by decide, by decide⟩) (t2 := .sh (.int (Gm s))) rfl) ?_
 refine n8 (p := fun _ => true) (gg := fun d => .sh (En (Lj s d.Hh))) E.g E.gR (dW (.cons E.bY.1 (.inl E.xg) .nil) (by decide +kernel))
   (tu E.cY (au (ah ai) (au (wo (ah (AO E.g E.E8 E.E7 (au (ah (bU (Uz ..) E.bL (aA E.bY) E.bK)) (au (ah ai) aT)))) (d2 := .int (Jc s)) rfl) (au (ah ai) aT))) (by omega) E.cX) (.inr rfl) (fun C s0 H0 f0 b' d hd => ?QS) (VC (cG (by rw [jE, Uz, Vj]; unfold iZ; omega))) ?NX (by exact UI rfl) (iL ⟨_, rfl⟩)
 case QS =>
   obtain ⟨i, hi, rfl⟩ := Vs.mp hd
   have hi := V8.mp hi
   unfold iZ at hi
   exact ⟨rfl, fun _ => aO (ak (bw (aK (ah (v_ (nW (i := 1) rfl (by decide +kernel)))) (ah (v_ (dN (i := 0) rfl (by decide +kernel)))) (gu (show (0 : Int) <= 2 + (i : Int) * 2 by omega) (show 2 + (i : Int) * 2 < s.length by omega))) rfl)
     (ak (c_ (s, 2 + (i : Int) * 2 + 1) (uc E.d8) (fh (by decide +kernel)) (au (ah (v_ (nW (i := 1) rfl (by decide +kernel)))) (au (ah (eo (ah (v_ (dN (i := 0) rfl (by decide +kernel)))) (ah ai))) aT)) (show (0 : Int) <= 2 + (i : Int) * 2 + 1 by omega) rfl) aN)) (aq rfl)⟩
 case NX =>
 have eq1 : ((jE 2 (iZ 2 (Jc s))).filter fun _ => true).map (fun d => T.sh (En (Lj s d.Hh))) = ((iQ s).map En).map T.sh := by
   rw [pL, jE, Vt, iQ, Vt, Vt]
   rfl
 rw [eq1]
 refine aL E.g E.bx (qx (ds := (dP s).map .int) (c_ (iQ s) E.xh E.oG (au (vL E.gR.1) aT) (show (iQ s).length <= 100 by omega) (gA _))) ?_
 refine aL E.g E.bD (qx (ds := (oF s).map .str) (c_ (s, (dP s).length + 4) E.yZ E.qh (au (aA E.bY) (au (wo (ah (eo (ah (bU (Uz ..) E.bL (aA E.bx) E.bK)) (ah ai))) (d2 := .int (((dP s).length + 4 : Nat) : Int)) rfl) aT)) (show (dP s).length + 4 <= 100 by omega) (lJ _))) ?_
 have Ux := UT (Gm s) (show (4 : Int) ≠ 0 by decide)
 have Uy := UK (Gm s) (show (0 : Int) < 4 by decide)
 refine n8 (p := fun _ => true) (gg := fun d => .sh (jG (QO s (oF s) d.Hh))) E.g E.cz (dW (.cons E.bD.1 (.inl E.HW) (.cons E.bY.1 (.inl E.xg) .nil)) (by decide +kernel))
   (gq E.cY (ah (aR (aA E.yX) (ah ai) (by decide))) (by omega) E.cX) (.inr rfl) (fun C s0 H0 f0 b' d hd => ?QT) (VC (cG (by rw [c7, Uz, Vj]; omega))) ?NZ (by exact UI rfl) (iL ⟨_, rfl⟩)
 case QT =>
   obtain ⟨i, hi, rfl⟩ := Vs.mp hd
   have hi := V8.mp hi
   exact ⟨rfl, fun _ => aO (ak (bw (aK (ah (v_ (nW (i := 1) rfl (by decide +kernel)))) (ah (v_ (dN (i := 0) rfl (by decide +kernel)))) (cK Str.empty (show (0 : Int) <= 0 + (i : Int) by omega) (show 0 + (i : Int) < (oF s).length by omega))) rfl)
     (ak (c_ (cE s (3 + 2 * (0 + (i : Int)))) (uc E.d9) (fh (by decide +kernel)) (au (ah (c_ (s, 3 + 2 * (0 + (i : Int))) (uc E.d8) (fh (by decide +kernel)) (au (ah (v_ (nW (i := 2) rfl (by decide +kernel)))) (au (ah (eo (ah ai) (ah (t6 (ah ai) (ah (v_ (dN (i := 0) rfl (by decide +kernel)))) (.inl ⟨by decide, by decide⟩))))) aT)) (show (0 : Int) <= 3 + 2 * (0 + (i : Int)) by omega) rfl)) aT) trivial rfl) aN)) (aq rfl)⟩
 case NZ =>
 have eq2 : ((c7 0 (Gm s % 4).toNat).filter fun _ => true).map (fun d => T.sh (jG (QO s (oF s) d.Hh))) = ((nq s).map jG).map T.sh := by
   rw [pL, c7, Vt, nq, Vt, Vt]
   rfl
 rw [eq2]
 refine aL E.g E.rP (uh (d := .lst [.lst ((eW (dP s) (Gn s) (dP s).length).map .str), .lst ((eX (dP s) (Gn s) (dP s).length).map .int)]) (c_ (dP s, Gn s) E.y9 E.qi (au (aA E.bx) (au (wo (cC (AK (ds := [.int (Gm s / 4)]) (ug := (oi (iQ s)).map .int) (cC (ds := [.int (Gm s / 4)]) (dM (di (bC (aA E.yX) (ah ai) ⟨by decide, by decide⟩) c5) (aq rfl)))
     (cC (gw (Ht (p := fun d => decide (d.TJ.Hh % 8 < 3)) (g := fun d => .sh (.int d.at2.Hh)) (dW .nil (by decide +kernel)) E.g.calm (yt (Rw E.gR.1 rfl)) (.inr rfl) (fun C s0 H0 f0 b' d hd => ?QV) (VC (cG (by rw [Uz]; omega)))) (t2 := .lst (((oi (iQ s)).map .int).map T.sh)) ?eq3)) rfl (fB _) (VC (cG (by rw [Uz, U0, lK]; have := kG (iQ s); omega))))) (d2 := .lst ((Gn s).map .int)) rfl) aT)) ?QW ?T9) ?OD) ?N1
 case QV =>
   obtain ⟨p, _, rfl⟩ := Vs.mp hd
   exact ⟨(Az (ah (aR (aC (ah (v_ (dN (i := 0) rfl (by decide +kernel)))) (ah ai) rfl) (ah ai) (by decide))) (ah ai)).1, fun _ => (bw (aC (ah (v_ (dN (i := 0) rfl (by decide +kernel)))) (ah ai) rfl) rfl)⟩
 case eq3 =>
   rw [List.filter_map, Vt, oi, Vt, Vt]
   rfl
 case QW =>
   dsimp only [eH]
   exact ⟨by omega, e2⟩
 case T9 =>
   show T.clean (.lst [_, _]) = true
   rw [gi, T.cJ, T.cJ, T.cJ, lJ, gA]
   rfl
 case OD =>
   show T.cZ (.lst [_, _]) = _
   rw [T.cZ, T.fz, T.fz, T.fz, dm, dm]
 case N1 =>
 have ow := yV s
 refine aL E.g E.E6 (uh (d := .lst [.lst ((xX s).is.map .tup), .lst ((xX s).os.map .tup), .lst ((xX s).ws.map WY.d)]) (c_ (iQ s, (nq s).length, (dP s).length, oF s) E.B9 E.rQ (au (aA E.gR) (au (ah (bU (Uz ..) E.bL (vL E.cz.1) E.bK)) (au (ah (bU (Uz ..) E.bL (aA E.bx) E.bK)) (au (aA E.bD) aT)))) ?QX ?Ua) ?Ub) ?N2
 case QX =>
   dsimp only [fF]
   have := rO s
   exact ⟨by omega, by omega, ⟨e0, by omega⟩, ⟨by omega, by omega⟩, E2 s⟩
 case Ua =>
   show T.clean (.lst [tG (xX s).is, tG (xX s).os, Di (xX s).ws]) = true
   rw [gi, T.cJ, T.cJ, T.cJ, T.cJ, tG, tG, Di, bN (qB ow.ii), bN (qB ow.oo), bN (A2 ow.ww)]
   rfl
 case Ub =>
   show T.cZ (.lst [tG (xX s).is, tG (xX s).os, Di (xX s).ws]) = _
   rw [T.cZ, T.fz, T.fz, T.fz, T.fz, tG, tG, Di, dm, dm, dm]
 case N2 =>
 refine aY (qx (Ej (AA (ak (Rw E.cz.1 rfl) (ak (qx (gw (wg (aA E.bD) (iM _) kD (kE (ah (bU (Uz ..) E.bL (aA E.bx) E.bK)))) (t2 := .lst (((Mb s).map .str).map T.sh)) (by rw [wj, E5]; rfl))) (ak (yr (v_ E.rP.1) (ah ai) rfl) (ak (v_ E.bx.1) (ak (yr (v_ E.rP.1) (ah ai) rfl) aN)))))) (v_ E.E6.1) (aq rfl))) ?_
 rfl
theorem aP : nX (ay jg) ([("script", .cell), ("head", az), ("items", az), ("elders", az), ("names", .cell), ("boxes", az), ("shapes", az), ("owns", az), ("_law_cell_at", aG), ("range", aG), ("min", aG), ("len", aG), ("_law_elders_by", aG), ("_law_names_by", aG), ("_law_kinds_by", aG), ("_law_owns_by", aG)]) = true := by decide +kernel
theorem pW : aV ["script", "head", "items", "elders", "names", "boxes", "shapes", "owns"] ["script"] (ay jg) := bI
noncomputable abbrev g5 : Stmt := inClass (top 3) 0
noncomputable abbrev jW : Type := List Str × List Int × List Int
noncomputable def lq : jW -> List L3.D := fun (ks, es, ss) => [.lst (ks.map .str), .lst (es.map .int), .lst (ss.map .int)]
noncomputable def lu : jW -> Prop := fun (ks, es, ss) => True
noncomputable def lz : jW -> List (Str × T) := fun (ks, es, ss) => (pO ks es ss : List (Str × T))
structure xj (X : Cx) (CL : Str -> Addr) : Prop extends dH X where
 iA : Ln X 0 "self"
 jb : Ln X 1 "kinds"
 bx : Ln X 2 "elders"
 jU : Ln X 3 "starts"
 bP : Gl X "list"
 bQ : X.mg "list" = none
 jh : vH X.K (CL "Tree")
 ji : aS X.K (CL "Tree") "kinds"
 iB : aS X.K (CL "Tree") "elders"
 iC : aS X.K (CL "Tree") "starts"
theorem xm {X : Cx} {CL : Str -> Addr} {b : Bx} (E : xj X CL) (ks : List Str) (es ss : List Int) (y : Addr) (h : True) :
   fJ X CL b (e9 g5) (D5 ["self", "kinds", "elders", "starts"] y "Tree" [.lst (ks.map .str), .lst (es.map .int), .lst (ss.map .int)]) { nx := fun δ => δ[0]? = some (some (.pin y (.ins "Tree" (pO ks es ss)))), rt := fun _ _ => False } := by
 have hi : D.bf (ks.map L3.D.str) = true := mS (fun _ => rfl) _
 refine mV E.jh E.ji E.iA.1 (bW E.bQ (aA E.jb) hi E.bP aZ) rfl (UI rfl) ?_
 rw [eF]
 refine mV E.jh E.iB E.iA.1 (bW E.bQ (aA E.bx) (fB _) E.bP aZ) rfl (UI rfl) ?_
 rw [bu (by decide +kernel), eF]
 refine mV E.jh E.iC E.iA.1 (bW E.bQ (aA E.jU) (fB _) E.bP aZ) rfl (UI rfl) ?_
 rw [bu (by decide +kernel), bu (by decide +kernel), eF]
 exact aj rfl
theorem eL : nX (ay g5) ([("self", az), ("kinds", az), ("elders", az), ("starts", az), ("list", aG)]) = true := by decide +kernel
theorem ny : aV ["self", "kinds", "elders", "starts"] ["self", "kinds", "elders", "starts"] (ay g5) := bI
noncomputable abbrev fZ : Stmt := inClass (top 1) 0
noncomputable abbrev jj : Type := List L3.D × List L3.D × V × List L3.D × List L3.D × List L3.D
noncomputable def jX : jj -> List L3.D := fun (bs, nm, tv, is, os, ws) => [.lst bs, .lst nm, .val tv, .lst is, .lst os, .lst ws]
noncomputable def jY : jj -> Prop := fun (bs, nm, tv, is, os, ws) => D.bf bs = true /\ D.bf nm = true /\ D.bf is = true /\ D.bf os = true /\ D.bf ws = true
noncomputable def jZ : jj -> List (Str × T) := fun (bs, nm, tv, is, os, ws) => (i6 bs nm (.sh (.val tv)) is os ws : List (Str × T))
structure uM (X : Cx) (CL : Str -> Addr) : Prop extends dH X where
 iA : Ln X 0 "self"
 cz : Ln X 1 "boxes"
 bD : Ln X 2 "names"
 jk : Ln X 3 "tree"
 pU : Ln X 4 "ins"
 lR : Ln X 5 "outs"
 gE : Ln X 6 "ways"
 bP : Gl X "list"
 bQ : X.mg "list" = none
 bV : vH X.K (CL "Chart")
 dS : aS X.K (CL "Chart") "boxes"
 cD : aS X.K (CL "Chart") "names"
 jl : aS X.K (CL "Chart") "tree"
 j0 : aS X.K (CL "Chart") "ins"
 jm : aS X.K (CL "Chart") "outs"
 jn : aS X.K (CL "Chart") "ways"
theorem uN {X : Cx} {CL : Str -> Addr} {b : Bx} (E : uM X CL) (bs nm : List L3.D) (tv : V) (is os ws : List L3.D) (y : Addr) (h : D.bf bs = true /\ D.bf nm = true /\ D.bf is = true /\ D.bf os = true /\ D.bf ws = true) :
   fJ X CL b (e9 fZ) (D5 ["self", "boxes", "names", "tree", "ins", "outs", "ways"] y "Chart" [.lst bs, .lst nm, .val tv, .lst is, .lst os, .lst ws]) { nx := fun δ => δ[0]? = some (some (.pin y (.ins "Chart" (i6 bs nm (.sh (.val tv)) is os ws)))), rt := fun _ _ => False } := by
 obtain ⟨h1, h2, h3, h4, h5⟩ := h
 refine mV E.bV E.dS E.iA.1 (bW E.bQ (aA E.cz) h1 E.bP aZ) rfl (UI rfl) ?_
 rw [eF]
 refine mV E.bV E.cD E.iA.1 (bW E.bQ (aA E.bD) h2 E.bP aZ) rfl (UI rfl) ?_
 rw [bu (by decide +kernel), eF]
 refine mV E.bV E.jl E.iA.1 (v_ E.jk.1) rfl (UI rfl) ?_
 rw [bu (by decide +kernel), bu (by decide +kernel), eF]
 refine mV E.bV E.j0 E.iA.1 (bW E.bQ (aA E.pU) h3 E.bP aZ) rfl (UI rfl) ?_
 rw [bu (by decide +kernel), bu (by decide +kernel), bu (by decide +kernel), eF]
 refine mV E.bV E.jm E.iA.1 (bW E.bQ (aA E.lR) h4 E.bP aZ) rfl (UI rfl) ?_
 rw [bu (by decide +kernel), bu (by decide +kernel), bu (by decide +kernel), bu (by decide +kernel), eF]
 refine mV E.bV E.jn E.iA.1 (bW E.bQ (aA E.gE) h5 E.bP aZ) rfl (UI rfl) ?_
 rw [bu (by decide +kernel), bu (by decide +kernel), bu (by decide +kernel), bu (by decide +kernel), bu (by decide +kernel), eF]
 exact aj rfl
theorem bZ : nX (ay fZ) ([("self", az), ("boxes", az), ("names", az), ("tree", az), ("ins", az), ("outs", az), ("ways", az), ("list", aG)]) = true := by decide +kernel
theorem lA : aV ["self", "boxes", "names", "tree", "ins", "outs", "ways"] ["self", "boxes", "names", "tree", "ins", "outs", "ways"] (ay fZ) := bI
noncomputable abbrev jo : Stmt := top 19
noncomputable abbrev lT : Type := List L3.D × List Str × List Str × List Int × List Int × List L3.D × List L3.D × List L3.D
noncomputable def f6 : lT -> List L3.D := fun (bs, ns, ks, es, ss, is, os, ws) => [i7 bs ns ks es ss is os ws]
noncomputable def eN : lT -> Prop := fun (bs, ns, ks, es, ss, is, os, ws) => D.bf bs = true /\ D.bf is = true /\ D.bf os = true /\ D.bf ws = true
noncomputable def f7 : lT -> T := fun (bs, ns, ks, es, ss, is, os, ws) => (.ins "Chart" (i6 bs (ns.map .str) (.ins "Tree" (pO ks es ss)) is os ws) : T)
structure zb (X : Cx) (CL : Str -> Addr) : Prop extends dH X where
 bE : Ln X 0 "parts"
 jk : Ln X 1 "tree"
 Lp : Gl X "Tree"
 bP : Gl X "list"
 HX : Gl X "Chart"
 Lq : Fm X CL "Tree" 1 4 lq lu lz
 bQ : X.mg "list" = none
 HY : Fm X CL "Chart" 1 7 jX jY jZ
theorem zc {X : Cx} {CL : Str -> Addr} {b : Bx} (E : zb X CL) (bs ns ks es ss is os ws) (h : eN (bs, ns, ks, es, ss, is, os, ws)) :
   aJ X CL b jo ["parts", "tree"] (f6 (bs, ns, ks, es, ss, is, os, ws)) (f7 (bs, ns, ks, es, ss, is, os, ws)) := by
 dsimp only [aJ, eN, f6, f7] at h ⊢
 obtain ⟨ib, ii, io, iw⟩ := h
 refine aL E.g E.jk (gw (S7 (ks, es, ss) E.Lq E.Lp (au (cC (bW E.bQ (aK (aA E.bE) (ah ai) rfl) (iM _) E.bP aZ)) (au (cC (bW E.bQ (aK (aA E.bE) (ah ai) rfl) (fB _) E.bP aZ)) (au (cC (bW E.bQ (aK (aA E.bE) (ah ai) rfl) (fB _) E.bP aZ)) aT))) trivial (pP ks es ss)) (t2 := .ins "Tree" (pO ks es ss)) rfl) ?_
 exact aY (TR (f := "tree") (wF := n9 bs (ns.map .str)) (Dg := oh is os ws) (fun v => (bs, ns.map .str, v, is, os, ws)) E.HY E.HX
   (wG (cC (bW E.bQ (aK (aA E.bE) (ah ai) rfl) ib E.bP aZ)) (wG (cC (bW E.bQ (aK (aA E.bE) (ah ai) rfl) (iM _) E.bP aZ))
     (Eg (vM E.jk.1)
       (au (cC (bW E.bQ (aK (aA E.bE) (ah ai) rfl) ii E.bP aZ)) (au (cC (bW E.bQ (aK (aA E.bE) (ah ai) rfl) io E.bP aZ)) (au (cC (bW E.bQ (aK (aA E.bE) (ah ai) rfl) iw E.bP aZ)) aT))))))
   (fun v => rfl) (fun v => ⟨ib, iM _, ii, io, iw⟩) (fun v => rfl) (uw ib (iM _)) (ux ii io iw)) rfl
theorem fG : nX (ay jo) ([("parts", az), ("tree", az), ("Tree", aG), ("list", aG), ("Chart", aG)]) = true := by decide +kernel
theorem pX : aV ["parts", "tree"] ["parts"] (ay jo) := bI
noncomputable def sM (c : Int) : Int := if c % 2 = 1 then 0 - c / 2 % 10 ^ (60 : Int).toNat else c / 2 % 10 ^ (60 : Int).toNat
noncomputable abbrev A7 : Stmt := top 23
noncomputable abbrev E9 : Type := Int
noncomputable def qE : E9 -> List L3.D := fun c => [.int c]
noncomputable def qF : E9 -> Prop := fun c => True
noncomputable def qG : E9 -> T := fun c => (.sh (.int (sM c)) : T)
structure N3 (X : Cx) (CL : Str -> Addr) : Prop extends dH X where
 rH : Ln X 0 "cell"
 lQ : Ln X 1 "size"
theorem N4 {X : Cx} {CL : Str -> Addr} {b : Bx} (E : N3 X CL) (c) (h : qF c) :
   aJ X CL b A7 ["cell", "size"] (qE c) (qG c) := by
 dsimp only [aJ, qF, qE, qG] at h ⊢
 refine aL E.g E.lQ (aR (ah (bC (aA E.rH) (ah ai) ⟨by decide, by decide⟩)) (ah (ym (ah ai) (ah ai) ⟨by decide, by decide, by decide⟩)) (by decide)) ?_
 refine bq (dJ (ah (aR (aA E.rH) (ah ai) (by decide))) (ah ai)).1 (fun hp => ?_) (fun hp => aj ?_)
 . refine aY (gn (ah ai) (aA E.lQ)) ?_
   show T.sh _ = T.sh (.int (sM c))
   unfold sM
   rw [UR (UX hp)]
 . refine aY (v_ E.lQ.1) ?_
   show T.sh _ = T.sh (.int (sM c))
   unfold sM
   rw [UE (UW hp)]
theorem Fb : nX (ay A7) ([("cell", az), ("size", az)]) = true := by decide +kernel
theorem Fd : aV ["cell", "size"] ["cell"] (ay A7) := bI
noncomputable def N5 (ns : List Str) (other : Int) : Str := ns.getD (other % (ns.length : Int)).toNat Str.empty
noncomputable def gI (nb : Nat) (ns : List Str) (one other : Int) : qg :=
 if one % 9 = 2 then .keep (one / 9 % (ns.length : Int)) (other / (ns.length : Int) % ((ns.length : Int) + 1) - 1) (other % (ns.length : Int))
 else if one % 9 = 3 /\ 0 < nb then .put (one / 9 % (nb : Int)) (sM other) (sM (other / 5))
 else if one % 9 = 4 then .say (N5 ns other) (sM (other / 3))
 else if one % 9 = 5 then .num "way" (other % 60)
 else if one % 9 = 6 then .num "rest" (1 + other % 60)
 else if 6 < one % 9 then .txt ((["sign", "call"] : List Str).getD (one % 9 - 7).toNat Str.empty) (N5 ns other)
 else .io ((["in", "out", "in", "out"] : List Str).getD (one % 9).toNat Str.empty) (one / 9 % (ns.length : Int))
theorem zf {i : Int} (h : i.natAbs < 2 ^ 1000) : i.natAbs.log2 < 1920 := by
 by_cases z : i.natAbs = 0
 . rw [z]; decide
 . exact Nat.lt_trans ((Nat.log2_lt z).mpr h) (by decide)
theorem zg (c : Int) : (sM c).natAbs.log2 < 1920 := by
 refine zf ?_
 have a := UT (c / 2) (show (10 ^ (60 : Int).toNat : Int) ≠ 0 by decide +kernel)
 have d := UK (c / 2) (show (0 : Int) < 10 ^ (60 : Int).toNat by decide +kernel)
 have e : (10 ^ (60 : Int).toNat : Int) <= (2 ^ 1000 : Nat) := by decide +kernel
 unfold sM
 generalize (10 ^ (60 : Int).toNat : Int) = z at a d e ⊢
 generalize (2 ^ 1000 : Nat) = y at e ⊢
 split <;> omega
theorem HZ {bs : List (Str × Int)} {ns : List Str} (h0 : 0 < ns.length) (h1 : ∀ x ∈ ns, x.length <= 21) (one other : Int) : tF bs ns (gI bs.length ns one other) := by
 have q0 := UT one (show (9 : Int) ≠ 0 by decide)
 have q1 := UK one (show (0 : Int) < 9 by decide)
 have m0 := fun z : Int => UT z (show (ns.length : Int) ≠ 0 by omega)
 have m1 := fun z : Int => UK z (show (0 : Int) < ns.length by omega)
 have hw : (N5 ns other).length <= 21 := by
   unfold N5
   rw [UN]
   cases e : ns[(other % (ns.length : Int)).toNat]? with
   | none => exact U9 _
   | some x => exact h1 x (Vk e)
 have s0 := UT other (show (60 : Int) ≠ 0 by decide)
 have s1 := UK other (show (0 : Int) < 60 by decide)
 have big : (100 : Nat) <= 2 ^ 1000 := by decide +kernel
 unfold gI
 split
 . exact ⟨⟨m0 _, m1 _⟩, m0 _, m1 _⟩
 split
 . rename_i h
   exact ⟨⟨UT _ (by omega), UK _ (by omega)⟩, zg _, zg _⟩
 split
 . exact ⟨hw, zg _⟩
 split
 . exact ⟨.inl rfl, zf (U1 (show (other % 60).natAbs < 100 by omega) big)⟩
 split
 . exact ⟨.inr rfl, zf (U1 (show (1 + other % 60).natAbs < 100 by omega) big)⟩
 split
 . refine ⟨?_, hw⟩
   have : (one % 9 - 7).toNat = 0 \/ (one % 9 - 7).toNat = 1 := by omega
   rcases this with e | e <;> rw [e]
   . exact .inl rfl
   . exact .inr rfl
 . refine ⟨?_, m0 _, m1 _⟩
   have : (one % 9).toNat = 0 \/ (one % 9).toNat = 1 \/ (one % 9).toNat = 2 \/ (one % 9).toNat = 3 := by omega
   rcases this with e | e | e | e <;> rw [e]
   . exact .inl rfl
   . exact .inr rfl
   . exact .inl rfl
   . exact .inr rfl
noncomputable abbrev nA : Stmt := top 24
noncomputable abbrev rR : Type := List L3.D × List Str × List Str × List Int × List Int × List L3.D × List L3.D × List L3.D × Int × Int
noncomputable def jq : rR -> List L3.D := fun (bs, ns, ks, es, ss, is, os, ws, one, other) => [i7 bs ns ks es ss is os ws, .int one, .int other]
noncomputable def gG : rR -> Prop := fun (bs, ns, ks, es, ss, is, os, ws, one, other) => (0 < ns.length /\ ns.length <= 1000) /\ bs.length <= 1000
noncomputable def jr : rR -> T := fun (bs, ns, ks, es, ss, is, os, ws, one, other) => (.sh (gI bs.length ns one other).d : T)
structure Fe (X : Cx) (CL : Str -> Addr) : Prop extends dH X where
 bE : Ln X 0 "parts"
 tK : Ln X 1 "one"
 eK : Ln X 2 "other"
 dX : Ln X 3 "many"
 cV : Ln X 4 "mood"
 bH : Ln X 5 "word"
 dO : Ln X 6 "kind"
 bK : Gl X "len"
 lU : Gl X "_law_far"
 bL : X.mg "len" = none
 Ff : Fc X CL "_law_far" 1 1 qE qF qG
theorem Fg {X : Cx} {CL : Str -> Addr} {b : Bx} (E : Fe X CL) (bs ns ks es ss is os ws one other) (h : gG (bs, ns, ks, es, ss, is, os, ws, one, other)) :
   aJ X CL b nA ["parts", "one", "other", "many", "mood", "word", "kind"] (jq (bs, ns, ks, es, ss, is, os, ws, one, other)) (jr (bs, ns, ks, es, ss, is, os, ws, one, other)) := by
 dsimp only [aJ, gG, jq, jr] at h ⊢
 obtain ⟨⟨h0, h1⟩, h2⟩ := h
 have q0 := UT one (show (9 : Int) ≠ 0 by decide)
 have q1 := UK one (show (0 : Int) < 9 by decide)
 have e1 := UT other (show (ns.length : Int) ≠ 0 by omega)
 have e2 := UK other (show 0 < (ns.length : Int) by omega)
 refine aL E.g E.dX (bU (Uz ..) E.bL (aK (aA E.bE) (ah ai) rfl) E.bK) ?_
 refine aL E.g E.cV (aR (ah (bC (aA E.tK) (ah ai) ⟨by decide, by decide⟩)) (aA E.dX) (by omega)) ?_
 refine aL E.g E.bH (gw (bw (aK (aK (aA E.bE) (ah ai) rfl) (ah (aR (aA E.eK) (aA E.dX) (by omega))) (cK Str.empty e1 e2)) rfl) (t2 := .sh (.str (N5 ns other))) rfl) ?_
 refine aL E.g E.dO (aR (aA E.tK) (ah ai) (by decide)) ?_
 refine bq (dJ (aA E.dO) (ah ai)).1 (fun hp => ?_) (fun hp => aj ?_)
 . refine aY (aO (ak aB (ak (v_ E.cV.1) (ak (gn (ah (aR (ah (bC (aA E.eK) (aA E.dX) (⟨by omega, by omega⟩))) (ah (eo (aA E.dX) (ah ai))) (by omega))) (ah ai)) (ak (aR (aA E.eK) (aA E.dX) (by omega)) aN)))) (aq rfl)) ?_
   show T.sh _ = T.sh (gI bs.length ns one other).d
   rw [gI, UR (UX hp)]
   rfl
 have k2 : ¬ one % 9 = 2 := UW hp
 refine bq (p := decide (one % 9 = 3) && decide (0 < (bs.length : Int))) (qR (yq (dJ (aA E.dO) (ah ai)).1 (fun _ => t7 (sX (ah (bU rfl E.bL (aK (aA E.bE) (ah ai) rfl) E.bK)) (ah ai)).1))) (fun hp => ?_) (fun hp => aj ?_)
 . have k3 : one % 9 = 3 /\ 0 < bs.length := by
     rw [Vd] at hp
     have a := UX hp.1
     have c := UX hp.2
     exact ⟨a, by omega⟩
   refine aY (aO (ak aB (ak (aR (ah (bC (aA E.tK) (ah ai) ⟨by decide, by decide⟩)) (ah (bU rfl E.bL (aK (aA E.bE) (ah ai) rfl) E.bK)) (by omega)) (ak (c_ (other) E.Ff E.lU (au (aA E.eK) aT) (trivial) rfl) (ak (c_ (other / 5) E.Ff E.lU (au (ah (bC (aA E.eK) (ah ai) ⟨by decide, by decide⟩)) aT) (trivial) rfl) aN)))) (aq rfl)) ?_
   show T.sh _ = T.sh (gI bs.length ns one other).d
   rw [gI, UE k2, UR k3]
   rfl
 have k3 : ¬ (one % 9 = 3 /\ 0 < bs.length) := fun z => by
   rw [Bool.and_eq_false_iff] at hp
   rcases hp with hp | hp
   . exact UW hp z.1
   . exact UW hp (by omega)
 refine bq (dJ (aA E.dO) (ah ai)).1 (fun hp => ?_) (fun hp => aj ?_)
 . refine aY (aO (ak aB (ak (v_ E.bH.1) (ak (c_ (other / 3) E.Ff E.lU (au (ah (bC (aA E.eK) (ah ai) ⟨by decide, by decide⟩)) aT) (trivial) rfl) aN))) (aq rfl)) ?_
   show T.sh _ = T.sh (gI bs.length ns one other).d
   rw [gI, UE k2, UE k3, UR (UX hp)]
   rfl
 have k4 : ¬ one % 9 = 4 := UW hp
 refine bq (dJ (aA E.dO) (ah ai)).1 (fun hp => ?_) (fun hp => aj ?_)
 . refine aY (aO (ak aB (ak (aR (aA E.eK) (ah ai) (by decide)) aN)) (aq rfl)) ?_
   show T.sh _ = T.sh (gI bs.length ns one other).d
   rw [gI, UE k2, UE k3, UE k4, UR (UX hp)]
   rfl
 have k5 : ¬ one % 9 = 5 := UW hp
 refine bq (dJ (aA E.dO) (ah ai)).1 (fun hp => ?_) (fun hp => aj ?_)
 . refine aY (aO (ak aB (ak (eo (ah ai) (ah (aR (aA E.eK) (ah ai) (by decide)))) aN)) (aq rfl)) ?_
   show T.sh _ = T.sh (gI bs.length ns one other).d
   rw [gI, UE k2, UE k3, UE k4, UE k5, UR (UX hp)]
   rfl
 have k6 : ¬ one % 9 = 6 := UW hp
 refine bq (sX (aA E.dO) (ah ai)).1 (fun hp => ?_) (fun hp => aj ?_)
 . have k7 : 6 < one % 9 := UX hp
   refine aY (aO (ak (bw (aK (cC (fP (ak aB (ak aB aN)) (aq rfl))) (ah (gn (aA E.dO) (ah ai))) (cK (f := L3.D.str) (l := ["sign", "call"]) Str.empty (by omega) (by show one % 9 - 7 < 2; omega))) rfl) (ak (v_ E.bH.1) aN)) (aq rfl)) ?_
   show T.sh _ = T.sh (gI bs.length ns one other).d
   rw [gI, UE k2, UE k3, UE k4, UE k5, UE k6, UR k7]
   rfl
 have k7 : ¬ 6 < one % 9 := UW hp
 refine aY (aO (ak (bw (aK (cC (fP (ak aB (ak aB (ak aB (ak aB aN)))) (aq rfl))) (aA E.dO) (cK (f := L3.D.str) (l := ["in", "out", "in", "out"]) Str.empty q0 (by show one % 9 < 4; omega))) rfl) (ak (v_ E.cV.1) aN)) (aq rfl)) ?_
 show T.sh _ = T.sh (gI bs.length ns one other).d
 rw [gI, UE k2, UE k3, UE k4, UE k5, UE k6, UE k7]
 rfl
theorem dz : nX (ay nA) ([("parts", az), ("one", az), ("other", az), ("many", az), ("mood", az), ("word", az), ("kind", az), ("len", aG), ("_law_far", aG)]) = true := by decide +kernel
theorem tM : aV ["parts", "one", "other", "many", "mood", "word", "kind"] ["parts", "one", "other"] (ay nA) := bI
noncomputable def Lr : L3.D -> Str
 | .str x => x
 | .int i => Str.ofString (toString i)
 | _ => Str.empty
noncomputable abbrev kQ : Stmt := top 5
noncomputable abbrev oH : Type := (List (Str × Int)) × List Str × L3.D × List L3.D × List L3.D × List L3.D × qg
noncomputable def g6 : oH -> List L3.D := fun (bs, ns, tr, is, os, ws, r) => [qZ (bs.map jG) (ns.map .str) tr is os ws, r.d]
noncomputable def fH : oH -> Prop := fun (bs, ns, tr, is, os, ws, r) => (∀ x ∈ ns, x.length <= 21) /\ (∀ p ∈ bs, p.1.length <= 21) /\ tF bs ns r
noncomputable def g7 : oH -> T := fun (bs, ns, tr, is, os, ws, r) => (.sh (.str (NS bs ns r)) : T)
structure Ca (X : Cx) (CL : Str -> Addr) : Prop extends dH X where
 cP : Ln X 0 "chart"
 aQ : Ln X 1 "row"
 bH : Ln X 2 "word"
 cN : Ln X 3 "words"
 nB : Gl X "str"
 fN : X.mg "str" = none
 bV : vH X.K (CL "Chart")
 cD : aS X.K (CL "Chart") "names"
 dS : aS X.K (CL "Chart") "boxes"
theorem Cb {X : Cx} {CL : Str -> Addr} {b : Bx} (E : Ca X CL) (bs ns tr is os ws r) (h : fH (bs, ns, tr, is, os, ws, r)) :
   aJ X CL b kQ ["chart", "row", "word", "words"] (g6 (bs, ns, tr, is, os, ws, r)) (g7 (bs, ns, tr, is, os, ws, r)) := by
 dsimp only [aJ, fH, g6, g7] at h ⊢
 obtain ⟨h1, h2, hr⟩ := h
 have hj := BU h1 h2 hr
 cases r with
 | io w m =>
   obtain ⟨hw, m0, m1⟩ := hr
   refine aL E.g E.bH (bw (aC (aA E.aQ) (ah ai) rfl) rfl) ?_
   refine bq (eB (l := ["out", "in"]) (aA E.bH) (cL rfl)).1 (fun hp => ?_) (fun hp => absurd hp (by rcases hw with rfl | rfl <;> decide +kernel))
   refine aL E.g E.cN (fP (ak (v_ E.bH.1) (ak (bw (aK (uf E.bV E.cD (aA E.cP) gM) (aC (aA E.aQ) (ah ai) rfl) (cK Str.empty m0 m1)) rfl) aN)) (aq rfl)) (aj ?_)
   exact aY (kF (ah aB) (vL E.cN.1) hj) rfl
 | keep m o t =>
   obtain ⟨⟨m0, m1⟩, t0, t1⟩ := hr
   refine aL E.g E.bH (bw (aC (aA E.aQ) (ah ai) rfl) rfl) ?_
   refine bq (eB (l := ["out", "in"]) (aA E.bH) (cL rfl)).1 (fun hp => absurd hp (by decide +kernel)) (fun hp => ?_)
   refine bq (b8 (aA E.bH) (ah aB)).1 (fun hp => ?_) (fun hp => absurd hp (by decide +kernel))
   refine aL E.g E.cN (fP (ak (v_ E.bH.1) (ak (bw (aK (uf E.bV E.cD (aA E.cP) gM) (aC (aA E.aQ) (ah ai) rfl) (cK Str.empty m0 m1)) rfl) (ak (bw (aK (uf E.bV E.cD (aA E.cP) gM) (aC (aA E.aQ) (ah ai) rfl) (cK Str.empty t0 t1)) rfl) aN))) (aq rfl)) (aj (aj ?_))
   exact aY (kF (ah aB) (vL E.cN.1) hj) rfl
 | put k x y =>
   obtain ⟨⟨k0, k1⟩, lx, ly⟩ := hr
   refine aL E.g E.bH (bw (aC (aA E.aQ) (ah ai) rfl) rfl) ?_
   refine bq (eB (l := ["out", "in"]) (aA E.bH) (cL rfl)).1 (fun hp => absurd hp (by decide +kernel)) (fun hp => ?_)
   refine bq (b8 (aA E.bH) (ah aB)).1 (fun hp => absurd hp (by decide +kernel)) (fun hp => ?_)
   refine bq (b8 (aA E.bH) (ah aB)).1 (fun hp => ?_) (fun hp => absurd hp (by decide +kernel))
   refine aL E.g E.cN (fP (ak (v_ E.bH.1) (ak (bw (aC (aK (uf E.bV E.dS (aA E.cP) pQ) (aC (aA E.aQ) (ah ai) rfl) (cK (f := jG) (Str.empty, 0) k0 k1)) (ah ai) rfl) rfl) (ak (gK E.fN E.nB (aC (aA E.aQ) (ah ai) rfl) lx) (ak (gK E.fN E.nB (aC (aA E.aQ) (ah ai) rfl) ly) aN)))) (aq rfl)) (aj (aj (aj ?_)))
   exact aY (kF (ah aB) (vL E.cN.1) hj) rfl
 | say w n =>
   obtain ⟨hw, ln⟩ := hr
   refine aL E.g E.bH (bw (aC (aA E.aQ) (ah ai) rfl) rfl) ?_
   refine bq (eB (l := ["out", "in"]) (aA E.bH) (cL rfl)).1 (fun hp => absurd hp (by decide +kernel)) (fun hp => ?_)
   refine bq (b8 (aA E.bH) (ah aB)).1 (fun hp => absurd hp (by decide +kernel)) (fun hp => ?_)
   refine bq (b8 (aA E.bH) (ah aB)).1 (fun hp => absurd hp (by decide +kernel)) (fun hp => ?_)
   refine n8 (p := fun _ => true) (gg := fun d => .sh (.str (Lr d))) E.g E.cN (dW .nil (by decide +kernel)) (yu (v_ E.aQ.1)) (.inr rfl) (fun C s0 H0 f0 b' d hd => ?Lg) (aq rfl) (aj (aj (aj (aY (kF (ah aB) (vL E.cN.1) hj) rfl)))) (by exact UI rfl) (iL ⟨_, rfl⟩)
   case Lg =>
     rcases UA.mp hd with rfl | hd
     . exact ⟨rfl, fun _ => mW E.fN (fh (by decide +kernel)) (ah (v_ (dN (i := 0) rfl (by decide +kernel))))⟩
     rcases UA.mp hd with rfl | hd
     . exact ⟨rfl, fun _ => mW E.fN (fh (by decide +kernel)) (ah (v_ (dN (i := 0) rfl (by decide +kernel))))⟩
     . cases UG.mp hd
       exact ⟨rfl, fun _ => gK E.fN (fh (by decide +kernel)) (ah (v_ (dN (i := 0) rfl (by decide +kernel)))) ln⟩
 | num w n =>
   obtain ⟨hw, ln⟩ := hr
   refine aL E.g E.bH (bw (aC (aA E.aQ) (ah ai) rfl) rfl) ?_
   refine bq (eB (l := ["out", "in"]) (aA E.bH) (cL rfl)).1 (fun hp => absurd hp (by rcases hw with rfl | rfl <;> decide +kernel)) (fun hp => ?_)
   refine bq (b8 (aA E.bH) (ah aB)).1 (fun hp => absurd hp (by rcases hw with rfl | rfl <;> decide +kernel)) (fun hp => ?_)
   refine bq (b8 (aA E.bH) (ah aB)).1 (fun hp => absurd hp (by rcases hw with rfl | rfl <;> decide +kernel)) (fun hp => ?_)
   refine n8 (p := fun _ => true) (gg := fun d => .sh (.str (Lr d))) E.g E.cN (dW .nil (by decide +kernel)) (yu (v_ E.aQ.1)) (.inr rfl) (fun C s0 H0 f0 b' d hd => ?Lg) (aq rfl) (aj (aj (aj (aY (kF (ah aB) (vL E.cN.1) hj) rfl)))) (by exact UI rfl) (iL ⟨_, rfl⟩)
   case Lg =>
     rcases UA.mp hd with rfl | hd
     . exact ⟨rfl, fun _ => mW E.fN (fh (by decide +kernel)) (ah (v_ (dN (i := 0) rfl (by decide +kernel))))⟩
     . cases UG.mp hd
       exact ⟨rfl, fun _ => gK E.fN (fh (by decide +kernel)) (ah (v_ (dN (i := 0) rfl (by decide +kernel)))) ln⟩
 | txt w x =>
   obtain ⟨hw, ln⟩ := hr
   refine aL E.g E.bH (bw (aC (aA E.aQ) (ah ai) rfl) rfl) ?_
   refine bq (eB (l := ["out", "in"]) (aA E.bH) (cL rfl)).1 (fun hp => absurd hp (by rcases hw with rfl | rfl <;> decide +kernel)) (fun hp => ?_)
   refine bq (b8 (aA E.bH) (ah aB)).1 (fun hp => absurd hp (by rcases hw with rfl | rfl <;> decide +kernel)) (fun hp => ?_)
   refine bq (b8 (aA E.bH) (ah aB)).1 (fun hp => absurd hp (by rcases hw with rfl | rfl <;> decide +kernel)) (fun hp => ?_)
   refine n8 (p := fun _ => true) (gg := fun d => .sh (.str (Lr d))) E.g E.cN (dW .nil (by decide +kernel)) (yu (v_ E.aQ.1)) (.inr rfl) (fun C s0 H0 f0 b' d hd => ?Lg) (aq rfl) (aj (aj (aj (aY (kF (ah aB) (vL E.cN.1) hj) rfl)))) (by exact UI rfl) (iL ⟨_, rfl⟩)
   case Lg =>
     rcases UA.mp hd with rfl | hd
     . exact ⟨rfl, fun _ => mW E.fN (fh (by decide +kernel)) (ah (v_ (dN (i := 0) rfl (by decide +kernel))))⟩
     . cases UG.mp hd
       exact ⟨rfl, fun _ => mW E.fN (fh (by decide +kernel)) (ah (v_ (dN (i := 0) rfl (by decide +kernel))))⟩
theorem gH : nX (ay kQ) ([("chart", az), ("row", az), ("word", az), ("words", az), ("str", aG)]) = true := by decide +kernel
theorem rS : aV ["chart", "row", "word", "words"] ["chart", "row"] (ay kQ) := bI
noncomputable abbrev f9 : Stmt := top 22
noncomputable abbrev jt : Type := (List (Str × Int)) × List Str × List Str × List Int × List Int × List L3.D × List L3.D × List L3.D × qg
noncomputable def eO : jt -> List L3.D := fun (bs, ns, ks, es, ss, is, os, ws, r) => [i7 (bs.map jG) ns ks es ss is os ws, r.d]
noncomputable def dh : jt -> Prop := fun (bs, ns, ks, es, ss, is, os, ws, r) => (∀ x ∈ ns, x.length <= 21) /\ (∀ p ∈ bs, p.1.length <= 21) /\ tF bs ns r
noncomputable def eS : jt -> T := fun (bs, ns, ks, es, ss, is, os, ws, r) => (.sh (.str (NS bs ns r)) : T)
structure uO (X : Cx) (CL : Str -> Addr) : Prop extends dH X where
 bE : Ln X 0 "parts"
 aQ : Ln X 1 "row"
 bD : Ln X 2 "names"
 nB : Gl X "str"
 fN : X.mg "str" = none
theorem uP {X : Cx} {CL : Str -> Addr} {b : Bx} (E : uO X CL) (bs ns ks es ss is os ws r) (h : dh (bs, ns, ks, es, ss, is, os, ws, r)) :
   aJ X CL b f9 ["parts", "row", "names"] (eO (bs, ns, ks, es, ss, is, os, ws, r)) (eS (bs, ns, ks, es, ss, is, os, ws, r)) := by
 dsimp only [aJ, dh, eO, eS] at h ⊢
 obtain ⟨h1, h2, hr⟩ := h
 have nT := A1 h1 h2 hr
 have hz : ∀ {x y : Str}, x.length + y.length <= 100000 -> x.length + y.length <= sizeLine := fun h => by rw [VP]; omega
 refine aL E.g E.bD (yr (v_ E.bE.1) (ah ai) rfl) ?_
 have qN : (" " : Str).length = 1 := rfl
 cases r with
 | io w m =>
   obtain ⟨hw, m0, m1⟩ := hr
   have l1 : w.length <= 2000 := nT w UD
   have l2 : (ns.getD m.toNat Str.empty).length <= 2000 := nT _ (UC _ UD)
   refine bq (eB (l := ["in", "out"]) (aC (aA E.aQ) (ah ai) rfl) (cL rfl)).1 (fun hp => ?_) (fun hp => absurd hp (by rcases hw with rfl | rfl <;> decide +kernel))
   refine aY (cU (ah (cU (aC (aA E.aQ) (ah ai) rfl) (ah aB) (hz (by rw [qN]; omega)))) (aK (aA E.bD) (aC (aA E.aQ) (ah ai) rfl) (cK Str.empty m0 m1)) (hz (by rw [str_len, qN]; omega))) ?_
   show T.sh _ = T.sh (.str (Txt.join " " [w, ns.getD m.toNat Str.empty]))
   rw [Ew]
 | keep m o t =>
   obtain ⟨⟨m0, m1⟩, t0, t1⟩ := hr
   have l1 : (ns.getD m.toNat Str.empty).length <= 2000 := nT _ (UC _ UD)
   have l2 : (ns.getD t.toNat Str.empty).length <= 2000 := nT _ (UC _ (UC _ UD))
   have h5 : ("keep " : Str).length = 5 := rfl
   refine bq (eB (l := ["in", "out"]) (aC (aA E.aQ) (ah ai) rfl) (cL rfl)).1 (fun hp => absurd hp (by decide +kernel)) (fun hp => aj ?_)
   refine bq (b8 (aC (aA E.aQ) (ah ai) rfl) (ah aB)).1 (fun hp => ?_) (fun hp => absurd hp (by decide +kernel))
   refine aY (cU (ah (cU (ah (cU (ah aB) (aK (aA E.bD) (aC (aA E.aQ) (ah ai) rfl) (cK Str.empty m0 m1)) (hz (by rw [h5]; omega)))) (ah aB) (hz (by rw [str_len, h5, qN]; omega)))) (aK (aA E.bD) (aC (aA E.aQ) (ah ai) rfl) (cK Str.empty t0 t1)) (hz (by rw [str_len, str_len, h5, qN]; omega))) ?_
   show T.sh _ = T.sh (.str (Txt.join " " ["keep", ns.getD m.toNat Str.empty, ns.getD t.toNat Str.empty]))
   rw [Ex]
   rfl
 | put k x y =>
   obtain ⟨⟨k0, k1⟩, lx, ly⟩ := hr
   have l1 : (L8 bs k).length <= 2000 := nT _ (UC _ UD)
   have l2 : (Str.ofString (toString x)).length <= 2000 := nT _ (UC _ (UC _ UD))
   have l3 : (Str.ofString (toString y)).length <= 2000 := nT _ (UC _ (UC _ (UC _ UD)))
   have h5 : ("put " : Str).length = 4 := rfl
   refine bq (eB (l := ["in", "out"]) (aC (aA E.aQ) (ah ai) rfl) (cL rfl)).1 (fun hp => absurd hp (by decide +kernel)) (fun hp => aj ?_)
   refine bq (b8 (aC (aA E.aQ) (ah ai) rfl) (ah aB)).1 (fun hp => absurd hp (by decide +kernel)) (fun hp => aj ?_)
   refine bq (b8 (aC (aA E.aQ) (ah ai) rfl) (ah aB)).1 (fun hp => ?_) (fun hp => absurd hp (by decide +kernel))
   refine aY (cU (ah (cU (ah (cU (ah (cU (ah (cU (ah aB) (wo (aC (aK (aK (aA E.bE) (ah ai) rfl) (aC (aA E.aQ) (ah ai) rfl) (cK (f := jG) (Str.empty, 0) k0 k1)) (ah ai) rfl) (d2 := .str (L8 bs k)) rfl) (hz (by rw [h5]; omega)))) (ah aB) (hz (by rw [str_len, h5, qN]; omega))))
     (ah (gK E.fN E.nB (aC (aA E.aQ) (ah ai) rfl) lx)) (hz (by rw [str_len, str_len, h5, qN]; omega)))) (ah aB) (hz (by rw [str_len, str_len, str_len, h5, qN]; omega)))) (ah (gK E.fN E.nB (aC (aA E.aQ) (ah ai) rfl) ly)) (hz (by rw [str_len, str_len, str_len, str_len, h5, qN]; omega))) ?_
   show T.sh _ = T.sh (.str (Txt.join " " ["put", L8 bs k, Str.ofString (toString x), Str.ofString (toString y)]))
   rw [NT]
   rfl
 | say w n =>
   obtain ⟨hw, ln⟩ := hr
   have l2 : (Str.ofString (toString n)).length <= 2000 := nT _ (UC _ (UC _ UD))
   have h5 : ("say " : Str).length = 4 := rfl
   refine bq (eB (l := ["in", "out"]) (aC (aA E.aQ) (ah ai) rfl) (cL rfl)).1 (fun hp => absurd hp (by decide +kernel)) (fun hp => aj ?_)
   refine bq (b8 (aC (aA E.aQ) (ah ai) rfl) (ah aB)).1 (fun hp => absurd hp (by decide +kernel)) (fun hp => aj ?_)
   refine bq (b8 (aC (aA E.aQ) (ah ai) rfl) (ah aB)).1 (fun hp => absurd hp (by decide +kernel)) (fun hp => aj ?_)
   refine bq (b8 (aC (aA E.aQ) (ah ai) rfl) (ah aB)).1 (fun hp => ?_) (fun hp => absurd hp (by decide +kernel))
   refine aY (cU (ah (cU (ah (cU (ah aB) (aC (aA E.aQ) (ah ai) rfl) (hz (by rw [h5]; omega)))) (ah aB) (hz (by rw [str_len, h5, qN]; omega)))) (ah (gK E.fN E.nB (aC (aA E.aQ) (ah ai) rfl) ln)) (hz (by rw [str_len, str_len, h5, qN]; omega))) ?_
   show T.sh _ = T.sh (.str (Txt.join " " ["say", w, Str.ofString (toString n)]))
   rw [Ex]
   rfl
 | num w n =>
   obtain ⟨hw, ln⟩ := hr
   have l1 : w.length <= 2000 := nT w UD
   have l2 : (Str.ofString (toString n)).length <= 2000 := nT _ (UC _ UD)
   refine bq (eB (l := ["in", "out"]) (aC (aA E.aQ) (ah ai) rfl) (cL rfl)).1 (fun hp => absurd hp (by rcases hw with rfl | rfl <;> decide +kernel)) (fun hp => aj ?_)
   refine bq (b8 (aC (aA E.aQ) (ah ai) rfl) (ah aB)).1 (fun hp => absurd hp (by rcases hw with rfl | rfl <;> decide +kernel)) (fun hp => aj ?_)
   refine bq (b8 (aC (aA E.aQ) (ah ai) rfl) (ah aB)).1 (fun hp => absurd hp (by rcases hw with rfl | rfl <;> decide +kernel)) (fun hp => aj ?_)
   refine bq (b8 (aC (aA E.aQ) (ah ai) rfl) (ah aB)).1 (fun hp => absurd hp (by rcases hw with rfl | rfl <;> decide +kernel)) (fun hp => aj ?_)
   refine bq (eB (l := ["way", "rest"]) (aC (aA E.aQ) (ah ai) rfl) (cL rfl)).1 (fun hp => ?_) (fun hp => absurd hp (by rcases hw with rfl | rfl <;> decide +kernel))
   refine aY (cU (ah (cU (aC (aA E.aQ) (ah ai) rfl) (ah aB) (hz (by rw [qN]; omega)))) (ah (gK E.fN E.nB (aC (aA E.aQ) (ah ai) rfl) ln)) (hz (by rw [str_len, qN]; omega))) ?_
   show T.sh _ = T.sh (.str (Txt.join " " [w, Str.ofString (toString n)]))
   rw [Ew]
 | txt w x =>
   obtain ⟨hw, ln⟩ := hr
   have l1 : w.length <= 2000 := nT w UD
   refine bq (eB (l := ["in", "out"]) (aC (aA E.aQ) (ah ai) rfl) (cL rfl)).1 (fun hp => absurd hp (by rcases hw with rfl | rfl <;> decide +kernel)) (fun hp => aj ?_)
   refine bq (b8 (aC (aA E.aQ) (ah ai) rfl) (ah aB)).1 (fun hp => absurd hp (by rcases hw with rfl | rfl <;> decide +kernel)) (fun hp => aj ?_)
   refine bq (b8 (aC (aA E.aQ) (ah ai) rfl) (ah aB)).1 (fun hp => absurd hp (by rcases hw with rfl | rfl <;> decide +kernel)) (fun hp => aj ?_)
   refine bq (b8 (aC (aA E.aQ) (ah ai) rfl) (ah aB)).1 (fun hp => absurd hp (by rcases hw with rfl | rfl <;> decide +kernel)) (fun hp => aj ?_)
   refine bq (eB (l := ["way", "rest"]) (aC (aA E.aQ) (ah ai) rfl) (cL rfl)).1 (fun hp => absurd hp (by rcases hw with rfl | rfl <;> decide +kernel)) (fun hp => aj ?_)
   refine aY (cU (ah (cU (aC (aA E.aQ) (ah ai) rfl) (ah aB) (hz (by rw [qN]; omega)))) (aC (aA E.aQ) (ah ai) rfl) (hz (by rw [str_len, qN]; omega))) ?_
   show T.sh _ = T.sh (.str (Txt.join " " [w, x]))
   rw [Ew]
theorem fu : nX (ay f9) ([("parts", az), ("row", az), ("names", az), ("str", aG)]) = true := by decide +kernel
theorem lB : aV ["parts", "row", "names"] ["parts", "row"] (ay f9) := bI
noncomputable abbrev qH : Stmt := top 20
noncomputable abbrev uQ : Type := L3.D
noncomputable def iR : uQ -> List L3.D := fun d => [d, d]
noncomputable def e7 (dd : Nat) : uQ -> Prop := fun d => Sm dd d
noncomputable def iS : uQ -> T := fun d => (.sh (.bl true) : T)
structure Ic (X : Cx) (CL : Str -> Addr) (dd : Nat) : Prop extends dH X where
 aW : Ln X 0 "found"
 ef : Ln X 1 "due"
 xW : Ln X 2 "k"
 aH : Gl X "isinstance"
 bP : Gl X "list"
 g8 : Gl X "tuple"
 bK : Gl X "len"
 cX : Gl X "range"
 gb : Gl X "_law_alike"
 g_bool : Gl X "bool"
 aI : X.mg "isinstance" = none
 bQ : X.mg "list" = none
 g9 : X.mg "tuple" = none
 bL : X.mg "len" = none
 cY : X.mg "range" = none
 qI : ∀ d', d' < dd -> Fc X CL "_law_alike" (1 + d') 2 iR (e7 d') iS
 Fi : X.mg "bool" = none
theorem Ie {X : Cx} {CL : Str -> Addr} {b : Bx} {dd : Nat} (E : Ic X CL dd) (d) (h : e7 dd d) :
   aJ X CL b qH ["found", "due", "k"] (iR d) (iS d) := by
 dsimp only [aJ, e7, iR, iS] at h ⊢
 cases d with
 | int i =>
   refine bq (qR (mP (jM (IU E.aI E.bQ E.aH E.bP (aA E.ef))) (fun _ => jN (jM (IV E.aI E.g9 E.aH E.g8 (aA E.ef)))))) (fun hp => absurd hp (by decide)) (fun _ => aj ?_)
   refine aY (DP (DQ (Ru E.aI E.Fi E.aH E.g_bool (aA E.aW))) (fun hb => (DN (dJ (aA E.aW) (aA E.ef)).2))) ?_
   simp
 | str i =>
   refine bq (qR (mP (jM (IU E.aI E.bQ E.aH E.bP (aA E.ef))) (fun _ => jN (jM (IV E.aI E.g9 E.aH E.g8 (aA E.ef)))))) (fun hp => absurd hp (by decide)) (fun _ => aj ?_)
   refine aY (DP (DQ (Ru E.aI E.Fi E.aH E.g_bool (aA E.aW))) (fun hb => (DN (b8 (aA E.aW) (aA E.ef)).2))) ?_
   simp
 | lst ds =>
   obtain ⟨n, rfl⟩ : ∃ n, dd = n + 1 := by
     cases dd with
     | zero => exact absurd h (by intro z; cases z)
     | succ n => exact ⟨n, rfl⟩
   obtain ⟨hl, hd⟩ : ds.length <= 1000 /\ ∀ d ∈ ds, Sm n d := h
   refine bq (qR (mP (jM (IU E.aI E.bQ E.aH E.bP (aA E.ef))) (fun _ => jN (jM (IV E.aI E.g9 E.aH E.g8 (aA E.ef)))))) (fun hp => ?_) (fun hp => absurd hp (by decide))
   refine bq (qR (mP (ud (ah (IU E.aI E.bQ E.aH E.bP (aA E.aW))) (ah (IU E.aI E.bQ E.aH E.bP (aA E.ef)))).1 (fun _ => jN (ud (ah (IV E.aI E.g9 E.aH E.g8 (aA E.aW))) (ah (IV E.aI E.g9 E.aH E.g8 (aA E.ef)))).1))) (fun hp => absurd hp (by decide)) (fun _ => aj ?_)
   refine bq (qQ (ah (mQ E.bL (aA E.aW) E.bK)) (ah (mQ E.bL (aA E.ef) E.bK))).1 (fun hp => by simp at hp) (fun _ => aj ?_)
   refine pK E.g E.xW (fun j δ => ∃ o, δ = [some (.sh (.lst ds)), some (.sh (.lst ds)), o])
     (gq E.cY (ah (mQ E.bL (aA E.ef) E.bK)) (by omega) E.cX) ⟨_, rfl⟩ (fun j δ ⟨_, e⟩ => by subst e; exact UI rfl) ?turn ?fin
   case turn =>
     rintro j d δ hj ⟨o, rfl⟩
     obtain ⟨rfl, yO⟩ := jO hj
     have yO : j < ds.length := by omega
     rw [V0]
     refine bq (yp (jM (c_ ds[j] (E.qI n (by omega)) E.gb (au (aK (aA E.aW) (aA E.xW) (uz yO)) (au (aK (aA E.ef) (aA E.xW) (uz yO)) aT)) (by dsimp only [e7]; exact hd _ (List.getElem_mem _)) rfl))) (fun hp => by cases hp) (fun _ => aj (aj ⟨_, rfl⟩))
   case fin =>
     rintro δ ⟨o, rfl⟩
     exact aY IK rfl
 | tup ds =>
   obtain ⟨n, rfl⟩ : ∃ n, dd = n + 1 := by
     cases dd with
     | zero => exact absurd h (by intro z; cases z)
     | succ n => exact ⟨n, rfl⟩
   obtain ⟨hl, hd⟩ : ds.length <= 1000 /\ ∀ d ∈ ds, Sm n d := h
   refine bq (qR (mP (jM (IU E.aI E.bQ E.aH E.bP (aA E.ef))) (fun _ => jN (jM (IV E.aI E.g9 E.aH E.g8 (aA E.ef)))))) (fun hp => ?_) (fun hp => absurd hp (by decide))
   refine bq (qR (mP (ud (ah (IU E.aI E.bQ E.aH E.bP (aA E.aW))) (ah (IU E.aI E.bQ E.aH E.bP (aA E.ef)))).1 (fun _ => jN (ud (ah (IV E.aI E.g9 E.aH E.g8 (aA E.aW))) (ah (IV E.aI E.g9 E.aH E.g8 (aA E.ef)))).1))) (fun hp => absurd hp (by decide)) (fun _ => aj ?_)
   refine bq (qQ (ah (t8 E.bL (aA E.aW) E.bK)) (ah (t8 E.bL (aA E.ef) E.bK))).1 (fun hp => by simp at hp) (fun _ => aj ?_)
   refine pK E.g E.xW (fun j δ => ∃ o, δ = [some (.sh (.tup ds)), some (.sh (.tup ds)), o])
     (gq E.cY (ah (t8 E.bL (aA E.ef) E.bK)) (by omega) E.cX) ⟨_, rfl⟩ (fun j δ ⟨_, e⟩ => by subst e; exact UI rfl) ?turn ?fin
   case turn =>
     rintro j d δ hj ⟨o, rfl⟩
     obtain ⟨rfl, yO⟩ := jO hj
     have yO : j < ds.length := by omega
     rw [V0]
     refine bq (yp (jM (c_ ds[j] (E.qI n (by omega)) E.gb (au (aC (aA E.aW) (aA E.xW) (uz yO)) (au (aC (aA E.ef) (aA E.xW) (uz yO)) aT)) (by dsimp only [e7]; exact hd _ (List.getElem_mem _)) rfl))) (fun hp => by cases hp) (fun _ => aj (aj ⟨_, rfl⟩))
   case fin =>
     rintro δ ⟨o, rfl⟩
     exact aY IK rfl
 | non => exact absurd h (by intro z; cases dd <;> cases z)
 | bl _ => exact absurd h (by intro z; cases dd <;> cases z)
 | ins _ _ => exact absurd h (by intro z; cases dd <;> cases z)
 | any => exact absurd h (by intro z; cases dd <;> cases z)
 | sG _ => exact absurd h (by intro z; cases dd <;> cases z)
 | val _ => exact absurd h (by intro z; cases dd <;> cases z)
theorem dU : nX (ay qH) ([("found", az), ("due", az), ("k", az), ("isinstance", aG), ("list", aG), ("tuple", aG), ("len", aG), ("range", aG), ("_law_alike", aG), ("bool", aG)]) = true := by decide +kernel
theorem xo : aV ["found", "due", "k"] ["found", "due"] (ay qH) := bI
noncomputable abbrev s_same : Stmt := top 21
noncomputable abbrev zj : Type := List L3.D × List Str × List Str × List Int × List Int × List L3.D × List L3.D × List L3.D
noncomputable def nE : zj -> List L3.D := fun (bs, ns, ks, es, ss, is, os, ws) => [qZ bs (ns.map .str) (wI ks es ss) is os ws, i7 bs ns ks es ss is os ws]
noncomputable def nF : zj -> Prop := fun (bs, ns, ks, es, ss, is, os, ws) => Sm 8 (i7 bs ns ks es ss is os ws)
noncomputable def nG : zj -> T := fun (bs, ns, ks, es, ss, is, os, ws) => (.sh (.bl true) : T)
structure Ls (X : Cx) (CL : Str -> Addr) : Prop extends dH X where
 cP : Ln X 0 "chart"
 bE : Ln X 1 "parts"
 jk : Ln X 2 "tree"
 aW : Ln X 3 "found"
 gb : Gl X "_law_alike"
 qI : Fc X CL "_law_alike" 9 2 iR (e7 8) iS
 bV : vH X.K (CL "Chart")
 jh : vH X.K (CL "Tree")
 jl : aS X.K (CL "Chart") "tree"
 dS : aS X.K (CL "Chart") "boxes"
 cD : aS X.K (CL "Chart") "names"
 ji : aS X.K (CL "Tree") "kinds"
 iB : aS X.K (CL "Tree") "elders"
 iC : aS X.K (CL "Tree") "starts"
 j0 : aS X.K (CL "Chart") "ins"
 jm : aS X.K (CL "Chart") "outs"
 jn : aS X.K (CL "Chart") "ways"
theorem Lv {X : Cx} {CL : Str -> Addr} {b : Bx} (E : Ls X CL) (bs ns ks es ss is os ws) (h : nF (bs, ns, ks, es, ss, is, os, ws)) :
   aJ X CL b s_same ["chart", "parts", "tree", "found"] (nE (bs, ns, ks, es, ss, is, os, ws)) (nG (bs, ns, ks, es, ss, is, os, ws)) := by
 dsimp only [aJ, nF, nE, nG] at h ⊢
 refine aL E.g E.jk (iX E.bV E.jl (v_ E.cP.1) yC) ?_
 refine aL E.g E.aW (gw (AA (ak (iX E.bV E.dS (v_ E.cP.1) pQ) (ak (iX E.bV E.cD (v_ E.cP.1) gM) (ak (iX E.jh E.ji (v_ E.jk.1) yz) (ak (iX E.jh E.iB (v_ E.jk.1) wJ) (ak (iX E.jh E.iC (v_ E.jk.1) wK)
   (ak (iX E.bV E.j0 (v_ E.cP.1) BP) (ak (iX E.bV E.jm (v_ E.cP.1) yE) (ak (iX E.bV E.jn (v_ E.cP.1) yF) aN))))))))) (t2 := .sh (i7 bs ns ks es ss is os ws)) rfl) ?_
 exact aY (c_ (i7 bs ns ks es ss is os ws) E.qI E.gb (au (aA E.aW) (au (aA E.bE) aT)) h rfl) rfl
theorem nH : nX (ay s_same) ([("chart", az), ("parts", az), ("tree", az), ("found", az), ("_law_alike", aG)]) = true := by decide +kernel
theorem A8 : aV ["chart", "parts", "tree", "found"] ["chart", "parts"] (ay s_same) := bI
noncomputable abbrev A9 : Stmt := top 25
noncomputable abbrev Fj : Type := List Int
noncomputable def kR : Fj -> List L3.D := fun a => [.lst (a.map .int)]
noncomputable def kT : Fj -> Prop := fun a => a.length <= 63
noncomputable def kU : Fj -> T := fun a => (.sh (.bl true) : T)
structure N6 (X : Cx) (CL : Str -> Addr) : Prop extends dH X where
 bY : Ln X 0 "script"
 bE : Ln X 1 "parts"
 cP : Ln X 2 "chart"
 xW : Ln X 3 "k"
 aQ : Ln X 4 "row"
 aW : Ln X 5 "found"
 qj : Gl X "_law_parts_by"
 qk : Gl X "_law_chart_by"
 cX : Gl X "range"
 E7 : Gl X "min"
 bK : Gl X "len"
 sN : Gl X "_law_row_by"
 cH : Gl X "_law_cell_at"
 oJ : Gl X "line_of"
 aH : Gl X "isinstance"
 nB : Gl X "str"
 rT : Gl X "_law_line_of"
 xq : Gl X "_law_same"
 zk : Fc X CL "_law_parts_by" 4 1 fW fX fY
 zl : Fc X CL "_law_chart_by" 3 1 f6 eN f7
 cY : X.mg "range" = none
 E8 : X.mg "min" = none
 bL : X.mg "len" = none
 Fl : Fc X CL "_law_row_by" 2 3 jq gG jr
 d8 : Fc X CL "_law_cell_at" 1 2 dY dZ d7
 Cd : Fc X CL "line_of" 1 2 g6 fH g7
 aI : X.mg "isinstance" = none
 fN : X.mg "str" = none
 uR : Fc X CL "_law_line_of" 1 2 eO dh eS
 Lw : Fc X CL "_law_same" 10 2 nE nF nG
theorem N7 {X : Cx} {CL : Str -> Addr} {b : Bx} (E : N6 X CL) (a) (h : kT a) :
   aJ X CL b A9 ["script", "parts", "chart", "k", "row", "found"] (kR a) (kU a) := by
 dsimp only [aJ, kT, kR, kU] at h ⊢
 have hs : a.length <= 1000 := by omega
 refine aL E.g E.bE (cF a E.zk E.qj (ak (v_ E.bY.1) aN) hs) ?_
 have Dh := E4 a
 have ow := yV a
 obtain ⟨e0, e1, e2⟩ := nu a
 have nl := A6 a
 have nk := Lk a
 have bl := rO a
 have bk := HV a
 have QY := qB ow.ii
 have QZ := qB ow.oo
 have Q0 := A2 ow.ww
 have Q5 := E3 (nq a)
 have Gh := yU a
 show fJ X CL b _ [some (.sh (.lst (a.map .int))), some (.sh (uL a)), none, none, none, none] _
 unfold uL at Dh ⊢
 generalize eW (dP a) (Gn a) (dP a).length = ks at Dh ⊢
 generalize eX (dP a) (Gn a) (dP a).length = ss at Dh ⊢
 generalize dP a = es at Dh e0 e1 e2 nl ⊢
 generalize Mb a = ns at Dh nl nk ⊢
 generalize nq a = bs at Dh bl bk Q5 ⊢
 generalize (xX a).is.map L3.D.tup = is at Dh QY ⊢
 generalize (xX a).os.map L3.D.tup = os at Dh QZ ⊢
 generalize (xX a).ws.map WY.d = ws at Dh Q0 ⊢
 refine aL E.g E.cP (uh (d := qZ (bs.map jG) (ns.map .str) (wI ks es ss) is os ws) (c_ (bs.map jG, ns, ks, es, ss, is, os, ws) E.zl E.qk (au (aA E.bE) aT) (by dsimp only [eN]; exact ⟨Q5, QY, QZ, Q0⟩) (by
   show T.aU (i6 _ _ _ _ _ _) = true
   exact uF Q5 (iM _) (pP ks es ss) QY QZ Q0)) (by
   show T.cZ (.ins "Chart" (i6 _ _ _ _ _ _)) = _
   rw [yG, BO])) ?_
 have Uc : (bs.map jG).length = bs.length := Uz ..
 refine pK E.g E.xW (fun j δ => ∃ o4 o5 o6, δ = [some (.sh (.lst (a.map .int))), some (.sh (i7 (bs.map jG) ns ks es ss is os ws)), some (.sh (qZ (bs.map jG) (ns.map .str) (wI ks es ss) is os ws)), o4, o5, o6])
   (tu E.cY (au (ah ai) (au (wo (ah (AO E.g E.E8 E.E7 (au (ah (bU (Uz ..) E.bL (aA E.bY) E.bK)) (au (ah ai) aT)))) (d2 := .int (Jc a)) rfl) (au (ah ai) aT))) (by omega) E.cX) ⟨_, _, _, rfl⟩ (fun j δ ⟨_, _, _, e⟩ => by subst e; exact UI rfl) ?turn ?fin
 case turn =>
   rintro j d δ hj ⟨o4, o5, o6, rfl⟩
   obtain ⟨rfl, yO⟩ := step_get hj
   unfold iZ at yO
   have Ud : (0 : Int) <= 0 + (j : Int) * 2 := by omega
   have Ue : 0 + (j : Int) * 2 < a.length := by omega
   have hr : tF bs ns (gI bs.length ns (a.getD (0 + (j : Int) * 2).toNat 0) (cE a (0 + (j : Int) * 2 + 1))) := HZ (by omega) nk _ _
   refine aL E.g E.aQ (gw (c_ (bs.map jG, ns, ks, es, ss, is, os, ws, a.getD (0 + (j : Int) * 2).toNat 0, cE a (0 + (j : Int) * 2 + 1)) E.Fl E.sN (au (aA E.bE) (au (aK (aA E.bY) (aA E.xW) (gu Ud Ue)) (au (ah (c_ ((a, 0 + (j : Int) * 2 + 1)) E.d8 E.cH (au (aA E.bY) (au (ah (eo (aA E.xW) (ah ai))) aT)) (show (0 : Int) <= 0 + (j : Int) * 2 + 1 by omega) rfl)) aT))) (by dsimp only [gG]; exact ⟨⟨by omega, by omega⟩, by omega⟩) ?cl) (t2 := .sh (gI bs.length ns (a.getD (0 + (j : Int) * 2).toNat 0) (cE a (0 + (j : Int) * 2 + 1))).d) (by show T.sh (gI (bs.map jG).length _ _ _).d = _; rw [Uc])) ?rst
   case cl =>
     show (qg.d _).ic = true
     cases gI (bs.map jG).length ns (a.getD (0 + (j : Int) * 2).toNat 0) (cE a (0 + (j : Int) * 2 + 1)) <;> rfl
   case rst =>
   generalize gI bs.length ns (a.getD (0 + (j : Int) * 2).toNat 0) (cE a (0 + (j : Int) * 2 + 1)) = r at hr ⊢
   refine aL E.g E.aW (c_ (bs, ns, wI ks es ss, is, os, ws, r) E.Cd E.oJ (au (aA E.cP) (au (aA E.aQ) aT)) (by dsimp only [fH]; exact ⟨nk, bk, hr⟩) rfl) ?_
   refine bq (qR (mP (yp (jM (SQ E.aI E.fN E.aH E.nB (aA E.aW)))) (fun _ => jN (Ks (aA E.aW) (ah (c_ (bs, ns, ks, es, ss, is, os, ws, r) E.uR E.rT (au (aA E.bE) (au (aA E.aQ) aT)) (by dsimp only [dh]; exact ⟨nk, bk, hr⟩) rfl))).1))) (fun hp => ?_) (fun _ => aj (aj ⟨_, _, _, rfl⟩))
   rw [decide_eq_true rfl] at hp
   exact absurd hp (by decide)
 case fin =>
   rintro δ ⟨o4, o5, o6, rfl⟩
   exact aY (c_ (bs.map jG, ns, ks, es, ss, is, os, ws) E.Lw E.xq (au (aA E.cP) (au (aA E.bE) aT)) Dh rfl) rfl
theorem cW : nX (ay A9) ([("script", az), ("parts", az), ("chart", az), ("k", az), ("row", az), ("found", az), ("_law_parts_by", aG), ("_law_chart_by", aG), ("range", aG), ("min", aG), ("len", aG), ("_law_row_by", aG), ("_law_cell_at", aG), ("line_of", aG), ("isinstance", aG), ("str", aG), ("_law_line_of", aG), ("_law_same", aG)]) = true := by decide +kernel
theorem Fo : aV ["script", "parts", "chart", "k", "row", "found"] ["script"] (ay A9) := bI
noncomputable def cl (ao av : Addr) : Str -> Addr := fun c => if c = "Chart" then ao else if c = "Tree" then av else 0
theorem eT {ao av : Addr} : cl ao av "Chart" = ao := by unfold cl; rw [UR rfl]
theorem kW {ao av : Addr} : cl ao av "Tree" = av := by unfold cl; rw [UE (by decide +kernel)]; rw [UR rfl]
theorem Lx {ao av : Addr} {x : Str} (h : Ax x = true) : cl ao av x = 0 := by unfold cl; rw [UE (fun e => by rw [e] at h; exact absurd h (by decide +kernel))]; rw [UE (fun e => by rw [e] at h; exact absurd h (by decide +kernel))]
noncomputable def N8 {α : Type} : Nat -> (List α -> Prop) -> Prop
 | 0, P => P []
 | n + 1, P => ∀ a, N8 n fun r => P (a :: r)
theorem cg {α : Type} {n : Nat} {P : List α -> Prop} (h : N8 n P) : ∀ us : List α, us.length = n -> P us := by
 intro us hl
 induction us generalizing n P with
 | nil => subst hl; exact h
 | cons a r ih => subst hl; exact ih (P := fun r => P (a :: r)) (h a) rfl
theorem all_mk {l : PySem.W.OpenLaw} {w : World} {K : PySem.W.Frag} {h : Heap} {mg : Str -> Option Value} {fa oK uS j3 oM lV lW j4 oN rV rW oO lX ia gf lY Fp rX oQ ju uT zm Jd ao av : Addr} (XX : K.In h) (G : h.Ns mainGlobals mg) (Ug : mg "law" = some (.ref fa))
   {Ce Ig xr Cg zo zq xu Ci Fq Ft Cj zu xx uU zv N9 Fv oJ uV Ba g_same Je : FuncData}
   (uW : PySem.W.nsIn K mainGlobals "Chart" = some (some (.ref ao))) (rY : PySem.W.plainGet K ao Str.empty = true) (rZ : PySem.W.hasDictIn K ao = true) (r6 : PySem.W.plainOver K ao = true) (r9 : PySem.W.findIn K (.ref ao) "__setattr__" = some (some (.builtin "object.__setattr__"))) (sd : PySem.W.makesIn K ao = true) (se : PySem.W.keepIn K (.ref ao) = true)
   (iD : PySem.W.findIn K (.ref ao) "boxes" = some none)
   (iE : PySem.W.findIn K (.ref ao) "names" = some none)
   (jv : PySem.W.findIn K (.ref ao) "tree" = some none)
   (j5 : PySem.W.findIn K (.ref ao) "ins" = some none)
   (jw : PySem.W.findIn K (.ref ao) "outs" = some none)
   (jx : PySem.W.findIn K (.ref ao) "ways" = some none)
   (zx : PySem.W.nsIn K mainGlobals "Tree" = some (some (.ref av))) (uX : PySem.W.plainGet K av Str.empty = true) (uY : PySem.W.hasDictIn K av = true) (uZ : PySem.W.plainOver K av = true) (u0 : PySem.W.findIn K (.ref av) "__setattr__" = some (some (.builtin "object.__setattr__"))) (u5 : PySem.W.makesIn K av = true) (u6 : PySem.W.keepIn K (.ref av) = true)
   (jy : PySem.W.findIn K (.ref av) "kinds" = some none)
   (iF : PySem.W.findIn K (.ref av) "elders" = some none)
   (iG : PySem.W.findIn K (.ref av) "starts" = some none)
   (oR : PySem.W.nsIn K mainGlobals "_law_cell_at" = some (some (.ref oK))) (oS : mO K "_law_cell_at" "_law_cell_at" kI oK Ce)
   (u9 : PySem.W.nsIn K mainGlobals "_law_chain" = some (some (.ref uS))) (vd : mO K "_law_chain" "_law_chain" qC uS Ig)
   (j6 : PySem.W.nsIn K mainGlobals "_law_elders_by" = some (some (.ref j3))) (j7 : mO K "_law_elders_by" "_law_elders_by" gQ j3 xr)
   (oU : PySem.W.nsIn K mainGlobals "_law_name_by" = some (some (.ref oM))) (oV : mO K "_law_name_by" "_law_name_by" kN oM Cg)
   (lZ : PySem.W.nsIn K mainGlobals "_law_names_by" = some (some (.ref lV))) (l0 : mO K "_law_names_by" "_law_names_by" i9 lV zo)
   (mh : PySem.W.nsIn K mainGlobals "_law_kinds_by" = some (some (.ref lW))) (mj : mO K "_law_kinds_by" "_law_kinds_by" ja lW zq)
   (j8 : PySem.W.nsIn K mainGlobals "_law_number_by" = some (some (.ref j4))) (j9 : mO K "_law_number_by" "_law_number_by" gU j4 xu)
   (oW : PySem.W.nsIn K mainGlobals "_law_deed_by" = some (some (.ref oN))) (oX : mO K "_law_deed_by" "_law_deed_by" kO oN Ci)
   (sf : PySem.W.nsIn K mainGlobals "_law_way_by" = some (some (.ref rV))) (sj : mO K "_law_way_by" "_law_way_by" nh rV Fq)
   (sq : PySem.W.nsIn K mainGlobals "_law_ask_by" = some (some (.ref rW))) (su : mO K "_law_ask_by" "_law_ask_by" nj rW Ft)
   (oY : PySem.W.nsIn K mainGlobals "_law_owns_by" = some (some (.ref oO))) (oZ : mO K "_law_owns_by" "_law_owns_by" kP oO Cj)
   (mq : PySem.W.nsIn K mainGlobals "_law_parts_by" = some (some (.ref lX))) (mw : mO K "_law_parts_by" "_law_parts_by" jg lX zu)
   (kg : PySem.W.findIn K (.ref av) "__init__" = some (some (.ref ia))) (kh : PySem.W.isFn K (.ref ia) = true) (pY : mO K "__init__" "Tree.__init__" g5 ia xx)
   (jz : PySem.W.findIn K (.ref ao) "__init__" = some (some (.ref gf))) (jA : PySem.W.isFn K (.ref gf) = true) (nI : mO K "__init__" "Chart.__init__" fZ gf uU)
   (mz : PySem.W.nsIn K mainGlobals "_law_chart_by" = some (some (.ref lY))) (mC : mO K "_law_chart_by" "_law_chart_by" jo lY zv)
   (Fw : PySem.W.nsIn K mainGlobals "_law_far" = some (some (.ref Fp))) (Fx : mO K "_law_far" "_law_far" A7 Fp N9)
   (sy : PySem.W.nsIn K mainGlobals "_law_row_by" = some (some (.ref rX))) (sA : mO K "_law_row_by" "_law_row_by" nA rX Fv)
   (pe : PySem.W.nsIn K mainGlobals "line_of" = some (some (.ref oQ))) (pA : mO K "line_of" "line_of" kQ oQ oJ)
   (jB : PySem.W.nsIn K mainGlobals "_law_line_of" = some (some (.ref ju))) (jC : mO K "_law_line_of" "_law_line_of" f9 ju uV)
   (ve : PySem.W.nsIn K mainGlobals "_law_alike" = some (some (.ref uT))) (qJ : mO K "_law_alike" "_law_alike" qH uT Ba)
   (zy : PySem.W.nsIn K mainGlobals "_law_same" = some (some (.ref zm))) (zA : mO K "_law_same" "_law_same" s_same zm g_same)
   (Bb : PySem.W.nsIn K mainGlobals "law" = some (some (.ref Jd))) (Fy : mO K "law" "law" A9 Jd Je)
   (Fz : PySem.W.nsIn K mainGlobals "len" = some none)
   (vf : PySem.W.nsIn K mainGlobals "range" = some none)
   (FD : PySem.W.nsIn K mainGlobals "min" = some none)
   (zB : PySem.W.nsIn K mainGlobals "list" = some none)
   (FE : PySem.W.nsIn K mainGlobals "str" = some none)
   (jD : PySem.W.nsIn K mainGlobals "isinstance" = some none)
   (vg : PySem.W.nsIn K mainGlobals "tuple" = some none)
   (y_bool : PySem.W.nsIn K mainGlobals "bool" = some none)
   : ∃ fd : FuncData, (∀ (s : Shared) (v : Value), BindsTo s fd ⟨[v], []⟩ [("script", v)]) /\ ∀ base : Heap, K.In base -> base.Ns mainGlobals mg -> b5 l.prog w K mg base iT 11 fa fd ["script"] (lG K (fun _ => 0) 1 kR kT kU) := by
 have e := Ug.symm.trans (U5 XX G Bb)
 cases e
 have Ck := U5 XX G oR
 have Cm := oS.binds (ps := ["script", "k"]) fun _ _ _ _ _ _ => by refine cg ?_; exact fun _ _ => rfl
 have Ih := U5 XX G u9
 have Ii := vd.binds (ps := ["elders", "mood"]) fun _ _ _ _ _ _ => by refine cg ?_; exact fun _ _ => rfl
 have xA := U5 XX G j6
 have xB := j7.binds (ps := ["items"]) fun _ _ _ _ _ _ => by refine cg ?_; exact fun _ => rfl
 have Cp := U5 XX G oU
 have Cq := oV.binds (ps := ["number", "used"]) fun _ _ _ _ _ _ => by refine cg ?_; exact fun _ _ => rfl
 have zC := U5 XX G lZ
 have zE := l0.binds (ps := ["script", "many"]) fun _ _ _ _ _ _ => by refine cg ?_; exact fun _ _ => rfl
 have zF := U5 XX G mh
 have zG := mj.binds (ps := ["elders", "cells"]) fun _ _ _ _ _ _ => by refine cg ?_; exact fun _ _ => rfl
 have xC := U5 XX G j8
 have xD := j9.binds (ps := ["cell"]) fun _ _ _ _ _ _ => by refine cg ?_; exact fun _ => rfl
 have Cr := U5 XX G oW
 have Ct := oX.binds (ps := ["item", "boxes", "names"]) fun _ _ _ _ _ _ => by refine cg ?_; exact fun _ _ _ => rfl
 have FG := U5 XX G sf
 have FH := sj.binds (ps := ["item", "source", "many", "names"]) fun _ _ _ _ _ _ => by refine cg ?_; exact fun _ _ _ _ => rfl
 have FI := U5 XX G sq
 have FJ := su.binds (ps := ["item", "boxes", "many"]) fun _ _ _ _ _ _ => by refine cg ?_; exact fun _ _ _ => rfl
 have Cu := U5 XX G oY
 have Cv := oZ.binds (ps := ["items", "boxes", "many", "names"]) fun _ _ _ _ _ _ => by refine cg ?_; exact fun _ _ _ _ => rfl
 have zH := U5 XX G mq
 have zI := mw.binds (ps := ["script"]) fun _ _ _ _ _ _ => by refine cg ?_; exact fun _ => rfl
 have xE := pY.binds (ps := ["self", "kinds", "elders", "starts"]) fun _ _ _ _ _ _ => by refine cg ?_; exact fun _ _ _ _ => rfl
 have vh := nI.binds (ps := ["self", "boxes", "names", "tree", "ins", "outs", "ways"]) fun _ _ _ _ _ _ => by refine cg ?_; exact fun _ _ _ _ _ _ _ => rfl
 have zJ := U5 XX G mz
 have zK := mC.binds (ps := ["parts"]) fun _ _ _ _ _ _ => by refine cg ?_; exact fun _ => rfl
 have Oa := U5 XX G Fw
 have Ob := Fx.binds (ps := ["cell"]) fun _ _ _ _ _ _ => by refine cg ?_; exact fun _ => rfl
 have FL := U5 XX G sy
 have FN := sA.binds (ps := ["parts", "one", "other"]) fun _ _ _ _ _ _ => by refine cg ?_; exact fun _ _ _ => rfl
 have Cw := U5 XX G pe
 have Cy := pA.binds (ps := ["chart", "row"]) fun _ _ _ _ _ _ => by refine cg ?_; exact fun _ _ => rfl
 have vm := U5 XX G jB
 have vn := jC.binds (ps := ["parts", "row"]) fun _ _ _ _ _ _ => by refine cg ?_; exact fun _ _ => rfl
 have Bc := U5 XX G ve
 have Bd := qJ.binds (ps := ["found", "due"]) fun _ _ _ _ _ _ => by refine cg ?_; exact fun _ _ => rfl
 have Ly := U5 XX G zy
 have Lz := zA.binds (ps := ["chart", "parts"]) fun _ _ _ _ _ _ => by refine cg ?_; exact fun _ _ => rfl
 have RW := U5 XX G Bb
 have RX := Fy.binds (ps := ["script"]) fun _ _ _ _ _ _ => by refine cg ?_; exact fun _ => rfl
 have Ij := U5 XX G uW
 have bV : vH K ao := ⟨rY, rZ, r6, r9⟩
 have vo : vH K ((cl ao av) "Chart") := by rw [eT]; exact bV
 have iH : aS K ((cl ao av) "Chart") "boxes" := by rw [eT]; exact iD
 have iI : aS K ((cl ao av) "Chart") "names" := by rw [eT]; exact iE
 have nJ : aS K ((cl ao av) "Chart") "tree" := by rw [eT]; exact jv
 have pZ : aS K ((cl ao av) "Chart") "ins" := by rw [eT]; exact j5
 have nK : aS K ((cl ao av) "Chart") "outs" := by rw [eT]; exact jw
 have nL : aS K ((cl ao av) "Chart") "ways" := by rw [eT]; exact jx
 have LC := U5 XX G zx
 have jh : vH K av := ⟨uX, uY, uZ, u0⟩
 have FP : vH K ((cl ao av) "Tree") := by rw [kW]; exact jh
 have nM : aS K ((cl ao av) "Tree") "kinds" := by rw [kW]; exact jy
 have lC : aS K ((cl ao av) "Tree") "elders" := by rw [kW]; exact iF
 have lD : aS K ((cl ao av) "Tree") "starts" := by rw [kW]; exact iG
 have ki := Vy XX G Fz
 have kX := Vy XX G vf
 have Jf := Vy XX G FD
 have vp := Vy XX G zB
 have FQ := Vy XX G FE
 have nO := Vy XX G jD
 have Ik := Vy XX G vg
 have LD := Vy XX G y_bool
 refine ⟨Je, ?bind, fun base _ _ => ?_⟩
 case bind =>
   obtain ⟨oc, od, kV, doc, pm, an, eU, ct, GH, rfl, lk, kr⟩ := Fy.ex
   exact fun s v => .of_eq rfl
 have Cz : b5 l.prog w K mg base iT 1 oK _ ["script", "k"] (lG K (cl ao av) 2 dY dZ d7) := bT oS rC fun eU Ar outer s H E b a hr hp => by
   obtain ⟨p0, p1⟩ := a; refine BX ?_ p0 p1 hp
   exact ⟨⟨⟨rC.nd, rfl, rfl⟩, hr.units⟩, bR lN 0, bR lN 1, eV lN 2, ki⟩
 have pB := eG Cz Ck oS.kp Cm
 have Il : b5 l.prog w K mg base iT 1 uS _ ["elders", "mood"] (lG K (cl ao av) 2 kJ kK kL) := bT vd wV fun eU Ar outer s H E b a hr hp => by
   obtain ⟨p0, p1⟩ := a; refine HR ?_ p0 p1 hp
   exact ⟨⟨⟨wV.nd, rfl, rfl⟩, hr.units⟩, bR m7 0, bR m7 1, bR m7 2, bR m7 3⟩
 have Im := eG Il Ih vd.kp Ii
 have xF : b5 l.prog w K mg base iT 2 j3 _ ["items"] (lG K (cl ao av) 1 fj fk fq) := bT j7 m8 fun eU Ar outer s H E b a hr hp => by
   refine wX ?_ a hp
   exact ⟨⟨⟨m8.nd, rfl, rfl⟩, hr.units⟩, bR cM 0, bR cM 1, bR cM 2, bR cM 3, bR cM 4, eV cM 5, eV cM 6, ki, gy Im hr⟩
 have xG := eG xF xA j7.kp xB
 have CB : b5 l.prog w K mg base iT 1 oM _ ["number", "used"] (lG K (cl ao av) 2 gS fE gT) := bT oV rE fun eU Ar outer s H E b a hr hp => by
   obtain ⟨p0, p1⟩ := a; refine B3 ?_ p0 p1 hp
   exact ⟨⟨⟨rE.nd, rfl, rfl⟩, hr.units⟩, bR cO 0, bR cO 1, bR cO 2, bR cO 3, bR cO 4, bR cO 5, bR cO 6, eV cO 7, eV cO 8, kX, ki⟩
 have CD := eG CB Cp oV.kp Cq
 have zL : b5 l.prog w K mg base iT 2 lV _ ["script", "many"] (lG K (cl ao av) 2 fQ fS fT) := bT l0 pS fun eU Ar outer s H E b a hr hp => by
   obtain ⟨p0, p1⟩ := a; refine yQ ?_ p0 p1 hp
   exact ⟨⟨⟨pS.nd, rfl, rfl⟩, hr.units⟩, bR cy 0, bR cy 1, bR cy 2, bR cy 3, bR cy 4, bR cy 5, eV cy 6, eV cy 7, eV cy 8, gy pB hr, kX, gy CD hr⟩
 have zM := eG zL zC l0.kp zE
 have zN : b5 l.prog w K mg base iT 1 lW _ ["elders", "cells"] (lG K (cl ao av) 2 fU eH fV) := bT mj pT fun eU Ar outer s H E b a hr hp => by
   obtain ⟨p0, p1⟩ := a; refine yS ?_ p0 p1 hp
   exact ⟨⟨⟨pT.nd, rfl, rfl⟩, hr.units⟩, O5 bS 0, iW bS 0 rfl, bR bS 1, bR bS 2, bR bS 3, O5 bS 4, iW bS 4 rfl, bR bS 5, bR bS 6, eV bS 7, eV bS 8, kX, ki⟩
 have zO := eG zN zF mj.kp zG
 have xH : b5 l.prog w K mg base iT 1 j4 _ ["cell"] (lG K (cl ao av) 1 cR cS cT) := bT j9 ng fun eU Ar outer s H E b a hr hp => by
   refine w4 ?_ a hp
   exact ⟨⟨⟨ng.nd, rfl, rfl⟩, hr.units⟩, bR m9 0, bR m9 1⟩
 have ko := eG xH xC j9.kp xD
 have CF : b5 l.prog w K mg base iT 2 oN _ ["item", "boxes", "names"] (lG K (cl ao av) 3 gW c9 gX) := bT oX rJ fun eU Ar outer s H E b a hr hp => by
   obtain ⟨p0, p1, p2, p3⟩ := a; refine B6 ?_ p0 p1 p2 p3 hp
   exact ⟨⟨⟨rJ.nd, rfl, rfl⟩, hr.units⟩, bR dg 0, bR dg 1, bR dg 2, bR dg 3, bR dg 4, bR dg 5, eV dg 6, eV dg 7, ki, gy ko hr⟩
 have CG := eG CF Cr oX.kp Ct
 have FT : b5 l.prog w K mg base iT 1 rV _ ["item", "source", "many", "names"] (lG K (cl ao av) 4 jc gC jd) := bT sj tH fun eU Ar outer s H E b a hr hp => by
   obtain ⟨p0, p1, p2, p3, p4⟩ := a; refine EW ?_ p0 p1 p2 p3 p4 hp
   exact ⟨⟨⟨tH.nd, rfl, rfl⟩, hr.units⟩, bR eY 0, bR eY 1, bR eY 2, bR eY 3, bR eY 4, bR eY 5, eV eY 6, ki⟩
 have FU := eG FT FG sj.kp FH
 have FW : b5 l.prog w K mg base iT 2 rW _ ["item", "boxes", "many"] (lG K (cl ao av) 3 je gD jf) := bT su tL fun eU Ar outer s H E b a hr hp => by
   obtain ⟨p0, p1, p2, p3⟩ := a; refine EY ?_ p0 p1 p2 p3 hp
   exact ⟨⟨⟨tL.nd, rfl, rfl⟩, hr.units⟩, bR eZ 0, bR eZ 1, bR eZ 2, bR eZ 3, bR eZ 4, bR eZ 5, eV eZ 6, gy ko hr⟩
 have FY := eG FW FI su.kp FJ
 have CH : b5 l.prog w K mg base iT 3 oO _ ["items", "boxes", "many", "names"] (lG K (cl ao av) 4 gY fF gZ) := bT oZ rM fun eU Ar outer s H E b a hr hp => by
   obtain ⟨p0, p1, p2, p3⟩ := a; refine B8 ?_ p0 p1 p2 p3 hp
   exact ⟨⟨⟨rM.nd, rfl, rfl⟩, hr.units⟩, bR bA 0, bR bA 1, bR bA 2, bR bA 3, bR bA 4, bR bA 5, bR bA 6, bR bA 7, bR bA 8, bR bA 9, bR bA 10, eV bA 11, eV bA 12, eV bA 13, eV bA 14, ki, gy CG hr, gy FU hr, gy FY hr⟩
 have CJ := eG CH Cu oZ.kp Cv
 have zP : b5 l.prog w K mg base iT 4 lX _ ["script"] (lG K (cl ao av) 1 fW fX fY) := bT mw pW fun eU Ar outer s H E b a hr hp => by
   refine za ?_ a hp
   exact ⟨⟨⟨pW.nd, rfl, rfl⟩, hr.units⟩, O5 aP 0, iW aP 0 rfl, bR aP 1, bR aP 2, bR aP 3, O5 aP 4, iW aP 4 rfl, bR aP 5, bR aP 6, bR aP 7, eV aP 8, eV aP 9, eV aP 10, eV aP 11, eV aP 12, eV aP 13, eV aP 14, eV aP 15, gy pB hr, kX, Jf, ki, gy xG hr, gy zM hr, gy zO hr, gy CJ hr, gy ko hr⟩
 have zQ := eG zP zH mw.kp zI
 have xJ : b5 l.prog w K mg base iT 1 ia _ ["self", "kinds", "elders", "starts"] (Nq K (cl ao av) "Tree" 4 lq lu lz) := AH pY ny fun eU Ar outer s H E b a y hr hp => by
   obtain ⟨p0, p1, p2⟩ := a; refine xm ?_ p0 p1 p2 y hp
   exact ⟨⟨⟨ny.nd, rfl, rfl⟩, hr.units⟩, bR eL 0, bR eL 1, bR eL 2, bR eL 3, eV eL 4, vp, FP, nM, lC, lD⟩
 have vq : b5 l.prog w K mg base iT 1 gf _ ["self", "boxes", "names", "tree", "ins", "outs", "ways"] (Nq K (cl ao av) "Chart" 7 jX jY jZ) := AH nI lA fun eU Ar outer s H E b a y hr hp => by
   obtain ⟨p0, p1, p2, p3, p4, p5⟩ := a; refine uN ?_ p0 p1 p2 p3 p4 p5 y hp
   exact ⟨⟨⟨lA.nd, rfl, rfl⟩, hr.units⟩, bR bZ 0, bR bZ 1, bR bZ 2, bR bZ 3, bR bZ 4, bR bZ 5, bR bZ 6, eV bZ 7, vp, vo, iH, iI, nJ, pZ, nK, nL⟩
 have zR : b5 l.prog w K mg base iT 3 lY _ ["parts"] (lG K (cl ao av) 1 f6 eN f7) := bT mC pX fun eU Ar outer s H E b a hr hp => by
   obtain ⟨p0, p1, p2, p3, p4, p5, p6, p7⟩ := a; refine zc ?_ p0 p1 p2 p3 p4 p5 p6 p7 hp
   exact ⟨⟨⟨pX.nd, rfl, rfl⟩, hr.units⟩, bR fG 0, bR fG 1, eV fG 2, eV fG 3, eV fG 4, ⟨⟨_, _, _, by rw [kW]; exact ⟨u5, kg, kh, u6⟩, xJ, by rw [kW]; exact LC, xE⟩, hr.mono (by decide)⟩, vp, ⟨⟨_, _, _, by rw [eT]; exact ⟨sd, jz, jA, se⟩, vq, by rw [eT]; exact Ij, vh⟩, hr.mono (by decide)⟩⟩
 have zS := eG zR zJ mC.kp zK
 have Oc : b5 l.prog w K mg base iT 1 Fp _ ["cell"] (lG K (cl ao av) 1 qE qF qG) := bT Fx Fd fun eU Ar outer s H E b a hr hp => by
   refine N4 ?_ a hp
   exact ⟨⟨⟨Fd.nd, rfl, rfl⟩, hr.units⟩, bR Fb 0, bR Fb 1⟩
 have Od := eG Oc Oa Fx.kp Ob
 have FZ : b5 l.prog w K mg base iT 2 rX _ ["parts", "one", "other"] (lG K (cl ao av) 3 jq gG jr) := bT sA tM fun eU Ar outer s H E b a hr hp => by
   obtain ⟨p0, p1, p2, p3, p4, p5, p6, p7, p8, p9⟩ := a; refine Fg ?_ p0 p1 p2 p3 p4 p5 p6 p7 p8 p9 hp
   exact ⟨⟨⟨tM.nd, rfl, rfl⟩, hr.units⟩, bR dz 0, bR dz 1, bR dz 2, bR dz 3, bR dz 4, bR dz 5, bR dz 6, eV dz 7, eV dz 8, ki, gy Od hr⟩
 have F0 := eG FZ FL sA.kp FN
 have CK : b5 l.prog w K mg base iT 1 oQ _ ["chart", "row"] (lG K (cl ao av) 2 g6 fH g7) := bT pA rS fun eU Ar outer s H E b a hr hp => by
   obtain ⟨p0, p1, p2, p3, p4, p5, p6⟩ := a; refine Cb ?_ p0 p1 p2 p3 p4 p5 p6 hp
   exact ⟨⟨⟨rS.nd, rfl, rfl⟩, hr.units⟩, bR gH 0, bR gH 1, bR gH 2, bR gH 3, eV gH 4, FQ, vo, iI, iH⟩
 have CM := eG CK Cw pA.kp Cy
 have vt : b5 l.prog w K mg base iT 1 ju _ ["parts", "row"] (lG K (cl ao av) 2 eO dh eS) := bT jC lB fun eU Ar outer s H E b a hr hp => by
   obtain ⟨p0, p1, p2, p3, p4, p5, p6, p7, p8⟩ := a; refine uP ?_ p0 p1 p2 p3 p4 p5 p6 p7 p8 hp
   exact ⟨⟨⟨lB.nd, rfl, rfl⟩, hr.units⟩, bR fu 0, bR fu 1, bR fu 2, eV fu 3, FQ⟩
 have vv := eG vt vm jC.kp vn
 have F2 : ∀ dd, b5 l.prog w K mg base iT (1 + dd) uT Ba ["found", "due"] (lG K (cl ao av) 2 iR (e7 dd) iS) := by
   intro dd
   induction dd using Nat.strongRecOn with
   | ind dd ih =>
     rw [show 1 + dd = (0 + dd) + 1 by omega]
     exact bT qJ xo fun eU Ar outer s H E b a hr hp => by
       refine Ie (dd := dd) ?_ a hp
       exact ⟨⟨⟨xo.nd, rfl, rfl⟩, hr.units⟩, bR dU 0, bR dU 1, bR dU 2, eV dU 3, eV dU 4, eV dU 5, eV dU 6, eV dU 7, eV dU 8, eV dU 9, nO, vp, Ik, ki, kX, fun d' hd => ⟨⟨_, _, _, ih d' hd, Bc, qJ.kp, Bd⟩, hr.mono (by omega)⟩, LD⟩
 have Io := F2 8
 have Ip := eG Io Bc qJ.kp Bd
 have LJ : b5 l.prog w K mg base iT 10 zm _ ["chart", "parts"] (lG K (cl ao av) 2 nE nF nG) := bT zA A8 fun eU Ar outer s H E b a hr hp => by
   obtain ⟨p0, p1, p2, p3, p4, p5, p6, p7⟩ := a; refine Lv ?_ p0 p1 p2 p3 p4 p5 p6 p7 hp
   exact ⟨⟨⟨A8.nd, rfl, rfl⟩, hr.units⟩, bR nH 0, bR nH 1, bR nH 2, bR nH 3, eV nH 4, gy Ip hr, vo, FP, nJ, iH, iI, nM, lC, lD, pZ, nK, nL⟩
 have LK := eG LJ Ly zA.kp Lz
 have Oe : b5 l.prog w K mg base iT 11 _ _ ["script"] (lG K (cl ao av) 1 kR kT kU) := bT Fy Fo fun eU Ar outer s H E b a hr hp => by
   refine N7 ?_ a hp
   exact ⟨⟨⟨Fo.nd, rfl, rfl⟩, hr.units⟩, bR cW 0, bR cW 1, bR cW 2, bR cW 3, bR cW 4, bR cW 5, eV cW 6, eV cW 7, eV cW 8, eV cW 9, eV cW 10, eV cW 11, eV cW 12, eV cW 13, eV cW 14, eV cW 15, eV cW 16, eV cW 17, gy zQ hr, gy zS hr, kX, Jf, ki, gy F0 hr, gy pB hr, gy CM hr, nO, FQ, gy vv hr, gy LK hr⟩
 exact Oe.imp (KR (fun _ => rfl) (fun _ => rfl) fun x hx => Lx hx)
theorem walk {l : PySem.W.OpenLaw} {q : Program} {loose : List Str} {XP : (Str -> Option Value) -> Heap -> Prop} {YP : World -> Heap -> Prop} {d : DefRec} {K : Params -> PySem.W.Frag} (hn : l.most = some 63) (M5 : d.params.defaults = [])
   (hY : ∀ (w : World) (h : Heap), YP w h -> (K w.params).In h)
   (F : ∀ (w : World) (mg : Str -> Option Value) (fa : Addr) (h : Heap), (K w.params).In h -> h.Ns mainGlobals mg -> mg d.name = some (.ref fa) →
     ∃ fd : FuncData, (∀ (s : Shared) (u : Value), BindsTo s fd ⟨[u], []⟩ [("script", u)]) /\ ∀ base : Heap, (K w.params).In base -> base.Ns mainGlobals mg -> b5 l.prog w (K w.params) mg base iT 11 fa fd ["script"] (lG (K w.params) (fun _ => 0) 1 kR kT kU)) :
   PySem.W.WalkO q loose XP YP l.row.toRowW d [] (fun f vs => PySem.call f vs) :=
 L2.GY (n := 63) (k := 11) (x := "script") (CX := fun _ => iT) (sp := fun w => lG (K w.params) (fun _ => 0) 1 kR kT kU) hn (by decide) M5 ⟨rfl, by decide, by decide⟩ hY F (fun _ _ a ns hl _ hS => KJ rfl hl rfl hS) fun _ _ _ _ _ z => z
end Law
open PySem PySem.W PyProof.Rows
set_option maxRecDepth 100000 in
set_option maxHeartbeats 0 in
theorem PySem.Challenge.cw_moodtree_k62_a_line_of_a_row_holds : PySem.Challenge.rw_moodtree_k62_a_line_of_a_row.Holds := by
 w_on; o_law; k_head; (case hw => w_witness2)
 k_fill
 refine Law.walk (l := PySem.Challenge.rw_moodtree_k62_a_line_of_a_row) rfl rfl (fun w h Y => PySem.W.kIn_of Y) ?F
 case F =>
   intro w mg fa h KX G M6
   refine' Law.all_mk KX G M6 ?uW ?rY ?rZ ?r6 ?r9 ?sd ?se ?iD ?iE ?jv ?j5 ?jw ?jx ?zx ?uX ?uY ?uZ ?u0 ?u5 ?u6 ?jy ?iF ?iG ?oR (L2.b6 ?CN ?CP ?CQ) ?u9 (L2.b6 ?Iq ?Ir ?Iu) ?j6 (L2.b6 ?xK ?xM ?xN) ?oU (L2.b6 ?CT ?CV ?CW) ?lZ (L2.b6 ?zT ?zU ?zV) ?mh (L2.b6 ?zW ?zX ?zY) ?j8 (L2.b6 ?xO ?xP ?xQ) ?oW (L2.b6 ?CY ?CZ ?C1) ?sf (L2.b6 ?F3 ?F4 ?F5) ?sq (L2.b6 ?F6 ?F7 ?F8) ?oY (L2.b6 ?C2 ?C3 ?C4) ?mq (L2.b6 ?zZ ?z0 ?z6) ?kg ?kh (L2.b6 ?xR ?xS ?xT) ?jz ?jA (L2.b6 ?vz ?vA ?vC) ?mz (L2.b6 ?z7 ?z8 ?z9) ?Fw (L2.b6 ?Og ?Oh ?Oi) ?sy (L2.b6 ?F9 ?Ga ?Gb) ?pe (L2.b6 ?C5 ?C6 ?C7) ?jB (L2.b6 ?vD ?vE ?vG) ?ve (L2.b6 ?Iv ?Iw ?Iz) ?zy (L2.b6 ?LN ?LQ ?k_same) ?Bb (L2.b6 ?Oj ?Ol ?Om) ?Fz ?vf ?FD ?zB ?FE ?jD ?vg ?y_bool
   case uW | rY | rZ | r6 | r9 | sd | se | iD | iE | jv | j5 | jw | jx | zx | uX | uY | uZ | u0 | u5 | u6 | jy | iF | iG | oR | CN | CP | CQ | u9 | Iq | Ir | Iu | j6 | xK | xM | xN | oU | CT | CV | CW | lZ | zT | zU | zV | mh | zW | zX | zY | j8 | xO | xP | xQ | oW | CY | CZ | C1 | sf | F3 | F4 | F5 | sq | F6 | F7 | F8 | oY | C2 | C3 | C4 | mq | zZ | z0 | z6 | kg | kh | xR | xS | xT | jz | jA | vz | vA | vC | mz | z7 | z8 | z9 | Fw | Og | Oh | Oi | sy | F9 | Ga | Gb | pe | C5 | C6 | C7 | jB | vD | vE | vG | ve | Iv | Iw | Iz | zy | LN | LQ | k_same | Bb | Oj | Ol | Om | Fz | vf | FD | zB | FE | jD | vg | y_bool => k_is
