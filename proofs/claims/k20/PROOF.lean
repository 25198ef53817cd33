import PyProof.Rows.All
import Wide.All
import OpenK.AllK
import Wide.FinOn
import Lean
import PyProof.EqAt
import PyProof.EqKinds
import PyProof.TupleCall
import PySem.Challenge.RW_moodtree_k20_whole_chart_written
set_option Elab.async false
set_option linter.all false
set_option maxRecDepth 100000
set_option maxHeartbeats 4000000
namespace L2
open PySem PySem.Spec PyProof.Rows
noncomputable abbrev adM := @List.length_map
noncomputable abbrev adN := @List.mem_cons
noncomputable abbrev adO := @List.append_assoc
noncomputable abbrev adP := @List.mem_append_right
noncomputable abbrev adQ := @Nat.le_of_ble_eq_true
noncomputable abbrev adR := @List.length_append
noncomputable abbrev adS := @List.getD_eq_getElem?_getD
noncomputable abbrev adT := @if_neg
noncomputable abbrev adU := @List.map_append
noncomputable abbrev adV := @Nat.le_refl
noncomputable abbrev adW := @List.mem_cons_self
noncomputable abbrev adX := @List.mem_cons_of_mem
noncomputable abbrev adY := @List.mem_singleton
noncomputable abbrev adZ := @List.mem_append
noncomputable abbrev ad0 := @if_pos
noncomputable abbrev ad1 := @PySem.W.mg_of
noncomputable abbrev ad2 := @List.mem_append_left
noncomputable abbrev ad3 := @List.getElem?_eq_getElem
noncomputable abbrev ad4 := @of_decide_eq_true
noncomputable abbrev ad5 := @Bool.false_ne_true
noncomputable abbrev ad6 := @of_decide_eq_false
noncomputable abbrev ad7 := @List.mem_of_getElem?
noncomputable abbrev ad8 := @List.getElem?_map
noncomputable abbrev ad9 := @List.length_singleton
noncomputable abbrev aea := @wpAny_bind
noncomputable abbrev aeb := @Option.some.inj
noncomputable abbrev aec := @Heap.lt_size
noncomputable abbrev aed := @List.mem_map
noncomputable abbrev aee := @Heap.get?_push_of_some
noncomputable abbrev aef := @List.append_nil
noncomputable abbrev aeg := @Int.emod_lt_of_pos
noncomputable abbrev aeh := @List.size_toArray
noncomputable abbrev aei := @List.map_map
noncomputable abbrev aej := @List.cons_append
noncomputable abbrev aek := @sizeLine_eq
noncomputable abbrev ael := @Nat.zero_le
noncomputable abbrev aem := @List.length_range
noncomputable abbrev aen := @List.map_cons
noncomputable abbrev aeo := @List.length_cons
noncomputable abbrev aep := @Int.emod_nonneg
noncomputable abbrev aeq := @List.Perm.append_left
noncomputable abbrev aer := @wpAny_pure
noncomputable abbrev aes := @List.Sublist.refl
noncomputable abbrev aeu := @List.Sublist.append
noncomputable abbrev aev := @List.getElem?_eq_some_iff
noncomputable abbrev aew := @List.perm_append_comm
noncomputable abbrev aex := @Nat.lt_of_lt_of_le
noncomputable abbrev aey := @Bool.and_eq_true
noncomputable abbrev aez := @List.lookup_cons
noncomputable abbrev aeA := @Nat.le_trans
noncomputable abbrev aeB := @Nat.le_of_lt
noncomputable abbrev aeC := @decide_eq_false
noncomputable abbrev aeD := @Int.toNat_natCast
noncomputable abbrev aeE := @Nat.ne_of_lt
noncomputable abbrev aeF := @PySem.W.mg_none_of
noncomputable abbrev aeG := @Heap.get?_push_size
noncomputable abbrev aeH := @List.length_take
noncomputable abbrev aeI := @Str.append_assoc
noncomputable abbrev aeJ := @List.nodup_append
noncomputable abbrev aeK := @Nat.le_succ_of_le
noncomputable abbrev aeL := @List.not_mem_nil
noncomputable abbrev aeM := @List.take_length
noncomputable abbrev aeN := @Bool.not_eq_true'
noncomputable abbrev aeO := @List.getElem?_range
noncomputable abbrev aeP := @List.sublist_append_right
noncomputable abbrev aeQ := @List.mem_range
noncomputable abbrev aeR := @PyProof.Rows.callWith_type1
noncomputable abbrev aeS := @List.nodup_cons
noncomputable abbrev aeT := @List.filterMap_cons
noncomputable abbrev aeU := @PySem.mem_of_lookup
noncomputable abbrev aeV := @List.length_replicate
noncomputable abbrev aeW := @Ne.symm
noncomputable abbrev aeX := @Nat.lt_succ_self
noncomputable abbrev aeY := @List.perm_middle
noncomputable abbrev aeZ := @wpAny_passesOwn
noncomputable abbrev ae0 := @List.reverse_cons
noncomputable abbrev ae1 := @wpAny_mono
noncomputable abbrev ae2 := @List.map_nil
noncomputable abbrev ae3 := @Int.zero_add
noncomputable abbrev ae4 := @beq_eq_false_iff_ne
noncomputable abbrev ae5 := @List.length_pos_iff
noncomputable abbrev ae6 := @PyProof.Rows.slot_tuple_getitem
noncomputable abbrev ae7 := @List.mem_filter
noncomputable abbrev ae8 := @List.length_set
noncomputable abbrev ae9 := @PySem.W.kia_one
noncomputable abbrev afa := @Bool.not_eq_false'
noncomputable abbrev afb := @wpAny_truthy_bool
noncomputable abbrev afc := @wpAny_newObj_type
noncomputable abbrev afd := @List.getElem?_eq_none
noncomputable abbrev afe := @beq_iff_eq
noncomputable abbrev afg := @beq_self_eq_true
noncomputable abbrev afh := @List.all_eq_true
noncomputable abbrev afi := @List.mem_of_mem_take
noncomputable abbrev afj := @Nat.lt_irrefl
noncomputable abbrev afk := @List.getElem?_append_right
noncomputable abbrev afl := @wpAny_Call_Name_kw
noncomputable abbrev afm := @PySem.F.args_tuple_add_2
noncomputable abbrev afn := @Nat.lt_of_le_of_lt
noncomputable abbrev afo := @decide_eq_true
noncomputable abbrev afp := @List.Perm.refl
noncomputable abbrev afq := @PySem.F.entry_tuple_add
noncomputable abbrev afr := @PySem.F.plainAttrs_list
noncomputable abbrev afs := @List.ext_getElem?
noncomputable abbrev aft := @List.getElem?_set
noncomputable abbrev Key := Sum Int Str
noncomputable def RP : Key -> Value -> Bool
 | .inl k, v => Value.isInt k v
 | .inr x, v => Value.isStrOf x v
noncomputable def YT (w : World) : Key -> Int
 | .inl k => hashInt k
 | .inr x => hashStr w x
theorem cY : ∀ {k : Key} {v : Value}, RP k v = true -> (∃ i t, k = Sum.inl i /\ v = Value.int i t) \/ (∃ x t, k = Sum.inr x /\ v = Value.str x t)
 | .inl i, v, h => by
   obtain ⟨t, e⟩ := Value.isInt_shape (k := i) (v := v) h
   exact .inl ⟨i, t, rfl, e⟩
 | .inr x, v, h => by
   obtain ⟨t, e⟩ := Value.isStrOf_shape (x := x) (v := v) h
   exact .inr ⟨x, t, rfl, e⟩
theorem Sx (a b : Int) : decide ((Sum.inl a : Key) = Sum.inl b) = (a == b) := by
 by_cases e : a = b
 . subst e; simp
 . have h : ¬ (Sum.inl a : Key) = Sum.inl b := fun q => e (Sum.inl.inj q)
   rw [aeC h]
   exact (ae4.mpr e).symm
theorem Sy (a b : Str) : decide ((Sum.inr a : Key) = Sum.inr b) = decide (a = b) := by
 by_cases e : a = b
 . subst e; simp
 . have h : ¬ (Sum.inr a : Key) = Sum.inr b := fun q => e (Sum.inr.inj q)
   rw [aeC h, aeC e]
theorem Sz (a : Int) (b : Str) : decide ((Sum.inl a : Key) = Sum.inr b) = false := aeC (fun q => nomatch q)
theorem SD (a : Str) (b : Int) : decide ((Sum.inr a : Key) = Sum.inl b) = false := aeC (fun q => nomatch q)
noncomputable def zO (prog : Program) (w : World) : PySem.KeyKind prog w Key where
 is := RP
 hash := YT w
 inj := fun v a b ha hb => by
   rcases cY ha with ⟨i, t, rfl, rfl⟩ | ⟨x, t, rfl, rfl⟩
   . rcases cY hb with ⟨j, u, rfl, e⟩ | ⟨y, u, rfl, e⟩
     . injection e with e1 _; rw [e1]
     . exact nomatch e
   . rcases cY hb with ⟨j, u, rfl, e⟩ | ⟨y, u, rfl, e⟩
     . exact nomatch e
     . injection e with e1 _; rw [e1]
 byValue := fun k v h => by
   rcases cY h with ⟨i, t, rfl, rfl⟩ | ⟨x, t, rfl, rfl⟩ <;> rfl
 pyHash := fun hv h => by
   rcases cY hv with ⟨i, t, rfl, rfl⟩ | ⟨x, t, rfl, rfl⟩
   . exact wpAny_pyHash_int h
   . exact wpAny_pyHash_str h
 eqBool := fun hu hv h => by
   rcases cY hu with ⟨i, t, rfl, rfl⟩ | ⟨x, t, rfl, rfl⟩
   . rcases cY hv with ⟨j, u, rfl, rfl⟩ | ⟨y, u, rfl, rfl⟩
     . rw [Sx] at h; exact wpAny_eqBool_int h
     . rw [Sz] at h; exact SeqAt.EqAt.int_str i t y u _ _ _ _ h
   . rcases cY hv with ⟨j, u, rfl, rfl⟩ | ⟨y, u, rfl, rfl⟩
     . rw [SD] at h; exact SeqAt.EqAt.str_int x t j u _ _ _ _ h
     . rw [Sy] at h; exact wpAny_eqBool_str h
 «strs» := fun k x t v h => by
   rcases cY h with ⟨i, u, rfl, e⟩ | ⟨y, u, rfl, e⟩
   . exact nomatch e
   . injection e with e1 _
     subst e1
     cases v <;> rfl
inductive V where
 | non | bl (b : Bool) | int (i : Int) | str (x : Str) | G6 (b : Array UInt8) | Ye (b : UInt64) | ref (a : Addr) | ty (n : String)
 deriving DecidableEq
noncomputable def RelV : V -> Value -> Prop
 | .non, u => u = Value.none
 | .bl b, u => u = Value.bool b
 | .int i, u => ∃ t, u = Value.int i t
 | .str x, u => ∃ t, u = Value.str x t
 | .G6 b, u => ∃ t, u = Value.bytes b t
 | .Ye b, u => ∃ t, u = Value.float b t
 | .ref a, u => u = Value.ref a
 | .ty n, u => u = Value.type n
noncomputable abbrev Vals : List V -> List Value -> Prop := Paired RelV
theorem Vals.length {xs : List V} {us : List Value} (r : Vals xs us) : xs.length = us.length := Paired.length r
theorem Vals.get : ∀ {xs : List V} {us : List Value} {i : Nat} {x : V}, Vals xs us -> xs[i]? = some x -> ∃ u, us[i]? = some u /\ RelV x u
 | _, _, _, _, .nil, e => by simp at e
 | _, _, 0, _, .cons r _, e => by simp at e; subst e; exact ⟨_, rfl, r⟩
 | _, _, i + 1, x, .cons _ t, e => by
   obtain ⟨u, h1, h2⟩ := Vals.get (i := i) (x := x) t (by simpa using e)
   exact ⟨u, by simpa using h1, h2⟩
theorem Vals.set {x : V} {u : Value} (r : RelV x u) : ∀ {xs : List V} {us : List Value} (i : Nat), Vals xs us -> Vals (xs.set i x) (us.set i u)
 | _, _, _, .nil => .nil
 | _, _, 0, .cons _ t => .cons r t
 | _, _, i + 1, .cons q t => .cons q (Vals.set r i t)
theorem Vals.append : ∀ {xs ys : List V} {us ws : List Value}, Vals xs us -> Vals ys ws -> Vals (xs ++ ys) (us ++ ws)
 | _, _, _, _, .nil, s => s
 | _, _, _, _, .cons r t, s => .cons r (Vals.append t s)
theorem Vals.take : ∀ {xs : List V} {us : List Value} (n : Nat), Vals xs us -> Vals (xs.take n) (us.take n)
 | _, _, 0, _ => .nil
 | _, _, _ + 1, .nil => .nil
 | _, _, n + 1, .cons r t => .cons r (Vals.take n t)
theorem Vals.drop : ∀ {xs : List V} {us : List Value} (n : Nat), Vals xs us -> Vals (xs.drop n) (us.drop n)
 | _, _, 0, r => r
 | _, _, _ + 1, .nil => .nil
 | _, _, n + 1, .cons _ t => Vals.drop n t
noncomputable def En : Option V -> Option Value -> Prop
 | some v, some u => RelV v u
 | none, none => True
 | _, _ => False
noncomputable def KV {κ : Type} : List (κ × V) -> List (κ × Value) -> Prop := Paired fun (p : κ × V) (q : κ × Value) => p.1 = q.1 /\ RelV p.2 q.2
noncomputable def kV : Key -> V
 | .inl i => .int i
 | .inr x => .str x
inductive HO where
 | lst (xs : List V)
 | tup (xs : List V)
 | dK (i7 : List (Key × V)) | dT (i7 : List (List Key × V))
 | set (S : Int -> Bool) (n : Nat)
 | ins (C dx : Addr) (fs : List (Str × V))
 | own (x : Addr)
 | xd (fs : List (Str × V))
 | met (f x : Addr)
 | YV (lo hi : Int)
 | d7 (o : Obj) (u : HO)
 | SG (ps : Array Value)
 | tabs (q : Str)
 | SJ (q : Str)
 | ext (φ : Heap -> Prop)
noncomputable abbrev Hp := Addr -> Option HO
noncomputable def upd (H : Hp) (a : Addr) (o : HO) : Hp := fun b => if b = a then some o else H b
theorem aX {H : Hp} {a : Addr} {o : HO} : upd H a o a = some o := by unfold upd; rw [ad0 rfl]
theorem aA {H : Hp} {a b : Addr} {o : HO} (h : b ≠ a) : upd H a o b = H b := by unfold upd; rw [adT h]
theorem bF {H : Hp} {a b : Addr} {o : HO} (h : H a = some o) (h' : H b = none) : a ≠ b := by
 intro e; subst e; rw [h] at h'; cases h'
section
variable (P : Program) (w : World)
noncomputable def jX (H : Hp) (h : Heap) (a : Addr) : HO -> Prop
 | .lst xs => xs.length <= sizeLine /\ ∃ (its : List Value) (n : Nat), Vals xs its /\ h.get? a = some { cls := .type "list", data := .seq its.toArray n }
 | .tup xs => xs.length <= sizeLine /\ ∃ its : List Value, Vals xs its /\ IsTup h a its.toArray
 | .dK i7 => i7.length <= sizeLine /\ (a == sysModules) = false /\ ∃ vs, KV i7 vs /\ h.DictOf (zO P w) a vs
 | .dT i7 => i7.length <= sizeLine /\ (a == sysModules) = false /\ ∃ xs : List (List Key × Addr × Value),
     Paired (fun (p : List Key × V) (q : List Key × Addr × Value) => p.1 = q.1 /\ H q.2.1 = some (.tup (p.1.map kV)) /\ RelV p.2 q.2.2) i7 xs ∧
     ∃ o es ep, h.get? a = some o /\ o.ExactDict /\ o.data = .dict es ep /\ es.toList = xs.map (entryOfKey (tupleKind (zO P w))) /\ (xs.map (·.1)).Nodup
 | .set S n => h.SetOf (intKind P w) a S n
 | .ins C dx fs => H dx = some (.own a) /\ fs.length <= 1000 /\ dx ≠ a /\ h.get? a = some (PySem.W.instObj C dx) ∧
     ∃ mA, h.Ns1 dx mA /\ (∀ f, En (fs.lookup f) (mA f)) /\ PySem.Within mA (fs.map (·.1))
 | .own _ => ∃ o, h.get? a = some o
 | .xd fs => ∃ mA, h.Ns1 a mA /\ ∀ f, En (fs.lookup f) (mA f)
 | .YV lo hi => ∃ t u v, h.get? a = some { cls := .type "range", data := .fields #[.int lo t, .int hi u, .int 1 v] }
 | .d7 o u => h.get? a = some o /\ jX H h a u
 | .SG ps => h.get? a = some { cls := .none, data := .fields ps }
 | .tabs q => ∃ ps : Array Value, h.get? a = some { cls := .none, data := .fields ps } /\ TriplesOk ps.toList /\ ∀ pos cv, codeAmong pos ps.toList = some cv -> ∃ c, cv = .ref c /\ H c = some (.SJ q)
 | .SJ q => ∃ o vs t, h.get? a = some o /\ o.data = .fields vs /\ vs[1]? = some (.str q t)
 | .met f x => h.get? a = some (PySem.W.methodObj (.ref f) (.ref x))
 | .ext φ => φ h /\ (∃ o, h.get? a = some o) /\ ∀ h1 h2 : Heap, φ h1 -> (∀ o, h1.get? a = some o -> h2.get? a = some o) -> φ h2
noncomputable def vI (H : Hp) (h : Heap) : Prop := ∀ a o, H a = some o -> jX P w H h a o
end
section
variable {P : Program} {w : World} {H H' : Hp} {h h' : Heap} {a : Addr} {o : HO}
theorem jX.lt (x : jX P w H h a o) : a < h.objs.size := by
 cases o with
 | lst xs => obtain ⟨_, _, _, _, e⟩ := x; exact aec e
 | tup xs => obtain ⟨_, _, _, p⟩ := x; exact p.lt
 | dK i7 => obtain ⟨_, _, _, _, o, _, _, e, _⟩ := x; exact aec e
 | dT i7 => obtain ⟨_, _, _, _, o, _, _, e, _⟩ := x; exact aec e
 | set S n => obtain ⟨o, _, _, _, e, _⟩ := x; exact aec e
 | ins C dx fs => obtain ⟨_, _, _, e, _⟩ := x; exact aec e
 | own y => obtain ⟨_, e⟩ := x; exact aec e
 | xd fs => obtain ⟨_, ⟨_, _, _, e, _⟩, _⟩ := x; exact aec e
 | YV lo hi => obtain ⟨_, _, _, e⟩ := x; exact aec e
 | d7 ob u => obtain ⟨e, _⟩ := x; exact aec e
 | SG ps => exact aec (show h.get? a = some _ from x)
 | tabs q => obtain ⟨_, e, _⟩ := x; exact aec e
 | SJ q => obtain ⟨_, _, _, e, _⟩ := x; exact aec e
 | met f y => exact aec (show h.get? a = some _ from x)
 | ext φ => obtain ⟨_, ⟨_, e⟩, _⟩ := x; exact aec e
theorem Paired.Wb {α β : Type} {F G : α -> β -> Prop} : ∀ {l₁ : List α} {l₂ : List β}, Paired F l₁ l₂ -> (∀ a b, F a b -> G a b) -> Paired G l₁ l₂
 | _, _, .nil, _ => .nil
 | _, _, .cons r t, f => .cons (f _ _ r) (Paired.Wb t f)
theorem jX.zP (x : jX P w H h a o) (k : ∀ b u, (b = a \/ H b = some (.own a)) -> h.get? b = some u -> h'.get? b = some u)
   (ho : ∀ b, H b = some (.own a) -> H' b = some (.own a)) (ht : ∀ b xs, H b = some (.tup xs) -> H' b = some (.tup xs)) (nI : ∀ b q, H b = some (.SJ q) -> H' b = some (.SJ q) := by intro _ _ q; exact q) : jX P w H' h' a o := by
 induction o with
 | lst xs => obtain ⟨z, its, n, r, e⟩ := x; exact ⟨z, its, n, r, k _ _ (.inl rfl) e⟩
 | tup xs => obtain ⟨z, its, r, ob, e, c⟩ := x; exact ⟨z, its, r, ob, k _ _ (.inl rfl) e, c⟩
 | dK i7 => obtain ⟨z, y, vs, r, ob, es, ep, e, c⟩ := x; exact ⟨z, y, vs, r, ob, es, ep, k _ _ (.inl rfl) e, c⟩
 | dT i7 =>
   obtain ⟨z, y, xs, r, ob, es, ep, e, c⟩ := x
   exact ⟨z, y, xs, Paired.Wb r fun p q z => ⟨z.1, ht _ _ z.2.1, z.2.2⟩, ob, es, ep, k _ _ (.inl rfl) e, c⟩
 | set S n => obtain ⟨ob, es, ep, t, e, c⟩ := x; exact ⟨ob, es, ep, t, k _ _ (.inl rfl) e, c⟩
 | ins C dx fs =>
   obtain ⟨d, z, ne, e, mA, ⟨od, es, ep, e2, c⟩, r⟩ := x
   exact ⟨ho _ d, z, ne, k _ _ (.inl rfl) e, mA, ⟨od, es, ep, k _ _ (.inr d) e2, c⟩, r⟩
 | own y => obtain ⟨ob, e⟩ := x; exact ⟨ob, k _ _ (.inl rfl) e⟩
 | xd fs => obtain ⟨mA, ⟨od, es, ep, e, c⟩, r⟩ := x; exact ⟨mA, ⟨od, es, ep, k _ _ (.inl rfl) e, c⟩, r⟩
 | YV lo hi => obtain ⟨t, u, v, e⟩ := x; exact ⟨t, u, v, k _ _ (.inl rfl) e⟩
 | d7 ob u ih => obtain ⟨e, q⟩ := x; exact ⟨k _ _ (.inl rfl) e, ih q⟩
 | SG ps =>
   have e : h.get? a = some { cls := .none, data := .fields ps } := x
   show h'.get? a = some { cls := .none, data := .fields ps }
   exact k a _ (.inl rfl) e
 | met f y =>
   have e : h.get? a = some (PySem.W.methodObj (.ref f) (.ref y)) := x
   show h'.get? a = some (PySem.W.methodObj (.ref f) (.ref y))
   exact k a _ (.inl rfl) e
 | tabs q => obtain ⟨ps, e, tr, cs⟩ := x; exact ⟨ps, k _ _ (.inl rfl) e, tr, fun pos cv z => let ⟨c, e1, e2⟩ := cs pos cv z; ⟨c, e1, nI _ _ e2⟩⟩
 | SJ q => obtain ⟨ob, vs, t, e, r⟩ := x; exact ⟨ob, vs, t, k _ _ (.inl rfl) e, r⟩
 | ext φ => obtain ⟨p, ⟨o, e⟩, st⟩ := x; exact ⟨st _ _ p fun o q => k _ _ (.inl rfl) q, ⟨o, k _ _ (.inl rfl) e⟩, st⟩
theorem vI.lt (x : vI P w H h) (e : H a = some o) : a < h.objs.size := (x a o e).lt
theorem vI.fresh (x : vI P w H h) (e : h.objs.size <= a) : H a = none := by
 cases q : H a with
 | none => rfl
 | some u => exact absurd (aex (x.lt q) e) (afj _)
theorem vI.kept (x : vI P w H h) (k : ∀ b u, h.get? b = some u -> h'.get? b = some u) : vI P w H h' := fun a o e =>
 (x a o e).zP (fun b u _ q => k b u q) (fun _ q => q) fun _ _ q => q
theorem vI.laid (x : vI P w H h) (k : ∀ b u, h.get? b = some u -> h'.get? b = some u) (hp : h.objs.size <= a) (new : jX P w (upd H a o) h' a o) : vI P w (upd H a o) h' := fun b u e => by
 have hn := x.fresh hp
 by_cases hb : b = a
 . subst hb; rw [aX] at e; cases e; exact new
 . rw [aA hb] at e
   exact (x b u e).zP (fun c v _ q => k c v q) (fun c q => by rw [aA (bF q hn)]; exact q) (fun c xs q => by rw [aA (bF q hn)]; exact q) fun c z q => by rw [aA (bF q hn)]; exact q
end
noncomputable def Rd (H : Hp) (a : Addr) (u : HO) : Prop := H a = some u \/ ∃ o, H a = some (.d7 o u)
theorem Rd.ok {P : Program} {w : World} {H : Hp} {h : Heap} {a : Addr} {u : HO} (r : Rd H a u) (x : vI P w H h) : jX P w H h a u := by
 rcases r with r | ⟨o, r⟩
 . exact x a u r
 . obtain ⟨_, q⟩ := x a _ r
   exact q
noncomputable def Yg : Option HO -> Prop
 | some (.lst _) => True
 | some (.dK _) => True
 | some (.dT _) => True
 | some (.set _ _) => True
 | some (.ins _ _ _) => True
 | some (.ext _) => True
 | some (.tabs _) => True
 | _ => False
section
variable {P : Program} {w : World} {H : Hp} {h h' : Heap} {x e : Addr} {o' : HO}
theorem vI.write (ok : vI P w H h) (mu : Yg (H x)) (he : e = x \/ H e = some (.own x)) (k : ∀ b u, b ≠ e -> h.get? b = some u -> h'.get? b = some u) (VW : ∃ u, h'.get? e = some u)
   (new : jX P w (upd H x o') h' x o') : vI P w (upd H x o') h' := fun b u q => by
 have Wc : ∀ c y, H c = some (.own y) -> c ≠ x := fun c y r z => by subst z; rw [r] at mu; exact mu
 have YW : ∀ c xs, H c = some (.tup xs) -> c ≠ x := fun c xs r z => by subst z; rw [r] at mu; exact mu
 have YX : ∀ c q, H c = some (.SJ q) -> c ≠ x := fun c q r z => by subst z; rw [r] at mu; exact mu
 by_cases hb : b = x
 . subst hb; rw [aX] at q; cases q; exact new
 . rw [aA hb] at q
   by_cases SK : b = e
   . have q' : H b = some (.own x) := by
       rcases he with z | z
       . exact absurd (SK.trans z) hb
       . rw [SK]; exact z
     rw [q] at q'; cases q'
     obtain ⟨v, hv⟩ := VW
     exact ⟨v, by rw [SK]; exact hv⟩
   . refine (ok b u q).zP (fun c v hc r => k c v ?_ r) (fun c r => by rw [aA (Wc c b r)]; exact r) (fun c xs r => by rw [aA (YW c xs r)]; exact r) fun c z r => by rw [aA (YX c z r)]; exact r
     rcases hc with rfl | hc
     . exact SK
     . rintro rfl
       rcases he with z | z
       . exact Wc c b hc z
       . rw [hc] at z; cases z; exact hb rfl
end
structure Un (fs ex : List Addr) (H H' : Hp) (h h' : Heap) : Prop where
 keep : ∀ b o, h.get? b = some o -> H b = none -> b ∉ fs -> b ∉ ex -> h'.get? b = some o
 slot : ∀ b o, h.get? b = some o -> H b = none -> b ∈ fs -> b ∉ ex -> ∃ sl, h'.get? b = some { o with slots := sl }
 free : ∀ b o, h.get? b = some o -> H b = none -> b ∉ ex -> H' b = none
 there : ∀ b o, h.get? b = some o -> b ∉ ex -> ∃ o', h'.get? b = some o'
 zQ : ∀ b xs, H b = some (.tup xs) -> H' b = some (.tup xs)
 gW : ∀ b o u, H b = some (.d7 o u) -> H' b = some (.d7 o u)
 zR : ∀ b ps, H b = some (.SG ps) -> ∃ more, H' b = some (.SG (ps ++ more))
section
variable {fs fs' ex ex' : List Addr} {H H1 H2 : Hp} {h h1 h2 h' : Heap} {a x e : Addr} {o : HO}
theorem Un.any (u : Un fs ex H H1 h h1) {b : Addr} {ob : Obj} (q : h.get? b = some ob) (n : H b = none) (hx : b ∉ ex) : ∃ sl, h1.get? b = some { ob with slots := sl } := by
 by_cases hb : b ∈ fs
 . exact u.slot b ob q n hb hx
 . exact ⟨ob.slots, u.keep b ob q n hb hx⟩
theorem Un.kept (k : ∀ b u, h.get? b = some u -> h'.get? b = some u) : Un fs ex H H h h' :=
 ⟨fun b ob q _ _ _ => k b ob q, fun b ob q _ _ _ => ⟨ob.slots, k b ob q⟩, fun _ _ _ n _ => n, fun b ob q _ => ⟨ob, k b ob q⟩, fun _ _ q => q, fun _ _ _ q => q, fun _ ps q => ⟨#[], by rw [q]; simp⟩⟩
theorem Un.refl : Un fs ex H H h h := Un.kept fun _ _ q => q
theorem Un.laid (k : ∀ b u, h.get? b = some u -> h'.get? b = some u) (hp : h.objs.size <= a) (hn : H a = none) : Un fs ex H (upd H a o) h h' where
 keep := fun b u q _ _ _ => k b u q
 slot := fun b u q _ _ _ => ⟨u.slots, k b u q⟩
 free := fun b u q n _ => by rw [aA (aeE (aex (aec q) hp))]; exact n
 there := fun b u q _ => ⟨u, k b u q⟩
 zQ := fun b xs q => by rw [aA (bF q hn)]; exact q
 gW := fun b u xs q => by rw [aA (bF q hn)]; exact q
 zR := fun b ps q => ⟨#[], by rw [aA (bF q hn), q]; simp⟩
theorem Un.write (mu : Yg (H x)) (he : e = x \/ H e = some (.own x)) (k : ∀ b u, b ≠ e -> h.get? b = some u -> h'.get? b = some u) (VW : ∃ u, h'.get? e = some u) : Un fs ex H (upd H x o) h h' := by
 have hx : ∀ b, H b = none -> b ≠ x := fun b n z => by subst z; rw [n] at mu; exact mu
 have hb : ∀ b, H b = none -> b ≠ e := fun b n z => by
   subst z
   rcases he with r | r
   . exact hx b n r
   . rw [n] at r; cases r
 have hm : ∀ b u, H b = some u -> ¬ Yg (some u) -> b ≠ x := fun b u q nm z => by subst z; rw [q] at mu; exact nm mu
 refine ⟨fun b u q n _ _ => k b u (hb b n) q, fun b u q n _ _ => ⟨u.slots, k b u (hb b n) q⟩, fun b u q n _ => by rw [aA (hx b n)]; exact n, fun b u q _ => ?_,
   fun b xs q => by rw [aA (hm b _ q fun z => z)]; exact q, fun b u xs q => by rw [aA (hm b _ q fun z => z)]; exact q, fun b ps q => ⟨#[], by rw [aA (hm b _ q fun z => z), q]; simp⟩⟩
 by_cases SK : b = e
 . subst SK; exact VW
 . exact ⟨u, k b u SK q⟩
end
noncomputable def Yh (h : Heap) (H : Hp) : List Addr := (List.range h.objs.size).filter fun a => (H a).isSome
noncomputable def zS (h : Heap) (H : Hp) : Heap := PySem.W.hideAll h (Yh h H)
theorem IA (h : Heap) (H : Hp) : (zS h H).objs.size = h.objs.size := PySem.W.hideAll_size _ _
theorem KS {h : Heap} {H : Hp} {b : Addr} {o : Obj} (e : h.get? b = some o) (n : H b = none) : (zS h H).get? b = some o :=
 PySem.W.hideAll_get _ e fun hm => by
   have q : (H b).isSome = true := (ae7.mp hm).2
   rw [n] at q; simp at q
theorem OU {h : Heap} {H : Hp} {b : Addr} {o : Obj} (e : (zS h H).get? b = some o) : h.get? b = some o /\ H b = none := by
 have e' : h.get? b = some o := PySem.W.of_hideAll (Yh h H) e
 refine ⟨e', ?_⟩
 cases q : H b with
 | none => rfl
 | some x =>
   have hm : b ∈ Yh h H := ae7.mpr ⟨aeQ.mpr (aec e'), by simp [q]⟩
   have z : (zS h H).get? b = none := PySem.W.hideAll_none (Yh h H) hm
   rw [z] at e; cases e
noncomputable def OV (g h : Heap) (L : Addr) : List (Addr × Obj) := (List.range h.objs.size).filterMap fun a => if a = L \/ (g.get? a).isSome = true then none else (h.get? a).map fun o => (a, o)
noncomputable def rest (g h : Heap) (L d : Addr) : List (Addr × Obj) := (OV g h L).filter fun p => decide (p.1 ≠ d)
structure Mod (K : PySem.W.Frag) (mg : Str -> Option Value) (base : Heap) : Prop where
 Yi : K.In base
 glob : base.Ns mainGlobals mg
 blt : ∃ mb, base.Ns builtinsNs mb /\ ∀ x : Str, x ≠ "__name__" -> mb x = bootBuiltins x
 nolimit : base.NoLimit
structure Cx where
 prog : Program
 w : World
 K : PySem.W.Frag
 mg : Str -> Option Value
 base : Heap
 A : Around
 N : List Str
 s₀ : Shared
 H₀ : Hp
 env : Env
 outer : List Env
 stack : List Env
 ex : List Addr
 fn : Str -> Bool
 calm : Bool
 pn : List (Addr × Obj)
 xe : Value -> Shared -> Prop
noncomputable def Kz (l : List Env) : List Addr := l.filterMap (·.frame)
noncomputable abbrev Cx.fs (X : Cx) : List Addr := Kz X.outer
noncomputable def VX (sc : Scope) (x : Str) : Prop := sc.names.lookup x = some .local \/ sc.names.lookup x = some .cell \/ sc.names.lookup x = some .free
noncomputable def Loc (sc : Scope) (x : Str) : Prop := sc.names.lookup x = some .local \/ sc.names.lookup x = some .cell
noncomputable def Look (env : Env) (h : Heap) (m : Str -> Option Value) (x : Str) (u : Value) : Prop :=
 (env.kindOf x = some .local /\ m x = some u) \/ ((env.kindOf x = some .cell \/ env.kindOf x = some .free) /\ ∃ c, env.cells.lookup x = some c /\ h.IsCell c (some u))
structure Cx.Ok (X : Cx) : Prop where
 mod : Mod X.K X.mg X.base
 kind : X.env.scope.kind = .function
 glob : X.env.globals = mainGlobals
 blt : X.env.builtins = builtinsNs
 above : X.s₀.heap.objs.size <= X.env.locals
 inj : ∀ x y c, X.env.cells.lookup x = some c -> X.env.cells.lookup y = some c -> x = y
 has : ∀ x, (X.env.kindOf x = some .cell \/ X.env.kindOf x = some .free) -> ∃ c, X.env.cells.lookup x = some c
 Wd : ∀ x c, X.fn x = true -> X.env.cells.lookup x = some c -> X.s₀.heap.objs.size <= c
 hd : X.calm = true -> X.A.handled = none
 frames : X.A.frames = some X.stack
 Yj : X.stack = X.outer \/ (X.stack = X.env :: X.outer /\ X.env.frame = some X.env.locals)
 exf : ∀ b ∈ X.ex, b ≠ X.env.locals /\ ∀ x c, X.env.cells.lookup x = some c -> c ≠ b
 bs : ∀ b o, X.base.get? b = some o -> X.s₀.heap.get? b = some o /\ X.H₀ b = none
 OX : X.base.objs.size <= X.s₀.heap.objs.size
 KW : ∀ b o, X.base.get? b = some o -> b ∉ X.ex
 OY : ∀ b ∈ X.ex, b ∉ X.fs
 vo : X.s₀.heap.FunFrames X.base X.outer
 SM : ∀ b ∈ X.fs, X.H₀ b = none
structure Inv (X : Cx) (pins : List (Addr × Obj)) (σ : List (Option V)) (H : Hp) (s : Shared) : Prop where
 ok : X.Ok
 os : s.os = X.s₀.os
 bare : AllBare s.gens
 base : Un X.fs X.ex X.H₀ H X.s₀.heap s.heap
 loc : ∃ m, s.heap.Ns X.env.locals m /\ ∀ (i : Nat) (x : Str) (v : V), X.N[i]? = some x -> σ[i]? = some (some v) -> VX X.env.scope x -> ∃ u, RelV v u /\ Look X.env s.heap m x u
 cell : ∀ x c, X.env.cells.lookup x = some c -> ∃ v, s.heap.IsCell c v
 free : H X.env.locals = none
 qq : ∀ x c, X.env.cells.lookup x = some c -> H c = none
 pin : ∀ p ∈ X.pn ++ pins, s.heap.get? p.1 = some p.2 /\ H p.1 = none /\ p.1 ≠ X.env.locals /\ p.1 ∉ X.fs /\ ∀ v, p.2.data ≠ .cell v
 dR : vI X.prog X.w H s.heap
 len : σ.length = X.N.length
section
variable {X : Cx} {pins : List (Addr × Obj)} {σ : List (Option V)} {H H' : Hp} {s : Shared} {h' : Heap}
theorem Cx.Ok.YY (ok : X.Ok) {b : Addr} {o : Obj} (e : X.base.get? b = some o) : b ∉ X.fs := fun hb => by
 have := (ok.vo.mem hb).1
 rw [e] at this; cases this
theorem Inv.bs (I : Inv X pins σ H s) : ∀ b o, X.base.get? b = some o -> s.heap.get? b = some o /\ H b = none := fun b o e =>
 ⟨I.base.keep b o (I.ok.bs b o e).1 (I.ok.bs b o e).2 (I.ok.YY e) (I.ok.KW b o e), I.base.free b o (I.ok.bs b o e).1 (I.ok.bs b o e).2 (I.ok.KW b o e)⟩
theorem Inv.bk (I : Inv X pins σ H s) : ∀ b o, X.base.get? b = some o -> s.heap.get? b = some o := fun b o e => (I.bs b o e).1
theorem Inv.mod (I : Inv X pins σ H s) : Mod X.K X.mg X.base := I.ok.mod
theorem Inv.BK (I : Inv X pins σ H s) : X.K.In s.heap := I.ok.mod.Yi.keeps I.bk
theorem Inv.lt (I : Inv X pins σ H s) : X.env.locals < s.heap.objs.size := let ⟨_, hn, _⟩ := I.loc; hn.lt
theorem Inv.sz (I : Inv X pins σ H s) : X.s₀.heap.objs.size <= s.heap.objs.size := aeA I.ok.above (aeB I.lt)
theorem Inv.YZ (I : Inv X pins σ H s) {a : Addr} (h : s.heap.objs.size <= a) : a ∉ X.fs := fun hb => by
 obtain ⟨_, o, ho, _⟩ := I.ok.vo.mem hb
 exact absurd (aex (aec ho) (aeA I.sz h)) (afj _)
theorem Inv.SN (I : Inv X pins σ H s) : ∀ x c, X.env.cells.lookup x = some c -> c ≠ X.env.locals := fun x c e z => by
 obtain ⟨v, o, ho, hd⟩ := I.cell x c e
 obtain ⟨m, ⟨o', es, ep, OZ, SQ, _⟩, _⟩ := I.loc
 rw [z, OZ] at ho; cases ho; rw [SQ] at hd; cases hd
theorem Inv.vo (I : Inv X pins σ H s) : s.heap.FunFrames X.base X.outer := by
 have all : ∀ (l : List Env), (∀ b ∈ Kz l, b ∈ X.fs) -> X.s₀.heap.FunFrames X.base l -> s.heap.FunFrames X.base l := by
   intro l
   induction l with
   | nil => intro _ _; trivial
   | cons env r ih =>
     intro hs hl
     obtain ⟨hk, ⟨L, o, hf, hn, ho, hd⟩, hr⟩ := hl
     have hL : L ∈ X.fs := hs L (by unfold Kz; rw [aeT, hf]; exact adW)
     obtain ⟨sl, e⟩ := I.base.slot L o ho (I.ok.SM L hL) hL fun z => I.ok.OY L z hL
     exact ⟨hk, ⟨L, _, hf, hn, e, hd⟩, ih (fun b hb => hs b (by unfold Kz; rw [aeT, hf]; exact adX _ hb)) hr⟩
 exact all X.outer (fun _ hb => hb) I.ok.vo
theorem Inv.stack (I : Inv X pins σ H s) : s.heap.FunFrames X.base X.stack := by
 rcases I.ok.Yj with e | ⟨e, hf⟩
 . rw [e]; exact I.vo
 . rw [e]
   obtain ⟨m, hn, _⟩ := I.loc
   refine .cons (by rw [I.ok.kind]; decide) hf hn ?_ I.vo
   exact Heap.get?_none_of_le (aeA I.ok.OX I.ok.above)
theorem Inv.zU (I : Inv X pins σ H s) : ∀ b ∈ Kz X.stack, b ∈ X.env.locals :: X.fs := fun b hb => by
 rcases I.ok.Yj with e | ⟨e, hf⟩
 . rw [e] at hb; exact adX _ hb
 . rw [e] at hb
   unfold Kz at hb
   rw [aeT, hf] at hb
   exact hb
theorem Inv.G7 (I : Inv X pins σ H s) : ∀ b ∈ Kz X.stack, H b = none := fun b hb => by
 rcases adN.mp (I.zU b hb) with e | hb
 . rw [e]; exact I.free
 . obtain ⟨_, o, ho, _⟩ := I.ok.vo.mem hb
   exact I.base.free b o ho (I.ok.SM b hb) fun z => I.ok.OY b z hb
theorem Inv.step {g' : Array GenState} {t' : Nat} {d' : Drawn} {ch : List Addr} (I : Inv X pins σ H s)
   (RQ : ∀ b ∈ ch, (b ∈ X.ex \/ X.s₀.heap.objs.size <= b) /\ b ≠ X.env.locals /\ (∀ x c, X.env.cells.lookup x = some c -> c ≠ b) /\ ∀ p ∈ X.pn ++ pins, p.1 ≠ b)
   (keep : ∀ b o, b ≠ X.env.locals -> b ∉ X.fs -> b ∉ ch -> s.heap.get? b = some o -> H b = none -> h'.get? b = some o)
   (slot : ∀ b o, b ≠ X.env.locals -> b ∈ X.fs -> b ∉ ch -> s.heap.get? b = some o -> H b = none -> ∃ sl, h'.get? b = some { o with slots := sl }) (free : ∀ b o, b ∉ ch -> s.heap.get? b = some o -> H b = none -> H' b = none)
   (there : ∀ b o, b ∉ ch -> s.heap.get? b = some o -> ∃ o', h'.get? b = some o')
   (zQ : ∀ b xs, H b = some (.tup xs) -> H' b = some (.tup xs)) (gW : ∀ b o u, H b = some (.d7 o u) -> H' b = some (.d7 o u)) (zR : ∀ b ps, H b = some (.SG ps) -> ∃ more, H' b = some (.SG (ps ++ more)))
   (ns : ∀ m, s.heap.Ns X.env.locals m -> h'.Ns X.env.locals m) (dR : vI X.prog X.w H' h') (hg : AllBare g') :
   Inv X pins σ H' { s with heap := h', gens := g', drawn := d', toks := t' } := by
 have neL : ∀ b o, X.s₀.heap.get? b = some o -> b ≠ X.env.locals := fun b o e => aeE (aex (aec e) I.ok.above)
 have Yk : ∀ b o, X.s₀.heap.get? b = some o -> b ∉ X.ex -> b ∉ ch := fun b o e hx hb => by
   rcases (RQ b hb).1 with z | z
   . exact hx z
   . exact absurd (aex (aec e) z) (afj _)
 have cellK : ∀ x c, X.env.cells.lookup x = some c -> ∀ v, s.heap.IsCell c v -> h'.IsCell c v := fun x c e v ⟨o, ho, hd⟩ => by
   have Wf : c ∉ ch := fun z => (RQ c z).2.2.1 x c e rfl
   by_cases hc : c ∈ X.fs
   . obtain ⟨sl, q⟩ := slot c o (I.SN x c e) hc Wf ho (I.qq x c e)
     exact ⟨_, q, hd⟩
   . exact ⟨o, keep c o (I.SN x c e) hc Wf ho (I.qq x c e), hd⟩
 refine ⟨I.ok, I.os, hg, ⟨fun b o e n hb hx => ?_, fun b o e n hb hx => ?_, fun b o e n hx => ?_, fun b o e hx => ?_, fun b xs e => zQ b xs (I.base.zQ b xs e), fun b o xs e => gW b o xs (I.base.gW b o xs e), fun b ps e => ?_⟩, ?_, fun x c e => ?_, ?_, fun x c e => ?_, fun p hp => ?_, dR, I.len⟩
 . exact keep b o (neL b o e) hb (Yk b o e hx) (I.base.keep b o e n hb hx) (I.base.free b o e n hx)
 . obtain ⟨sl, e1⟩ := I.base.slot b o e n hb hx
   obtain ⟨sl', e2⟩ := slot b _ (neL b o e) hb (Yk b o e hx) e1 (I.base.free b o e n hx)
   exact ⟨sl', e2⟩
 . obtain ⟨o', e1⟩ := I.base.there b o e hx
   exact free b o' (Yk b o e hx) e1 (I.base.free b o e n hx)
 . obtain ⟨o', e1⟩ := I.base.there b o e hx
   exact there b o' (Yk b o e hx) e1
 . obtain ⟨m1, e1⟩ := I.base.zR b ps e
   obtain ⟨m2, e2⟩ := zR b _ e1
   exact ⟨m1 ++ m2, by rw [e2, Array.append_assoc]⟩
 . obtain ⟨m, hn, hl⟩ := I.loc
   refine ⟨m, ns m hn, fun i x v e1 e2 e3 => ?_⟩
   obtain ⟨u, r, l⟩ := hl i x v e1 e2 e3
   refine ⟨u, r, ?_⟩
   rcases l with l | ⟨k, c, e, z⟩
   . exact .inl l
   . exact .inr ⟨k, c, e, cellK x c e _ z⟩
 . obtain ⟨v, z⟩ := I.cell x c e
   exact ⟨v, cellK x c e v z⟩
 . obtain ⟨m, ⟨o, _, _, ho, _⟩, _⟩ := I.loc
   exact free _ o (fun z => (RQ _ z).2.1 rfl) ho I.free
 . obtain ⟨v, o, ho, hd⟩ := I.cell x c e
   exact free c o (fun z => (RQ c z).2.2.1 x c e rfl) ho (I.qq x c e)
 . obtain ⟨e, n, ne, nf, d⟩ := I.pin p hp
   have Wf : p.1 ∉ ch := fun z => (RQ p.1 z).2.2.2 p hp rfl
   exact ⟨keep p.1 p.2 ne nf Wf e n, free p.1 p.2 Wf e n, ne, nf, d⟩
theorem Inv.un {t' : Nat} (I : Inv X pins σ H s) (u : Un X.fs [] H H' s.heap h') (dR : vI X.prog X.w H' h') : Inv X pins σ H' { s with heap := h', toks := t' } := by
 obtain ⟨m, ⟨o, es, ep, ho, r⟩, _⟩ := id I.loc
 obtain ⟨sl, hL⟩ := u.any ho I.free (by simp)
 exact I.step (g' := s.gens) (d' := s.drawn) (ch := []) (fun _ z => nomatch z) (fun b o _ hb _ e n => u.keep b o e n hb (by simp)) (fun b o _ hb _ e n => u.slot b o e n hb (by simp)) (fun b o _ e n => u.free b o e n (by simp)) (fun b o _ e => u.there b o e (by simp)) u.zQ u.gW u.zR (fun m' hm => by
   obtain ⟨o', Y0, Y3, OZ, r'⟩ := hm
   rw [ho] at OZ; cases OZ
   exact ⟨_, Y0, Y3, hL, r'⟩) dR I.bare
theorem Inv.call {g' : Array GenState} {t' : Nat} {d' : Drawn} {ch : List Addr} (I : Inv X pins σ H s) (u : Un (Kz X.stack) ch H H' s.heap h') (dR : vI X.prog X.w H' h') (hg : AllBare g')
   (RQ : ∀ b ∈ ch, (b ∈ X.ex \/ X.s₀.heap.objs.size <= b) /\ b ≠ X.env.locals /\ (∀ x c, X.env.cells.lookup x = some c -> c ≠ b) /\ ∀ p ∈ X.pn ++ pins, p.1 ≠ b) :
   Inv X pins σ H' { s with heap := h', gens := g', drawn := d', toks := t' } := by
 obtain ⟨m, ⟨o, es, ep, ho, r⟩, _⟩ := id I.loc
 obtain ⟨sl, hL⟩ := u.any ho I.free fun z => (RQ _ z).2.1 rfl
 exact I.step (ch := ch) RQ (fun b o hL hb hc e n => u.keep b o e n (fun z => (adN.mp (I.zU b z)).elim hL hb) hc) (fun b o _ _ hc e n => u.any e n hc) (fun b o hc e n => u.free b o e n hc) (fun b o hc e => u.there b o e hc) u.zQ u.gW u.zR (fun m' hm => by
   obtain ⟨o', Y0, Y3, OZ, r'⟩ := hm
   rw [ho] at OZ; cases OZ
   exact ⟨_, Y0, Y3, hL, r'⟩) dR hg
theorem Inv.turned {t' : Nat} {it : Addr} (I : Inv X pins σ H s) (k : ∀ b o, b ≠ it -> s.heap.get? b = some o -> h'.get? b = some o) (hn : H it = none) (hL : it ≠ X.env.locals)
   (h1 : it ∈ X.ex \/ X.s₀.heap.objs.size <= it) (h2 : ∀ x c, X.env.cells.lookup x = some c -> c ≠ it) (h3 : ∀ p ∈ X.pn ++ pins, p.1 ≠ it) : Inv X pins σ H { s with heap := h', toks := t' } := by
 have nit : ∀ b u, H b = some u -> b ≠ it := fun b u e z => by rw [z, hn] at e; cases e
 refine I.step (g' := s.gens) (d' := s.drawn) (ch := [it]) (fun b hb => ?_) (fun b o _ _ hc e _ => k b o (fun z => hc (by simp [z])) e) (fun b o _ _ hc e _ => ⟨o.slots, k b o (fun z => hc (by simp [z])) e⟩) (fun _ _ _ _ n => n)
   (fun b o hc e => ⟨o, k b o (fun z => hc (by simp [z])) e⟩) (fun _ _ e => e) (fun _ _ _ e => e) (fun b ps e => ⟨#[], by rw [e]; simp⟩) (fun m hm => ?_) (fun b u e => ?_) I.bare
 . have e : b = it := by simpa using hb
   subst e
   exact ⟨h1, hL, h2, h3⟩
 . obtain ⟨o, es, ep, ho, r⟩ := hm
   exact ⟨o, es, ep, k _ o (aeW hL) ho, r⟩
 . refine (I.dR b u e).zP (fun c v hc q => k c v ?_ q) (fun _ q => q) fun _ _ q => q
   rcases hc with z | z
   . rw [z]; exact nit b u e
   . exact nit c _ z
theorem Inv.tok (I : Inv X pins σ H s) (t : Nat) : Inv X pins σ H { s with toks := t } := I.un (h' := s.heap) (t' := t) Un.refl I.dR
theorem Inv.kept {t' : Nat} (I : Inv X pins σ H s) (k : ∀ b u, s.heap.get? b = some u -> h'.get? b = some u) : Inv X pins σ H { s with heap := h', toks := t' } := I.un (Un.kept k) (I.dR.kept k)
theorem Inv.laid {a : Addr} {o : HO} {t' : Nat} (I : Inv X pins σ H s) (k : ∀ b u, s.heap.get? b = some u -> h'.get? b = some u) (hp : s.heap.objs.size <= a) (new : jX X.prog X.w (upd H a o) h' a o) :
   Inv X pins σ (upd H a o) { s with heap := h', toks := t' } := I.un (Un.laid k hp (I.dR.fresh hp)) (I.dR.laid k hp new)
theorem Inv.write {x e : Addr} {o : HO} {t' : Nat} (I : Inv X pins σ H s) (mu : Yg (H x)) (he : e = x \/ H e = some (.own x)) (k : ∀ b u, b ≠ e -> s.heap.get? b = some u -> h'.get? b = some u) (VW : ∃ u, h'.get? e = some u)
   (new : jX X.prog X.w (upd H x o) h' x o) : Inv X pins σ (upd H x o) { s with heap := h', toks := t' } := I.un (Un.write mu he k VW) (I.dR.write mu he k VW new)
theorem Inv.vJ {G8 : List (Addr × Obj)} (I : Inv X pins σ H s) (h : ∀ p ∈ G8, s.heap.get? p.1 = some p.2 /\ H p.1 = none /\ p.1 ≠ X.env.locals /\ p.1 ∉ X.fs /\ ∀ v, p.2.data ≠ .cell v) : Inv X G8 σ H s :=
 ⟨I.ok, I.os, I.bare, I.base, I.loc, I.cell, I.free, I.qq, fun p hp => (adZ.mp hp).elim (fun z => I.pin p (ad2 _ z)) (h p), I.dR, I.len⟩
theorem BL {N : List Str} (hN : N.Nodup) {i j : Nat} {x : Str} (a : N[i]? = some x) (b : N[j]? = some x) : i = j := by
 obtain ⟨h1, e1⟩ := aev.mp a
 obtain ⟨h2, e2⟩ := aev.mp b
 exact (List.getElem_inj hN).mp (e1.trans e2.symm)
theorem IB {M : Model} {A : Around} {E : Value -> Shared -> Prop} {i : Nat} {x : Str} {v : V} {u : Value} {Q : Unit -> Shared -> Prop} (I : Inv X pins σ H s) (hN : X.N.Nodup) (hi : X.N[i]? = some x) (hx : Loc X.env.scope x) (r : RelV v u)
   (h : ∀ s', Inv X pins (σ.set i (some v)) H s' -> (∃ a, Heap.SameBut a s.heap s'.heap /\ (a = X.env.locals \/ X.env.cells.lookup x = some a)) -> Q () s') (hf : X.fn x = true \/ X.env.scope.names.lookup x = some .local := by first | exact .inl rfl | exact .inr rfl | assumption) : wpAny M A (storeName X.env x u) Q E s := by
 obtain ⟨m, hn, hl⟩ := id I.loc
 have Y4 : (X.env.scope.kind == .class || (X.env.scope.kind == .module && X.env.locals != X.env.globals)) = false := by rw [I.ok.kind]; rfl
 have Wg : i < σ.length := by rw [I.len]; exact (aev.mp hi).1
 have SN := I.SN
 have tracked : ∀ {a : Addr} {h' : Heap}, (∃ o, s.heap.get? a = some o /\ H a = none) -> Heap.SameBut a s.heap h' -> vI X.prog X.w H h' := fun {a h'} ha hs b ob e => by
   obtain ⟨_, _, RT⟩ := ha
   refine (I.dR b ob e).zP (fun c w' hc q => (hs.2 c ?_).trans q) (fun _ q => q) fun _ _ q => q
   rintro rfl
   rcases hc with rfl | hc
   . rw [RT] at e; cases e
   . rw [RT] at hc; cases hc
 rcases hx with hk | hk
 . refine wpAny_storeName_local hk hn (fun h' hn' hs => ?_) Y4
   obtain ⟨oL, _, _, hoL, _⟩ := id hn
   refine h _ ⟨I.ok, I.os, I.bare, ⟨fun b o e n hb hx => ?_, fun b o e n hb hx => ?_, I.base.free, fun b o e hx => ?_, I.base.zQ, I.base.gW, I.base.zR⟩, ⟨_, hn', fun j y v' e1 e2 e3 => ?_⟩, fun y c e => ?_, I.free, I.qq, fun p hp => ?_, tracked ⟨oL, hoL, I.free⟩ hs, by simpa using I.len⟩ ⟨_, hs, .inl rfl⟩
   . exact (hs.2 b (aeE (aex (aec e) I.ok.above))).trans (I.base.keep b o e n hb hx)
   . obtain ⟨sl, e1⟩ := I.base.slot b o e n hb hx
     exact ⟨sl, (hs.2 b (aeE (aex (aec e) I.ok.above))).trans e1⟩
   . obtain ⟨o', e1⟩ := I.base.there b o e hx
     exact ⟨o', (hs.2 b (aeE (aex (aec e) I.ok.above))).trans e1⟩
   . by_cases hj : j = i
     . subst hj
       rw [hi] at e1; cases e1
       rw [List.getElem?_set_self Wg] at e2
       cases e2
       exact ⟨u, r, .inl ⟨hk, by simp⟩⟩
     . rw [List.getElem?_set_ne (aeW hj)] at e2
       obtain ⟨u', r', q⟩ := hl j y v' e1 e2 e3
       refine ⟨u', r', ?_⟩
       rcases q with ⟨k, e⟩ | ⟨k, c, e, z⟩
       . refine .inl ⟨k, ?_⟩
         have : y ≠ x := fun e => hj (BL hN e1 (e ▸ hi))
         simp [this, e]
       . exact .inr ⟨k, c, e, z.sameBut hs (SN y c e)⟩
   . obtain ⟨w', z⟩ := I.cell y c e
     exact ⟨w', z.sameBut hs (SN y c e)⟩
   . obtain ⟨e, n, ne, nf, d⟩ := I.pin p hp
     exact ⟨(hs.2 p.1 ne).trans e, n, ne, nf, d⟩
 . have Y5 : X.fn x = true := by
     rcases hf with z | z
     . exact z
     . rw [z] at hk; cases hk
   obtain ⟨c, hc⟩ := I.ok.has x (.inl hk)
   obtain ⟨w', z⟩ := I.cell x c hc
   refine wpAny_storeName_cell I.ok.kind hk hc z (fun h' Wh hs => ?_)
   obtain ⟨oc, Yl, Y6⟩ := id z
   refine h { s with heap := h' } ⟨I.ok, I.os, I.bare, ⟨fun b o e n hb hx => ?_, fun b o e n hb hx => ?_, I.base.free, fun b o e hx => ?_, I.base.zQ, I.base.gW, I.base.zR⟩, ⟨m, hn.sameBut hs (Ne.symm (SN x c hc)), fun j y v' e1 e2 e3 => ?_⟩, fun y c' e => ?_, I.free, I.qq, fun p hp => ?_, tracked ⟨oc, Yl, I.qq x c hc⟩ hs, by simpa using I.len⟩ ⟨c, hs, .inr hc⟩
   . exact (hs.2 b (aeE (aex (aec e) (I.ok.Wd x c Y5 hc)))).trans (I.base.keep b o e n hb hx)
   . obtain ⟨sl, e1⟩ := I.base.slot b o e n hb hx
     exact ⟨sl, (hs.2 b (aeE (aex (aec e) (I.ok.Wd x c Y5 hc)))).trans e1⟩
   . obtain ⟨o', e1⟩ := I.base.there b o e hx
     exact ⟨o', (hs.2 b (aeE (aex (aec e) (I.ok.Wd x c Y5 hc)))).trans e1⟩
   . by_cases hj : j = i
     . subst hj
       rw [hi] at e1; cases e1
       rw [List.getElem?_set_self Wg] at e2
       cases e2
       exact ⟨u, r, .inr ⟨.inl hk, c, hc, Wh⟩⟩
     . rw [List.getElem?_set_ne (aeW hj)] at e2
       obtain ⟨u', r', q⟩ := hl j y v' e1 e2 e3
       refine ⟨u', r', ?_⟩
       rcases q with q | ⟨k, c', e, z'⟩
       . exact .inl q
       . refine .inr ⟨k, c', e, z'.sameBut hs ?_⟩
         rintro rfl
         exact hj (BL hN e1 (I.ok.inj _ _ _ e hc ▸ hi))
   . by_cases hcc : c' = c
     . subst hcc; exact ⟨_, Wh⟩
     . obtain ⟨w2, z2⟩ := I.cell y c' e
       exact ⟨w2, z2.sameBut hs hcc⟩
   . obtain ⟨e, n, ne, nf, d⟩ := I.pin p hp
     refine ⟨(hs.2 p.1 ?_).trans e, n, ne, nf, d⟩
     intro q
     rw [q, Yl] at e
     have q' : oc = p.2 := aeb e
     exact d w' (by rw [← q']; exact Y6)
theorem BO {M : Model} {A : Around} {E : Value -> Shared -> Prop} {i : Nat} {x : Str} {v : V} {u : Value} {Q : Unit -> Shared -> Prop} (I : Inv X pins σ H s) (hN : X.N.Nodup) (hi : X.N[i]? = some x) (hx : Loc X.env.scope x) (r : RelV v u)
   (h : ∀ s', Inv X pins (σ.set i (some v)) H s' -> Q () s') (hf : X.fn x = true \/ X.env.scope.names.lookup x = some .local := by first | exact .inl rfl | exact .inr rfl | assumption) : wpAny M A (storeName X.env x u) Q E s :=
 IB I hN hi hx r (fun s' I' _ => h s' I') hf
end
noncomputable abbrev XK := Value -> Option Addr -> Hp -> Prop
noncomputable abbrev St := List (Option V)
noncomputable abbrev VK := V -> Hp -> Prop
noncomputable abbrev TE := St -> Hp -> VK -> Prop
noncomputable abbrev TT := St -> Hp -> (Bool -> Hp -> Prop) -> Prop
noncomputable abbrev TA := St -> Hp -> (List V -> Hp -> Prop) -> Prop
structure Ends where
 nx : St -> Hp -> Prop
 rt : VK
 bk : St -> Hp -> Prop := fun _ _ => False
 ct : St -> Hp -> Prop := fun _ _ => False
noncomputable abbrev TS := Ends -> St -> Hp -> Prop
noncomputable def EP (X : Cx) (pins : List (Addr × Obj)) (σ : St) (Q : VK) (u : Value) (s' : Shared) : Prop := ∃ v H', Inv X pins σ H' s' /\ RelV v u /\ Q v H'
noncomputable def TP (X : Cx) (pins : List (Addr × Obj)) (σ : St) (Q : Bool -> Hp -> Prop) (b : Bool) (s' : Shared) : Prop := ∃ H', Inv X pins σ H' s' /\ Q b H'
noncomputable def AP (X : Cx) (pins : List (Addr × Obj)) (σ : St) (Q : List V -> Hp -> Prop) (us : List Value) (s' : Shared) : Prop := ∃ vs H', Inv X pins σ H' s' /\ Vals vs us /\ Q vs H'
noncomputable def SP (X : Cx) (pins : List (Addr × Obj)) (D : Ends) (f : Flow) (s' : Shared) : Prop :=
 match f with
 | .next => ∃ σ' H', Inv X pins σ' H' s' /\ D.nx σ' H'
 | .brk => ∃ σ' H', Inv X pins σ' H' s' /\ D.bk σ' H'
 | .cont => ∃ σ' H', Inv X pins σ' H' s' /\ D.ct σ' H'
 | .ret u => ∃ v σ' H', Inv X pins σ' H' s' /\ RelV v u /\ D.rt v H'
noncomputable def PE (X : Cx) (e : Expr) (t : TE) : Prop :=
 ∀ (pins : List (Addr × Obj)) (s : Shared) (σ : St) (H : Hp) (Q : VK), Inv X pins σ H s -> t σ H Q -> wpAny (model X.prog X.w) X.A (eval e X.env) (EP X pins σ Q) X.xe s
noncomputable def PT (X : Cx) (e : Expr) (t : TT) : Prop :=
 ∀ (pins : List (Addr × Obj)) (s : Shared) (σ : St) (H : Hp) (Q : Bool -> Hp -> Prop), Inv X pins σ H s -> t σ H Q -> wpAny (model X.prog X.w) X.A (isTrue e X.env (eval e X.env)) (TP X pins σ Q) X.xe s
noncomputable def PW (X : Cx) (e : Expr) (t : TT) : Prop :=
 ∀ (whole : Sem Value) (pins : List (Addr × Obj)) (s : Shared) (σ : St) (H : Hp) (Q : Bool -> Hp -> Prop), Inv X pins σ H s -> t σ H Q -> wpAny (model X.prog X.w) X.A (isTrue e X.env whole) (TP X pins σ Q) X.xe s
noncomputable def PA (X : Cx) (es : List Expr) (t : TA) : Prop :=
 ∀ (pos : Pos) (pins : List (Addr × Obj)) (s : Shared) (σ : St) (H : Hp) (Q : List V -> Hp -> Prop), Inv X pins σ H s -> t σ H Q -> wpAny (model X.prog X.w) X.A (spliced (backTo pos (starEach es X.env))) (AP X pins σ Q) X.xe s
noncomputable def PS (X : Cx) (st : Stmt) (t : TS) : Prop :=
 ∀ (pins : List (Addr × Obj)) (s : Shared) (σ : St) (H : Hp) (D : Ends), Inv X pins σ H s -> t D σ H -> wpAny (model X.prog X.w) X.A (exec st X.env) (SP X pins D) X.xe s
noncomputable def G9 (X : Cx) (st : List Stmt) (t : TS) : Prop :=
 ∀ (pins : List (Addr × Obj)) (s : Shared) (σ : St) (H : Hp) (D : Ends), Inv X pins σ H s -> t D σ H -> wpAny (model X.prog X.w) X.A (execs st X.env) (SP X pins D) X.xe s
theorem eL {α : Type} {t : Sem α} {Q Q' : α -> Shared -> Prop} {M : Model} {A : Around} {E : Value -> Shared -> Prop} {s : Shared} (h : wpAny M A t Q E s) (hQ : ∀ a s, Q a s -> Q' a s) : wpAny M A t Q' E s := ae1 h hQ fun _ _ x => x
section
variable {X : Cx}
noncomputable def Y7 (i : Nat) : TE := fun σ H Q => ∃ v, σ[i]? = some (some v) /\ Q v H
noncomputable def tC (v : V) : TE := fun _ H Q => Q v H
theorem lV {i : Nat} {x : Str} {pos : Pos} (hN : X.N[i]? = some x) (hv : VX X.env.scope x) (hd : (x == ("__debug__" : Str)) = false := by decide) (nI : (x == ("__classdict__" : Str)) = false := by decide) : PE X (.Name x pos) (Y7 i) := by
 intro pins s σ H Q I h
 obtain ⟨v, e, h⟩ := h
 obtain ⟨m, hn, hl⟩ := I.loc
 obtain ⟨u, r, l⟩ := hl i x v hN e hv
 have fin : EP X pins σ Q u s := ⟨v, H, I, r, h⟩
 rcases l with ⟨hk, hm⟩ | ⟨hk, c, hc, zk⟩
 . exact wpAny_Name (wpAny_loadName_local I.ok.kind hk hn hm fin) hd
 . rcases hk with hk | hk
   . exact wpAny_Name (wpAny_loadName_cell I.ok.kind hk hc zk fin) hd
   . exact wpAny_Name (wpAny_loadName_free I.ok.kind hk hc zk fin nI) hd
theorem SR {i j pos} : PE X (.Constant (.int i) j pos) (tC (.int i)) := fun _ _ _ H _ I h => wpAny_Constant_int ⟨.int i, H, I.tok _, ⟨_, rfl⟩, h⟩
theorem Wi {b j pos} : PE X (.Constant (.bool b) j pos) (tC (.bl b)) := fun _ _ _ H _ I h => Constant_bool ⟨.bl b, H, I, rfl, h⟩
theorem SV {x j pos} : PE X (.Constant (.str x) j pos) (tC (.str x)) := fun _ _ _ H _ I h => Calls.Constant_str ⟨.str x, H, I.tok _, ⟨_, rfl⟩, h⟩
noncomputable def Gl (X : Cx) (x : Str) : Prop := X.env.kindOf x = some .globalImplicit
theorem zV {E : Value -> Shared -> Prop} {pins : List (Addr × Obj)} {s : Shared} {σ : St} {H : Hp} {x : Str} {u : Value} {pos : Pos} {Q : Value -> Shared -> Prop} (I : Inv X pins σ H s) (hg : Gl X x) (hm : X.mg x = some u) (h : Q u s)
   (hd : (x == ("__debug__" : Str)) = false := by decide) : wpAny (model X.prog X.w) X.A (eval (.Name x pos) X.env) Q E s :=
 Calls.Name_function_global I.ok.kind hg (Calls.loadGlobal_global (by rw [I.ok.glob]; exact I.mod.glob.keeps I.bk) hm h) hd
theorem qB {E : Value -> Shared -> Prop} {pins : List (Addr × Obj)} {s : Shared} {σ : St} {H : Hp} {x : Str} {u : Value} {pos : Pos} {Q : Value -> Shared -> Prop} (I : Inv X pins σ H s) (hg : Gl X x) (hm : X.mg x = none) (hv : bootBuiltins x = some u) (h : Q u s)
   (hn : x ≠ "__name__" := by decide) (hd : (x == ("__debug__" : Str)) = false := by decide) : wpAny (model X.prog X.w) X.A (eval (.Name x pos) X.env) Q E s := by
 obtain ⟨mb, h1, h2⟩ := I.mod.blt
 exact Calls.Name_function_global I.ok.kind hg (Calls.loadGlobal_builtin (by rw [I.ok.glob]; exact I.mod.glob.keeps I.bk) hm (by rw [I.ok.blt]; exact h1.keeps I.bk) ((h2 x hn).trans hv) h) hd
theorem O1 {x : Str} {v : V} {u : Value} {pos : Pos} (hg : Gl X x) (hm : X.mg x = some u) (r : RelV v u) (hd : (x == ("__debug__" : Str)) = false := by decide) : PE X (.Name x pos) (tC v) :=
 fun _ _ _ H _ I h => zV I hg hm ⟨v, H, I, r, h⟩ hd
theorem O2 {x : Str} {v : V} {u : Value} {pos : Pos} (hg : Gl X x) (hm : X.mg x = none) (hv : bootBuiltins x = some u) (r : RelV v u) (hn : x ≠ "__name__" := by decide) (hd : (x == ("__debug__" : Str)) = false := by decide) : PE X (.Name x pos) (tC v) :=
 fun _ _ _ H _ I h => qB I hg hm hv ⟨v, H, I, r, h⟩ hn hd
variable {a b : Expr} {ta tb : TE} {pos : Pos}
noncomputable def tB (t : TE) : TT := fun σ H Q => t σ H fun x H1 => ∃ c, x = .bl c /\ Q c H1
theorem SW {e : Expr} {t : TE} (h : PE X e t) (he : ∀ whole, isTrue e X.env whole = (do let v ← whole; standAt e.pos; holding [v] (truthy v)) := by intro _; rfl) : PT X e (tB t) := by
 intro pins s σ H Q I hw
 refine isTrue_plain (eL (h pins s σ H _ I hw) fun v s1 zz => ?_) (he _)
 obtain ⟨x, H1, I1, r1, q1⟩ := zz
 obtain ⟨d, rfl, q⟩ := q1
 cases r1
 exact afb ⟨H1, I1, q⟩
variable {tA Ym : TT} {rest : List Expr}
noncomputable def Y8 (t u : TT) : TT := fun σ H Q => t σ H fun c H1 => if c = true then u σ H1 Q else Q false H1
noncomputable def tOr (t u : TT) : TT := fun σ H Q => t σ H fun c H1 => if c = true then Q true H1 else u σ H1 Q
noncomputable def Y9 (t : TT) : TT := fun σ H Q => t σ H fun c H1 => Q (!c) H1
theorem O4 (ha : PT X a tA) : PW X (.BoolOp .And [a] pos) tA := by
 intro wh pins s σ H Q I h
 refine isTrue_and (eL (ha pins s σ H Q I h) fun c s1 e => ?_)
 cases c with
 | true => exact isTrue_and_nil e
 | false => exact e
theorem SX (ha : PT X a tA) : PW X (.BoolOp .Or [a] pos) tA := by
 intro wh pins s σ H Q I h
 refine isTrue_or (eL (ha pins s σ H Q I h) fun c s1 e => ?_)
 cases c with
 | false => exact isTrue_or_nil e
 | true => exact e
theorem SY (ha : PT X a tA) (hb : PW X (.BoolOp .And (b :: rest) pos) Ym) : PW X (.BoolOp .And (a :: b :: rest) pos) (Y8 tA Ym) := by
 intro wh pins s σ H Q I h
 refine isTrue_and (eL (ha pins s σ H _ I h) fun c s1 zz => ?_)
 obtain ⟨H1, I1, q1⟩ := zz
 cases c with
 | true => exact hb wh pins s1 σ H1 Q I1 q1
 | false => exact ⟨H1, I1, q1⟩
theorem Wj (ha : PT X a tA) (hb : PW X (.BoolOp .Or (b :: rest) pos) Ym) : PW X (.BoolOp .Or (a :: b :: rest) pos) (tOr tA Ym) := by
 intro wh pins s σ H Q I h
 refine isTrue_or (eL (ha pins s σ H _ I h) fun c s1 zz => ?_)
 obtain ⟨H1, I1, q1⟩ := zz
 cases c with
 | true => exact ⟨H1, I1, q1⟩
 | false => exact hb wh pins s1 σ H1 Q I1 q1
theorem S6 (ha : PT X a tA) : PT X (.UnaryOp .Not a pos) (Y9 tA) := by
 intro pins s σ H Q I h
 exact isTrue_not (ha pins s σ H (fun c H1 => Q (!c) H1) I h)
noncomputable def Wk (ta tb : TE) : TE := fun σ H Q => ta σ H fun x H1 => ∃ c, x = .bl c /\ if c = true then tb σ H1 Q else Q (.bl false) H1
noncomputable def Wm (ta : TE) : TE := fun σ H Q => ta σ H fun x H1 => ∃ c, x = .bl c /\ Q (.bl (!c)) H1
theorem S7 {op} {t : TE} (h : PE X a t) : PE X (.BoolOp op [a] pos) t := fun pins s σ H Q I hw => BoolOp_one (h pins s σ H Q I hw)
theorem S8 (ha : PE X a ta) (hb : PE X (.BoolOp .And (b :: rest) pos) tb) : PE X (.BoolOp .And (a :: b :: rest) pos) (Wk ta tb) := by
 intro pins s σ H Q I h
 refine BoolOp_and (eL (ha pins s σ H _ I h) fun v s1 zz => ?_)
 obtain ⟨x, H1, I1, r1, q1⟩ := zz
 obtain ⟨c, rfl, q1⟩ := q1
 cases r1
 refine afb ?_
 cases c with
 | true => exact hb pins s1 σ H1 Q I1 q1
 | false => exact ⟨.bl false, H1, I1, rfl, q1⟩
theorem S9 (ha : PE X a ta) : PE X (.UnaryOp .Not a pos) (Wm ta) := by
 intro pins s σ H Q I h
 refine UnaryOp_ (eL (ha pins s σ H _ I h) fun v s1 zz => ?_)
 obtain ⟨x, H1, I1, r1, q1⟩ := zz
 obtain ⟨c, rfl, q1⟩ := q1
 cases r1
 exact not_of (afb ⟨.bl (!c), H1, I1, rfl, q1⟩)
noncomputable def tIf (t : TT) (ta tb : TE) : TE := fun σ H Q => t σ H fun c H1 => if c = true then ta σ H1 Q else tb σ H1 Q
theorem KY {c : Expr} (hc : PT X c tA) (ha : PE X a ta) (hb : PE X b tb) : PE X (.IfExp c a b pos) (tIf tA ta tb) := by
 intro pins s σ H Q I h
 refine wpAny_IfExp (eL (hc pins s σ H _ I h) fun d s1 zz => ?_)
 obtain ⟨H1, I1, q1⟩ := zz
 cases d with
 | true => exact ha pins s1 σ H1 Q I1 q1
 | false => exact hb pins s1 σ H1 Q I1 q1
end
noncomputable def jY (K : PySem.W.Frag) (H : Hp) (a : Addr) (xs : List V) : Prop :=
 Rd H a (.lst xs) ∨
   ∃ (o : Obj) (its : Array Value) (n : Nat), K.lookup a = some o /\ o.cls = .type "list" /\ o.dict = none /\ o.data = .seq its n /\ its.size <= sizeLine /\ Vals xs its.toList
noncomputable def rM (K : PySem.W.Frag) (H : Hp) (a : Addr) (xs : List V) : Prop :=
 Rd H a (.tup xs) ∨
   ∃ (o : Obj) (its : Array Value) (n : Nat), K.lookup a = some o /\ o.cls = .type "tuple" /\ o.data = .seq its n /\ its.size <= sizeLine /\ Vals xs its.toList
noncomputable def Za : Value -> Option V
 | .none => some .non
 | .bool b => some (.bl b)
 | .int i _ => some (.int i)
 | .str x _ => some (.str x)
 | .bytes b _ => some (.G6 b)
 | .float b _ => some (.Ye b)
 | .ref a => some (.ref a)
 | .type n => some (.ty n)
 | _ => none
theorem RelV.abs {x : V} {u : Value} (r : RelV x u) : Za u = some x := by
 cases x with
 | non => cases r; rfl
 | bl _ => cases r; rfl
 | int _ => obtain ⟨t, rfl⟩ := r; rfl
 | str _ => obtain ⟨t, rfl⟩ := r; rfl
 | G6 _ => obtain ⟨t, rfl⟩ := r; rfl
 | Ye _ => obtain ⟨t, rfl⟩ := r; rfl
 | ref _ => cases r; rfl
 | ty _ => cases r; rfl
theorem RelV.inj {x y : V} {u : Value} (r : RelV x u) (q : RelV y u) : x = y := aeb (r.abs.symm.trans q.abs)
theorem Vals.inj {xs ys : List V} {us : List Value} (h : Vals xs us) (q : Vals ys us) : xs = ys := by
 induction h generalizing ys with
 | nil => cases q; rfl
 | cons r _ i => cases q with
   | cons r' t' => rw [r.inj r', i t']
section
variable {X : Cx} {pins : List (Addr × Obj)} {σ : St} {H : Hp} {s : Shared} {a : Addr} {xs ys : List V}
theorem jY.of {K : PySem.W.Frag} (h : H a = some (.lst xs)) : jY K H a xs := .inl (.inl h)
theorem rM.of {K : PySem.W.Frag} (h : H a = some (.tup xs)) : rM K H a xs := .inl (.inl h)
theorem Inv.list (I : Inv X pins σ H s) (h : jY X.K H a xs) : ∃ its : List Value, Vals xs its /\ PlainL s.heap a its.toArray /\ xs.length <= sizeLine := by
 rcases h with h | ⟨o, its, n, hk, hc, hd, hs, hz, r⟩
 . obtain ⟨z, its, n, r, e⟩ := h.ok I.dR
   exact ⟨its, r, ⟨_, n, e, rfl, rfl, rfl⟩, z⟩
 . refine ⟨its.toList, r, ⟨o, n, I.BK a o hk, hc, hd, by simpa using hs⟩, ?_⟩
   have e := r.length
   simp only [Array.length_toList] at e
   omega
theorem Inv.tuple (I : Inv X pins σ H s) (h : rM X.K H a xs) : ∃ its : List Value, Vals xs its /\ IsTup s.heap a its.toArray /\ xs.length <= sizeLine := by
 rcases h with h | ⟨o, its, n, hk, hc, hs, hz, r⟩
 . obtain ⟨z, its, r, p⟩ := h.ok I.dR
   exact ⟨its, r, p, z⟩
 . refine ⟨its.toList, r, ⟨o, I.BK a o hk, hc, n, by simpa using hs⟩, ?_⟩
   have e := r.length
   simp only [Array.length_toList] at e
   omega
theorem Inv.rO (I : Inv X pins σ H s) (h : jY X.K H a xs) (h' : jY X.K H a ys) : xs = ys := by
 obtain ⟨its, r, ⟨o, n, e, _, _, d⟩, _⟩ := I.list h
 obtain ⟨its', r', ⟨o', n', e', _, _, d'⟩, _⟩ := I.list h'
 rw [e] at e'; cases e'
 rw [d] at d'
 injection d' with d1 _
 have : its = its' := by simpa using congrArg Array.toList d1
 subst this
 exact r.inj r'
theorem Inv.IC (I : Inv X pins σ H s) (h : rM X.K H a xs) (h' : rM X.K H a ys) : xs = ys := by
 obtain ⟨its, r, ⟨o, e, _, n, d⟩, _⟩ := I.tuple h
 obtain ⟨its', r', ⟨o', e', _, n', d'⟩, _⟩ := I.tuple h'
 rw [e] at e'; cases e'
 rw [d] at d'
 injection d' with d1 _
 have : its = its' := by simpa using congrArg Array.toList d1
 subst this
 exact r.inj r'
end
noncomputable abbrev Cx.wish (X : Cx) (E : Value -> Shared -> Prop) : Cx := { X with xe := E }
noncomputable abbrev Cx.VY (X : Cx) : Cx := X.wish fun _ _ => False
theorem Cx.Ok.wish {X : Cx} (ok : X.Ok) (E : Value -> Shared -> Prop) : (X.wish E).Ok :=
 ⟨ok.mod, ok.kind, ok.glob, ok.blt, ok.above, ok.inj, ok.has, ok.Wd, ok.hd, ok.frames, ok.Yj, ok.exf, ok.bs, ok.OX, ok.KW, ok.OY, ok.vo, ok.SM⟩
theorem Cx.Ok.nJ {X : Cx} {E : Value -> Shared -> Prop} (ok : (X.wish E).Ok) : X.Ok :=
 ⟨ok.mod, ok.kind, ok.glob, ok.blt, ok.above, ok.inj, ok.has, ok.Wd, ok.hd, ok.frames, ok.Yj, ok.exf, ok.bs, ok.OX, ok.KW, ok.OY, ok.vo, ok.SM⟩
section
variable {X : Cx} {pins : List (Addr × Obj)} {σ : St} {H : Hp} {s : Shared} {E : Value -> Shared -> Prop}
theorem Inv.wish (I : Inv X pins σ H s) (E : Value -> Shared -> Prop) : Inv (X.wish E) pins σ H s := ⟨I.ok.wish E, I.os, I.bare, I.base, I.loc, I.cell, I.free, I.qq, I.pin, I.dR, I.len⟩
theorem Inv.nJ (I : Inv (X.wish E) pins σ H s) : Inv X pins σ H s := ⟨I.ok.nJ, I.os, I.bare, I.base, I.loc, I.cell, I.free, I.qq, I.pin, I.dR, I.len⟩
theorem SP.nJ {D : Ends} {f : Flow} {s' : Shared} (h : SP (X.wish E) pins D f s') : SP X pins D f s' := by
 cases f with
 | next => obtain ⟨σ', H', I, q⟩ := h; exact ⟨σ', H', I.nJ, q⟩
 | brk => obtain ⟨σ', H', I, q⟩ := h; exact ⟨σ', H', I.nJ, q⟩
 | cont => obtain ⟨σ', H', I, q⟩ := h; exact ⟨σ', H', I.nJ, q⟩
 | ret u => obtain ⟨v, σ', H', I, r, q⟩ := h; exact ⟨v, σ', H', I.nJ, r, q⟩
theorem G9.VY {st : List Stmt} {t : TS} (h : G9 X.VY st t) : G9 X st t := fun pins s σ H D I hw =>
 ae1 (h pins s σ H D (I.wish _) hw) (fun _ _ q => q.nJ) fun _ _ z => False.elim z
end
section
variable {X : Cx} {st : Stmt} {rest : List Stmt} {t u : TS} {e : Expr} {te : TE} {pos : Pos}
noncomputable def Wn : TS := fun D σ H => D.nx σ H
noncomputable def Zb (t u : TS) : TS := fun D σ H => t { D with nx := u D } σ H
theorem O5 : G9 X [] Wn := fun _ _ σ H _ I h => wpAny_execs_nil ⟨σ, H, I, h⟩
theorem KZ (h1 : PS X st t) (h2 : G9 X rest u) : G9 X (st :: rest) (Zb t u) := by
 intro pins s σ H D I h
 refine wpAny_execs_cons (eL (h1 pins s σ H { D with nx := u D } I h) fun f s1 q => ?_)
 cases f with
 | next =>
   obtain ⟨σ', H', I', q⟩ := q
   exact h2 pins s1 σ' H' D I' q
 | ret v => exact q
 | brk => exact q
 | cont => exact q
theorem Inv.quiet {pins : List (Addr × Obj)} {σ : St} {H : Hp} {s : Shared} (I : Inv X pins σ H s) : interactive X.env = false := by simp [interactive, I.ok.kind]
noncomputable def Wo (te : TE) : TS := fun D σ H => te σ H fun _ H1 => D.nx σ H1
theorem zW (he : PE X e te) (hs : swapsWith e none pos.line X.env = pure false := by rfl) : PS X (.Expr e pos) (Wo te) := by
 intro pins s σ H D I h
 exact wpAny_Expr_any (eL (he pins s σ H _ I h) fun v s1 ⟨x, H1, I1, r1, q1⟩ => ⟨σ, H1, I1, q1⟩) I.quiet hs
noncomputable def Zc (te : TE) : TS := fun D σ H => te σ H D.rt
theorem Tc (he : PE X e te) : PS X (.Return (some e) pos) (Zc te) := by
 intro pins s σ H D I h
 exact wpAny_Return_some (eL (he pins s σ H _ I h) fun v s1 ⟨x, H1, I1, r1, q1⟩ => ⟨x, σ, H1, I1, r1, q1⟩)
noncomputable def Zd (c : TT) (t u : TS) : TS := fun D σ H => c σ H fun b H1 => if b = true then t D σ H1 else u D σ H1
theorem Wq {c : Expr} {a b : List Stmt} {tc : TT} (hc : PT X c tc) (ha : G9 X a t) (hb : G9 X b u) : PS X (.If c a b pos) (Zd tc t u) := by
 intro pins s σ H D I h
 refine wpAny_If (eL (hc pins s σ H _ I h) fun d s1 zz => ?_)
 obtain ⟨H1, I1, q1⟩ := zz
 cases d with
 | true => exact ha pins s1 σ H1 D I1 q1
 | false => exact hb pins s1 σ H1 D I1 q1
end
noncomputable abbrev TG := V -> St -> Hp -> (St -> Hp -> Prop) -> Prop
noncomputable abbrev Td := List V -> St -> Hp -> (St -> Hp -> Prop) -> Prop
noncomputable def PG (X : Cx) (target : Expr) (t : TG) : Prop :=
 ∀ (pins : List (Addr × Obj)) (s : Shared) (σ : St) (H : Hp) (v : V) (u : Value) (Q : St -> Hp -> Prop), Inv X pins σ H s -> RelV v u -> t v σ H Q →
   wpAny (model X.prog X.w) X.A (assign target X.env u) (fun _ s' => ∃ σ' H', Inv X pins σ' H' s' /\ Q σ' H') X.xe s
noncomputable def Yn (X : Cx) (ts : List Expr) (t : Td) : Prop :=
 ∀ (pins : List (Addr × Obj)) (s : Shared) (σ : St) (H : Hp) (vs : List V) (us : List Value) (Q : St -> Hp -> Prop), Inv X pins σ H s -> Vals vs us -> t vs σ H Q →
   wpAny (model X.prog X.w) X.A (assignInOrder ((assignEach ts X.env).map (·.2)) us) (fun _ s' => ∃ σ' H', Inv X pins σ' H' s' /\ Q σ' H') X.xe s
noncomputable abbrev Te := V -> V -> V -> Hp -> (Hp -> Prop) -> Prop
noncomputable def Wr (X : Cx) (t : Te) : Prop :=
 ∀ (pins : List (Addr × Obj)) (s : Shared) (σ : St) (H : Hp) (o i v : V) (ov iv u : Value) (Q : Hp -> Prop), Inv X pins σ H s -> RelV o ov -> RelV i iv -> RelV v u -> t o i v H Q →
   wpAny (model X.prog X.w) X.A (setItem ov iv u) (fun _ s' => ∃ H', Inv X pins σ H' s' /\ Q H') X.xe s
section
variable {X : Cx} {pos : Pos}
noncomputable def uK (i : Nat) : TG := fun v σ H Q => Q (σ.set i (some v)) H
theorem rP {i : Nat} {x : Str} (hN : X.N.Nodup) (hi : X.N[i]? = some x) (hx : Loc X.env.scope x) (hf : X.fn x = true \/ X.env.scope.names.lookup x = some .local := by first | exact .inl rfl | exact .inr rfl | assumption) : PG X (.Name x pos) (uK i) := by
 intro pins s σ H v u Q I r h
 exact wpAny_assign_Name (BO I hN hi hx r (fun s' I' => ⟨_, H, I', h⟩) hf)
noncomputable def Tf : Td := fun vs σ H Q => vs = [] /\ Q σ H
noncomputable def BP (t : TG) (u : Td) : Td := fun vs σ H Q => ∃ v r, vs = v :: r /\ t v σ H fun σ' H' => u r σ' H' Q
theorem O6 : Yn X [] Tf := by
 intro pins s σ H vs us Q I r h
 obtain ⟨e, h⟩ := h
 subst e
 cases r
 exact assignInOrder_nil ⟨σ, H, I, h⟩
theorem BQ {e : Expr} {es : List Expr} {t : TG} {u : Td} (h1 : PG X e t) (h2 : Yn X es u)
   (hs : (assignEach (e :: es) X.env).map (·.2) = assign e X.env :: (assignEach es X.env).map (·.2) := by rfl) : Yn X (e :: es) (BP t u) := by
 intro pins s σ H vs us Q I r h
 obtain ⟨v, vr, e1, h⟩ := h
 subst e1
 cases r with
 | cons r rr =>
   rw [hs]
   refine assignInOrder_cons (eL (h1 pins s σ H _ _ _ I r h) fun _ s1 zz => ?_)
   obtain ⟨σ1, H1, I1, q1⟩ := zz
   exact h2 pins s1 σ1 H1 _ _ Q I1 rr q1
noncomputable def Tg (K : PySem.W.Frag) (n : Nat) (t : Td) : TG := fun v σ H Q => ∃ a xs, v = .ref a /\ rM K H a xs /\ xs.length = n /\ t xs σ H Q
theorem Ti {es : List Expr} {k : Nat} {t : Td} {n : Nat} (hc : X.calm = true) (h : Yn X es t)
   (hn : (assignEach es X.env).length = n := by rfl) (O7 : (assignEach es X.env).findIdx? (·.1) = none := by rfl) : PG X (.Tuple es k pos) (Tg X.K n t) := by
 intro pins s σ H v u Q I r hw
 obtain ⟨a, xs, e1, hq, hl, hw⟩ := hw
 subst e1
 cases r
 obtain ⟨its, rv, ht, hz⟩ := I.tuple hq
 refine assign_Tuple_tuple (I.ok.hd hc) ht (by simp [hn, ← hl, rv.length]) O7 fun h' hx => ?_
 have I1 : Inv X pins σ H { s with heap := h' } := I.kept (t' := s.toks) fun b o e => hx b o (aeE (aec e)) e
 exact h pins _ σ H xs _ Q I1 (by simpa using rv) hw
noncomputable def Ze (to ti : TE) (t : Te) : TG := fun v σ H Q => to σ H fun o H1 => ti σ H1 fun i H2 => t o i v H2 fun H3 => Q σ H3
theorem Tj {o i : Expr} {to ti : TE} {t : Te} (ho : PE X o to) (hi : PE X i ti) (hs : Wr X t)
   (ha : ∀ v, assign (.Subscript o i pos) X.env v = (do
     let ov ← holding [v] (eval o X.env)
     let iv ← holding [v, ov] (eval i X.env)
     standAt pos
     holding [v, ov, iv] (setItem ov iv v)
     release [v, ov, iv] []) := by intro _; rfl) : PG X (.Subscript o i pos) (Ze to ti t) := by
 intro pins s σ H v u Q I r h
 rw [ha]
 refine aea (wpAny_holding (eL (ho pins s σ H _ I h) fun ov s1 zz => ?_))
 obtain ⟨x, H1, I1, r1, q1⟩ := zz
 refine aea (wpAny_holding (eL (hi pins s1 σ H1 _ I1 q1) fun iv s2 zz => ?_))
 obtain ⟨y, H2, I2, r2, q2⟩ := zz
 refine aea (wpAny_standAt (aea (wpAny_holding (eL (hs pins s2 σ H2 x y v ov iv u _ I2 r1 r2 r q2) fun _ s3 zz => ?_))))
 obtain ⟨H3, I3, q3⟩ := zz
 exact wpAny_release ⟨σ, H3, I3, q3⟩
noncomputable def Ws (te : TE) (g : TG) : TS := fun D σ H => te σ H fun x H1 => g x σ H1 D.nx
theorem Tp {tg e : Expr} {te : TE} {g : TG} (he : PE X e te) (hg : PG X tg g) (hs : swapsWithSole [tg] e pos.line X.env = pure false := by rfl) (hw : swappedStores [tg] e X.env = pure none := by rfl)
   (h1 : (assignEach [tg] X.env).map (·.2) = [assign tg X.env] := by rfl) : PS X (.Assign [tg] e pos) (Ws te g) := by
 intro pins s σ H D I h
 refine wpAny_Assign_stores (eL (he pins s σ H _ I h) fun v s1 zz => ?_) hs hw
 obtain ⟨x, H1, I1, r1, q1⟩ := zz
 rw [h1]
 exact eL (hg pins s1 σ H1 x v _ I1 r1 q1) fun _ s2 q => q
theorem Tq {i : Nat} {x : Str} {e : Expr} {te : TE} {pos' : Pos} (hN : X.N.Nodup) (hi : X.N[i]? = some x) (hx : Loc X.env.scope x) (he : PE X e te) (hs : swapsWith e (some (.Name x pos')) pos.line X.env = pure false := by rfl) (hf : X.fn x = true \/ X.env.scope.names.lookup x = some .local := by first | exact .inl rfl | exact .inr rfl | assumption) :
   PS X (.Assign [.Name x pos'] e pos) (Ws te (uK i)) := by
 intro pins s σ H D I h
 refine wpAny_Assign_Name (eL (he pins s σ H _ I h) fun v s1 zz => ?_) hs
 obtain ⟨y, H1, I1, r1, q1⟩ := zz
 exact BO I1 hN hi hx r1 (fun s2 I2 => ⟨_, H1, I2, q1⟩) hf
end
section
variable {X : Cx} {pos : Pos}
noncomputable def Tr (c : TT) (tb : TS) : TS := fun D σ H => ∃ W : Nat -> St -> Hp -> Prop, (∃ m, W m σ H) /\ ∀ m σ H, W m σ H →
 c σ H fun b H1 => if b = true then ∃ N : St -> Hp -> Prop, (∀ σ' H', N σ' H' -> ∃ m', m' < m /\ W m' σ' H') /\ tb { D with nx := N, ct := N, bk := D.nx } σ H1 else D.nx σ H1
theorem K0 {c : Expr} {body : List Stmt} {tc : TT} {tb : TS} (hp : PassesOwn (model X.prog X.w) X.A X.env X.xe) (hc : PT X c tc) (hb : G9 X body tb) : PS X (.While c body [] pos) (Tr tc tb) := by
 intro pins s σ H D I h
 obtain ⟨W, ⟨m0, w0⟩, turn⟩ := h
 refine wpAny_While (codeAny_whileLoop (fun n s' => ∃ σ' H', Inv X pins σ' H' s' /\ W n σ' H') ?_ m0 ⟨σ, H, I, w0⟩)
 rintro n s1 ⟨σ1, H1, I1, w1⟩
 refine aeZ hp (eL (hc pins s1 σ1 H1 _ I1 (turn n σ1 H1 w1)) fun b s2 zz => ?_)
 obtain ⟨H2, I2, q2⟩ := zz
 cases b with
 | true =>
   obtain ⟨N, hN, q2⟩ := q2
   rw [ad0 rfl]
   refine aeZ hp (eL (hb pins s2 σ1 H2 _ I2 q2) fun f s3 q3 => ?_)
   cases f with
   | next =>
     obtain ⟨σ3, H3, I3, n3⟩ := q3
     obtain ⟨m', hm, w3⟩ := hN σ3 H3 n3
     exact ⟨m', hm, σ3, H3, I3, w3⟩
   | cont =>
     obtain ⟨σ3, H3, I3, n3⟩ := q3
     obtain ⟨m', hm, w3⟩ := hN σ3 H3 n3
     exact ⟨m', hm, σ3, H3, I3, w3⟩
   | brk => exact q3
   | ret v => exact q3
 | false =>
   rw [adT ad5]
   exact wpAny_execs_nil ⟨σ1, H2, I2, q2⟩
end
structure It where
 go : Nat -> Hp -> Prop
 RV : Nat -> Hp -> V -> Hp -> Prop
 stop : Nat -> Hp -> Prop
noncomputable def vp (X : Cx) (pins : List (Addr × Obj)) (H : Hp) (b : Addr) : Prop :=
 H b = none /\ b ≠ X.env.locals /\ b ∉ X.fs /\ (b ∈ X.ex \/ X.s₀.heap.objs.size <= b) /\ (∀ x c, X.env.cells.lookup x = some c -> c ≠ b) /\ ∀ p ∈ X.pn ++ pins, p.1 ≠ b
theorem Inv.yz {X : Cx} {pins : List (Addr × Obj)} {σ : St} {H H' : Hp} {s : Shared} {b : Addr} (I : Inv X pins σ H s) (hb : s.heap.objs.size <= b) (hn : H' b = none) : vp X pins H' b := by
 refine ⟨hn, Nat.ne_of_gt (aex I.lt hb), I.YZ hb, .inr (aeA I.sz hb), fun x c e z => ?_, fun p hp z => ?_⟩
 . obtain ⟨v, q⟩ := I.cell x c e
   exact absurd (aex q.lt (by rw [z]; exact hb)) (afj _)
 . exact absurd (aex (aec (I.pin p hp).1) (by rw [z]; exact hb)) (afj _)
structure Turn (P : Program) (w : World) (K : PySem.W.Frag) (tg : Expr) (J : It) (fp : List Addr) (it : Addr) (tn : Nat -> Heap -> Prop) : Prop where
 mem : it ∈ fp
 obj : ∀ i h, tn i h -> ∀ b ∈ fp, ∃ o, h.get? b = some o /\ ∀ v, o.data ≠ .cell v
 keep : ∀ i h h', tn i h -> (∀ b ∈ fp, ∀ o, h.get? b = some o -> h'.get? b = some o) -> tn i h'
 item : ∀ (X : Cx), X.prog = P -> X.w = w -> X.K = K -> X.calm = true -> ∀ (i : Nat) (pins : List (Addr × Obj)) (s : Shared) (σ : St) (H : Hp) (E : Value -> Shared -> Prop), Inv X pins σ H s -> (∀ b ∈ fp, vp X pins H b) -> tn i s.heap -> J.go i H →
   wpAny (model P w) X.A (pyNext (.ref it)) (fun r s1 => ∃ u, r = some u ∧
     wpAny (model P w) X.A (letOwnedTupleGo tg (.ref it) u) (fun _ s2 => ∃ x H', Inv X pins σ H' s2 /\ RelV x u /\ J.RV i H x H' /\ tn (i + 1) s2.heap /\ ∀ b ∈ fp, H' b = none) E s1) E s
 done : ∀ (X : Cx), X.prog = P -> X.w = w -> X.K = K -> X.calm = true -> ∀ (i : Nat) (pins : List (Addr × Obj)) (s : Shared) (σ : St) (H : Hp) (E : Value -> Shared -> Prop), Inv X pins σ H s -> (∀ b ∈ fp, vp X pins H b) -> tn i s.heap -> J.stop i H →
   wpAny (model P w) X.A (pyNext (.ref it)) (fun r s1 => r = none /\ Inv X pins σ H s1) E s
 self : ∀ (A : Around) (i : Nat) (s : Shared) (Q : Value -> Shared -> Prop) (E : Value -> Shared -> Prop), tn i s.heap -> Q (.ref it) s -> wpAny (model P w) A (pyIter (.ref it)) Q E s
noncomputable abbrev TI := St -> Hp -> (It -> Hp -> Prop) -> Prop
noncomputable def PIE (X : Cx) (pins : List (Addr × Obj)) (σ : St) (tg : Expr) (R : It -> Hp -> Prop) (Yo : Value) (s2 : Shared) : Prop :=
 ∃ (it : Addr) (fp : List Addr) (tn : Nat -> Heap -> Prop) (J : It) (H' : Hp), Yo = .ref it /\ Inv X pins σ H' s2 /\ Turn X.prog X.w X.K tg J fp it tn /\ tn 0 s2.heap /\ (∀ b ∈ fp, vp X pins H' b) /\ R J H'
noncomputable def PI (X : Cx) (tg iter : Expr) (wi : TI) : Prop :=
 ∀ (pins : List (Addr × Obj)) (s : Shared) (σ : St) (H : Hp) (R : It -> Hp -> Prop), Inv X pins σ H s -> wi σ H R →
   wpAny (model X.prog X.w) X.A (eval iter X.env) (fun v s1 => wpAny (model X.prog X.w) X.A (pyIter v) (PIE X pins σ tg R) X.xe s1) X.xe s
theorem Hf {M : Model} {A : Around} {E : Value -> Shared -> Prop} {s : Shared} {tg : Expr} {it : Addr} {u : Value} {o : Obj} {n : String} {vs : Array Value} {Q : Unit -> Shared -> Prop} (ho : s.heap.get? it = some o) (hc : o.cls = .type n) (hd : o.data = .fields vs)
   (hn : ["enumerate", "zip", "dict_itemiterator", "dict_reverseitemiterator", "odict_iterator", "itertools.zip_longest", "itertools.pairwise"].contains n = false) (hQ : Q () s) : wpAny M A (letOwnedTupleGo tg (.ref it) u) Q E s := by
 unfold letOwnedTupleGo
 cases tg <;> first
   | exact aer hQ
   | (cases u <;> first
       | exact aer hQ
       | (refine aea (wpAny_load ho ?_)
          rw [hc, hd]
          show wpAny M A (if (["enumerate", "zip", "dict_itemiterator", "dict_reverseitemiterator", "odict_iterator", "itertools.zip_longest", "itertools.pairwise"].contains n && vs[0]? == some (rawInt _)) = true then _ else _) Q E s
          rw [adT (by intro h; rw [hn, Bool.false_and] at h; cases h)]
          exact aer hQ))
noncomputable def Itl (K : PySem.W.Frag) (a : Addr) : It :=
 ⟨fun i H => ∃ xs x, jY K H a xs /\ xs[i]? = some x, fun i H x H' => H' = H /\ ∀ xs, jY K H a xs -> xs[i]? = some x, fun i H => ∃ xs, jY K H a xs /\ xs.length <= i⟩
noncomputable def Itt (K : PySem.W.Frag) (a : Addr) : It :=
 ⟨fun i H => ∃ xs x, rM K H a xs /\ xs[i]? = some x, fun i H x H' => H' = H /\ ∀ xs, rM K H a xs -> xs[i]? = some x, fun i H => ∃ xs, rM K H a xs /\ xs.length <= i⟩
noncomputable def Zf (lo : Int) (n : Nat) : It := ⟨fun i _ => i < n, fun i H x H' => H' = H /\ x = .int (lo + i), fun i _ => n <= i⟩
theorem IE {P : Program} {w : World} {K : PySem.W.Frag} {tg : Expr} (a it : Addr) : Turn P w K tg (Itl K a) [it] it (fun i h => h.IsListIter it a i) where
 mem := by simp
 obj := fun i h st b hb => by
   have e : b = it := by simpa using hb
   subst e
   obtain ⟨o, e, c, d⟩ := st
   exact ⟨o, e, fun v z => by rw [d] at z; cases z⟩
 keep := fun i h h' st k => st.at fun o e => k it (by simp) o e
 item := by
   intro X hP hw hK hc i pins s σ H E I hf st hg
   subst hP hw hK
   obtain ⟨xs, x, hq, hx⟩ := hg
   obtain ⟨its, rv, p, hz⟩ := I.list hq
   obtain ⟨u, hu, ru⟩ := rv.get hx
   obtain ⟨f0, f1, f2, f3, f4, f5⟩ := hf it (by simp)
   refine wpAny_pyNext_list_item st p.isList (x := u) (by simpa using hu) fun h' K1 sb => ?_
   have I1 : Inv X pins σ H { s with heap := h' } := I.turned (t' := s.toks) (fun b o hb e => (sb.2 b hb).trans e) f0 f1 f3 f4 f5
   obtain ⟨o, e, c, d⟩ := id K1
   exact ⟨u, rfl, Hf (s := { s with heap := h' }) e c d (by decide) ⟨x, H, I1, ru, ⟨rfl, fun ys hy => by rw [I.rO hy hq]; exact hx⟩, K1, fun b hb => (hf b hb).1⟩⟩
 done := by
   intro X hP hw hK hc i pins s σ H E I hf st hg
   subst hP hw hK
   obtain ⟨xs, hq, hx⟩ := hg
   obtain ⟨its, rv, p, hz⟩ := I.list hq
   obtain ⟨f0, f1, f2, f3, f4, f5⟩ := hf it (by simp)
   have hl := rv.length
   exact wpAny_pyNext_list_end (I.ok.hd hc) st p.isList (by simp; omega) fun h' eb => ⟨rfl, I.turned (t' := s.toks) (fun b o hb e => eb b o hb e) f0 f1 f3 f4 f5⟩
 self := fun _ _ _ _ _ st h => wpAny_pyIter_listiter st h
theorem Eo {P : Program} {w : World} {K : PySem.W.Frag} {tg : Expr} (a it : Addr) : Turn P w K tg (Itt K a) [it] it (fun i h => h.IsTupleIter it a i) where
 mem := by simp
 obj := fun i h st b hb => by
   have e : b = it := by simpa using hb
   subst e
   obtain ⟨o, e, c, d⟩ := st
   exact ⟨o, e, fun v z => by rw [d] at z; cases z⟩
 keep := fun i h h' st k => st.at fun o e => k it (by simp) o e
 item := by
   intro X hP hw hK hc i pins s σ H E I hf st hg
   subst hP hw hK
   obtain ⟨xs, x, hq, hx⟩ := hg
   obtain ⟨its, rv, p, hz⟩ := I.tuple hq
   obtain ⟨u, hu, ru⟩ := rv.get hx
   obtain ⟨f0, f1, f2, f3, f4, f5⟩ := hf it (by simp)
   refine wpAny_pyNext_tuple_item st (show s.heap.IsTuple a its.toArray from p) (x := u) (by simpa using hu) fun h' K1 sb => ?_
   have I1 : Inv X pins σ H { s with heap := h' } := I.turned (t' := s.toks) (fun b o hb e => (sb.2 b hb).trans e) f0 f1 f3 f4 f5
   obtain ⟨o, e, c, d⟩ := id K1
   exact ⟨u, rfl, Hf (s := { s with heap := h' }) e c d (by decide) ⟨x, H, I1, ru, ⟨rfl, fun ys hy => by rw [I.IC hy hq]; exact hx⟩, K1, fun b hb => (hf b hb).1⟩⟩
 done := by
   intro X hP hw hK hc i pins s σ H E I hf st hg
   subst hP hw hK
   obtain ⟨xs, hq, hx⟩ := hg
   obtain ⟨its, rv, p, hz⟩ := I.tuple hq
   obtain ⟨f0, f1, f2, f3, f4, f5⟩ := hf it (by simp)
   have hl := rv.length
   exact wpAny_pyNext_tuple_end (I.ok.hd hc) st (show s.heap.IsTuple a its.toArray from p) (by simp; omega) fun h' eb => ⟨rfl, I.turned (t' := s.toks) (fun b o hb e => eb b o hb e) f0 f1 f3 f4 f5⟩
 self := fun _ _ _ _ _ st h => wpAny_pyIter_tupleiter st h
theorem Ep {P : Program} {w : World} {K : PySem.W.Frag} {tg : Expr} (it : Addr) (lo : Int) (n : Nat) : Turn P w K tg (Zf lo n) [it] it (fun i h => IsRangeIter h it (lo + (i : Nat) * 1) ((n : Int) - (i : Nat)) 1) where
 mem := by simp
 obj := fun i h st b hb => by
   have e : b = it := by simpa using hb
   subst e
   exact ⟨_, st, fun v z => by
     have z' : Data.fields _ = Data.cell v := z
     cases z'⟩
 keep := fun i h h' st k => k it (by simp) _ st
 item := by
   intro X hP hw hK hc i pins s σ H E I hf st hg
   subst hP hw hK
   obtain ⟨f0, f1, f2, f3, f4, f5⟩ := hf it (by simp)
   have W := Walks.range (prog := X.prog) (w := X.w) (I.ok.hd hc) it lo 1 n
   refine W.item i s _ _ hg st fun v h' tk hv K1 kk => ?_
   obtain ⟨t, rfl⟩ := hv
   have I1 : Inv X pins σ H { s with heap := h', toks := tk } := I.turned (fun b o hb e => kk b o (by simpa using hb) e) f0 f1 f3 f4 f5
   refine ⟨_, rfl, Hf (s := { s with heap := h', toks := tk }) (n := "range_iterator") K1 rfl rfl (by decide) ⟨.int (lo + i), H, I1, ⟨t, ?_⟩, ⟨rfl, rfl⟩, K1, fun b hb => (hf b hb).1⟩⟩
   rw [Int.mul_one]
 done := by
   intro X hP hw hK hc i pins s σ H E I hf st hg
   subst hP hw hK
   obtain ⟨f0, f1, f2, f3, f4, f5⟩ := hf it (by simp)
   exact wpAny_pyNext_range_end (I.ok.hd hc) st (by have : n <= i := hg; omega) fun h' eb => ⟨rfl, I.turned (t' := s.toks) (fun b o hb e => eb b o hb e) f0 f1 f3 f4 f5⟩
 self := fun _ _ _ _ _ st h => wpAny_pyIter_rangeiter st h
section
variable {X : Cx} {tg : Expr}
noncomputable def Wt (K : PySem.W.Frag) (tl : TE) : TI := fun σ H R => tl σ H fun x H1 => ∃ a, x = .ref a /\ (∃ xs, jY K H1 a xs) /\ R (Itl K a) H1
noncomputable def Zg (K : PySem.W.Frag) (tl : TE) : TI := fun σ H R => tl σ H fun x H1 => ∃ a, x = .ref a /\ (∃ xs, rM K H1 a xs) /\ R (Itt K a) H1
theorem O8 {l : Expr} {tl : TE} (hl : PE X l tl) : PI X tg l (Wt X.K tl) := by
 intro pins s σ H R I h
 refine eL (hl pins s σ H _ I h) fun v s1 zz => ?_
 obtain ⟨x, H1, I1, r1, q1⟩ := zz
 obtain ⟨a, e, ⟨xs, hq⟩, q⟩ := q1
 subst e
 cases r1
 obtain ⟨its, rv, p, hz⟩ := I1.list hq
 refine wpAny_pyIter_list p.isList ?_
 refine ⟨s1.heap.objs.size, [s1.heap.objs.size], _, _, H1, rfl, I1.kept (t' := s1.toks) fun b o e => aee _ e, IE a _, ⟨_, aeG _ rfl, rfl, rfl⟩, fun b hb => ?_, q⟩
 have e : b = s1.heap.objs.size := by simpa using hb
 subst e
 exact I1.yz (adV _) (I1.dR.fresh (adV _))
theorem Tt {l : Expr} {tl : TE} (hl : PE X l tl) : PI X tg l (Zg X.K tl) := by
 intro pins s σ H R I h
 refine eL (hl pins s σ H _ I h) fun v s1 zz => ?_
 obtain ⟨x, H1, I1, r1, q1⟩ := zz
 obtain ⟨a, e, ⟨xs, hq⟩, q⟩ := q1
 subst e
 cases r1
 obtain ⟨its, rv, p, hz⟩ := I1.tuple hq
 refine wpAny_pyIter_tuple (show s1.heap.IsTuple a its.toArray from p) ?_
 refine ⟨s1.heap.objs.size, [s1.heap.objs.size], _, _, H1, rfl, I1.kept (t' := s1.toks) fun b o e => aee _ e, Eo a _, ⟨_, aeG _ rfl, rfl, rfl⟩, fun b hb => ?_, q⟩
 have e : b = s1.heap.objs.size := by simpa using hb
 subst e
 exact I1.yz (adV _) (I1.dR.fresh (adV _))
theorem K2 {pins : List (Addr × Obj)} {σ : St} {H : Hp} {s : Shared} {R : It -> Hp -> Prop} {E : Value -> Shared -> Prop} {lo hi : Int} {t u v : Tok} {tk : Nat} (I : Inv X pins σ H s) (h1 : -(2 ^ 62) <= lo) (h2 : lo < 2 ^ 62) (h3 : -(2 ^ 62) <= hi) (h4 : hi < 2 ^ 62)
   (q : R (Zf lo (hi - lo).toNat) H) : wpAny (model X.prog X.w) X.A (pyIter (.ref s.heap.objs.size)) (PIE X pins σ tg R) E { s with heap := s.heap.push { cls := .type "range", data := .fields #[.int lo t, .int hi u, .int 1 v] }, toks := tk } := by
 refine wpAny_pyIter_range (IsRange.new ..) (small_one h1 h2 h3 h4) ?_
 have I1 : Inv X pins σ H { s with heap := s.heap.push { cls := .type "range", data := .fields #[.int lo t, .int hi u, .int 1 v] }, toks := tk } := I.kept fun b o e => aee _ e
 refine ⟨(s.heap.push { cls := .type "range", data := .fields #[.int lo t, .int hi u, .int 1 v] }).objs.size, [(s.heap.push { cls := .type "range", data := .fields #[.int lo t, .int hi u, .int 1 v] }).objs.size], _, _, H, rfl,
   I1.kept (t' := tk) fun b o e => aee _ e, Ep _ lo (hi - lo).toNat, ?_, fun b hb => ?_, q⟩
 . have e1 : lo + ((0 : Nat) : Int) * 1 = lo := by simp
   have e2 : (((hi - lo).toNat : Nat) : Int) - ((0 : Nat) : Int) = Builtin.Range.rangeSize lo hi 1 := by rw [rangeSize_one]; split <;> omega
   show IsRangeIter _ _ (lo + ((0 : Nat) : Int) * 1) ((((hi - lo).toNat : Nat) : Int) - ((0 : Nat) : Int)) 1
   rw [e1, e2]
   exact aeG _ rfl
 . have e : b = (s.heap.push { cls := .type "range", data := .fields #[.int lo t, .int hi u, .int 1 v] }).objs.size := by simpa using hb
   subst e
   exact I1.yz (adV _) (I1.dR.fresh (adV _))
noncomputable def Wu (ta : TA) : TI := fun σ H R => ta σ H fun vs H1 => ∃ j : Int, vs = [.int j] /\ -(2 ^ 62) <= j /\ j < 2 ^ 62 /\ R (Zf 0 j.toNat) H1
theorem IG {a : Expr} {ta : TA} {p pos : Pos} (hg : Gl X "range") (hm : X.mg "range" = none) (ha : PA X [a] ta) (hs : starEach [a] X.env = [(false, eval a X.env)] := by rfl) : PI X tg (.Call (.Name "range" p) [a] [] pos) (Wu ta) := by
 intro pins s σ H R I h
 refine Call_ (qB I hg hm boot_range (aeR (eL (ha pos pins s σ H _ I h) fun us s1 zz => ?_) hs rfl))
 obtain ⟨vs, H1, I1, r1, q1⟩ := zz
 obtain ⟨j, e, q1, q2, q⟩ := q1
 subst e
 cases r1 with
 | cons r rr =>
   cases rr
   obtain ⟨t, rfl⟩ := r
   exact call_range_1 (K2 I1 (by omega) (by omega) q1 q2 (by simpa using q))
noncomputable def Zh (wi : TI) (g : TG) (tb : TS) : TS := fun D σ H => wi σ H fun J H1 => ∃ W : Nat -> Nat -> St -> Hp -> Prop, (∃ m, W 0 m σ H1) /\ ∀ i m σ H, W i m σ H →
 (J.stop i H /\ D.nx σ H) \/ (J.go i H /\ ∃ N : St -> Hp -> Prop, (∀ σ' H', N σ' H' -> ∃ m', m' < m /\ W (i + 1) m' σ' H') /\ ∀ x H', J.RV i H x H' -> g x σ H' fun σ2 H2 => tb { D with nx := N, ct := N, bk := D.nx } σ2 H2)
noncomputable def wA (fp : List Addr) (h : Heap) : List (Addr × Obj) := fp.filterMap fun b => (h.get? b).map fun o => (b, o)
theorem lW {fp : List Addr} {h : Heap} {b : Addr} {o : Obj} (hb : b ∈ fp) (e : h.get? b = some o) : (b, o) ∈ wA fp h := List.mem_filterMap.mpr ⟨b, hb, by rw [e]; rfl⟩
theorem II {fp : List Addr} {h : Heap} {p : Addr × Obj} (hp : p ∈ wA fp h) : p.1 ∈ fp /\ h.get? p.1 = some p.2 := by
 obtain ⟨b, hb, e⟩ := List.mem_filterMap.mp hp
 cases q : h.get? b with
 | none => rw [q] at e; cases e
 | some o =>
   rw [q] at e
   have e' : (b, o) = p := aeb e
   subst e'
   exact ⟨hb, q⟩
theorem Inv.pinned {pins : List (Addr × Obj)} {σ : St} {H : Hp} {s : Shared} {fp : List Addr} (I : Inv X pins σ H s) (hf : ∀ b ∈ fp, vp X pins H b) (ho : ∀ b ∈ fp, ∃ o, s.heap.get? b = some o /\ ∀ v, o.data ≠ .cell v) : Inv X (pins ++ wA fp s.heap) σ H s :=
 I.vJ fun p hp => (adZ.mp hp).elim (fun z => I.pin p (adP _ z)) fun z => by
   obtain ⟨hb, e⟩ := II z
   obtain ⟨f0, f1, f2, _⟩ := hf p.1 hb
   obtain ⟨o, e', d⟩ := ho p.1 hb
   rw [e] at e'; cases e'
   exact ⟨e, f0, f1, f2, d⟩
theorem Inv.rQ {pins pl : List (Addr × Obj)} {σ : St} {H : Hp} {s : Shared} (I : Inv X (pins ++ pl) σ H s) : Inv X pins σ H s := I.vJ fun p hp => I.pin p (adP _ (ad2 _ hp))
theorem K3 {iter : Expr} {body : List Stmt} {wi : TI} {g : TG} {tb : TS} {pos : Pos} (hp : PassesOwn (model X.prog X.w) X.A X.env X.xe) (hc : X.calm = true) (hi : PI X tg iter wi) (hg : PG X tg g) (hb : G9 X body tb)
   (hs : ∀ x, foldedSetIterable iter X.env x = pure x := by intro _; rfl) : PS X (.For tg iter body [] pos) (Zh wi g tb) := by
 intro pins s σ H D I h
 refine wpAny_For (eL (hi pins s σ H _ I h) fun v s1 h1 => eL h1 fun Yo s2 h2 => ?_) hs
 obtain ⟨it, fp, tn, J, H2, e, I2, T, st2, f2, W, ⟨m0, w0⟩, turn⟩ := h2
 subst e
 have stat : ∀ {H' : Hp}, (∀ b ∈ fp, H' b = none) -> ∀ b ∈ fp, vp X pins H' b := fun hn b hb => ⟨hn b hb, (f2 b hb).2⟩
 refine codeAny_forLoop_any (fun n s' => ∃ i σ' H', Inv X pins σ' H' s' /\ tn i s'.heap /\ (∀ b ∈ fp, H' b = none) /\ W i n σ' H') ?_ m0 ⟨0, σ, H2, I2, st2, fun b hb => (f2 b hb).1, w0⟩
 rintro n s3 ⟨i, σ3, H3, I3, Wv, Yp, w3⟩
 rcases turn i n σ3 H3 w3 with ⟨stop, qn⟩ | ⟨go, N, hN, step⟩
 . refine aeZ hp (eL (T.done X rfl rfl rfl hc i pins s3 σ3 H3 X.xe I3 (stat Yp) Wv stop) fun r s4 zz => ?_)
   obtain ⟨hr, I4⟩ := zz
   subst hr
   exact wpAny_execs_nil ⟨σ3, H3, I4, qn⟩
 . refine aeZ hp (eL (T.item X rfl rfl rfl hc i pins s3 σ3 H3 X.xe I3 (stat Yp) Wv go) fun r s4 zz => ?_)
   obtain ⟨u, hr, h4⟩ := zz
   subst hr
   refine aeZ hp (eL h4 fun _ s5 zz => ?_)
   obtain ⟨x, H5, I5, r5, y5, VZ, Yq⟩ := zz
   have I5' := I5.pinned (stat Yq) (T.obj _ _ VZ)
   refine aeZ hp (eL (hg _ s5 σ3 H5 x u _ I5' r5 (step x H5 y5)) fun _ s6 zz => ?_)
   obtain ⟨σ6, H6, I6, q6⟩ := zz
   refine aeZ hp (eL (hb _ s6 σ6 H6 _ I6 q6) fun f s7 q7 => ?_)
   have again : ∀ {σ7 : St} {H7 : Hp}, Inv X (pins ++ wA fp s5.heap) σ7 H7 s7 -> N σ7 H7 -> ∃ m, m < n /\ ∃ i σ' H', Inv X pins σ' H' s7 /\ tn i s7.heap /\ (∀ b ∈ fp, H' b = none) /\ W i m σ' H' := fun {σ7 H7} I7 n7 => by
     obtain ⟨m', hm, w7⟩ := hN σ7 H7 n7
     refine ⟨m', hm, i + 1, σ7, H7, I7.rQ, T.keep _ _ _ VZ fun b hb o e => (I7.pin (b, o) (adP _ (adP _ (lW hb e)))).1, fun b hb => ?_, w7⟩
     obtain ⟨o, e, d⟩ := T.obj _ _ VZ b hb
     exact (I7.pin (b, o) (adP _ (adP _ (lW hb e)))).2.1
   cases f with
   | next => obtain ⟨σ7, H7, I7, n7⟩ := q7; exact again I7 n7
   | cont => obtain ⟨σ7, H7, I7, n7⟩ := q7; exact again I7 n7
   | brk => obtain ⟨σ7, H7, I7, q7⟩ := q7; exact ⟨σ7, H7, I7.rQ, q7⟩
   | ret v => obtain ⟨x7, σ7, H7, I7, r7, q7⟩ := q7; exact ⟨x7, σ7, H7, I7.rQ, r7, q7⟩
end
noncomputable abbrev R2 := V -> V -> Hp -> VK -> Prop
noncomputable def tN (X : Cx) (f : Value -> Value -> Sem Value) (r : R2) : Prop :=
 ∀ (pins : List (Addr × Obj)) (s : Shared) (σ : St) (H : Hp) (x y : V) (v u : Value) (Q : VK), Inv X pins σ H s -> RelV x v -> RelV y u -> r x y H Q →
   wpAny (model X.prog X.w) X.A (f v u) (EP X pins σ Q) X.xe s
noncomputable def Zi (X : Cx) (f : Value -> Sem Value) (r : V -> Hp -> VK -> Prop) : Prop :=
 ∀ (pins : List (Addr × Obj)) (s : Shared) (σ : St) (H : Hp) (x : V) (v : Value) (Q : VK), Inv X pins σ H s -> RelV x v -> r x H Q →
   wpAny (model X.prog X.w) X.A (f v) (EP X pins σ Q) X.xe s
noncomputable def rR (X : Cx) (f : Value) (r : List V -> Hp -> VK -> Prop) : Prop :=
 ∀ (pins : List (Addr × Obj)) (s : Shared) (σ : St) (H : Hp) (xs : List V) (us : List Value) (Q : VK), Inv X pins σ H s -> Vals xs us -> r xs H Q →
   wpAny (model X.prog X.w) X.A (call f us) (EP X pins σ Q) X.xe s
noncomputable def Zj (X : Cx) (r : V -> Hp -> (Bool -> Hp -> Prop) -> Prop) : Prop :=
 ∀ (pins : List (Addr × Obj)) (s : Shared) (σ : St) (H : Hp) (x : V) (v : Value) (Q : Bool -> Hp -> Prop), Inv X pins σ H s -> RelV x v -> r x H Q →
   wpAny (model X.prog X.w) X.A (truthy v) (TP X pins σ Q) X.xe s
noncomputable def Yr (r : R2) (ta tb : TE) : TE := fun σ H Q => ta σ H fun x H1 => tb σ H1 fun y H2 => r x y H2 Q
noncomputable def tUn (r : V -> Hp -> VK -> Prop) (ta : TE) : TE := fun σ H Q => ta σ H fun x H1 => r x H1 Q
noncomputable def rI (C : Int -> Int -> Prop) (g : Int -> Int -> V) : R2 := fun x y H Q => ∃ i j, x = .int i /\ y = .int j /\ C i j /\ Q (g i j) H
noncomputable def V0 (g : Int -> Int -> V) : R2 := fun x y H Q => ∃ i j, x = .int i /\ y = .int j /\ Q (g i j) H
noncomputable def rU (g : Int -> V) : V -> Hp -> VK -> Prop := fun x H Q => ∃ i, x = .int i /\ Q (g i) H
section
variable {X : Cx} {a b c : Expr} {ta tb tc : TE} {pos : Pos}
theorem Tv (ha : PE X a ta) (hb : PE X b tb) {pins : List (Addr × Obj)} {s : Shared} {σ : St} {H : Hp} {R : V -> V -> Hp -> Prop} (I : Inv X pins σ H s)
   (h : ta σ H fun x H1 => tb σ H1 fun y H2 => R x y H2) {Q : Value -> Shared -> Prop} {f : Value -> Value -> Sem Value}
   (hf : ∀ v u s2 x y H2, Inv X pins σ H2 s2 -> RelV x v -> RelV y u -> R x y H2 -> wpAny (model X.prog X.w) X.A (f v u) Q X.xe s2) :
   wpAny (model X.prog X.w) X.A (eval a X.env) (fun v s₁ => wpAny (model X.prog X.w) X.A (eval b X.env) (fun u s₂ => wpAny (model X.prog X.w) X.A (f v u) Q X.xe s₂) X.xe s₁) X.xe s := by
 refine eL (ha pins s σ H _ I h) fun v s1 zz => ?_
 obtain ⟨x, H1, I1, r1, q1⟩ := zz
 refine eL (hb pins s1 σ H1 _ I1 q1) fun u s2 zz => ?_
 obtain ⟨y, H2, I2, r2, q2⟩ := zz
 exact hf v u s2 x y H2 I2 r1 r2 q2
theorem Hg {op : Operator} {r : R2} (ho : tN X (binaryOp op) r) (ha : PE X a ta) (hb : PE X b tb) : PE X (.BinOp a op b pos) (Yr r ta tb) := by
 intro pins s σ H Q I h
 exact wpAny_BinOp (Tv ha hb I h fun v u s2 x y H2 I2 rx ry q => ho pins s2 σ H2 x y v u Q I2 rx ry q)
theorem Ww {op : UnaryOp} {r : V -> Hp -> VK -> Prop} (ho : Zi X (unaryOp op) r) (ha : PE X a ta) : PE X (.UnaryOp op a pos) (tUn r ta) := by
 intro pins s σ H Q I h
 exact UnaryOp_ (eL (ha pins s σ H _ I h) fun v s1 ⟨x, H1, I1, r1, q1⟩ => ho pins s1 σ H1 x v Q I1 r1 q1)
theorem Ys {f : Value -> Value -> Sem Value} {C : Int -> Int -> Prop} {g : Int -> Int -> Int}
   (rule : ∀ (i j : Int) (t u : Tok) (s : Shared) (Q : Value -> Shared -> Prop) (E : Value -> Shared -> Prop), C i j -> Q (.int (g i j) s.toks) { s with toks := s.toks + 1 } -> wpAny (model X.prog X.w) X.A (f (.int i t) (.int j u)) Q E s) :
   tN X f (rI C fun i j => .int (g i j)) := by
 intro pins s σ H x y v u Q I rx ry h
 obtain ⟨i, j, rfl, rfl, hc, q⟩ := h
 obtain ⟨t, rfl⟩ := rx
 obtain ⟨t', rfl⟩ := ry
 exact rule i j t t' s _ _ hc ⟨.int (g i j), H, I.tok _, ⟨_, rfl⟩, q⟩
theorem Wx {f : Value -> Value -> Sem Value} {g : Int -> Int -> Int}
   (rule : ∀ (i j : Int) (t u : Tok) (s : Shared) (Q : Value -> Shared -> Prop) (E : Value -> Shared -> Prop), Q (.int (g i j) s.toks) { s with toks := s.toks + 1 } -> wpAny (model X.prog X.w) X.A (f (.int i t) (.int j u)) Q E s) :
   tN X f (V0 fun i j => .int (g i j)) := by
 intro pins s σ H x y v u Q I rx ry h
 obtain ⟨i, j, rfl, rfl, q⟩ := h
 obtain ⟨t, rfl⟩ := rx
 obtain ⟨t', rfl⟩ := ry
 exact rule i j t t' s _ _ ⟨.int (g i j), H, I.tok _, ⟨_, rfl⟩, q⟩
theorem Wy {f : Value -> Value -> Sem Value} {g : Int -> Int -> Bool}
   (rule : ∀ (i j : Int) (t u : Tok) (s : Shared) (Q : Value -> Shared -> Prop) (E : Value -> Shared -> Prop), Q (.bool (g i j)) s -> wpAny (model X.prog X.w) X.A (f (.int i t) (.int j u)) Q E s) :
   tN X f (V0 fun i j => .bl (g i j)) := by
 intro pins s σ H x y v u Q I rx ry h
 obtain ⟨i, j, rfl, rfl, q⟩ := h
 obtain ⟨t, rfl⟩ := rx
 obtain ⟨t', rfl⟩ := ry
 exact rule i j t t' s _ _ ⟨.bl (g i j), H, I, rfl, q⟩
noncomputable def Wz (i j : Int) : Prop := 0 < j /\ j < 1073741824
noncomputable def WB (i j : Int) : Prop := 0 <= j /\ j <= 1000000 /\ i.natAbs < 2 ^ 64
noncomputable def O9 (i j : Int) : Prop := (-(2 ^ 64) < i /\ i < 2 ^ 64) \/ (-(2 ^ 64) < j /\ j < 2 ^ 64)
theorem O9.ok {i j : Int} (h : O9 i j) : IntMulOk i j := by
 rcases h with ⟨h1, h2⟩ | ⟨h1, h2⟩
 . exact .of_left (intBits_le_64 h1 h2)
 . exact .of_right (intBits_le_64 h1 h2)
theorem Tw : tN X (binaryOp .Add) (V0 fun i j => .int (i + j)) := Wx fun _ _ _ _ _ _ _ q => add_int q
theorem Tz : tN X (binaryOp .Sub) (V0 fun i j => .int (i - j)) := Wx fun _ _ _ _ _ _ _ q => sub_int q
theorem TF : tN X (binaryOp .Mult) (rI O9 fun i j => .int (i * j)) := Ys fun _ _ _ _ _ _ _ hc q => mul_int q hc.ok
theorem Pa : tN X (binaryOp .FloorDiv) (rI Wz fun i j => .int (i / j)) := Ys fun i j _ _ _ _ _ hc q => by
 have h1 : (0 : Int) < j := hc.1
 have h2 : j < 1073741824 := hc.2
 exact floordiv_int (by omega) (by rw [Int.fdiv_eq_ediv_of_nonneg i (by omega)]; exact q) (.inl (PyProof.noPylong_small (by omega)))
theorem TH : tN X (binaryOp .Mod) (rI (fun _ j => 0 < j) fun i j => .int (i % j)) := Ys fun i j _ _ _ _ _ hc q => by
 have h1 : (0 : Int) < j := hc
 exact mod_int' (by omega) (by rw [Int.fmod_eq_emod_of_nonneg i (by omega)]; exact q)
theorem TJ : tN X (binaryOp .Pow) (rI WB fun i j => .int (i ^ j.toNat)) := Ys fun _ _ _ _ _ _ _ hc q => pow_int_small hc.1 hc.2.1 hc.2.2 q
theorem unI {f : Value -> Sem Value} {g : Int -> Int}
   (rule : ∀ (i : Int) (t : Tok) (s : Shared) (Q : Value -> Shared -> Prop) (E : Value -> Shared -> Prop), Q (.int (g i) s.toks) { s with toks := s.toks + 1 } -> wpAny (model X.prog X.w) X.A (f (.int i t)) Q E s) :
   Zi X f (rU fun i => .int (g i)) := by
 intro pins s σ H x v Q I rx h
 obtain ⟨i, rfl, q⟩ := h
 obtain ⟨t, rfl⟩ := rx
 exact rule i t s _ _ ⟨.int (g i), H, I.tok _, ⟨_, rfl⟩, q⟩
theorem TL : Zi X (unaryOp .USub) (rU fun i => .int (-i)) := unI fun _ _ _ _ _ q => neg_int q
end
noncomputable def WC : V -> V -> Bool
 | .non, .non => true | .non, .int _ => true | .int _, .non => true | .non, .bl _ => true | .bl _, .non => true | .non, .str _ => true | .str _, .non => true
 | .int _, .int _ => true | .bl _, .bl _ => true | .str _, .str _ => true | .G6 _, .G6 _ => true
 | .int _, .str _ => true | .str _, .int _ => true | .bl _, .str _ => true | .str _, .bl _ => true
 | _, _ => false
noncomputable def rEq : R2 := fun x y H Q => WC x y = true /\ Q (.bl (decide (x = y))) H
noncomputable def rNe : R2 := fun x y H Q => WC x y = true /\ Q (.bl (!decide (x = y))) H
theorem Hh {i j : Int} : decide (V.int i = V.int j) = (i == j) := by
 rw [Bool.eq_iff_iff]
 simp
theorem K4 {i j : Bool} : decide (V.bl i = V.bl j) = (i == j) := by
 rw [Bool.eq_iff_iff]
 simp
theorem Hi {i j : Str} : decide (V.str i = V.str j) = (i == j) := by
 rw [Bool.eq_iff_iff]
 simp
theorem Hj {i j : Array UInt8} : decide (V.G6 i = V.G6 j) = (i.toList == j.toList) := by
 rw [Bool.eq_iff_iff]
 cases i
 cases j
 simp
section
variable {X : Cx} {a b c : Expr} {ta tb tc : TE} {pos : Pos}
theorem bV {pins : List (Addr × Obj)} {σ : St} {H : Hp} {s : Shared} {Q : VK} {k k' : Bool} (I : Inv X pins σ H s) (q : Q (.bl k) H) (e : k = k') : EP X pins σ Q (.bool k') s := by
 subst e
 exact ⟨.bl k, H, I, rfl, q⟩
theorem RW : tN X (compareOp .Eq) rEq := by
 intro pins s σ H x y v u Q I rx ry h
 obtain ⟨hs, q⟩ := h
 cases x with
 | non =>
   cases rx
   cases y with
   | non => cases ry; exact PySem.EqNone.eq_none_none (bV I q (by simp))
   | bl j => cases ry; exact PySem.EqNone.eq_none_bool (bV I q (by simp))
   | int j => obtain ⟨t', rfl⟩ := ry; exact PySem.EqNone.eq_none_int (bV I q (by simp))
   | str j => obtain ⟨t', rfl⟩ := ry; exact PySem.EqNone.eq_none_str (bV I q (by simp))
   | _ => exact absurd (show false = true from hs) ad5
 | bl i =>
   cases rx
   cases y with
   | non => cases ry; exact PySem.EqNone.eq_bool_none (bV I q (by simp))
   | bl j => cases ry; exact eq_bool (bV I q K4)
   | str j => obtain ⟨t', rfl⟩ := ry; exact PySem.EqMixed.eq_bool_str (bV I q (by simp))
   | _ => exact absurd (show false = true from hs) ad5
 | int i =>
   obtain ⟨t, rfl⟩ := rx
   cases y with
   | non => cases ry; exact PySem.EqNone.eq_int_none (bV I q (by simp))
   | int j => obtain ⟨t', rfl⟩ := ry; exact eq_int (bV I q Hh)
   | str j => obtain ⟨t', rfl⟩ := ry; exact PySem.EqMixed.eq_int_str (bV I q (by simp))
   | _ => exact absurd (show false = true from hs) ad5
 | str i =>
   obtain ⟨t, rfl⟩ := rx
   cases y with
   | non => cases ry; exact PySem.EqNone.eq_str_none (bV I q (by simp))
   | bl j => cases ry; exact PySem.EqMixed.eq_str_bool (bV I q (by simp))
   | int j => obtain ⟨t', rfl⟩ := ry; exact PySem.EqMixed.eq_str_int (bV I q (by simp))
   | str j => obtain ⟨t', rfl⟩ := ry; exact eq_str (bV I q Hi)
   | _ => exact absurd (show false = true from hs) ad5
 | G6 i =>
   obtain ⟨t, rfl⟩ := rx
   cases y with
   | G6 j => obtain ⟨t', rfl⟩ := ry; exact PySem.W.eq_bytes (bV I q Hj)
   | _ => exact absurd (show false = true from hs) ad5
 | _ => cases y <;> exact absurd (show false = true from hs) ad5
theorem K5 : tN X (compareOp .NotEq) rNe := by
 intro pins s σ H x y v u Q I rx ry h
 obtain ⟨hs, q⟩ := h
 cases x with
 | non =>
   cases rx
   cases y with
   | non => cases ry; exact PySem.EqNone.ne_none_none (bV I q (by simp))
   | bl j => cases ry; exact PySem.EqNone.ne_none_bool (bV I q (by simp))
   | int j => obtain ⟨t', rfl⟩ := ry; exact PySem.EqNone.ne_none_int (bV I q (by simp))
   | str j => obtain ⟨t', rfl⟩ := ry; exact PySem.EqNone.ne_none_str (bV I q (by simp))
   | _ => exact absurd (show false = true from hs) ad5
 | bl i =>
   cases rx
   cases y with
   | non => cases ry; exact PySem.EqNone.ne_bool_none (bV I q (by simp))
   | bl j => cases ry; exact ne_bool (bV I q (congrArg not K4))
   | str j => obtain ⟨t', rfl⟩ := ry; exact PySem.EqMixed.ne_bool_str (bV I q (by simp))
   | _ => exact absurd (show false = true from hs) ad5
 | int i =>
   obtain ⟨t, rfl⟩ := rx
   cases y with
   | non => cases ry; exact PySem.EqNone.ne_int_none (bV I q (by simp))
   | int j => obtain ⟨t', rfl⟩ := ry; exact ne_int (bV I q (congrArg not Hh))
   | str j => obtain ⟨t', rfl⟩ := ry; exact PySem.EqMixed.ne_int_str (bV I q (by simp))
   | _ => exact absurd (show false = true from hs) ad5
 | str i =>
   obtain ⟨t, rfl⟩ := rx
   cases y with
   | non => cases ry; exact PySem.EqNone.ne_str_none (bV I q (by simp))
   | bl j => cases ry; exact PySem.EqMixed.ne_str_bool (bV I q (by simp))
   | int j => obtain ⟨t', rfl⟩ := ry; exact PySem.EqMixed.ne_str_int (bV I q (by simp))
   | str j => obtain ⟨t', rfl⟩ := ry; exact ne_str (bV I q (congrArg not Hi))
   | _ => exact absurd (show false = true from hs) ad5
 | G6 i =>
   obtain ⟨t, rfl⟩ := rx
   cases y with
   | G6 j => obtain ⟨t', rfl⟩ := ry; exact PySem.W.ne_bytes (bV I q (congrArg not Hj))
   | _ => exact absurd (show false = true from hs) ad5
 | _ => cases y <;> exact absurd (show false = true from hs) ad5
theorem WD : tN X (compareOp .Lt) (V0 fun i j => .bl (decide (i < j))) := Wy fun _ _ _ _ _ _ _ q => lt_int q
theorem WG : tN X (compareOp .Gt) (V0 fun i j => .bl (decide (j < i))) := Wy fun _ _ _ _ _ _ _ q => gt_int q
theorem nK (b : Expr) {op : CmpOp} (h : op ≠ .In := by decide) (h2 : op ≠ .NotIn := by decide) : behindInMarks op b = false := by
 have e1 : (op == CmpOp.In) = false := by cases op <;> first | rfl | exact absurd rfl h
 have e2 : (op == CmpOp.NotIn) = false := by cases op <;> first | rfl | exact absurd rfl h2
 cases b <;> simp [behindInMarks, e1, e2]
theorem vK {op : CmpOp} {r : R2} (ho : tN X (compareOp op) r) (ha : PE X a ta) (hb : PE X b tb) (hm : behindInMarks op b = false) : PE X (.Compare a [op] [b] pos) (Yr r ta tb) := by
 intro pins s σ H Q I h
 exact wpAny_Compare1 (Tv ha hb I h fun v u s2 x y H2 I2 rx ry q => ho pins s2 σ H2 x y v u Q I2 rx ry q) hm
noncomputable def WH (t : TE) : TT := fun σ H Q => t σ H fun x H' => ∃ k, x = .bl k /\ Q k H'
theorem vN {op : CmpOp} {r : R2} (ho : tN X (compareOp op) r) (ha : PE X a ta) (hb : PE X b tb) (hm : behindInMarks op b = false) : PT X (.Compare a [op] [b] pos) (WH (Yr r ta tb)) := by
 intro pins s σ H Q I h
 refine wpAny_isTrue_Compare1 (eL (ha pins s σ H _ I h) fun v s1 ⟨x, H1, I1, r1, q1⟩ => eL (hb pins s1 σ H1 _ I1 q1) fun u s2 ⟨y, H2, I2, r2, q2⟩ =>
   eL (ho pins s2 σ H2 x y v u _ I2 r1 r2 q2) fun c s3 ⟨z, H3, I3, r3, k, e, q3⟩ => ?_) hm
 subst e
 cases r3
 exact afb ⟨H3, I3, q3⟩
noncomputable def WK (K : PySem.W.Frag) (x : V) (H : Hp) (k : Bool) : Prop :=
 match x with
 | .non => k = false
 | .bl b => k = b
 | .int i => k = (i != 0)
 | .str y => y.length <= sizeLine /\ k = ((y.length : Int) != 0)
 | .G6 y => y.size <= sizeLine /\ k = ((y.size : Int) != 0)
 | .ref p => (∃ xs, jY K H p xs /\ k = !xs.isEmpty) \/ (∃ xs, rM K H p xs /\ k = !xs.isEmpty) \/ ∃ i7, H p = some (.dK i7) /\ k = !i7.isEmpty
 | _ => False
theorem Er {κ : Type} {i7 : List (κ × V)} {vs : List (κ × Value)} (r : KV i7 vs) : (!vs.isEmpty) = !i7.isEmpty := by
 cases r <;> rfl
theorem wB {xs : List V} {its : List Value} (r : Vals xs its) : (!its.toArray.isEmpty) = !xs.isEmpty := by
 cases r <;> simp
theorem tO : (sizeLine : Nat) < 2 ^ 63 := by rw [aek]; decide
theorem TN : Zj X (fun x H Q => ∃ k, WK X.K x H k /\ Q k H) := by
 intro pins s σ H x v Q I rx h
 obtain ⟨k, e, q⟩ := h
 have hl := tO
 have hs : sizeLine = 16777216 := aek
 cases x with
 | non =>
   cases rx
   have e' : k = false := e
   subst e'
   exact truthy_none ⟨H, I, q⟩
 | bl b =>
   cases rx
   have e' : k = b := e
   subst e'
   exact afb ⟨H, I, q⟩
 | int i =>
   obtain ⟨t, rfl⟩ := rx
   have e' : k = (i != 0) := e
   subst e'
   exact PySem.P.truthy_int ⟨H, I, q⟩
 | str y =>
   obtain ⟨t, rfl⟩ := rx
   obtain ⟨hy, e'⟩ : y.length <= sizeLine /\ k = ((y.length : Int) != 0) := e
   subst e'
   exact PySem.P.truthy_str (by omega) ⟨H, I.tok _, q⟩
 | G6 y =>
   obtain ⟨t, rfl⟩ := rx
   obtain ⟨hy, e'⟩ : y.size <= sizeLine /\ k = ((y.size : Int) != 0) := e
   subst e'
   exact PySem.W.truthy_bytes (by omega) ⟨H, I.tok _, q⟩
 | ref p =>
   cases rx
   have e' : (∃ xs, jY X.K H p xs /\ k = !xs.isEmpty) \/ (∃ xs, rM X.K H p xs /\ k = !xs.isEmpty) \/ ∃ i7, H p = some (.dK i7) /\ k = !i7.isEmpty := e
   rcases e' with ⟨xs, hx, e'⟩ | ⟨xs, hx, e'⟩ | ⟨i7, hx, e'⟩
   . subst e'
     obtain ⟨its, r, pl, hz⟩ := I.list hx
     have hlen := r.length
     exact wpAny_truthy_list pl.isList (by simp only [aeh]; omega) ⟨H, I.tok _, by rw [wB r]; exact q⟩
   . subst e'
     obtain ⟨its, r, pl, hz⟩ := I.tuple hx
     have hlen := r.length
     exact truthy_tuple pl (by simp only [aeh]; omega) ⟨H, I.tok _, by rw [wB r]; exact q⟩
   . subst e'
     obtain ⟨hz, hS, vs, r, m⟩ : i7.length <= sizeLine /\ (p == sysModules) = false /\ ∃ vs, KV i7 vs /\ s.heap.DictOf (zO X.prog X.w) p vs := I.dR p _ hx
     have hlen : i7.length = vs.length := Paired.length r
     exact wpAny_truthy_dict hS m (by omega) ⟨H, I.tok _, by rw [Er r]; exact q⟩
 | _ => exact (show False from e).elim
theorem K6 (ha : PE X a ta) (he : ∀ whole, isTrue a X.env whole = (do let v ← whole; standAt a.pos; holding [v] (truthy v))) :
   PT X a (fun σ H Q => ta σ H fun x H' => ∃ k, WK X.K x H' k /\ Q k H') := by
 intro pins s σ H Q I h
 exact isTrue_plain (eL (ha pins s σ H _ I h) fun v s1 ⟨x, H1, I1, r1, q1⟩ => TN pins s1 σ H1 x v Q I1 r1 q1) (he _)
theorem Es : tN X (binaryOp .Add) (fun x y H Q => ∃ i j, x = .str i /\ y = .str j /\ i.length + j.length <= sizeLine /\ Q (.str (i ++ j)) H) := by
 intro pins s σ H x y v u Q I rx ry h
 obtain ⟨i, j, rfl, rfl, hz, q⟩ := h
 obtain ⟨t, rfl⟩ := rx
 obtain ⟨t', rfl⟩ := ry
 exact add_str (fun t' tk => ⟨.str (i ++ j), H, I.tok _, ⟨_, rfl⟩, q⟩) hz
theorem vals1 {x : V} {us : List Value} (r : Vals [x] us) : ∃ u, us = [u] /\ RelV x u := by
 cases r with
 | cons r1 r2 => cases r2; exact ⟨_, rfl, r1⟩
theorem vals2 {x y : V} {us : List Value} (r : Vals [x, y] us) : ∃ u w', us = [u, w'] /\ RelV x u /\ RelV y w' := by
 cases r with
 | cons r1 r2 =>
   cases r2 with
   | cons r3 r4 => cases r4; exact ⟨_, _, rfl, r1, r3⟩
theorem K7 : rR X (.builtin "abs") (fun xs H Q => ∃ i, xs = [.int i] /\ Q (.int (if i < 0 then -i else i)) H) := by
 intro pins s σ H xs us Q I r h
 obtain ⟨i, rfl, q⟩ := h
 obtain ⟨u, rfl, t, rfl⟩ := vals1 r
 exact call_abs_int fun u tk => ⟨.int (if i < 0 then -i else i), H, I.tok _, ⟨_, rfl⟩, q⟩
theorem IJ (hc : X.calm = true) : rR X (.builtin "min") (fun xs H Q => ∃ i j, xs = [.int i, .int j] /\ Q (.int (if j < i then j else i)) H) := by
 intro pins s σ H xs us Q I r h
 obtain ⟨i, j, rfl, q⟩ := h
 obtain ⟨u, w', rfl, ⟨t, rfl⟩, ⟨t', rfl⟩⟩ := vals2 r
 refine min_two_ints (I.ok.hd hc) fun h' tk k => ⟨_, H, I.kept k, ?_, q⟩
 by_cases hj : j < i
 . rw [ad0 hj, ad0 hj]; exact ⟨_, rfl⟩
 . rw [adT hj, adT hj]; exact ⟨_, rfl⟩
theorem IK : rR X (.type "int") (fun xs H Q => (∃ i, xs = [.int i] /\ Q (.int i) H) \/ ∃ k, xs = [.bl k] /\ Q (.int (if k then 1 else 0)) H) := by
 intro pins s σ H xs us Q I r h
 rcases h with ⟨i, rfl, q⟩ | ⟨k, rfl, q⟩
 . obtain ⟨u, rfl, t, rfl⟩ := vals1 r
   exact call_int_int ⟨.int i, H, I, ⟨_, rfl⟩, q⟩
 . obtain ⟨u, rfl, r1⟩ := vals1 r
   cases r1
   exact call_int_bool ⟨.int (if k then 1 else 0), H, I.tok _, ⟨_, rfl⟩, q⟩
theorem zX : rR X (.type "str") (fun xs H Q => ∃ i, xs = [.int i] /\ i.natAbs.log2 < 1920 /\ Q (.str (toString i)) H) := by
 intro pins s σ H xs us Q I r h
 obtain ⟨i, rfl, hz, q⟩ := h
 obtain ⟨u, rfl, t, rfl⟩ := vals1 r
 exact PySem.P.str_of_int hz ⟨.str _, H, I.tok _, ⟨_, rfl⟩, q⟩
end
structure IL (h : Heap) (x dx C : Addr) (mA : Str -> Option Value) : Prop where
 obj : h.get? x = some (PySem.W.instObj C dx)
 ns : h.Ns1 dx mA
 ne : dx ≠ x
theorem IQ {h : Heap} {dx : Addr} {mA : Str -> Option Value} (n : h.Ns1 dx mA) : ∃ od, h.get? dx = some od /\ ∀ name, PySem.W.lookIn name od = some (mA name) := by
 obtain ⟨o, es, ep, ho, hd, hk, _, hm⟩ := n
 refine ⟨o, ho, fun name => ?_⟩
 have e := hm name
 unfold nsFind findBy at e
 rw [← Array.find?_toList] at e
 unfold PySem.W.lookIn
 rw [hd]
 dsimp only
 split
 . rename_i y q
   rw [q] at e
   exact congrArg some e
 . rename_i q
   rw [q] at e
   have a : es.toList.any (·.refKey) = false := by
     rw [List.any_eq_false]
     intro y hy
     obtain ⟨z, t, Zk⟩ := hk y (Array.mem_toList_iff.mp hy)
     simp [DictEntry.refKey, Zk]
   have a' : ¬ es.toList.any (·.refKey) = true := by rw [a]; exact ad5
   rw [adT a']
   exact congrArg some e
theorem IL.look {h : Heap} {x dx C : Addr} {mA : Str -> Option Value} (I : IL h x dx C mA) : ∃ od, PySem.W.InstAt h x (PySem.W.instObj C dx) C (some od) /\ ∀ name, PySem.W.lookIn name od = some (mA name) :=
 let ⟨od, ho, hl⟩ := IQ I.ns
 ⟨od, ⟨I.obj, rfl, rfl, ho⟩, hl⟩
section
variable {prog : Program} {w : World} {A : Around} {E : Value -> Shared -> Prop} {s : Shared} {K : PySem.W.Frag} {x dx C f : Addr} {mA : Str -> Option Value} {name : Str} {v : Value}
theorem get_map {expr : Bool} {Q : Value -> Shared -> Prop} (X : K.In s.heap) (I : IL s.heap x dx C mA) (hg : PySem.W.plainGet K C name = true) (hh : PySem.W.hasDictIn K C = true)
   (ha : PySem.W.findIn K (.ref C) name = some none) (hv : mA name = some v) (hv' : PySem.W.handedIn v = true) (h : Q v { s with toks := s.toks + 1 }) :
   wpAny (model prog w) A (getAttr (.ref x) name expr) Q E s := by
 obtain ⟨od, J, hl⟩ := I.look
 exact PySem.W.get_value X J (PySem.W.plainGet_of hg).1 (PySem.W.findObj_own hh ha rfl (by rw [hl, hv])) hv' h
theorem Pb {ns : List Str} {Q : Unit -> Shared -> Prop} (X : K.In s.heap) (I : IL s.heap x dx C mA)
   (hs : PySem.W.findIn K (.ref C) "__setattr__" = some (some (.builtin "object.__setattr__"))) (hp : PySem.W.plainOver K C = true) (ht : PySem.W.takerIn K C name = some none) (hh : PySem.W.hasDictIn K C = true)
   (hw : PySem.Within mA ns) (K8 : ns.length <= sizeLine)
   (h : ∀ h', IL h' x dx C (fun y => if y = name then some v else mA y) -> Heap.SameBut dx s.heap h' -> Q () { s with heap := h', toks := s.toks + 2 }) :
   wpAny (model prog w) A (setAttr (.ref x) name v) Q E s := by
 obtain ⟨od, J, hl⟩ := I.look
 refine PySem.W.set_plain X J hs (PySem.W.osa_open (s := { s with toks := s.toks + 1 }) (r := none) X J hp ht fun b => ?_)
 obtain ⟨cd, hc, SQ⟩ := PySem.W.any_some hh
 have hx : s.heap.get? x = some ⟨.ref C, some dx, .plain, #[]⟩ := I.obj
 refine aea (aer (aea (aea (wpAny_loadPart hx (aea (PySem.W.Looks.here (s := { s with toks := s.toks + 1 }) (PySem.W.looks_clsIn X hc) ?_))))))
 rw [SQ]
 refine aer (a := some dx) (aea (aer (aea ?_)))
 refine wpAny_nsSet1 (s := { s with toks := s.toks + 1 }) I.ns fun h' Yt tP => ?_
 obtain ⟨oD, esD, epD, hoD, hdD, hcD⟩ := Yt.count (PySem.Within.cons name v hw)
 refine aea (wpAny_lookBehind hoD (by rw [hdD]; exact pastItsLine_dict (aeA hcD (by rw [aeo]; omega))) ?_)
 exact aer (h _ ⟨(tP.2 _ (aeW I.ne)).trans I.obj, Yt, I.ne⟩ tP)
theorem K9 {R : Result -> Shared -> Prop} {vs : List Value} {kw : List (Str × Value)} (X : K.In s.heap) (hm : PySem.W.makesIn K C = true)
   (hi : PySem.W.findIn K (.ref C) "__init__" = some (some (.ref f))) (hf : PySem.W.typeIn K (.ref f) = some (.type "function"))
   (h : codeAny (model prog w) (A.under (.builtin "type.__call__" ⟨.ref C :: vs, kw⟩)) (.call (.ref f) ⟨.ref (s.heap.objs.size + 1) :: vs, kw⟩) (PySem.W.InitBack (s.heap.objs.size + 1) R)
     { s with heap := (s.heap.push PySem.W.emptyDict).push (PySem.W.instObj C s.heap.objs.size) }) :
   codeAny (model prog w) A (.call (.ref C) ⟨vs, kw⟩) R s := by
 obtain ⟨hh, g, d, t, os⟩ := s
 exact PySem.W.make_core (PySem.W.makes_of X hm) (PySem.W.looks_findIn X hi) (fun self => PySem.W.bind_fn X self hf) (.inl rfl) h
end
noncomputable def jD (f : Str) (v : V) : List (Str × V) -> List (Str × V)
 | [] => [(f, v)]
 | (g, x) :: r => if g = f then (g, v) :: r else (g, x) :: jD f v r
theorem uL (f g : Str) (v : V) : ∀ fs : List (Str × V), (jD f v fs).lookup g = if g = f then some v else fs.lookup g
 | [] => by
   show List.lookup g [(f, v)] = _
   by_cases h : g = f
   . have hb : (g == f) = true := afe.mpr h
     simp only [List.lookup, hb, ad0 h]
   . have hb : (g == f) = false := ae4.mpr h
     simp only [List.lookup, hb, adT h]
 | (k, x) :: r => by
   have ih := uL f g v r
   rw [show jD f v ((k, x) :: r) = (if k = f then (k, v) :: r else (k, x) :: jD f v r) from rfl]
   by_cases hk : k = f
   . rw [ad0 hk]
     by_cases h : g = k
     . have hb : (g == k) = true := afe.mpr h
       simp only [List.lookup, hb, ad0 (h.trans hk)]
     . have hb : (g == k) = false := ae4.mpr h
       simp only [List.lookup, hb, adT (fun e : g = f => h (e.trans hk.symm))]
   . rw [adT hk]
     by_cases h : g = k
     . have hb : (g == k) = true := afe.mpr h
       simp only [List.lookup, hb, adT (fun e : g = f => hk (h.symm.trans e))]
     . have hb : (g == k) = false := ae4.mpr h
       simp only [List.lookup, hb]
       exact ih
theorem tQ (f : Str) (v : V) : ∀ fs : List (Str × V), f ∈ (jD f v fs).map (·.1) /\ ∀ g, g ∈ fs.map (·.1) -> g ∈ (jD f v fs).map (·.1)
 | [] => ⟨by simp [jD], fun g h => by simp at h⟩
 | (k, x) :: r => by
   obtain ⟨i1, i2⟩ := tQ f v r
   rw [show jD f v ((k, x) :: r) = (if k = f then (k, v) :: r else (k, x) :: jD f v r) from rfl]
   by_cases hk : k = f
   . rw [ad0 hk]
     subst hk
     exact ⟨by simp, fun g h => by simpa using h⟩
   . rw [adT hk]
     refine ⟨?_, fun g h => ?_⟩
     . rw [aen]
       exact adX _ i1
     . rw [aen] at h ⊢
       rcases adN.mp h with e | e
       . exact adN.mpr (.inl e)
       . exact adX _ (i2 g e)
theorem uM (f : Str) (v : V) : ∀ fs : List (Str × V), (jD f v fs).length <= fs.length + 1
 | [] => by simp [jD]
 | (k, x) :: r => by
   have ih := uM f v r
   rw [show jD f v ((k, x) :: r) = (if k = f then (k, v) :: r else (k, x) :: jD f v r) from rfl]
   by_cases hk : k = f
   . rw [ad0 hk, aeo, aeo]; omega
   . rw [adT hk, aeo, aeo]; omega
theorem En.some_of {v : V} {o : Option Value} (r : En (some v) o) : ∃ u, o = some u /\ RelV v u := by
 cases o with
 | none => exact (show False from r).elim
 | some u => exact ⟨u, rfl, r⟩
theorem IU {v : V} {u : Value} (r : RelV v u) : PySem.W.handedIn u = true := by
 cases v with
 | non => cases (show u = Value.none from r); rfl
 | bl b => cases (show u = Value.bool b from r); rfl
 | int i => obtain ⟨t, e⟩ := (show ∃ t, u = Value.int i t from r); cases e; rfl
 | str x => obtain ⟨t, e⟩ := (show ∃ t, u = Value.str x t from r); cases e; rfl
 | G6 b => obtain ⟨t, e⟩ := (show ∃ t, u = Value.bytes b t from r); cases e; rfl
 | Ye b => obtain ⟨t, e⟩ := (show ∃ t, u = Value.float b t from r); cases e; rfl
 | ref a => cases (show u = Value.ref a from r); rfl
 | ty n => cases (show u = Value.type n from r); rfl
section
variable {P : Program} {w : World} {H H' : Hp} {h h' : Heap} {a C dx : Addr} {fs fs' : List (Str × V)}
theorem Hl (dR : vI P w H h) (e : H a = some (.ins C dx fs)) : ∃ mA, IL h a dx C mA /\ (∀ f, En (fs.lookup f) (mA f)) /\ PySem.Within mA (fs.map (·.1)) /\ fs.length <= 1000 /\ H dx = some (.own a) := by
 obtain ⟨d, z, ne, ob, mA, n, r, q⟩ := (show jX P w H h a (.ins C dx fs) from dR a _ e)
 exact ⟨mA, ⟨ob, n, ne⟩, r, q, z, d⟩
end
structure uN (K : PySem.W.Frag) (C : Addr) : Prop where
 pg : PySem.W.plainGet K C Str.empty = true
 hd : PySem.W.hasDictIn K C = true
 po : PySem.W.plainOver K C = true
 sa : PySem.W.findIn K (.ref C) "__setattr__" = some (some (.builtin "object.__setattr__"))
theorem uN.get {K : PySem.W.Frag} {C : Addr} (c : uN K C) (f : Str) : PySem.W.plainGet K C f = true := c.pg
noncomputable def aS (K : PySem.W.Frag) (C : Addr) (f : Str) : Prop := PySem.W.findIn K (.ref C) f = some none
theorem aS.WL {K : PySem.W.Frag} {C : Addr} {f : Str} (n : aS K C f) : PySem.W.takerIn K C f = some none := by
 unfold PySem.W.takerIn
 rw [show PySem.W.findIn K (.ref C) f = some none from n]
 rfl
section
variable {X : Cx} {pins : List (Addr × Obj)} {σ : St} {H : Hp} {s : Shared} {a C dx : Addr} {fs : List (Str × V)} {f : Str} {v : V} {A : Around} {E : Value -> Shared -> Prop}
theorem Et {b : Bool} {Q : Value -> Shared -> Prop} (I : Inv X pins σ H s) (e : H a = some (.ins C dx fs)) (c : uN X.K C) (n : aS X.K C f) (l : fs.lookup f = some v)
   (h : ∀ u s', Inv X pins σ H s' -> RelV v u -> Q u s') : wpAny (model X.prog X.w) A (getAttr (.ref a) f b) Q E s := by
 obtain ⟨mA, O, r, _, _, _⟩ := Hl I.dR e
 obtain ⟨u, hu, ru⟩ := En.some_of (v := v) (o := mA f) (by rw [← l]; exact r f)
 exact get_map I.BK O (c.get f) c.hd n hu (IU ru) (h u _ (I.tok _) ru)
theorem Eu {y : V} {u : Value} {Q : Unit -> Shared -> Prop} (I : Inv X pins σ H s) (e : H a = some (.ins C dx fs)) (c : uN X.K C) (n : aS X.K C f) (hl : fs.length < 1000) (ry : RelV y u)
   (h : ∀ s', Inv X pins σ (upd H a (.ins C dx (jD f y fs))) s' -> Q () s') : wpAny (model X.prog X.w) A (setAttr (.ref a) f u) Q E s := by
 obtain ⟨mA, O, r, wi, _, ho⟩ := Hl I.dR e
 have hz : (fs.map (·.1)).length <= sizeLine := by rw [adM, aek]; omega
 refine Pb I.BK O c.sa c.po n.WL c.hd wi hz fun h' O' sb => h _ ?_
 have hd : ∃ o, h'.get? dx = some o := let ⟨o, _, _, e', _⟩ := O'.ns; ⟨o, e'⟩
 refine I.write (x := a) (e := dx) (by rw [e]; exact True.intro) (.inr ho) (fun b q hb z => (sb.2 b hb).trans z) hd ?_
 refine ⟨by rw [aA O.ne]; exact ho, ?_, O.ne, O'.obj, _, O'.ns, fun g => ?_, fun g hg => ?_⟩
 . have := uM f y fs; omega
 . show En ((jD f y fs).lookup g) (if g = f then some u else mA g)
   rw [uL]
   by_cases q : g = f
   . rw [ad0 q, ad0 q]; exact ry
   . rw [adT q, adT q]; exact r g
 . by_cases q : g = f
   . rw [q]; exact (tQ f y fs).1
   . refine (tQ f y fs).2 g (wi g fun z => hg ?_)
     show (if g = f then some u else mA g) = none
     rw [adT q]; exact z
theorem Inv.made (I : Inv X pins σ H s) : Inv X pins σ (upd (upd H s.heap.objs.size (.own (s.heap.objs.size + 1))) (s.heap.objs.size + 1) (.ins C s.heap.objs.size []))
   { s with heap := (s.heap.push PySem.W.emptyDict).push (PySem.W.instObj C s.heap.objs.size) } := by
 have e1 : (s.heap.push PySem.W.emptyDict).get? s.heap.objs.size = some PySem.W.emptyDict := aeG s.heap rfl
 have e2 : ((s.heap.push PySem.W.emptyDict).push (PySem.W.instObj C s.heap.objs.size)).get? (s.heap.objs.size + 1) = some (PySem.W.instObj C s.heap.objs.size) := by
   have := aeG (s.heap.push PySem.W.emptyDict) (o := PySem.W.instObj C s.heap.objs.size) rfl
   rwa [Heap.size_push] at this
 have e3 : (s.heap.push PySem.W.emptyDict).Ns s.heap.objs.size (fun _ => none) := ⟨PySem.W.emptyDict, #[], _, e1, rfl, (fun e he => absurd he (by simp)), fun _ => rfl⟩
 have I1 := I.laid (a := s.heap.objs.size) (o := .own (s.heap.objs.size + 1)) (h' := s.heap.push PySem.W.emptyDict) (t' := s.toks) (fun b u q => aee _ q) (adV _) ⟨_, e1⟩
 refine I1.laid (a := s.heap.objs.size + 1) (o := .ins C s.heap.objs.size []) (t' := s.toks) (fun b u q => aee _ q) (Nat.le_of_eq (Heap.size_push _ _)) ?_
 have ne : s.heap.objs.size ≠ s.heap.objs.size + 1 := aeE (aeX _)
 refine ⟨by rw [aA ne, aX], ael _, ne, e2, fun _ => none, (Heap.Ns1.of_empty e3).at fun o q => aee _ q, fun _ => True.intro, fun y hy => absurd rfl hy⟩
theorem Pg {prog : Program} {w : World} {env : Env} {e : Expr} {f : Str} {pos : Pos} {s : Shared} {Q : Value -> Shared -> Prop} (hb : attributeBase e f env (eval e env) = eval e env)
   (h : wpAny (model prog w) A (eval e env) (fun o s₁ => wpAny (model prog w) A (getAttr o f true) Q E s₁) E s) : wpAny (model prog w) A (eval (.Attribute e f pos) env) Q E s :=
 Attribute_any_ h (by rw [arm_eval_Attribute, hb])
end
noncomputable def Zm (K : PySem.W.Frag) (ta : TE) (f : Str) : TE := fun σ H Q => ta σ H fun x H1 => ∃ a C dx fs v, x = .ref a /\ H1 a = some (.ins C dx fs) /\ uN K C /\ aS K C f /\ fs.lookup f = some v /\ Q v H1
noncomputable def Zn (K : PySem.W.Frag) (ta tv : TE) (f : Str) : TS := fun D σ H => tv σ H fun y H1 => ta σ H1 fun x H2 => ∃ a C dx fs, x = .ref a /\ H2 a = some (.ins C dx fs) /\ uN K C /\ aS K C f /\ fs.length < 1000 ∧
 D.nx σ (upd H2 a (.ins C dx (jD f y fs)))
section
variable {X : Cx} {o e value : Expr} {f : Str} {pos pos' Zo : Pos} {ta tv : TE}
theorem La (he : PE X e ta) (hb : attributeBase e f X.env (eval e X.env) = eval e X.env) : PE X (.Attribute e f pos) (Zm X.K ta f) := by
 intro pins s σ H Q I h
 refine Pg hb (eL (he pins s σ H _ I h) fun u s1 zz => ?_)
 obtain ⟨x, H1, I1, rx, a, C, dx, fs, v, ex, ea, c, n, l, q⟩ := zz
 subst ex
 obtain rfl : u = Value.ref a := rx
 exact Et I1 ea c n l fun u' s2 I2 ru => ⟨v, H1, I2, ru, q⟩
theorem TQ (ha : PE X o ta) (hv : PE X value tv) (hs : swapsWith value (some (.Attribute o f pos')) pos.line X.env = pure false) : PS X (.Assign [.Attribute o f pos'] value pos) (Zn X.K ta tv f) := by
 intro pins s σ H D I h
 refine plainObj_wpAny_Assign_Attribute (eL (hv pins s σ H _ I h) fun u s1 ⟨y, H1, I1, ry, q⟩ => eL (ha pins s1 σ H1 _ I1 q) fun ov s2 zz => ?_) hs
 obtain ⟨x, H2, I2, rx, a, C, dx, fs, ex, ea, c, n, l, q2⟩ := zz
 subst ex
 obtain rfl : ov = Value.ref a := rx
 exact Eu I2 ea c n l ry fun s3 I3 => ⟨σ, _, I3, q2⟩
end
section
variable {X : Cx} {pins : List (Addr × Obj)} {σ : St} {H : Hp} {s : Shared} {A : Around} {E : Value -> Shared -> Prop} {Q : Value -> Shared -> Prop} {c : Value} {b : Bool}
end
structure gq (k : Nat) (A : Around) : Prop where
 hd : A.handled = none
 dp : A.depth + 3 * k + 5 < recursionLimit
 un : A.units + 16 * k + 200 < cLine
theorem gq.mono {j k : Nat} {A : Around} (r : gq k A) (h : j <= k) : gq j A := ⟨r.hd, by have := r.dp; omega, by have := r.un; omega⟩
theorem gq.deeper {k : Nat} {A : Around} (r : gq (k + 1) A) (env : Env) : gq k (A.deeper env) :=
 ⟨r.hd, by have := r.dp; show A.depth + 1 + 3 * k + 5 < _; omega, by have := r.un; show A.units + 3 + 16 * k + 200 < _; omega⟩
theorem Ew {A : Around} {C : Addr} {us : List Value} {kw : List (Str × Value)} : (A.under (.builtin "type.__call__" ⟨.ref C :: us, kw⟩)).depth = A.depth + 1 := by
 first | rfl | simp [Around.under, Code.weight, Code.isCreation, Code.isGuard, Code.isCaller, Code.frames, Code.isFrame, guardIds]
theorem Ex {A : Around} {C : Addr} {us : List Value} {kw : List (Str × Value)} : (A.under (.builtin "type.__call__" ⟨.ref C :: us, kw⟩)).units = A.units + 1 := by
 first | rfl | simp [Around.under, Code.cUnits, Code.frames, Code.isFrame]
theorem gq.make {k : Nat} {A : Around} (r : gq (k + 1) A) (C : Addr) (us : List Value) (kw : List (Str × Value)) : gq k (A.under (.builtin "type.__call__" ⟨.ref C :: us, kw⟩)) :=
 ⟨r.hd, by have := r.dp; rw [Ew]; omega, by have := r.un; rw [Ex]; omega⟩
theorem gq.depth {k : Nat} {A : Around} (r : gq k A) : A.depth < recursionLimit := by have := r.dp; omega
theorem gq.units {k : Nat} {A : Around} (r : gq k A) : A.units + 64 < cLine := by have := r.un; omega
noncomputable def Zq : TA := fun _ H Q => Q [] H
noncomputable def WM (ta : TE) (tr : TA) : TA := fun σ H Q => ta σ H fun x H1 => tr σ H1 fun xs H2 => Q (x :: xs) H2
section
variable {X : Cx} {e : Expr} {es : List Expr} {te : TE} {t : TA} {pos : Pos}
theorem eo : PA X [] Zq := fun _ _ _ _ H Q I h => Calls.spliced_nil ⟨[], H, I, .nil, h⟩
theorem b7 (ha : PE X e te) (hr : PA X es t) (hs : starEach (e :: es) X.env = (false, eval e X.env) :: starEach es X.env := by rfl) : PA X (e :: es) (WM te t) := by
 intro pos pins s σ H Q I h
 rw [hs]
 show wpAny _ _ (spliced ((false, eval e X.env) :: backTo pos (starEach es X.env))) _ _ s
 refine Calls.spliced_cons (eL (ha pins s σ H _ I h) fun u s1 zz => ?_)
 obtain ⟨x, H1, I1, r1, q1⟩ := zz
 exact eL (hr pos pins s1 σ H1 _ I1 q1) fun us s2 ⟨xs, H2, I2, r2, q2⟩ => ⟨x :: xs, H2, I2, .cons r1 r2, q2⟩
noncomputable def Zr (t : TA) : TE := fun σ H Q => t σ H fun xs H1 => xs.length <= sizeLine /\ ∀ p, H1 p = none -> Q (.ref p) (upd H1 p (.tup xs))
noncomputable def Zt (t : TA) : TE := fun σ H Q => t σ H fun xs H1 => xs.length <= sizeLine /\ ∀ p, H1 p = none -> Q (.ref p) (upd H1 p (.lst xs))
theorem TR {x1} (h : PA X es t) : PE X (.Tuple es x1 pos) (Zr t) := by
 intro pins s σ H Q I hq
 refine wpAny_Tuple_spliced (eL (h pos pins s σ H _ I hq) fun us s1 ⟨xs, H1, I1, r, z, q⟩ => ⟨by rw [← r.length]; exact z, ?_⟩)
 have hf : H1 s1.heap.objs.size = none := I1.dR.fresh (adV _)
 refine ⟨.ref s1.heap.objs.size, upd H1 s1.heap.objs.size (.tup xs), I1.laid (t' := s1.toks) (fun b u e => aee _ e) (adV _) ?_, rfl, q _ hf⟩
 exact ⟨z, us, r, ⟨_, aeG _ rfl, rfl, _, rfl⟩⟩
theorem TV (h : PA X es t) : PE X (.List es pos) (Zt t) := by
 intro pins s σ H Q I hq
 refine wpAny_List_spliced (eL (h pos pins s σ H _ I hq) fun us s1 ⟨xs, H1, I1, r, z, q⟩ => ⟨by rw [← r.length]; exact z, ?_⟩)
 have hf : H1 s1.heap.objs.size = none := I1.dR.fresh (adV _)
 refine ⟨.ref s1.heap.objs.size, upd H1 s1.heap.objs.size (.lst xs), I1.laid (t' := s1.toks) (fun b u e => aee _ e) (adV _) ?_, rfl, q _ hf⟩
 exact ⟨z, us, 0, r, aeG _ rfl⟩
end
noncomputable abbrev Sp := List V -> Hp -> VK -> XK -> Prop
noncomputable abbrev KC := List Env -> Hp -> Shared -> XK -> Value -> Shared -> Prop
structure Ey (P : Program) (w : World) (K : PySem.W.Frag) (mg : Str -> Option Value) (base : Heap) (A : Around) (outer : List Env) (s : Shared) (H : Hp) : Prop where
 frames : A.frames = some outer
 mod : Mod K mg base
 bs : ∀ b o, base.get? b = some o -> s.heap.get? b = some o /\ H b = none
 OX : base.objs.size <= s.heap.objs.size
 vo : s.heap.FunFrames base outer
 SM : ∀ b ∈ Kz outer, H b = none
 dR : vI P w H s.heap
 bare : AllBare s.gens
noncomputable def CE (outer : List Env) (P : Program) (w : World) (H : Hp) (s : Shared) (Q : VK) (u : Value) (s' : Shared) : Prop :=
 ∃ v H', s'.os = s.os /\ AllBare s'.gens /\ Un (Kz outer) [] H H' s.heap s'.heap /\ vI P w H' s'.heap /\ RelV v u /\ Q v H'
noncomputable def CR (CX : KC) (outer : List Env) (P : Program) (w : World) (H : Hp) (s : Shared) (Q : VK) (E : XK) (r : Result) (s' : Shared) : Prop :=
 match r with
 | .ok (.ret u) => CE outer P w H s Q u s'
 | .ok _ => False
 | .error e => CX outer H s E e s'
structure b8 (P : Program) (w : World) (K : PySem.W.Frag) (mg : Str -> Option Value) (base : Heap) (CX : KC) (k : Nat) (f : Addr) (fd : FuncData) (ps : List Str) (sp : Sp) : Prop where
 len : ∀ vs H Q E, sp vs H Q E -> vs.length = ps.length
 run : ∀ (A : Around) (outer : List Env) (s : Shared) (H : Hp) (args : Args) (us : List Value) (vs : List V) (Q : VK) (E : XK), gq k A -> Ey P w K mg base A outer s H -> BindsTo s fd args (ps.zip us) -> Vals vs us -> sp vs H Q E →
   codeAny (model P w) A (.call (.ref f) args) (CR CX outer P w H s Q E) s
theorem b8.imp {P : Program} {w : World} {K : PySem.W.Frag} {mg : Str -> Option Value} {base : Heap} {CX : KC} {k : Nat} {f : Addr} {fd : FuncData} {ps : List Str} {sp sp' : Sp} (F : b8 P w K mg base CX k f fd ps sp)
   (h : ∀ vs H Q E, sp' vs H Q E -> sp vs H Q E) : b8 P w K mg base CX k f fd ps sp' :=
 ⟨fun vs H Q E q => F.len vs H Q E (h _ _ _ _ q), fun A outer s H args us vs Q E hr he hb hv hs => F.run A outer s H args us vs Q E hr he hb hv (h _ _ _ _ hs)⟩
theorem Ey.make {P : Program} {w : World} {K : PySem.W.Frag} {mg : Str -> Option Value} {base : Heap} {A : Around} {outer : List Env} {s : Shared} {H : Hp} (e : Ey P w K mg base A outer s H) (C : Addr) (us : List Value) (kw : List (Str × Value)) :
   Ey P w K mg base (A.under (.builtin "type.__call__" ⟨.ref C :: us, kw⟩)) outer s H := ⟨by first | exact e.frames | (simpa [Around.under, Code.envs, Code.isFrame, pushEnvs] using e.frames), e.mod, e.bs, e.OX, e.vo, e.SM, e.dR, e.bare⟩
section
variable {X : Cx} {pins : List (Addr × Obj)} {σ : St} {H : Hp} {s s' : Shared}
theorem Inv.WN (I : Inv X pins σ H s) : Ey X.prog X.w X.K X.mg X.base X.A X.stack s H :=
 ⟨I.ok.frames, I.ok.mod, I.bs, aeA I.ok.OX I.sz, I.stack, I.G7, I.dR, I.bare⟩
theorem Inv.after {Q : VK} {u : Value} (I : Inv X pins σ H s) (h : CE X.stack X.prog X.w H s Q u s') : EP X pins σ Q u s' := by
 obtain ⟨v, H', os, bare, un, dR, r, q⟩ := h
 obtain ⟨hh, g, d, t, V1⟩ := s'
 obtain rfl : V1 = s.os := os
 exact ⟨v, H', I.call (h' := hh) (g' := g) (d' := d) (t' := t) (ch := []) un dR bare (fun b z => absurd z (by simp)), r, q⟩
end
noncomputable def WO (sp : Sp) (Ez : List V) (E : XK) (t : TA) : TE := fun σ H Q => t σ H fun vs H1 => sp (vs ++ Ez) H1 Q E
noncomputable def WQ (C : Addr) (sp : Sp) (Ez : List V) (E : XK) (t : TA) : TE := fun σ H Q => t σ H fun vs H1 => ∀ x dx, H1 x = none -> H1 dx = none -> dx ≠ x →
 sp (.ref x :: (vs ++ Ez)) (upd (upd H1 dx (.own x)) x (.ins C dx [])) (fun v H2 => v = .non /\ Q (.ref x) H2) E
noncomputable def Binds (K : PySem.W.Frag) (fd : FuncData) (ps : List Str) (ds : List Value) : Prop :=
 ∀ (s : Shared) (us : List Value), K.In s.heap -> (us ++ ds).length = ps.length -> BindsTo s fd ⟨us, []⟩ (ps.zip (us ++ ds))
theorem Binds.all {K : PySem.W.Frag} {fd : FuncData} {ps : List Str} (h : ∀ us : List Value, us.length = ps.length -> bindArgs fd ⟨us, []⟩ = pure (ps.zip us)) : Binds K fd ps [] := fun s us _ hl => by
 rw [aef] at hl ⊢
 exact .of_eq (h us hl)
noncomputable def Passes (CX : KC) (X : Cx) (E : XK) : Prop := ∀ (pins : List (Addr × Obj)) (σ : St) (H : Hp) (s : Shared) (e : Value) (s' : Shared), Inv X pins σ H s -> CX X.stack H s E e s' -> X.xe e s'
section
variable {X : Cx} {CX : KC} {k : Nat} {f C : Addr} {fd : FuncData} {ps : List Str} {sp : Sp} {Ez : List V} {ds : List Value} {E : XK} {x m : Str} {p pos apos : Pos} {e o : Expr} {es : List Expr} {ta : TE} {t : TA}
theorem TX {pins : List (Addr × Obj)} {σ : St} {H : Hp} {s : Shared} {Q : VK} {us : List Value} {vs : List V} (F : b8 X.prog X.w X.K X.mg X.base CX k f fd ps sp) (hr : gq k X.A) (hb : Binds X.K fd ps ds) (hd : Vals Ez ds) (hx : Passes CX X E)
   (I : Inv X pins σ H s) (r : Vals vs us) (h : sp (vs ++ Ez) H Q E) : wpAny (model X.prog X.w) X.A (call (.ref f) us) (EP X pins σ Q) X.xe s := by
 have r2 : Vals (vs ++ Ez) (us ++ ds) := r.append hd
 have hl : (us ++ ds).length = ps.length := by rw [← r2.length]; exact F.len _ _ _ _ h
 refine wpAny_call (codeAny_mono (F.run X.A X.stack s H ⟨us, []⟩ (us ++ ds) (vs ++ Ez) Q E hr I.WN (hb s us I.BK hl) r2 h) fun r s' hq => ?_)
 cases r with
 | error e => exact hx pins σ H s e s' I hq
 | ok fl =>
   cases fl with
   | ret u => exact I.after hq
   | next => exact False.elim hq
   | brk => exact False.elim hq
   | cont => exact False.elim hq
theorem Ho (F : b8 X.prog X.w X.K X.mg X.base CX k f fd ps sp) (hr : gq k X.A) (hg : Gl X x) (hm : X.mg x = some (.ref f)) (hk : PySem.W.keepIn X.K (.ref f) = true) (hb : Binds X.K fd ps ds) (hd : Vals Ez ds) (hx : Passes CX X E)
   (ha : PA X (e :: es) t) (yC : (x == ("__debug__" : Str)) = false := by decide) (he : starEach (e :: es) X.env = (false, eval e X.env) :: starEach es X.env := by rfl) (hpl : (backTo pos (starEach es X.env)).any (·.1) = false := by rfl) :
   PE X (.Call (.Name x p) (e :: es) [] pos) (WO sp Ez E t) := by
 intro pins s σ H Q I h
 refine afl (zV I hg hm ?_ yC)
 refine PySem.W.callWith_K (h₀ := X.base) I.ok.mod.Yi hk (eL (ha pos pins s σ H _ I h) fun us s1 ⟨vs, H1, I1, r, q⟩ => ⟨I1.BK, ?_⟩) he hpl
 exact TX F hr hb hd hx I1 r q
structure Mk (K : PySem.W.Frag) (C f : Addr) : Prop where
 makes : PySem.W.makesIn K C = true
 init : PySem.W.findIn K (.ref C) "__init__" = some (some (.ref f))
 fn : PySem.W.isFn K (.ref f) = true
 kp : PySem.W.keepIn K (.ref C) = true
theorem Lb {pins : List (Addr × Obj)} {σ : St} {H : Hp} {s : Shared} {Q : VK} {us : List Value} {vs : List V} (M : Mk X.K C f) (F : b8 X.prog X.w X.K X.mg X.base CX k f fd ps sp) (hr : gq (k + 1) X.A) (hb : Binds X.K fd ps ds) (hd : Vals Ez ds)
   (hx : Passes CX X E) (I : Inv X pins σ H s) (r : Vals vs us)
   (h : ∀ x dx, H x = none -> H dx = none -> dx ≠ x -> sp (.ref x :: (vs ++ Ez)) (upd (upd H dx (.own x)) x (.ins C dx [])) (fun v H2 => v = .non /\ Q (.ref x) H2) E) :
   wpAny (model X.prog X.w) X.A (call (.ref C) us) (EP X pins σ Q) X.xe s := by
 have hq := h (s.heap.objs.size + 1) s.heap.objs.size (I.dR.fresh (Nat.le_succ _)) (I.dR.fresh (adV _)) (aeE (aeX _))
 have I2 := Inv.made (C := C) I
 have r2 : Vals (V.ref (s.heap.objs.size + 1) :: (vs ++ Ez)) (Value.ref (s.heap.objs.size + 1) :: (us ++ ds)) := .cons rfl (r.append hd)
 have hl : (Value.ref (s.heap.objs.size + 1) :: us ++ ds).length = ps.length := by
   have e := r2.length
   rw [F.len _ _ _ _ hq] at e
   exact e.symm
 refine wpAny_call (K9 (f := f) I.BK M.makes M.init (afe.mp M.fn) (codeAny_mono (F.run _ X.stack _ _ ⟨Value.ref (s.heap.objs.size + 1) :: us, []⟩ (Value.ref (s.heap.objs.size + 1) :: (us ++ ds)) _ _ E (hr.make C us [])
   (I2.WN.make C us []) (hb _ (Value.ref (s.heap.objs.size + 1) :: us) I2.BK hl) r2 hq) fun r s' Ph => ?_))
 cases r with
 | error e => exact hx pins σ _ _ e s' I2 Ph
 | ok fl =>
   cases fl with
   | ret u =>
     obtain ⟨v, H', I3, rv, ev, q3⟩ := I2.after Ph
     subst ev
     exact ⟨rv, ⟨V.ref (s.heap.objs.size + 1), H', I3, rfl, q3⟩⟩
   | next => exact False.elim Ph
   | brk => exact False.elim Ph
   | cont => exact False.elim Ph
theorem Hq (M : Mk X.K C f) (F : b8 X.prog X.w X.K X.mg X.base CX k f fd ps sp) (hr : gq (k + 1) X.A) (hg : Gl X x) (hm : X.mg x = some (.ref C)) (hb : Binds X.K fd ps ds) (hd : Vals Ez ds) (hx : Passes CX X E)
   (ha : PA X (e :: es) t) (yC : (x == ("__debug__" : Str)) = false := by decide) (he : starEach (e :: es) X.env = (false, eval e X.env) :: starEach es X.env := by rfl) (hpl : (backTo pos (starEach es X.env)).any (·.1) = false := by rfl) :
   PE X (.Call (.Name x p) (e :: es) [] pos) (WQ C sp Ez E t) := by
 intro pins s σ H Q I h
 refine afl (zV I hg hm ?_ yC)
 refine PySem.W.callWith_K (h₀ := X.base) I.ok.mod.Yi M.kp (eL (ha pos pins s σ H _ I h) fun us s1 ⟨vs, H1, I1, r, q⟩ => ⟨I1.BK, ?_⟩) he hpl
 exact Lb M F hr hb hd hx I1 r q
end
section
variable {X : Cx} {CX : KC} {k : Nat} {f C : Addr} {fd : FuncData} {ps ks : List Str} {sp : Sp} {E : XK} {x m : Str} {p pos apos abX : Pos} {e o : Expr} {es : List Expr} {kws : List Keyword} {te ta : TE} {t tk : TA} {nm : Option Str}
variable {g : List Value -> List Value -> List Value} {gV : List V -> List V -> List V}
end
structure aT (N P : List Str) (sc : Scope) : Prop where
 kind : sc.kind = .function
 co : sc.isCoroutine = false
 gen : sc.isGenerator = false
 nd : N.Nodup
 pre : N.take P.length = P
 par : ∀ x ∈ P, sc.names.lookup x = some .local \/ sc.names.lookup x = some .cell
 TY : ∀ y ∈ sc.names, y.2 ≠ .free
theorem zl {kindOf : Str -> Option NameKind} {x : Str} : ∀ {binds : List (Str × Value)} {m : Str -> Option Value}, (∀ v, (x, v) ∉ binds) -> bindL kindOf binds m x = m x
 | [], _, _ => rfl
 | (n, v) :: r, m, h => by
   unfold bindL
   rw [zl fun w hw => h w (adX _ hw)]
   split
   . have : x ≠ n := by rintro rfl; exact h v adW
     simp [this]
   . rfl
theorem zm {kindOf : Str -> Option NameKind} {x : Str} : ∀ {binds : List (Str × Value)} {m : Str -> Option Value}, (∀ v, (x, v) ∉ binds) -> bindC kindOf binds m x = m x
 | [], _, _ => rfl
 | (n, v) :: r, m, h => by
   unfold bindC
   rw [zm fun w hw => h w (adX _ hw)]
   split
   . rfl
   . have : x ≠ n := by rintro rfl; exact h v adW
     simp [this]
theorem zo {kindOf : Str -> Option NameKind} {x : Str} {v : Value} : ∀ {P : List Str} {vs : List Value} {i : Nat} {m : Str -> Option Value}, P.Nodup -> P[i]? = some x -> vs[i]? = some v -> kindOf x = some .local →
   bindL kindOf (P.zip vs) m x = some v
 | [], _, _, _, _, h, _, _ => by simp at h
 | _ :: _, [], _, _, _, _, h, _ => by simp at h
 | p :: P, w :: vs, 0, m, nd, h1, h2, hk => by
   simp at h1 h2; subst h1; subst h2
   show bindL kindOf ((p, w) :: P.zip vs) m p = _
   unfold bindL
   rw [zl fun v hv => (aeS.mp nd).1 (List.of_mem_zip hv).1, ad0 hk]
   simp
 | p :: P, w :: vs, i + 1, m, nd, h1, h2, hk => by
   show bindL kindOf ((p, w) :: P.zip vs) m x = _
   unfold bindL
   exact zo (i := i) (List.nodup_cons.mp nd).2 (by simpa using h1) (by simpa using h2) hk
theorem zq {kindOf : Str -> Option NameKind} {x : Str} {v : Value} : ∀ {P : List Str} {vs : List Value} {i : Nat} {m : Str -> Option Value}, P.Nodup -> P[i]? = some x -> vs[i]? = some v -> kindOf x ≠ some .local →
   bindC kindOf (P.zip vs) m x = some v
 | [], _, _, _, _, h, _, _ => by simp at h
 | _ :: _, [], _, _, _, _, h, _ => by simp at h
 | p :: P, w :: vs, 0, m, nd, h1, h2, hk => by
   simp at h1 h2; subst h1; subst h2
   show bindC kindOf ((p, w) :: P.zip vs) m p = _
   unfold bindC
   rw [zm fun v hv => (aeS.mp nd).1 (List.of_mem_zip hv).1, adT hk]
   simp
 | p :: P, w :: vs, i + 1, m, nd, h1, h2, hk => by
   show bindC kindOf ((p, w) :: P.zip vs) m x = _
   unfold bindC
   exact zq (i := i) (List.nodup_cons.mp nd).2 (by simpa using h1) (by simpa using h2) hk
noncomputable def start (N : List Str) (vs : List V) : St := vs.map some ++ List.replicate (N.length - vs.length) none
noncomputable def BR (CX : KC) (P : Program) (w : World) (K : PySem.W.Frag) (mg : Str -> Option Value) (base : Heap) (N : List Str) (qual : Str) (scope : Scope) (f : Addr) (cd : Value) (A : Around) (outer : List Env) (s : Shared) (H : Hp) (E : XK) : Cx where
 prog := P
 w := w
 K := K
 mg := mg
 base := base
 A := A.deeper (envOfC qual scope s.heap.objs.size f cd)
 N := N
 s₀ := s
 H₀ := H
 env := envOfC qual scope s.heap.objs.size f cd
 outer := outer
 stack := envOfC qual scope s.heap.objs.size f cd :: outer
 ex := []
 calm := true
 fn := fun _ => true
 pn := []
 xe := fun e s' => wpAny (model P w) (A.deeper (envOfC qual scope s.heap.objs.size f cd)) (leaving (envOfC qual scope s.heap.objs.size f cd) e) (fun _ Zu => CX outer H s E e Zu) (fun e' Zu => CX outer H s E e' Zu) s'
theorem BU {sc : Scope} {n : Nat} {x : Str} (h : sc.names.lookup x = some .cell) : ∃ c, (cellsFrom n sc.names []).lookup x = some c := by
 have q := PySem.W.cellsFrom_some sc.names n [] (.inl h)
 exact Option.isSome_iff_exists.mp q
theorem IV {CX : KC} {P : Program} {w : World} {K : PySem.W.Frag} {mg : Str -> Option Value} {base : Heap} {N ps : List Str} {qual : Str} {scope : Scope} {f : Addr} {cd : Value} {A : Around} {outer : List Env} {s s1 : Shared} {H : Hp} {E : XK} {us : List Value} {vs : List V}
   (S : aT N ps scope) (hd : A.handled = none) (e0 : Ey P w K mg base A outer s H) (hl : vs.length = ps.length) (r : Vals vs us)
   (x : InCallC s s.heap.objs.size (bindL (envOfC qual scope s.heap.objs.size f cd).kindOf (ps.zip us) fun _ => none) (cellsFrom (s.heap.objs.size + 1) scope.names []) (bindC (envOfC qual scope s.heap.objs.size f cd).kindOf (ps.zip us) fun _ => none) s1) :
   Inv (BR CX P w K mg base N qual scope f cd A outer s H E) [] (start N vs) H s1 := by
 have hpl : ps.length <= N.length := by have := congrArg List.length S.pre; rw [aeH] at this; omega
 obtain ⟨h1, tk, rfl, hk⟩ := x.done
 have WR : ∀ b : Addr, b ∉ (BR CX P w K mg base N qual scope f cd A outer s H E).ex := fun b z => absurd (show b ∈ ([] : List Addr) from z) (by simp)
 refine ⟨⟨e0.mod, S.kind, rfl, rfl, adV _, fun y z c h1 h2 => ?_, fun y hy => ?_, fun y c _ h => ?_, fun _ => hd, Around.frames_deeper e0.frames, .inr ⟨rfl, rfl⟩, fun b z => absurd z (WR b), e0.bs, e0.OX, fun b _ _ => WR b, fun b z => absurd z (WR b), e0.vo, e0.SM⟩,
   rfl, e0.bare, Un.kept hk, ⟨_, x.toInCall.ns, fun i y v h1 h2 h3 => ?_⟩, fun y c h => ⟨_, x.cell y c h⟩, e0.dR.fresh (adV _), fun y c h => ?_, fun p hp => absurd (show p ∈ ([] : List (Addr × Obj)) from hp) (by simp), e0.dR.kept hk, ?_⟩
 . exact name_of_addr x.apart (aeU h1) (aeU h2)
 . have hy : scope.names.lookup y = some .cell \/ scope.names.lookup y = some .free := hy
   rcases hy with hy | hy
   . exact BU hy
   . exact absurd rfl (S.TY _ (aeU hy))
 . exact aeB (x.above y c (aeU h))
 . have hi : i < vs.length := by
     unfold start at h2
     by_cases hi : i < vs.length
     . exact hi
     . rw [List.getElem?_append_right (by simpa using hi)] at h2
       rw [List.getElem?_replicate] at h2
       split at h2 <;> cases h2
   have ha : vs[i]? = some v := by
     unfold start at h2
     rw [List.getElem?_append_left (by simpa using hi), List.getElem?_map] at h2
     cases e : vs[i]? with
     | none => rw [e] at h2; cases h2
     | some a => rw [e] at h2; cases h2; rfl
   obtain ⟨u, hu, rv⟩ := r.get ha
   have hp : ps[i]? = some y := by
     rw [← S.pre, List.getElem?_take_of_lt (by omega)]; exact h1
   have ndP : ps.Nodup := by rw [← S.pre]; exact S.nd.sublist (List.take_sublist _ _)
   refine ⟨u, rv, ?_⟩
   rcases S.par y (ad7 hp) with k | k
   . exact .inl ⟨k, zo ndP hp hu k⟩
   . obtain ⟨c, e⟩ := BU (n := s.heap.objs.size + 1) k
     refine .inr ⟨.inl k, c, e, ?_⟩
     have q := x.cell y c e
     rw [zq ndP hp hu (by show scope.names.lookup y ≠ _; rw [k]; decide)] at q
     exact q
 . exact e0.dR.fresh (aeB (x.above y c (aeU h)))
 . unfold start
   show _ = N.length
   rw [adR, adM, aeV]
   omega
theorem WT {CX : KC} {P : Program} {w : World} {K : PySem.W.Frag} {mg : Str -> Option Value} {base : Heap} {k : Nat} {f : Addr} {name qual : Str} {params : Arguments} {body : List Stmt} {scope : Scope} {dV kV doc pm fk ct oc : Value} {an od : Option Addr}
   {Lc : Array (Option Value)} {N ps : List Str} {sp : Sp} (lk : K.lookup f = some ⟨oc, od, .func (PySem.W.fnOf name qual params body scope dV kV doc pm an fk ct), Lc⟩) (nI : PySem.W.codeIn K fk qual = true) (S : aT N ps scope)
   (len : ∀ vs H Q E, sp vs H Q E -> vs.length = ps.length)
   (Ld : ∀ (A : Around) (outer : List Env) (s : Shared) (H : Hp) (vs : List V) (Q : VK) (E : XK), gq k (A.deeper (envOfC qual scope s.heap.objs.size f fk)) -> sp vs H Q E →
     ∃ t, G9 (BR CX P w K mg base N qual scope f fk A outer s H E) body t /\ t { nx := fun _ H' => Q .non H', rt := Q } (start N vs) H) :
   b8 P w K mg base CX (k + 1) f (PySem.W.fnOf name qual params body scope dV kV doc pm an fk ct) ps sp := by
 refine ⟨len, fun A outer s H args us vs Q E hr e0 hb r RX => ?_⟩
 have hl := len _ _ _ _ RX
 have KX : K.In s.heap := e0.mod.Yi.keeps fun b o e => (e0.bs b o e).1
 have lim : s.heap.NoLimit := e0.mod.nolimit.keeps fun b o e => (e0.bs b o e).1
 have Hr : ∀ y ∈ ps.zip us, scope.names.lookup y.1 = some .local \/ (scope.names.lookup y.1 = some .cell /\ ((cellsFrom (s.heap.objs.size + 1) scope.names []).lookup y.1).isSome = true) := fun ⟨n, v⟩ hy => by
   rcases S.par n (List.of_mem_zip hy).1 with q | q
   . exact .inl q
   . exact .inr ⟨q, PySem.W.cellsFrom_some _ _ _ (.inl q)⟩
 refine codeAny_call_function hr.depth (KX _ _ lk) rfl S.co S.gen rfl (PySem.W.codeRec_of KX nI) (hb _ _ _ _ ?_)
 refine wpAny_newFunctionEnv_cells S.kind Hr fun env he s1 x => ?_
 subst he
 refine ⟨lim.keeps x.toInCall.keep, codeAny_func ?_⟩
 obtain ⟨t, ht, hq⟩ := Ld A outer s H vs Q E (hr.deeper _) RX
 have I : Inv (BR CX P w K mg base N qual scope f fk A outer s H E) [] (start N vs) H s1 := IV S hr.hd e0 hl r x
 refine ae1 (ht [] s1 (start N vs) H _ I hq) (fun fl s' hs => ?_) fun e s' hs => hs
 have fin : ∀ {σ' : St} {H' : Hp} {v : V} {u : Value}, Inv (BR CX P w K mg base N qual scope f fk A outer s H E) [] σ' H' s' -> RelV v u -> Q v H' -> CE outer P w H s Q u s' :=
   fun {σ' H' v u} J rv q => ⟨v, H', J.os, J.bare, J.base, J.dR, rv, q⟩
 cases fl with
 | ret u =>
   obtain ⟨v, σ', H', J, rv, q⟩ := hs
   exact fin J rv q
 | next =>
   obtain ⟨σ', H', J, q⟩ := hs
   exact fin (v := V.non) (u := Value.none) J rfl q
 | brk =>
   obtain ⟨_, _, _, q⟩ := hs
   exact False.elim q
 | cont =>
   obtain ⟨_, _, _, q⟩ := hs
   exact False.elim q
section
variable {X : Cx} {x : Str} {p pos : Pos} {e : Expr} {es : List Expr} {t : TA} {id T : String} {r : List V -> Hp -> VK -> Prop}
noncomputable def tCB (r : List V -> Hp -> VK -> Prop) (t : TA) : TE := fun σ H Q => t σ H fun vs H1 => r vs H1 Q
theorem nL (hc : rR X (.builtin id) r) (hg : Gl X x) (hm : X.mg x = none) (hv : bootBuiltins x = some (.builtin id)) (ha : PA X (e :: es) t) (hn : x ≠ "__name__" := by decide) (yC : (x == ("__debug__" : Str)) = false := by decide)
   (he : starEach (e :: es) X.env = (false, eval e X.env) :: starEach es X.env := by rfl) (hpl : (backTo pos (starEach es X.env)).any (·.1) = false := by rfl) : PE X (.Call (.Name x p) (e :: es) [] pos) (tCB r t) := by
 intro pins s σ H Q I h
 refine afl (qB I hg hm hv ?_ hn yC)
 exact PyProof.Rows.callWith_builtin1 (eL (ha pos pins s σ H _ I h) fun us s1 ⟨vs, H1, I1, r1, q1⟩ => hc pins s1 σ H1 vs us Q I1 r1 q1) he hpl
theorem tR (hc : rR X (.type T) r) (hg : Gl X x) (hm : X.mg x = none) (hv : bootBuiltins x = some (.type T)) (ha : PA X (e :: es) t) (hn : x ≠ "__name__" := by decide) (yC : (x == ("__debug__" : Str)) = false := by decide)
   (he : starEach (e :: es) X.env = (false, eval e X.env) :: starEach es X.env := by rfl) (hpl : (backTo pos (starEach es X.env)).any (·.1) = false := by rfl) : PE X (.Call (.Name x p) (e :: es) [] pos) (tCB r t) := by
 intro pins s σ H Q I h
 refine afl (qB I hg hm hv ?_ hn yC)
 exact aeR (eL (ha pos pins s σ H _ I h) fun us s1 ⟨vs, H1, I1, r1, q1⟩ => hc pins s1 σ H1 vs us Q I1 r1 q1) he hpl
end
end L2
namespace HT
open PySem PyProof.Rows
section
open PySem.SeqAt
open PySem.AutoSeq1 (wpAny_loadPart')
open PySem.MeetsSeq PySem.MeetsSeq2 PySem.MeetsSeq3
end
section
variable {prog : Program} {w : World} {A : Around} {E : Value -> Shared -> Prop} {s : Shared}
theorem Pj {t b : Addr} {vs ws : List Value} {Q : Value -> Shared -> Prop} (ht : IsTup s.heap t vs.toArray) (hb : IsTup s.heap b ws.toArray) (hv : vs ≠ [])
   (h1 : ws = [] -> Q (.ref t) s) (h2 : ws ≠ [] -> Q (.ref s.heap.objs.size) { s with heap := s.heap.push { cls := .type "tuple", data := .seq (vs ++ ws).toArray } })
   (K8 : vs.length + ws.length <= sizeLine) : wpAny (model prog w) A (binaryOp .Add (.ref t) (.ref b)) Q E s := by
 obtain ⟨⟨cls, dd, data, sl⟩, ho, hc, n, hd⟩ := id ht
 obtain ⟨⟨Zv, V2, data2, V3⟩, OG, Pk, n2, hd2⟩ := id hb
 simp only at hc hd Pk hd2
 subst hc hd Pk hd2
 have e : vs.toArray ++ ws.toArray = (vs ++ ws).toArray := by simp
 by_cases hw : ws = []
 . exact concat_meets ⟨_, ho, rfl⟩ ⟨_, OG, rfl⟩ noFill_tuple_add seq_tuple_add PySem.F.slot_tuple_add PySem.F.entry_tuple_add (PySem.F.args_tuple_add_2 _ _)
     (tuple_addW1 t b vs.toArray ws.toArray n n2 dd V2 sl V3 (by simpa using hv) (by simp [hw])) ⟨ho, OG, h1 hw⟩
 . refine concat_meets ⟨_, ho, rfl⟩ ⟨_, OG, rfl⟩ noFill_tuple_add seq_tuple_add PySem.F.slot_tuple_add PySem.F.entry_tuple_add (PySem.F.args_tuple_add_2 _ _)
     (tuple_addW2 t b vs.toArray ws.toArray n n2 dd V2 sl V3 (by simpa using hv) (by simpa using hw) (by rw [List.size_toArray, List.size_toArray]; exact K8)) ⟨ho, OG, ?_⟩
   rw [e]
   exact h2 hw
noncomputable def fq (n d : Nat) : Option Int -> Nat
 | none => d
 | some v => if v < 0 then (v + (n : Int)).toNat else min v.toNat n
theorem Pn (n d k : Nat) : fq n d (some (k : Int)) = min k n := by
 show (if (k : Int) < 0 then ((k : Int) + (n : Int)).toNat else min (k : Int).toNat n) = min k n
 rw [if_neg (by omega), Int.toNat_natCast]
theorem T3 (n d : Nat) (hd : d <= n) (o : Option Int) : fq n d o <= n := by
 cases o with
 | none => exact hd
 | some v =>
   show (if v < 0 then (v + (n : Int)).toNat else min v.toNat n) <= n
   by_cases hv : v < 0
   . rw [if_pos hv]; omega
   . rw [if_neg hv]; exact Nat.min_le_right _ _
theorem Hs (v : Int) (n d : Nat) : (if v < 0 then max (v + (n : Int)) 0 else min v (n : Int)) = ((fq n d (some v) : Nat) : Int) := by
 show (if v < 0 then max (v + (n : Int)) 0 else min v (n : Int)) = (((if v < 0 then (v + (n : Int)).toNat else min v.toNat n) : Nat) : Int)
 by_cases hv : v < 0
 . simp only [if_pos hv]; omega
 . simp only [if_neg hv]; omega
theorem EA (lo hi : Option Int) (n : Nat) : Builtin.Slice.sliceAdjust lo hi 1 (n : Int) = (((fq n 0 lo : Nat) : Int), ((fq n n hi : Nat) : Int)) := by
 have h1 : ¬ ((1 : Int) < 0) := by omega
 unfold Builtin.Slice.sliceAdjust
 simp only [h1, if_false]
 refine Prod.ext ?_ ?_
 . cases lo with
   | none => rfl
   | some v => exact Hs v n 0
 . cases hi with
   | none => rfl
   | some v => exact Hs v n n
theorem EB (i j : Nat) : Builtin.Slice.slicePlaces (i : Int) (j : Int) 1 = j - i := by
 unfold Builtin.Slice.slicePlaces
 have h1 : (1 : Int) > 0 := by omega
 simp only [h1, if_true, Int.ediv_one]
 split <;> omega
theorem wC {v : Value} {o : Option Int} {Q : Option Int -> Shared -> Prop} (p : IsPart v o) (h : Q o s) : wpAny (model prog w) A (Builtin.Slice.slicePartIndex v) Q E s := by
 cases p with
 | none => exact slicePart_none h
 | int i t => exact slicePart_int h
theorem tS {sl : Addr} {vl vu : Value} {lo hi : Option Int} {n : Nat} {Q : Int × Int × Nat -> Shared -> Prop} (hs : s.heap.IsSliceOf sl vl vu .none) (pl : IsPart vl lo) (pu : IsPart vu hi)
   (h : Q (((fq n 0 lo : Nat) : Int), 1, fq n n hi - fq n 0 lo) s) : wpAny (model prog w) A (Builtin.Slice.sliceApplied (.ref sl) (pure (n : Int))) Q E s := by
 obtain ⟨os, T4, hcs, Yu⟩ := id hs
 unfold Builtin.Slice.sliceApplied Builtin.Slice.sliceFields
 refine wpAny_bind (wpAny_bind (wpAny_field T4 Yu (x := vl) rfl (wpAny_bind (wpAny_field T4 Yu (x := vu) rfl (wpAny_bind (wpAny_field T4 Yu (x := .none) rfl (wpAny_pure ?_)))))))
 refine wpAny_bind (slicePart_none ?_)
 show wpAny _ _ (if ((1 : Int) == 0) = true then _ else _) _ _ s
 rw [if_neg (by decide)]
 refine wpAny_bind (wC pl (wpAny_bind (wC pu (wpAny_bind (wpAny_pure ?_)))))
 show wpAny _ _ (match Builtin.Slice.sliceAdjust lo hi 1 (n : Int) with | (lo, hi) => pure (lo, (1 : Int), Builtin.Slice.slicePlaces lo hi 1)) _ _ s
 rw [EA lo hi n]
 show wpAny _ _ (pure (((fq n 0 lo : Nat) : Int), (1 : Int), Builtin.Slice.slicePlaces ((fq n 0 lo : Nat) : Int) ((fq n n hi : Nat) : Int) 1)) _ _ s
 rw [EB]
 exact wpAny_pure h
theorem Le (xs : Array Value) (i k : Nat) : ((List.range k).filterMap fun (m : Nat) => xs[((i : Int) + (m : Int) * 1).toNat]?).toArray = ((xs.toList.drop i).take k).toArray := by
 have e : (fun (m : Nat) => xs[((i : Int) + (m : Int) * 1).toNat]?) = fun m => xs[i + m]? := by
   funext m
   have : ((i : Int) + (m : Int) * 1).toNat = i + m := by omega
   rw [this]
 rw [e]
 have := pick_run xs i k
 rw [List.filterMap_map] at this
 have e2 : ((fun x => xs[x]?) ∘ fun x => i + x) = fun m => xs[i + m]? := rfl
 rw [e2] at this
 rw [this]
theorem rS {t sl : Addr} {items : Array Value} {vl vu : Value} {lo hi : Option Int} {Q : Value -> Shared -> Prop} (ht : IsTup s.heap t items) (hs : s.heap.IsSliceOf sl vl vu .none) (pl : IsPart vl lo) (pu : IsPart vu hi)
   (hw : ¬ (fq items.size 0 lo = 0 /\ fq items.size items.size hi = items.size))
   (h : Q (.ref s.heap.objs.size) { s with heap := s.heap.push { cls := .type "tuple", data := .seq ((items.toList.drop (fq items.size 0 lo)).take (fq items.size items.size hi - fq items.size 0 lo)).toArray } })
   (K8 : items.size <= sizeLine) : wpAny (model prog w) A (getItem (.ref t) (.ref sl)) Q E s := by
 have Ht : sizeOk (.seq ((items.toList.drop (fq items.size 0 lo)).take (fq items.size items.size hi - fq items.size 0 lo)).toArray) := by
   show ((items.toList.drop (fq items.size 0 lo)).take (fq items.size items.size hi - fq items.size 0 lo)).toArray.size <= sizeLine
   rw [List.size_toArray, List.length_take, List.length_drop, Array.length_toList]
   omega
 have hj : fq items.size items.size hi <= items.size := T3 _ _ (Nat.le_refl _) hi
 obtain ⟨os, T4, hcs, Yu⟩ := id hs
 have hTs : s.TypeIs (.ref sl) "slice" := ⟨os, T4, hcs⟩
 unfold getItem
 try with_reducible refine wpAny_holding ?_
 first | refine wpAny_bind (wpAny_pure ?_) | skip
 refine wpAny_bind (wpAny_sequenceKey ht.typeIs (by decide) ?_)
 refine wpAny_bind (wpAny_callSpecial?_slot (name := Str.ofString "__getitem__") ht.typeIs PyProof.Rows.slot_tuple_getitem
   (wpAny_call_entry PyProof.Rows.slot_tuple_getitem ht.typeIs entry_tuple_getitem ?_ (args_tuple_getitem _ _)))
 show wpAny _ _ (Builtin.Tuple.tupleItemsOf (.ref t) >>= _) _ _ s
 refine wpAny_bind (tupleItemsOf_ ht ?_)
 refine wpAny_bind (wpAny_typeOf hTs ?_)
 rw [if_pos (by decide)]
 refine wpAny_bind (tS hs pl pu ?_)
 have EC : ¬ ((((fq items.size 0 lo : Nat) : Int) == 0 && (1 : Int) == 1 && (fq items.size items.size hi - fq items.size 0 lo) == items.size) = true) := by
   intro q
   rw [Bool.and_eq_true, Bool.and_eq_true] at q
   have q1 : ((fq items.size 0 lo : Nat) : Int) = 0 := eq_of_beq q.1.1
   have q2 : fq items.size items.size hi - fq items.size 0 lo = items.size := eq_of_beq q.2
   exact hw ⟨by omega, by omega⟩
 show wpAny _ _ (if (((fq items.size 0 lo : Nat) : Int) == 0 && (1 : Int) == 1 && (fq items.size items.size hi - fq items.size 0 lo) == items.size) = true then _ else _) _ _ s
 rw [if_neg EC, Le]
 first
   | exact wpAny_bind (m := Builtin.Tuple.tupleExact _) (wpAny_newObj_type (wpAny_pure ⟨_, rfl, wpAny_pure h⟩) Ht)
   | exact wpAny_bind (m := Builtin.Tuple.tupleExact _) (wpAny_newObj_type (wpAny_bind (wpAny_pure (wpAny_pure ⟨_, rfl, wpAny_pure h⟩))) Ht)
   | exact wpAny_bind (wpAny_bind (m := Builtin.Tuple.tupleExact _) (wpAny_newObj_type (wpAny_pure (wpAny_pure ⟨_, rfl, wpAny_pure h⟩)) Ht))
   | exact wpAny_bind (wpAny_bind (m := Builtin.Tuple.tupleExact _) (wpAny_newObj_type (wpAny_pure ⟨_, rfl, wpAny_pure h⟩) Ht))
end
end HT
namespace L2
open PySem PySem.Spec PyProof.Rows
noncomputable abbrev TO := St -> Hp -> (Option Int -> Hp -> Prop) -> Prop
noncomputable def PO (X : Cx) (e : Option Expr) (t : TO) : Prop :=
 ∀ (pins : List (Addr × Obj)) (s : Shared) (σ : St) (H : Hp) (Q : Option Int -> Hp -> Prop), Inv X pins σ H s -> t σ H Q →
   wpAny (model X.prog X.w) X.A (evalPart e X.env) (fun u s' => ∃ o H', Inv X pins σ H' s' /\ IsPart u o /\ Q o H') X.xe s
noncomputable def Pp : TO := fun _ H Q => Q none H
noncomputable def WU (t : TE) : TO := fun σ H Q => t σ H fun x H1 => ∃ i, x = .int i /\ Q (some i) H1
section
variable {X : Cx} {e : Expr} {te : TE} {lo hi : Option Expr} {tl th : TO} {pos p2 : Pos}
theorem Pq : PO X none Pp := by
 intro pins s σ H Q I h
 rw [evalPart_none]
 exact aer ⟨none, H, I, .none, h⟩
theorem Pr (h : PE X e te) : PO X (some e) (WU te) := by
 intro pins s σ H Q I hw
 rw [evalPart_some]
 refine eL (h pins s σ H _ I hw) fun u s1 zz => ?_
 obtain ⟨x, H1, I1, r1, q1⟩ := zz
 obtain ⟨i, rfl, q⟩ := q1
 obtain ⟨t, rfl⟩ := r1
 exact ⟨some i, H1, I1, .int i t, q⟩
noncomputable def Zw (X : Cx) (r : V -> Option Int -> Option Int -> Hp -> VK -> Prop) : Prop :=
 ∀ (pins : List (Addr × Obj)) (s : Shared) (σ : St) (H : Hp) (x : V) (v vl vu : Value) (lo hi : Option Int) (sl : Addr) (Q : VK), Inv X pins σ H s -> RelV x v -> s.heap.IsSliceOf sl vl vu .none -> IsPart vl lo -> IsPart vu hi -> r x lo hi H Q →
   ∃ T id, typeLookup (.type T) "__getitem__" = pure (some (.builtin id)) /\ s.TypeIs v T /\ wpAny (model X.prog X.w) X.A (getItem v (.ref sl)) (EP X pins σ Q) X.xe s
noncomputable def tSl (r : V -> Option Int -> Option Int -> Hp -> VK -> Prop) (te : TE) (tl th : TO) : TE := fun σ H Q => te σ H fun x H1 => tl σ H1 fun l H2 => th σ H2 fun u H3 => r x l u H3 Q
theorem BV {r : V -> Option Int -> Option Int -> Hp -> VK -> Prop} (hr : Zw X r) (he : PE X e te) (hl : PO X lo tl) (hu : PO X hi th) : PE X (.Subscript e (.Slice lo hi none p2) pos) (tSl r te tl th) := by
 intro pins s σ H Q I h
 refine Subscript_ (eL (he pins s σ H _ I h) fun v s1 zz => ?_)
 obtain ⟨x, H1, I1, r1, q1⟩ := zz
 refine wpAny_Slice (eL (hl pins s1 σ H1 _ I1 q1) fun vl s2 ⟨l, H2, I2, pl, q2⟩ => eL (hu pins s2 σ H2 _ I2 q2) fun vu s3 zz => ?_)
 obtain ⟨u, H3, I3, pu, q3⟩ := zz
 rw [evalPart_none]
 refine aer ?_
 have I4 : Inv X pins σ H3 { s3 with heap := s3.heap.push { cls := .type "slice", data := .fields #[vl, vu, .none] } } := I3.kept (t' := s3.toks) fun b ob q => aee _ q
 obtain ⟨T, id, hT, ht, hg⟩ := hr pins { s3 with heap := s3.heap.push { cls := .type "slice", data := .fields #[vl, vu, .none] } } σ H3 x v vl vu l u s3.heap.objs.size Q I4 r1 (Heap.IsSliceOf.new ..) pl pu q3
 show wpAny (model X.prog X.w) X.A (subscriptTail e (.Slice lo hi none p2) v (.ref s3.heap.objs.size)) (EP X pins σ Q) X.xe { s3 with heap := s3.heap.push { cls := .type "slice", data := .fields #[vl, vu, .none] } }
 exact tail_any (ops := [.ref s3.heap.objs.size, v]) ht hT hg (by with_unfolding_all rfl)
noncomputable def BW (xs : List V) (lo hi : Option Int) : List V := (xs.drop (HT.fq xs.length 0 lo)).take (HT.fq xs.length xs.length hi - HT.fq xs.length 0 lo)
theorem uO (xs : List V) (lo hi : Option Int) : (BW xs lo hi).length <= xs.length := by
 unfold BW
 rw [aeH, List.length_drop]
 omega
noncomputable def Zx (K : PySem.W.Frag) : V -> Option Int -> Option Int -> Hp -> VK -> Prop := fun x lo hi H Q => ∃ a xs, x = .ref a /\ rM K H a xs ∧
 ¬ (HT.fq xs.length 0 lo = 0 /\ HT.fq xs.length xs.length hi = xs.length) /\ ∀ p, H p = none -> Q (.ref p) (upd H p (.tup (BW xs lo hi)))
theorem T5 : Zw X (Zx X.K) := by
 intro pins s σ H x v vl vu lo hi sl Q I rx hs pl pu h
 obtain ⟨a, xs, rfl, hx, hw, q⟩ := h
 cases rx
 obtain ⟨its, r, ht, hz⟩ := I.tuple hx
 have hlen : its.toArray.size = xs.length := by rw [aeh]; exact r.length.symm
 refine ⟨"tuple", _, ae6.lookup, ht.typeIs, ?_⟩
 refine HT.rS ht hs pl pu (by rw [hlen]; exact hw) ?_ (by rw [hlen]; exact hz)
 rw [hlen]
 refine ⟨.ref s.heap.objs.size, _, I.laid (t' := s.toks) (o := .tup (BW xs lo hi)) (fun b ob q => aee _ q) (adV _) ?_, rfl, q _ (I.dR.fresh (adV _))⟩
 exact ⟨aeA (uO xs lo hi) hz, _, (r.drop (HT.fq xs.length 0 lo)).take (HT.fq xs.length xs.length hi - HT.fq xs.length 0 lo), IsTup.new _ _⟩
noncomputable def WV (K : PySem.W.Frag) : R2 := fun x y H Q => ∃ a b xs ys, x = .ref a /\ y = .ref b /\ rM K H a xs /\ rM K H b ys /\ xs ≠ [] /\ xs.length + ys.length <= sizeLine ∧
 (ys = [] -> Q (.ref a) H) /\ (ys ≠ [] -> ∀ p, H p = none -> Q (.ref p) (upd H p (.tup (xs ++ ys))))
theorem Vals.zY {xs : List V} {us : List Value} (r : Vals xs us) : us = [] ↔ xs = [] := by
 cases r with
 | nil => simp
 | cons _ _ => simp
theorem Pu : tN X (binaryOp .Add) (WV X.K) := by
 intro pins s σ H x y v u Q I rx ry h
 obtain ⟨a, b, xs, ys, rfl, rfl, ha, hb, hx, hz, q1, q2⟩ := h
 cases rx
 cases ry
 obtain ⟨its, r1, p1, _⟩ := I.tuple ha
 obtain ⟨tT, r2, p2, _⟩ := I.tuple hb
 refine HT.Pj p1 p2 (fun z => hx (r1.zY.mp z)) (fun z => ⟨.ref a, H, I, rfl, q1 (r2.zY.mp z)⟩) (fun z => ?_) (by rw [← r1.length, ← r2.length]; exact hz)
 refine ⟨.ref s.heap.objs.size, _, I.laid (t' := s.toks) (o := .tup (xs ++ ys)) (fun b ob q => aee _ q) (adV _) ?_, rfl, q2 (fun w => z (r2.zY.mpr w)) _ (I.dR.fresh (adV _))⟩
 exact ⟨by rw [adR]; exact hz, _, r1.append r2, IsTup.new _ _⟩
end
noncomputable def IW (n : Nat) (i : Int) : Option Nat := if 0 <= i then (if i < n then some i.toNat else none) else if -(n : Int) <= i then some (i + n).toNat else none
noncomputable def vq {α : Type} (xs : List α) (i : Int) : Option α := (IW xs.length i).bind fun j => xs[j]?
theorem zZ {n : Nat} {i : Int} {j : Nat} (h : IW n i = some j) : seqIndex? i n = some j /\ j < n /\ -(n : Int) <= i /\ i < n := by
 unfold IW at h
 by_cases h0 : 0 <= i
 . rw [ad0 h0] at h
   by_cases h1 : i < n
   . rw [ad0 h1] at h
     have e : i.toNat = j := aeb h
     exact ⟨by rw [seqIndex_of h0 h1, e], by omega, by omega, h1⟩
   . rw [adT h1] at h; cases h
 . rw [adT h0] at h
   by_cases h1 : -(n : Int) <= i
   . rw [ad0 h1] at h
     have e : (i + n).toNat = j := aeb h
     exact ⟨by rw [seqIndex_neg (by omega) h1, e], by omega, h1, by omega⟩
   . rw [adT h1] at h; cases h
theorem z0 {α : Type} {xs : List α} {i : Int} {v : α} (h : vq xs i = some v) : ∃ j, seqIndex? i xs.length = some j /\ xs[j]? = some v /\ j < xs.length /\ -(xs.length : Int) <= i /\ i < xs.length := by
 unfold vq at h
 cases e : IW xs.length i with
 | none => rw [e] at h; cases h
 | some j =>
   rw [e] at h
   obtain ⟨h1, h2, h3, h4⟩ := zZ e
   exact ⟨j, h1, h, h2, h3, h4⟩
theorem lX {α : Type} {xs : List α} {j : Nat} {v : α} (h : xs[j]? = some v) : vq xs (j : Int) = some v := by
 have hj : j < xs.length := (aev.mp h).1
 have e : IW xs.length (j : Int) = some j := by
   unfold IW
   rw [ad0 (by omega), ad0 (by omega)]; simp
 unfold vq; rw [e]; exact h
noncomputable def lY (b : Expr) : Prop := ∀ o i, subscripted b false o i = operate [o, i] (getItem o i)
noncomputable def Yv (X : Cx) (r : R2) : Prop :=
 ∀ (value slice : Expr) (pins : List (Addr × Obj)) (s : Shared) (σ : St) (H : Hp) (x y : V) (v u : Value) (Q : VK), Inv X pins σ H s -> RelV x v -> RelV y u -> r x y H Q →
   subscripted slice false v u = operate [v, u] (getItem v u) -> wpAny (model X.prog X.w) X.A (subscriptTail value slice v u) (EP X pins σ Q) X.xe s
noncomputable def Yw (X : Cx) (id : String) (r : V -> List V -> Hp -> VK -> Prop) : Prop :=
 ∀ (pins : List (Addr × Obj)) (s : Shared) (σ : St) (H : Hp) (x : V) (xs : List V) (v : Value) (us : List Value) (Q : VK), Inv X pins σ H s -> RelV x v -> Vals xs us -> r x xs H Q →
   wpAny (model X.prog X.w) X.A (call (.builtin id) (v :: us)) (EP X pins σ Q) X.xe s
section
variable {X : Cx} {a b : Expr} {ta tb : TE} {pos : Pos}
theorem zu {r : R2} (hr : Yv X r) (ha : PE X a ta) (hb : PE X b tb) (hs : lY b) : PE X (.Subscript a b pos) (Yr r ta tb) := by
 intro pins s σ H Q I h
 exact Subscript_ (Tv ha hb I h fun v u s2 x y H2 I2 rx ry q => hr a b pins s2 σ H2 x y v u Q I2 rx ry q (hs _ _))
noncomputable def Zy (K : PySem.W.Frag) : R2 := fun x y H Q => ∃ p xs i v, x = .ref p /\ y = .int i /\ jY K H p xs /\ vq xs i = some v /\ Q v H
noncomputable def Zz (K : PySem.W.Frag) : R2 := fun x y H Q => ∃ p xs i v, x = .ref p /\ y = .int i /\ rM K H p xs /\ vq xs i = some v /\ Q v H
noncomputable def ZC : R2 := fun x y H Q => ∃ z i c, x = .str z /\ y = .int i /\ z.length <= sizeLine /\ vq z.cps.toList i = some c /\ Q (.str ⟨#[c]⟩) H
theorem z6 : Yv X (Zy X.K) := by
 intro value slice pins s σ H x y v u Q I rx ry h hs
 obtain ⟨p, xs, i, z, rfl, rfl, hq, he, q⟩ := h
 cases rx
 obtain ⟨t, rfl⟩ := ry
 obtain ⟨its, r, pl, hz⟩ := I.list hq
 obtain ⟨j, h1, h2, h3, h4, h5⟩ := z0 he
 obtain ⟨w, ew, T6⟩ := r.get h2
 have hl := r.length
 have hn := tO
 have fin : EP X pins σ Q w s := ⟨z, H, I, T6, q⟩
 by_cases h0 : 0 <= i
 . have hj : i.toNat = j := by
     rw [seqIndex_of h0 h5] at h1
     exact aeb h1
   exact item_listR pl.isList h0 (by omega) (by rw [hj]; simpa using ew) fin hs
 . have hj : (i + (its.toArray.size : Int)).toNat = j := by
     rw [seqIndex_neg (by omega) h4] at h1
     rw [aeh, ← hl]
     exact aeb h1
   exact subscriptTail_builtinR (x := w) pl.isList.typeIs slot_list_getitem.lookup
     (wpAny_getItem_list_neg (Q := fun r s' => r = w /\ EP X pins σ Q r s') pl.isList (by omega) (by rw [List.size_toArray] <;> omega) (by omega) (by rw [hj]; simpa using ew) ⟨rfl, fin⟩) hs
theorem Lf : Yv X (Zz X.K) := by
 intro value slice pins s σ H x y v u Q I rx ry h hs
 obtain ⟨p, xs, i, z, rfl, rfl, hq, he, q⟩ := h
 cases rx
 obtain ⟨t, rfl⟩ := ry
 obtain ⟨its, r, pl, hz⟩ := I.tuple hq
 obtain ⟨j, h1, h2, h3, h4, h5⟩ := z0 he
 obtain ⟨w, ew, T6⟩ := r.get h2
 have hl := r.length
 have hn := tO
 have fin : EP X pins σ Q w s := ⟨z, H, I, T6, q⟩
 exact subscriptTail_builtinR (x := w) pl.typeIs slot_tuple_getitem.lookup
   (getItem_tuple (j := j) (Q := fun r s' => r = w /\ EP X pins σ Q r s') pl (by omega) (by omega) (by rw [List.size_toArray, ← hl]; exact h1) (by simpa using ew) ⟨rfl, fin⟩) hs
theorem T7 : Yv X ZC := by
 intro value slice pins s σ H x y v u Q I rx ry h hs
 obtain ⟨z, i, c, rfl, rfl, hz, he, q⟩ := h
 obtain ⟨t, rfl⟩ := rx
 obtain ⟨t', rfl⟩ := ry
 obtain ⟨j, h1, h2, h3, h4, h5⟩ := z0 he
 have hl : z.cps.toList.length = z.length := by simp [Str.length]
 rw [hl] at h1 h4 h5
 have hn := tO
 exact tail_any (typeIs_str s z t) slot_str_getitem.lookup (getItem_str (c := c) (by
   have e1 : decide (i < -(2 ^ 63 : Int)) = false := aeC (by omega)
   have e2 : decide (i ≥ 2 ^ 63) = false := aeC (by omega)
   rw [e1, e2, Bool.or_false]) (by rw [h1]; simpa using h2) ⟨.str ⟨#[c]⟩, H, I.tok _, ⟨_, rfl⟩, q⟩) hs
theorem ED (its : List Value) (n j : Nat) (u : Value) : Obj.mapSeq (·.setIfInBounds j u) { cls := .type "list", data := .seq its.toArray n } = { cls := .type "list", data := .seq (its.set j u).toArray n } := by
 simp [Obj.mapSeq]
theorem Inv.lst {pins : List (Addr × Obj)} {σ : St} {H : Hp} {s : Shared} {p : Addr} {xs : List V} (I : Inv X pins σ H s) (h : H p = some (.lst xs)) :
   ∃ (its : List Value) (n : Nat), Vals xs its /\ s.heap.get? p = some { cls := .type "list", data := .seq its.toArray n } /\ xs.length <= sizeLine := by
 obtain ⟨z, its, n, r, e⟩ := I.dR p _ h
 exact ⟨its, n, r, e, z⟩
theorem Inv.T8 {pins : List (Addr × Obj)} {σ : St} {H : Hp} {s : Shared} {p : Addr} {xs ys : List V} {its its' : List Value} {n n' : Nat} {f : Obj -> Obj} (I : Inv X pins σ H s) (h : H p = some (.lst xs))
   (ho : s.heap.get? p = some { cls := .type "list", data := .seq its.toArray n }) (hf : f { cls := .type "list", data := .seq its.toArray n } = { cls := .type "list", data := .seq its'.toArray n' }) (r : Vals ys its') (hz : ys.length <= sizeLine) (t : Nat) :
   Inv X pins σ (upd H p (.lst ys)) { s with heap := s.heap.update p f, toks := t } := by
 have e : (s.heap.update p f).get? p = some { cls := .type "list", data := .seq its'.toArray n' } := by
   rw [Heap.get?_update_self f ho (by rw [hf] <;> rfl), hf]
 refine I.write (x := p) (e := p) (by rw [h]; trivial) (.inl rfl) (fun b u hb q => (Heap.get?_update_other _ _ (aeW hb)).trans q) ⟨_, e⟩ ?_
 exact ⟨hz, its', n', r, e⟩
noncomputable def WW : V -> V -> V -> Hp -> (Hp -> Prop) -> Prop := fun o i v H Q => ∃ p xs k j, o = .ref p /\ i = .int k /\ H p = some (.lst xs) /\ IW xs.length k = some j /\ Q (upd H p (.lst (xs.set j v)))
theorem set_list : Wr X WW := by
 intro pins s σ H o i v ov iv u Q I ro ri rv h
 obtain ⟨p, xs, k, j, rfl, rfl, hp, hj, q⟩ := h
 cases ro
 obtain ⟨t, rfl⟩ := ri
 obtain ⟨its, n, r, ho, hz⟩ := I.lst hp
 obtain ⟨h1, h2, h3, h4⟩ := zZ hj
 have hl := r.length
 have hn := tO
 have I' : Inv X pins σ (upd H p (.lst (xs.set j v))) { s with heap := s.heap.update p (Obj.mapSeq (·.setIfInBounds j u)) } :=
   I.T8 hp ho (ED its n j u) (r.set rv j) (by rw [ae8]; exact hz) s.toks
 by_cases h0 : 0 <= k
 . have hk : k.toNat = j := by
     rw [seqIndex_of h0 h4] at h1
     exact aeb h1
   exact PySem.W.ki_setAt ho h0 (by omega) (by rw [aeh, ← hl]; exact h4) (by rw [hk]; exact ⟨_, I', q⟩)
 . have hk : (k + (its.toArray.size : Int)).toNat = j := by
     rw [seqIndex_neg (by omega) h3] at h1
     rw [aeh, ← hl]
     exact aeb h1
   exact PySem.W.ki_setBack ho (by omega) (by rw [aeh, ← hl]; exact h3) (by omega) (by rw [hk]; exact ⟨_, I', q⟩)
theorem z7 (lo hi : Option Int) (n : Nat) : (sliceBounds lo hi none n).1 = ((HT.fq n 0 lo : Nat) : Int) /\ (sliceBounds lo hi none n).2.1 = ((HT.fq n n hi : Nat) : Int) /\ (sliceBounds lo hi none n).2.2 = 1 := by
 refine ⟨?_, ?_, rfl⟩
 . cases lo with
   | none => simp [sliceBounds, HT.fq]
   | some i =>
     simp only [sliceBounds, HT.fq, Option.getD_none, show (1 : Int) > 0 by decide, if_true]
     by_cases h : i < 0
     . simp only [h, if_true] <;> omega
     . simp only [h, if_false] <;> omega
 . cases hi with
   | none => simp [sliceBounds, HT.fq]
   | some i =>
     simp only [sliceBounds, HT.fq, Option.getD_none, show (1 : Int) > 0 by decide, if_true]
     by_cases h : i < 0
     . simp only [h, if_true] <;> omega
     . simp only [h, if_false] <;> omega
theorem yE (its : List Value) (lo hi : Option Int) : slicePick its.toArray lo hi none = ((its.drop (HT.fq its.length 0 lo)).take (HT.fq its.length its.length hi - HT.fq its.length 0 lo)).toArray := by
 obtain ⟨h1, h2, h3⟩ := z7 lo hi its.toArray.size
 unfold slicePick
 rw [h1, h2, h3]
 simp only [sliceRange_one, pick_run, aeh] <;> rfl
noncomputable def ZD (K : PySem.W.Frag) : V -> Option Int -> Option Int -> Hp -> VK -> Prop := fun x lo hi H Q => ∃ a xs, x = .ref a /\ jY K H a xs /\ ∀ p, H p = none -> Q (.ref p) (upd H p (.lst (BW xs lo hi)))
theorem Pw : Zw X (ZD X.K) := by
 intro pins s σ H x v vl vu lo hi sl Q I rx hs pl pu h
 obtain ⟨a, xs, rfl, hx, q⟩ := h
 cases rx
 obtain ⟨its, r, ht, hz⟩ := I.list hx
 have hlen := r.length
 refine ⟨"list", _, slot_list_getitem.lookup, ht.isList.typeIs, ?_⟩
 refine wpAny_getItem_list_slice ht.isList hs pl pu .none (by simp) ?_ (by rw [aeh] <;> omega)
 rw [yE, ← hlen]
 refine ⟨.ref s.heap.objs.size, _, I.laid (t' := s.toks) (o := .lst (BW xs lo hi)) (fun b ob q => aee _ q) (adV _) ?_, rfl, q _ (I.dR.fresh (adV _))⟩
 exact ⟨aeA (uO xs lo hi) hz, _, 0, (r.drop (HT.fq xs.length 0 lo)).take (HT.fq xs.length xs.length hi - HT.fq xs.length 0 lo), aeG _ rfl⟩
noncomputable def rT : V -> Bool
 | .non => true
 | .bl _ => true
 | .int _ => true
 | .str _ => true
 | _ => false
noncomputable def Px : V -> V -> Bool
 | .non, .non => true
 | .bl a, .bl b => a == b
 | .bl a, .int b => (if a then 1 else 0) == b
 | .int a, .bl b => a == (if b then 1 else 0)
 | .int a, .int b => a == b
 | .str a, .str b => a == b
 | _, _ => false
theorem T9 {A : Around} {s : Shared} {y x : V} {u v : Value} (ry : RelV y u) (rx : RelV x v) (fy : rT y = true) (fx : rT x = true) : SeqAt.EqAt A s u v (Px y x) := by
 cases y with
 | non =>
   cases ry
   cases x with
   | non => cases rx; exact SeqAt.EqAt.same _
   | bl b => cases rx; exact SeqAt.EqAt.none_bool b
   | int b => obtain ⟨t, rfl⟩ := rx; exact SeqAt.EqAt.none_int b t
   | str b => obtain ⟨t, rfl⟩ := rx; exact SeqAt.EqAt.none_str b t
   | _ => exact absurd (show false = true from fx) ad5
 | bl a =>
   cases ry
   cases x with
   | non => cases rx; exact SeqAt.EqAt.bool_none a
   | bl b => cases rx; exact SeqAt.EqAt.bool_bool a b
   | int b => obtain ⟨t, rfl⟩ := rx; exact SeqAt.EqAt.bool_int a b t
   | str b => obtain ⟨t, rfl⟩ := rx; exact SeqAt.EqAt.bool_str a b t
   | _ => exact absurd (show false = true from fx) ad5
 | int a =>
   obtain ⟨t', rfl⟩ := ry
   cases x with
   | non => cases rx; exact SeqAt.EqAt.int_none a t'
   | bl b => cases rx; exact SeqAt.EqAt.int_bool a t' b
   | int b => obtain ⟨t, rfl⟩ := rx; exact SeqAt.EqAt.int_int a t' b t
   | str b => obtain ⟨t, rfl⟩ := rx; exact SeqAt.EqAt.int_str a t' b t
   | _ => exact absurd (show false = true from fx) ad5
 | str a =>
   obtain ⟨t', rfl⟩ := ry
   cases x with
   | non => cases rx; exact SeqAt.EqAt.str_none a t'
   | bl b => cases rx; exact SeqAt.EqAt.str_bool a t' b
   | int b => obtain ⟨t, rfl⟩ := rx; exact SeqAt.EqAt.str_int a t' b t
   | str b => obtain ⟨t, rfl⟩ := rx; exact SeqAt.EqAt.str_str a t' b t
   | _ => exact absurd (show false = true from fx) ad5
 | _ => exact absurd (show false = true from fy) ad5
noncomputable def EE (x : V) (u : Value) : Bool := match u with
 | .none => Px .non x
 | .bool b => Px (.bl b) x
 | .int i _ => Px (.int i) x
 | .str z _ => Px (.str z) x
 | _ => false
theorem Lg {x y : V} {u : Value} (r : RelV y u) (f : rT y = true) : EE x u = Px y x := by
 cases y with
 | non => cases r; rfl
 | bl b => cases r; rfl
 | int i => obtain ⟨t, rfl⟩ := r; rfl
 | str z => obtain ⟨t, rfl⟩ := r; rfl
 | _ => exact absurd (show false = true from f) ad5
theorem rV {x : V} : ∀ {xs : List V} {us : List Value}, Vals xs us -> xs.all rT = true -> us.any (EE x) = xs.any fun y => Px y x
 | _, _, .nil, _ => rfl
 | y :: xs, u :: us, .cons r t, f => by
   rw [List.all_cons, aey] at f
   rw [List.any_cons, List.any_cons, Lg r f.1, rV t f.2]
theorem nM {A : Around} {s : Shared} {x : V} {v : Value} (rx : RelV x v) (fx : rT x = true) : ∀ {xs : List V} {us : List Value}, Vals xs us -> xs.all rT = true -> ∀ u ∈ us, SeqAt.EqAt A s u v (EE x u)
 | _, _, .nil, _ => fun u hu => by cases hu
 | y :: xs, u :: us, .cons r t, f => fun u' hu => by
   rw [List.all_cons, aey] at f
   rcases adN.mp hu with rfl | hu
   . rw [Lg r f.1]; exact T9 r rx f.1 fx
   . exact nM rx fx t f.2 u' hu
noncomputable def WX (x : V) (xs : List V) : Bool := xs.any fun y => Px y x
noncomputable def rIn (K : PySem.W.Frag) (neg : Bool) : R2 := fun x y H Q => ∃ p xs, y = .ref p /\ (jY K H p xs \/ rM K H p xs) /\ rT x = true /\ xs.all rT = true /\ Q (.bl (if neg then !WX x xs else WX x xs)) H
theorem zv : tN X (compareOp .In) (rIn X.K false) := by
 intro pins s σ H x y v u Q I rx ry h
 obtain ⟨p, xs, rfl, hq, fx, fs, q⟩ := h
 cases ry
 rcases hq with hq | hq
 . obtain ⟨its, r, pl, hz⟩ := I.list hq
   refine SeqAt.in_listAt (EE x) pl.isList (fun w hw => nM rx fx r fs w (by simpa using hw)) ⟨.bl _, H, I, rfl, ?_⟩
   rw [show its.toArray.any (EE x) = its.any (EE x) by simp, rV r fs]
   exact q
 . obtain ⟨its, r, pl, hz⟩ := I.tuple hq
   refine SeqAt.in_tupleAt (EE x) pl (fun w hw => nM rx fx r fs w (by simpa using hw)) ⟨.bl _, H, I, rfl, ?_⟩
   rw [show its.toArray.any (EE x) = its.any (EE x) by simp, rV r fs]
   exact q
theorem rW : tN X (compareOp .NotIn) (rIn X.K true) := by
 intro pins s σ H x y v u Q I rx ry h
 obtain ⟨p, xs, rfl, hq, fx, fs, q⟩ := h
 cases ry
 rcases hq with hq | hq
 . obtain ⟨its, r, pl, hz⟩ := I.list hq
   refine SeqAt.notIn_listAt (EE x) pl.isList (fun w hw => nM rx fx r fs w (by simpa using hw)) ⟨.bl _, H, I, rfl, ?_⟩
   rw [show its.toArray.any (EE x) = its.any (EE x) by simp, rV r fs]
   exact q
 . obtain ⟨its, r, pl, hz⟩ := I.tuple hq
   refine SeqAt.notIn_tupleAt (EE x) pl (fun w hw => nM rx fx r fs w (by simpa using hw)) ⟨.bl _, H, I, rfl, ?_⟩
   rw [show its.toArray.any (EE x) = its.any (EE x) by simp, rV r fs]
   exact q
theorem rX : rR X (.builtin "len") (fun xs H Q => ∃ p ys, xs = [.ref p] /\ (jY X.K H p ys \/ rM X.K H p ys) /\ Q (.int ys.length) H) := by
 intro pins s σ H xs us Q I r h
 obtain ⟨p, ys, rfl, hq, q⟩ := h
 obtain ⟨u, rfl, rx⟩ := vals1 r
 cases rx
 have hn := tO
 rcases hq with hq | hq
 . obtain ⟨its, r', pl, hz⟩ := I.list hq
   have hlen := r'.length
   exact Calls.call_len_list pl.isList (by simp only [aeh] <;> omega) ⟨.int ys.length, H, I.tok _, ⟨s.toks + 1, by rw [aeh, hlen]⟩, q⟩
 . obtain ⟨its, r', pl, hz⟩ := I.tuple hq
   have hlen := r'.length
   exact len_tuple pl (by simp only [aeh] <;> omega) ⟨.int ys.length, H, I.tok _, ⟨s.toks + 1, by rw [aeh, hlen]⟩, q⟩
theorem z8 : rR X (.type "list") (fun xs H Q => ∃ p ys, xs = [.ref p] /\ (jY X.K H p ys \/ rM X.K H p ys) /\ ∀ l, H l = none -> Q (.ref l) (upd H l (.lst ys))) := by
 intro pins s σ H xs us Q I r h
 obtain ⟨p, ys, rfl, hq, q⟩ := h
 obtain ⟨u, rfl, rx⟩ := vals1 r
 cases rx
 have fin : ∀ (its : List Value), Vals ys its -> ys.length <= sizeLine -> ∀ (h' : Heap) (c' : Nat), (∀ b o', s.heap.get? b = some o' -> h'.get? b = some o') →
     h'.get? s.heap.objs.size = some { cls := .type "list", dict := none, data := .seq its.toArray c', slots := #[] } -> EP X pins σ Q (.ref s.heap.objs.size) { s with heap := h' } := fun its r' hz h' c' kp e =>
   ⟨.ref s.heap.objs.size, _, I.laid (t' := s.toks) kp (adV _) (show jX X.prog X.w _ h' _ (.lst ys) from ⟨hz, its, c', r', e⟩), rfl, q _ (I.dR.fresh (adV _))⟩
 rcases hq with hq | hq
 . obtain ⟨its, r', pl, hz⟩ := I.list hq
   have hlen := r'.length
   obtain ⟨o, ho, hc, n, hd⟩ := pl.isList
   exact call_list_seq p (.inl rfl) ho hc hd (fun h' c' kp e => fin its r' hz h' c' kp e) (by simp only [aeh] <;> omega)
 . obtain ⟨its, r', pl, hz⟩ := I.tuple hq
   have hlen := r'.length
   obtain ⟨o, ho, hc, n, hd⟩ := pl
   exact call_list_seq p (.inr rfl) ho hc hd (fun h' c' kp e => fin its r' hz h' c' kp e) (by simp only [aeh] <;> omega)
noncomputable def tyV (K : PySem.W.Frag) (T : String) (x : V) (H : Hp) : Prop := match x with
 | .str _ => T = "str"
 | .int _ => T = "int"
 | .ref p => (T = "list" /\ ∃ xs, jY K H p xs) \/ (T = "tuple" /\ ∃ o, K.lookup p = some o /\ o.cls = .type "tuple" /\ o.dict = none) ∨
     (T = "dict" /\ ((∃ i7, H p = some (.dK i7)) \/ ∃ i7, H p = some (.dT i7))) \/ (T = "set" /\ ∃ S n, H p = some (.set S n))
 | _ => False
theorem Ua {pins : List (Addr × Obj)} {σ : St} {H : Hp} {s : Shared} {T : String} {x : V} {v : Value} (I : Inv X pins σ H s) (r : RelV x v) (ty : tyV X.K T x H) :
   s.TypeIs v T /\ ∀ a, v = .ref a -> ∃ ob, s.heap.get? a = some ob /\ ob.dict = none := by
 cases x with
 | str z =>
   obtain ⟨t, rfl⟩ := r
   cases (show T = "str" from ty)
   exact ⟨typeIs_str s z t, fun _ e => nomatch e⟩
 | int i =>
   obtain ⟨t, rfl⟩ := r
   cases (show T = "int" from ty)
   exact ⟨typeIs_int s i t, fun _ e => nomatch e⟩
 | ref p =>
   cases r
   rcases ty with ⟨rfl, xs, hq⟩ | ⟨rfl, o, hk, hc, hd⟩ | ⟨rfl, hk⟩ | ⟨rfl, S, n, hk⟩
   . obtain ⟨its, _, pl, _⟩ := I.list hq
     refine ⟨pl.isList.typeIs, fun a e => ?_⟩
     cases e
     obtain ⟨o, n, e, c, hd, _⟩ := pl
     exact ⟨o, e, hd⟩
   . refine ⟨⟨o, I.BK p o hk, hc⟩, fun a e => ?_⟩
     cases e
     exact ⟨o, I.BK _ o hk, hd⟩
   . have z : ∃ o, s.heap.get? p = some o /\ o.ExactDict := by
       rcases hk with ⟨i7, hk⟩ | ⟨i7, hk⟩
       . obtain ⟨_, _, _, _, o, _, _, e, ex, _⟩ := I.dR p _ hk
         exact ⟨o, e, ex⟩
       . obtain ⟨_, _, _, _, o, _, _, e, ex, _⟩ := I.dR p _ hk
         exact ⟨o, e, ex⟩
     obtain ⟨o, e, ex⟩ := z
     refine ⟨⟨o, e, ex.1⟩, fun a e2 => ?_⟩
     cases e2
     exact ⟨o, e, ex.2.1⟩
   . obtain ⟨o, _, _, _, e, ex, _⟩ := I.dR p _ hk
     refine ⟨⟨o, e, ex.1⟩, fun a e2 => ?_⟩
     cases e2
     exact ⟨o, e, ex.2.1⟩
 | _ => exact False.elim ty
noncomputable def tBM (K : PySem.W.Frag) (T : String) (r : V -> List V -> Hp -> VK -> Prop) (to : TE) (t : TA) : TE := fun σ H Q => to σ H fun x H1 => tyV K T x H1 /\ t σ H1 fun xs H2 => r x xs H2 Q
variable {o e : Expr} {es : List Expr} {to : TE} {t : TA} {name : Str} {apos BX : Pos} {T id : String} {r : V -> List V -> Hp -> VK -> Prop}
theorem zx (pa : PlainAttrs T) (slot : Slot T name id) (hty : typeOf (.builtin id) = pure (.type "method_descriptor")) (hm : Yw X id r) (ho : PE X o to) (ha : PA X (e :: es) t)
   (jE : attributeBase o name X.env (eval o X.env) = eval o X.env := by rfl)
   (qC : ((backTo BX (starEach (e :: es) X.env)).all (fun x => !x.1) && (backToKw BX (keywordEach [] X.env)).all (fun x => x.1.isSome)
     && decide ((e :: es).length + ([] : List Keyword).length + (if ([] : List Keyword).isEmpty then 0 else 1) < 30)) = true := by rfl)
   (hline : (apos.endLine == BX.line) = true := by rfl) (hs : starEach (e :: es) X.env = (false, eval e X.env) :: starEach es X.env := by rfl) (EF : (backTo BX (starEach es X.env)).any (·.1) = false := by rfl) :
   PE X (.Call (.Attribute o name apos) (e :: es) [] BX) (tBM X.K T r to t) := by
 intro pins s σ H Q I h
 refine wpAny_Call_method_late jE qC hline rfl (eL (ho pins s σ H _ I h) fun v s1 zz => ?_)
 obtain ⟨x, H1, I1, r1, ty, q1⟩ := zz
 obtain ⟨h1, h2⟩ := Ua I1 r1 ty
 refine ⟨T, id, pa, slot, hty, h1, h2, ?_⟩
 have hA := ha BX pins s1 σ H1 _ I1 q1
 rw [hs] at hA ⊢
 refine Calls.callWith_builtin (by show (false || (backTo BX (starEach es X.env)).any (·.1)) = false; rw [EF] <;> rfl) (Calls.evalArgs_plain ?_)
 exact eL hA fun us s2 ⟨vs, H2, I2, r2, q2⟩ => hm pins s2 σ H2 x vs v us Q I2 r1 r2 q2
end
noncomputable def MtM (X : Cx) (id : String) (r : V -> List V -> Hp -> VK -> Prop) : Prop :=
 ∀ (pins : List (Addr × Obj)) (s : Shared) (σ : St) (H : Hp) (x : V) (xs : List V) (v : Value) (us : List Value) (Q : VK), Inv X pins σ H s -> RelV x v -> Vals xs us -> r x xs H Q →
   wpAny (model X.prog X.w) X.A (call (.builtin id) (v :: us)) (EP X pins σ Q) X.xe s
theorem Vals.one {x : V} {us : List Value} (h : Vals [x] us) : ∃ u, us = [u] /\ RelV x u := by
 cases h with
 | cons r h => cases h; exact ⟨_, rfl, r⟩
theorem Vals.two {x y : V} {us : List Value} (h : Vals [x, y] us) : ∃ u v, us = [u, v] /\ RelV x u /\ RelV y v := by
 cases h with
 | cons r h => cases h with
   | cons q h => cases h; exact ⟨_, _, rfl, r, q⟩
section
variable {X : Cx} {pins : List (Addr × Obj)} {σ : St} {H : Hp} {s : Shared} {l b : Addr} {xs ys zs : List V}
theorem Inv.WZ {its its' : List Value} {n : Nat} {f : Array Value -> Array Value} {t' : Nat} (I : Inv X pins σ H s) (hH : H l = some (.lst xs))
   (e : s.heap.get? l = some { cls := .type "list", data := .seq its.toArray n }) (hf : f its.toArray = its'.toArray) (hv : Vals ys its') (hz : ys.length <= sizeLine) :
   Inv X pins σ (upd H l (.lst ys)) { s with heap := s.heap.update l (Obj.mapSeq f), toks := t' } := by
 have q := PySem.IsL.update e f
 rw [hf] at q
 refine I.write (x := l) (e := l) (by rw [hH]; exact trivial) (.inl rfl) (fun b' u hb hu => (Heap.get?_update_other s.heap (Obj.mapSeq f) (aeW hb)).trans hu) ⟨_, q⟩ ?_
 exact ⟨hz, its', _, hv, q⟩
theorem Inv.W0 {its : List Value} {t' : Nat} (I : Inv X pins σ H s) (hv : Vals ys its) (hz : ys.length <= sizeLine) :
   Inv X pins σ (upd H s.heap.objs.size (.lst ys)) { s with heap := s.heap.push { cls := .type "list", data := .seq its.toArray }, toks := t' } :=
 I.laid (fun _ _ q => aee _ q) (adV _) ⟨hz, its, 0, hv, aeG _ rfl⟩
theorem Inv.fresh (I : Inv X pins σ H s) : H s.heap.objs.size = none := I.dR.fresh (adV _)
theorem Inv.Ub (I : Inv X pins σ H s) (hH : H l = some (.lst xs)) : xs.length <= sizeLine /\ ∃ (its : List Value) (n : Nat), Vals xs its /\ xs.length = its.length /\ s.heap.get? l = some { cls := .type "list", data := .seq its.toArray n } := by
 obtain ⟨z, its, n, r, e⟩ := I.dR l _ hH
 exact ⟨z, its, n, r, r.length, e⟩
theorem Lh {n : Nat} (h : n <= sizeLine) : Builtin.List.listTooLong n = false := by
 unfold Builtin.List.listTooLong
 exact aeC (by omega)
end
section
variable {X : Cx}
noncomputable def Py : V -> List V -> Hp -> VK -> Prop := fun x vs H Q => ∃ l xs y, x = .ref l /\ vs = [y] /\ H l = some (.lst xs) /\ xs.length < sizeLine /\ Q .non (upd H l (.lst (xs ++ [y])))
theorem tU : MtM X "list.append" Py := by
 intro pins s σ H x vs v us Q I rx rv h
 obtain ⟨l, xs, y, rfl, rfl, hH, hz, q⟩ := h
 cases rx
 obtain ⟨u, rfl, ru⟩ := rv.one
 obtain ⟨z, its, n, r, hl, e⟩ := I.Ub hH
 refine call_meets F.slot_list_append ⟨_, e, rfl⟩ F.entry_list_append (F.args_list_append_2 _ _) (PySem.list_append l its.toArray n u (by rw [aeh]; omega)) ⟨e, ?_⟩
 refine ⟨.non, _, I.WZ (its' := its ++ [u]) hH e (by simp) (r.append (.cons ru .nil)) ?_, rfl, q⟩
 rw [adR, ad9]
 omega
noncomputable def Pz : V -> List V -> Hp -> VK -> Prop := fun x vs H Q => ∃ l b xs zs, x = .ref l /\ vs = [.ref b] /\ H l = some (.lst xs) /\ H b = some (.lst zs) /\ xs.length + zs.length <= sizeLine /\ Q .non (upd H l (.lst (xs ++ zs)))
theorem IX : MtM X "list.extend" Pz := by
 intro pins s σ H x vs v us Q I rx rv h
 obtain ⟨l, b, xs, zs, rfl, rfl, hH, hB, hz, q⟩ := h
 cases rx
 obtain ⟨u, rfl, ru⟩ := rv.one
 cases ru
 obtain ⟨z, its, n, r, hl, e⟩ := I.Ub hH
 obtain ⟨z2, tT, n2, r2, hl2, e2⟩ := I.Ub hB
 have K8 : its.toArray.size + tT.toArray.size <= sizeLine := by rw [aeh, aeh]; omega
 have W3 : ¬ (!its.toArray.isEmpty && Builtin.List.listTooLong (its.toArray.size + tT.toArray.size)) = true := by
   rw [Lh K8, Bool.and_false]
   exact ad5
 refine call_meets F.slot_list_extend ⟨_, e, rfl⟩ F.entry_list_extend (F.args_list_extend_2 _ _)
   (AutoSeq1.list_extend_list_list_0 l its.toArray n b tT.toArray n2 W3 (by rw [aeh]; omega) (by omega)) ⟨e, e2, ?_⟩
 refine ⟨.non, _, I.WZ (its' := its ++ tT) hH e (by simp) (r.append r2) ?_, rfl, q⟩
 rw [adR]
 omega
end
section
variable {prog : Program} {w : World} {A : Around} {E : Value -> Shared -> Prop} {s : Shared}
set_option maxRecDepth 100000 in
end
section
variable {X : Cx}
end
end L2
namespace Att
open PySem PySem.W PySem.Calls PyProof.Rows
theorem vt {P : Params} {h : Heap} : ∀ (ns : List Int) (vs : List Value), WellAll P h vs (ns.map WData.int) -> IntsAre vs ns := by
 intro ns
 induction ns with
 | nil =>
   intro vs w
   rw [List.map_nil] at w
   cases w
   exact .nil
 | cons n ns ih =>
   intro vs w
   rw [List.map_cons] at w
   cases w with
   | cons a b =>
     cases a
     exact .cons _ _ (ih _ b)
theorem IY {l : OpenLaw} {n : Nat} (hn : l.most = some n) {P : Params} {h : Heap} {args : List WData} {vals : List Value}
   (PB : l.row.toRowW.claim.pre args = true) (KD : WellAll P h vals args) :
   ∃ a vs ns, vals = [Value.ref a] /\ args = [WData.list (ns.map WData.int)] /\ h.get? a = some { cls := .type "list", data := .seq vs.toArray } /\ IntsAre vs ns /\ ns.length <= n := by
 have hsh : WShape.hasAll [] args [.list .int] = true := (pre_splitW PB).1
 have hc : l.pre.holds [] { args := args } = true := (pre_splitW PB).2
 obtain ⟨d, r, rfl, h1, h2⟩ := hasAllW_cons hsh
 obtain rfl := hasAllW_nil h2
 obtain ⟨xs, rfl, h3⟩ := hasW_list h1
 obtain ⟨ns, rfl⟩ := items_int h3
 have hlen : ns.length <= n := by
   unfold OpenLaw.pre at hc
   have h4 : (WTm.not (.lt (.lit (.int (n : Int))) (.len (.arg 0)))).holds [] { args := [.list (ns.map .int)] } = true := by
     have h4 := (holds_andW hc).1
     rw [hn] at h4
     exact h4
   have h5 := condW_of h4 (w_not (w_lt w_lit (w_len_list (w_arg rfl))))
   rw [List.length_map] at h5
   refine Nat.le_of_not_lt fun q => ?_
   have q' : (n : Int) < ((ns.length : Nat) : Int) := by omega
   first
     | (rw [decide_eq_true q'] at h5; exact absurd h5 (by decide))
     | (simp at h5; omega)
 cases KD with
 | cons w1 w2 =>
   cases w2
   cases w1 with
   | list ho ZE => exact ⟨_, _, ns, rfl, rfl, ho, vt ns _ ZE, hlen⟩
theorem IZ (l : OpenLaw) (args : List WData) : l.row.toRowW.claim.post args (.bool true) args = true :=
 postW_of (r := l.row.toRowW) (X := (true == true))
   (show WShape.has [] (.bool true) .bool = true by first | rfl | decide | simp [WShape.has, WShape.arms, WShape.armsAll])
   (show (WTm.eq .res (.lit (.bool true))).value [] { args := args, res := some (.bool true), after := args } = some (.bool (true == true)) from w_eq_bool (w_res rfl) w_lit) rfl
theorem BZ {l : OpenLaw} {n : Nat} {q : Program} {loose : List Str} {XP : (Str -> Option Value) -> Heap -> Prop} {YP : World -> Heap -> Prop} {d : DefRec}
   (hn : l.most = some n) (W4 : d.params.defaults = [])
   (call : ∀ (w : World) (s₀ s₁ : Shared) (mg mb : Str -> Option Value) (fa : Addr) (o : Obj) (pm cd doc : Value) (a : Addr) (vs : List Value) (ns : List Int),
     Ground q loose [] XP w s₀ mg mb s₁.heap -> YP w s₁.heap →
     s₁.heap.get? fa = some o -> o.data = .func (docDef d.name d.params d.body d.scope pm cd doc) -> s₁.heap.CodeRec cd d.name -> mg d.name = some (.ref fa) →
     s₁.heap.get? a = some { cls := .type "list", data := .seq vs.toArray } -> IntsAre vs ns -> ns.length <= n -> s₁.gens = #[] →
     codeAny (model l.prog w) callerA (.call (.ref fa) ⟨[.ref a], []⟩) (fun r s' => r = .ok (.ret (.bool true)) /\ OldK s₁.heap s'.heap /\ s'.os = s₁.os /\ AllBare s'.gens) s₁) :
   WalkO q loose XP YP l.row.toRowW d [] (fun f vs => PySem.call f vs) := by
 intro w s₀ s₁ mg mb G Y fa o pm cd doc dV kV ho hd nI hD W5 hg args vals as PB hlay hrd KD ZF
 obtain rfl : dV = .none := Dflts.none hD W4
 obtain rfl : kV = .none := Dflts.noKw hD
 obtain ⟨a, vs, ns, rfl, rfl, Uc, hints, hlen⟩ := IY hn PB KD
 refine enter_call (codeAny_mono (call w s₀ s₁ mg mb fa o pm cd doc a vs ns G Y ho (fd_plain hd) nI W5 Uc hints hlen hg) fun r s' hq => ?_)
 obtain ⟨rfl, h2, h3, h4⟩ := hq
 exact ⟨.inl ⟨.bool true, .bool true, [], rfl, fun _ => rfl, .bool true, IZ l _, fun _ => ⟨List.Pairwise.nil, fun _ hm => (nomatch hm)⟩⟩, h2, h3, h4⟩
section
variable {prog : Program} {w : World} {A : Around} {E : Value -> Shared -> Prop} {s : Shared} {K : Frag}
noncomputable def ledger (h : Heap) (L d : Addr) : List (Addr × Obj) := (List.range h.objs.size).filterMap fun a => if a = L \/ a = d then none else (h.get? a).map fun o => (a, o)
end
end Att
namespace L2
open PySem PySem.Spec PyProof.Rows
theorem zy : ∀ {vs : List Value} {ns : List Int}, IntsAre vs ns -> Vals (ns.map V.int) vs
 | _, _, .nil => .nil
 | _, _, .cons n t h => .cons ⟨t, rfl⟩ (zy h)
noncomputable def Only (H : Hp) : Prop := ∀ b, H b = none \/ ∃ o xs, H b = some (.d7 o (.lst xs))
theorem Li {P : Program} {w : World} {K : PySem.W.Frag} {mg mb : Str -> Option Value} {CX : KC} {k : Nat} {fa a : Addr} {fd : FuncData} {x : Str} {sp : Sp} {s₁ : Shared} {vs : List Value} {ns : List Int}
   (KX : K.In s₁.heap) (hns : s₁.heap.Ns mainGlobals mg) (hb : s₁.heap.Ns builtinsNs mb) (hbb : ∀ x : Str, x ≠ "__name__" -> mb x = bootBuiltins x) (ZG : s₁.heap.NoLimit) (hg : s₁.gens = #[])
   (ha : s₁.heap.get? a = some { cls := .type "list", data := .seq vs.toArray }) (hi : IntsAre vs ns) (hl : ns.length <= sizeLine) (hr : gq k callerA)
   (F : ∀ base : Heap, K.In base -> base.Ns mainGlobals mg -> b8 P w K mg base CX k fa fd [x] sp) (W6 : ∀ (s : Shared) (u : Value), BindsTo s fd ⟨[u], []⟩ [(x, u)])
   (RX : ∀ H : Hp, Only H -> jY K H a (ns.map V.int) -> sp [.ref a] H (fun v _ => v = .bl true) fun _ _ _ => False)
   (ZH : ∀ H e s', CX [] H s₁ (fun _ _ _ => False) e s' -> False) :
   codeAny (model P w) callerA (.call (.ref fa) ⟨[.ref a], []⟩) (fun r s' => r = .ok (.ret (.bool true)) /\ OldK s₁.heap s'.heap /\ s'.os = s₁.os /\ AllBare s'.gens) s₁ := by
 have rv := zy hi
 have ZI := hi.length
 have core : ∀ H : Hp, Only H -> jY K H a (ns.map V.int) -> vI P w H s₁.heap -> (∀ b, H b ≠ none -> b = a) -> (H a ≠ none -> K.lookup a = none) →
     codeAny (model P w) callerA (.call (.ref fa) ⟨[.ref a], []⟩) (fun r s' => r = .ok (.ret (.bool true)) /\ OldK s₁.heap s'.heap /\ s'.os = s₁.os /\ AllBare s'.gens) s₁ := by
   intro H hO hS dR hA hK
   have Hu : ∀ {b : Addr} {o : Obj}, s₁.heap.get? b = some o -> H b = none -> (zS s₁.heap H).get? b = some o := fun e n => KS e n
   have WR : ∀ {b : Addr} {o : Obj} {es : Array DictEntry} {ep : Nat}, s₁.heap.get? b = some o -> o.data = .dict es ep -> H b = none := fun {b o es ep} e d => by
     cases q : H b with
     | none => rfl
     | some u =>
       have e' : b = a := hA b (by rw [q]; simp)
       subst e'
       rw [ha] at e; cases e
       have d' : Data.seq vs.toArray _ = Data.dict es ep := d
       cases d'
   have Yx : ∀ {b : Addr} {m : Str -> Option Value}, s₁.heap.Ns b m -> (zS s₁.heap H).Ns b m := fun {b m} ⟨o, es, ep, e, d, r⟩ => ⟨o, es, ep, Hu e (WR e d), d, r⟩
   have hKb : K.In (zS s₁.heap H) := fun b o e => Hu (KX b o e) (by
     cases q : H b with
     | none => rfl
     | some u =>
       have e' : b = a := hA b (by rw [q]; simp)
       subst e'
       rw [hK (by rw [q]; simp)] at e; cases e)
   have hM : Mod K mg (zS s₁.heap H) := ⟨hKb, Yx hns, ⟨mb, Yx hb, hbb⟩, let ⟨mc, h1, h2⟩ := ZG; ⟨mc, Yx h1, h2⟩⟩
   have e0 : Ey P w K mg (zS s₁.heap H) callerA [] s₁ H := ⟨rfl, hM, fun b o e => OU e, Nat.le_of_eq (IA _ _), trivial, fun b hb => absurd (show b ∈ ([] : List Addr) from hb) (by simp), dR, .of_eq hg⟩
   refine codeAny_mono ((F _ hKb (Yx hns)).run callerA [] s₁ H ⟨[.ref a], []⟩ [.ref a] [.ref a] _ _ hr e0 (W6 s₁ (.ref a)) (.cons rfl .nil) (RX H hO hS)) fun r s' h => ?_
   cases r with
   | error e => exact (ZH H e s' h).elim
   | ok fl =>
     cases fl with
     | next => exact False.elim h
     | brk => exact False.elim h
     | cont => exact False.elim h
     | ret u =>
       obtain ⟨v, H', os, bare, un, ZJ, r', q⟩ := h
       have q' : v = .bl true := q
       subst q'
       obtain rfl : u = Value.bool true := r'
       refine ⟨rfl, OldK.of_keep fun b o e => ?_, os, bare⟩
       cases q : H b with
       | none => exact un.keep b o e q (by intro z; exact absurd (show b ∈ ([] : List Addr) from z) (by simp)) (by simp)
       | some u =>
         rcases hO b with z | ⟨ob, xs, z⟩
         . rw [q] at z; cases z
         . have z2 := un.gW b ob _ z
           obtain ⟨e1, _⟩ := dR b _ z
           obtain ⟨e2, _⟩ := ZJ b _ z2
           rw [e] at e1; cases e1
           exact e2
 cases hk : K.lookup a with
 | some o =>
   have e := KX a o hk
   rw [ha] at e
   cases e
   refine core (fun _ => none) (fun _ => .inl rfl) (.inr ⟨_, vs.toArray, _, hk, rfl, rfl, rfl, by rw [List.size_toArray, ZI]; exact hl, by simpa using rv⟩) (fun b u z => by have z' : (none : Option HO) = some u := z; cases z') (fun b z => absurd rfl z) fun z => absurd rfl z
 | none =>
   refine core (fun b => if b = a then some (.d7 { cls := .type "list", data := .seq vs.toArray } (.lst (ns.map V.int))) else none) (fun b => ?_) (.inl (.inr ⟨{ cls := .type "list", data := .seq vs.toArray }, ad0 rfl⟩)) (fun b u z => ?_) (fun b z => ?_) fun _ => hk
   . by_cases hb : b = a
     . exact .inr ⟨_, _, ad0 hb⟩
     . exact .inl (adT hb)
   . by_cases hb : b = a
     . have z' := (ad0 hb).symm.trans z
       cases z'
       subst hb
       exact ⟨ha, by rw [adM]; exact hl, vs, _, rv, ha⟩
     . have z' := (adT hb).symm.trans z
       cases z'
   . by_cases hb : b = a
     . exact hb
     . exact absurd (adT hb) z
theorem PC {l : PySem.W.OpenLaw} {n k : Nat} {q : Program} {loose : List Str} {XP : (Str -> Option Value) -> Heap -> Prop} {YP : World -> Heap -> Prop} {d : DefRec} {K : Params -> PySem.W.Frag} {CX : World -> KC} {sp : World -> Sp} {x : Str}
   (hn : l.most = some n) (Yt : n <= sizeLine) (W4 : d.params.defaults = []) (hr : gq k callerA)
   (hY : ∀ (w : World) (h : Heap), YP w h -> (K w.params).In h)
   (F : ∀ (w : World) (mg : Str -> Option Value) (fa : Addr) (h : Heap), (K w.params).In h -> h.Ns mainGlobals mg -> mg d.name = some (.ref fa) →
     ∃ fd : FuncData, (∀ (s : Shared) (u : Value), BindsTo s fd ⟨[u], []⟩ [(x, u)]) ∧
       ∀ base : Heap, (K w.params).In base -> base.Ns mainGlobals mg -> b8 l.prog w (K w.params) mg base (CX w) k fa fd [x] (sp w))
   (RX : ∀ (w : World) (H : Hp) (a : Addr) (ns : List Int), ns.length <= n -> Only H -> jY (K w.params) H a (ns.map V.int) -> sp w [.ref a] H (fun v _ => v = .bl true) fun _ _ _ => False)
   (ZH : ∀ (w : World) (H : Hp) (s : Shared) (e : Value) (s' : Shared), CX w [] H s (fun _ _ _ => False) e s' -> False) :
   PySem.W.WalkO q loose XP YP l.row.toRowW d [] (fun f vs => PySem.call f vs) := by
 refine Att.BZ hn W4 fun w s₀ s₁ mg mb fa o pm cd doc a vs ns G Y ho hd nI W5 Uc hints hlen hg => ?_
 have KX := hY w _ Y
 obtain ⟨fd, hb, hF⟩ := F w mg fa _ KX G.T.g W5
 exact Li KX G.T.g G.T.b G.T.builtins G.T.nolimit hg Uc hints (aeA hlen Yt) hr hF hb (fun H hO hS => RX w H a ns hlen hO hS) fun H e s' => ZH w H s₁ e s'
noncomputable def inClass (s : Stmt) (j : Nat) : Stmt := match s with
 | .ClassDef _ _ _ body _ _ _ _ _ _ _ => body.getD j (.Pass ⟨0, 0, 0, 0⟩)
 | _ => .Pass ⟨0, 0, 0, 0⟩
noncomputable def vO (s : Stmt) : Arguments := match s with
 | .FunctionDef _ a _ _ _ _ _ _ _ _ => a
 | _ => { posonlyargs := [], args := [], vararg := none, kwonlyargs := [], kw_defaults := [], kwarg := none, defaults := [] }
noncomputable def ig (s : Stmt) : List Stmt := match s with
 | .FunctionDef _ _ b _ _ _ _ _ _ _ => b
 | _ => []
noncomputable def aq (s : Stmt) : Scope := match s with
 | .FunctionDef _ _ _ _ _ _ sc _ _ _ => sc
 | _ => { kind := .function, names := [], isGenerator := false, isCoroutine := false }
noncomputable abbrev iY : KC := fun _ _ _ _ _ _ => False
noncomputable abbrev E0 : XK := fun _ _ _ => False
theorem Hv {X : Cx} : Passes iY X E0 := fun _ _ _ _ _ _ _ h => h.elim
structure lU (K : PySem.W.Frag) (x qual : Str) (st : Stmt) (f : Addr) (fd : FuncData) : Prop where
 ex : ∃ (oc : Value) (od : Option Addr) (kV doc pm : Value) (an : Option Addr) (fk ct : Value) (Lc : Array (Option Value)),
   fd = PySem.W.fnOf x qual (vO st) (ig st) (aq st) .none kV doc pm an fk ct /\ K.lookup f = some ⟨oc, od, .func fd, Lc⟩ /\ PySem.W.codeIn K fk qual = true
 kp : PySem.W.keepIn K (.ref f) = true
section
variable {P : Program} {w : World} {K : PySem.W.Frag} {mg : Str -> Option Value} {base : Heap}
theorem lU.ok {x qual : Str} {st : Stmt} {f : Addr} {fd : FuncData} {N ps : List Str} {k : Nat} {sp : Sp} (F : lU K x qual st f fd) (S : aT N ps (aq st)) (len : ∀ vs H Q E, sp vs H Q E -> vs.length = ps.length)
   (Ld : ∀ (fk : Value) (A : Around) (outer : List Env) (s : Shared) (H : Hp) (vs : List V) (Q : VK) (E : XK), gq k (A.deeper (envOfC qual (aq st) s.heap.objs.size f fk)) -> sp vs H Q E →
     ∃ t, G9 (BR iY P w K mg base N qual (aq st) f fk A outer s H E).VY (ig st) t /\ t { nx := fun _ H' => Q .non H', rt := Q } (start N vs) H) : b8 P w K mg base iY (k + 1) f fd ps sp := by
 obtain ⟨oc, od, kV, doc, pm, an, fk, ct, Lc, rfl, lk, nI⟩ := F.ex
 refine WT lk nI S len fun A outer s H vs Q E hr RX => ?_
 obtain ⟨t, h, q⟩ := Ld fk A outer s H vs Q E hr RX
 exact ⟨t, h.VY, q⟩
theorem lU.binds {x qual : Str} {st : Stmt} {f : Addr} {fd : FuncData} {ps : List Str} (F : lU K x qual st f fd)
   (h : ∀ (kV doc pm : Value) (an : Option Addr) (fk ct : Value) (us : List Value), us.length = ps.length -> bindArgs (PySem.W.fnOf x qual (vO st) (ig st) (aq st) .none kV doc pm an fk ct) ⟨us, []⟩ = pure (ps.zip us)) : Binds K fd ps [] := by
 obtain ⟨oc, od, kV, doc, pm, an, fk, ct, Lc, rfl, lk, nI⟩ := F.ex
 exact .all (h kV doc pm an fk ct)
theorem bL {x qual : Str} {st : Stmt} {f : Addr} {oc : Value} {od an : Option Addr} {Lc : Array (Option Value)} {kV doc pm fk ct : Value} (l : K.lookup f = some ⟨oc, od, .func (PySem.W.fnOf x qual (vO st) (ig st) (aq st) .none kV doc pm an fk ct), Lc⟩)
   (c : PySem.W.codeIn K fk qual = true) (k : PySem.W.keepIn K (.ref f) = true) : lU K x qual st f (PySem.W.fnOf x qual (vO st) (ig st) (aq st) .none kV doc pm an fk ct) := ⟨⟨oc, od, kV, doc, pm, an, fk, ct, Lc, rfl, l, c⟩, k⟩
end
theorem bz {n : Nat} (h : n <= 1000) : n < sizeLine := afn h (by decide)
section
variable {X : Cx}
end
theorem I0 {A B : Prop} (h : B) : if false = true then A else B := by
 rw [adT ad5]
 exact h
theorem Ja {A B : Prop} (h : A) : if true = true then A else B := by
 rw [ad0 rfl]
 exact h
noncomputable def aG (H H' : Hp) : Prop := ∀ b o, H b = some o -> H' b = some o
theorem aG.refl (H : Hp) : aG H H := fun _ _ h => h
theorem aG.trans {H H1 H2 : Hp} (a : aG H H1) (b : aG H1 H2) : aG H H2 := fun c o h => b c o (a c o h)
theorem aG.free {H H' : Hp} (e : aG H H') {l : Addr} (h : H' l = Option.none) : H l = Option.none := by
 cases q : H l with
 | none => rfl
 | some o =>
   rw [e l o q] at h
   cases h
theorem aG.seq {K : PySem.W.Frag} {H H' : Hp} {a : Addr} {xs : List V} (e : aG H H') (h : jY K H a xs) : jY K H' a xs := by
 rcases h with (h | ⟨o, h⟩) | h
 . exact .inl (.inl (e _ _ h))
 . exact .inl (.inr ⟨o, e _ _ h⟩)
 . exact .inr h
section
variable {κ : Type} [DecidableEq κ]
end
section
variable {P : Program} {w : World} {H : Hp} {h : Heap} {a : Addr}
end
section
variable {X : Cx} {pins : List (Addr × Obj)} {σ : St} {H : Hp} {s : Shared} {a : Addr} {y v : V} {u r : Value} {o : Option V} {A : Around} {E : Value -> Shared -> Prop}
end
section
variable {X : Cx} {pins : List (Addr × Obj)} {σ : St} {H : Hp} {s : Shared} {a : Addr} {i7 : List (Key × V)} {k : Key} {u : Value} {A : Around} {E : Value -> Shared -> Prop}
end
section
variable {X : Cx} {o i e value : Expr} {pos pos' Zo : Pos} {td ty tv : TE}
end
section
variable {X : Cx} {pos : Pos}
end
section
variable {X : Cx} {pins : List (Addr × Obj)} {σ : St} {H : Hp} {s : Shared} {a : Addr} {y d : V} {u r : Value} {o : Option V} {A : Around} {E : Value -> Shared -> Prop}
end
section
variable {X : Cx} {o e f : Expr} {apos BX : Pos} {td ty tx : TE}
end
section
variable {X : Cx} {pins : List (Addr × Obj)} {σ : St} {H : Hp} {s : Shared} {a : Addr} {i7 : List (Key × V)} {A : Around} {E : Value -> Shared -> Prop}
end
section
variable {X : Cx} {pins : List (Addr × Obj)} {σ : St} {H : Hp} {s : Shared} {a : Addr} {y : V} {u : Value} {A : Around} {E : Value -> Shared -> Prop}
end
end L2
namespace L3
open PySem PySem.Spec PyProof.Rows L2
inductive D where
 | non | bl (b : Bool) | int (i : Int) | str (x : Str)
 | tup (ds : List D) | lst (ds : List D) | ins (c : Str) (fs : List (Str × D)) | yF (i7 : List (Key × D))
 | any
 | val (v : V)
inductive T where
 | sh (d : D) | tup (ts : List T) | lst (ts : List T) | ins (c : Str) (fs : List (Str × T)) | yF (i7 : List (Key × D))
 | pin (x : Addr) (t : T)
mutual
noncomputable def T.d7 : T -> D
 | .sh d => d
 | .tup ts => .tup (gW ts)
 | .lst ts => .lst (gW ts)
 | .ins c fs => .ins c (qp fs)
 | .yF i7 => .yF i7
 | .pin _ t => t.d7
noncomputable def T.gW : List T -> List D
 | [] => []
 | t :: ts => t.d7 :: T.gW ts
noncomputable def T.qp : List (Str × T) -> List (Str × D)
 | [] => []
 | (x, t) :: fs => (x, t.d7) :: T.qp fs
end
variable (K : PySem.W.Frag) (CL : Str -> Addr)
mutual
inductive bO (Z : Hp) : D -> V -> Prop where
 | non : bO Z .non .non
 | bl (b : Bool) : bO Z (.bl b) (.bl b)
 | int (i : Int) : bO Z (.int i) (.int i)
 | str (x : Str) : bO Z (.str x) (.str x)
 | any (v : V) : bO Z .any v
 | val (v : V) : bO Z (.val v) v
 | tup {a : Addr} {vs : List V} {ds : List D} : rM K Z a vs -> aH Z ds vs -> bO Z (.tup ds) (.ref a)
 | lst {a : Addr} {vs : List V} {ds : List D} : jY K Z a vs -> aH Z ds vs -> bO Z (.lst ds) (.ref a)
 | ins {a dx : Addr} {c : Str} {gs : List (Str × V)} {fs : List (Str × D)} : Z a = some (.ins (CL c) dx gs) -> qt Z fs gs -> bO Z (.ins c fs) (.ref a)
 | yF {a : Addr} {gs : List (Key × V)} {fs : List (Key × D)} : Z a = some (.dK gs) -> dS Z fs gs -> bO Z (.yF fs) (.ref a)
inductive aH (Z : Hp) : List D -> List V -> Prop where
 | nil : aH Z [] []
 | cons {d : D} {v : V} {ds : List D} {vs : List V} : bO Z d v -> aH Z ds vs -> aH Z (d :: ds) (v :: vs)
inductive qt (Z : Hp) : List (Str × D) -> List (Str × V) -> Prop where
 | nil : qt Z [] []
 | cons {x : Str} {d : D} {v : V} {ds : List (Str × D)} {vs : List (Str × V)} : bO Z d v -> qt Z ds vs -> qt Z ((x, d) :: ds) ((x, v) :: vs)
inductive dS (Z : Hp) : List (Key × D) -> List (Key × V) -> Prop where
 | nil : dS Z [] []
 | cons {x : Key} {d : D} {v : V} {ds : List (Key × D)} {vs : List (Key × V)} : bO Z d v -> dS Z ds vs -> dS Z ((x, d) :: ds) ((x, v) :: vs)
end
mutual
inductive cM (H Z : Hp) : T -> V -> List Addr -> Prop where
 | sh {d : D} {v : V} : bO K CL Z d v -> cM H Z (.sh d) v []
 | tup {a : Addr} {vs : List V} {ts : List T} {fp : List Addr} : Z a = some (.tup vs) -> aR H Z ts vs fp -> cM H Z (.tup ts) (.ref a) fp
 | lst {a : Addr} {vs : List V} {ts : List T} {fp : List Addr} : H a = some (.lst vs) -> aR H Z ts vs fp -> cM H Z (.lst ts) (.ref a) (a :: fp)
 | ins {a dx : Addr} {c : Str} {gs : List (Str × V)} {fs : List (Str × T)} {fp : List Addr} : H a = some (.ins (CL c) dx gs) -> cZ H Z fs gs fp -> cM H Z (.ins c fs) (.ref a) (a :: fp)
 | yF {a : Addr} {gs : List (Key × V)} {i7 : List (Key × D)} : H a = some (.dK gs) -> dS K CL Z i7 gs -> cM H Z (.yF i7) (.ref a) [a]
 | pin {x : Addr} {t : T} {fp : List Addr} : cM H Z t (.ref x) fp -> cM H Z (.pin x t) (.ref x) fp
inductive aR (H Z : Hp) : List T -> List V -> List Addr -> Prop where
 | nil : aR H Z [] [] []
 | cons {t : T} {v : V} {ts : List T} {vs : List V} {fp gp : List Addr} : cM H Z t v fp -> aR H Z ts vs gp -> aR H Z (t :: ts) (v :: vs) (fp ++ gp)
inductive cZ (H Z : Hp) : List (Str × T) -> List (Str × V) -> List Addr -> Prop where
 | nil : cZ H Z [] [] []
 | cons {x : Str} {t : T} {v : V} {ts : List (Str × T)} {vs : List (Str × V)} {fp gp : List Addr} : cM H Z t v fp -> cZ H Z ts vs gp -> cZ H Z ((x, t) :: ts) ((x, v) :: vs) (fp ++ gp)
end
inductive fB (H Z : Hp) : List (Option T) -> L2.St -> List Addr -> Prop where
 | nil : fB H Z [] [] []
 | skip {o : Option V} {δ : List (Option T)} {σ : L2.St} {fp : List Addr} : fB H Z δ σ fp -> fB H Z (none :: δ) (o :: σ) fp
 | cons {t : T} {v : V} {δ : List (Option T)} {σ : L2.St} {fp gp : List Addr} : cM K CL H Z t v fp -> fB H Z δ σ gp -> fB H Z (some t :: δ) (some v :: σ) (fp ++ gp)
section
variable {K : PySem.W.Frag} {CL : Str -> Addr}
theorem aG.Lj {H H' : Hp} {a : Addr} {xs : List V} (e : aG H H') (h : rM K H a xs) : rM K H' a xs := by
 rcases h with (h | ⟨o, h⟩) | h
 . exact .inl (.inl (e _ _ h))
 . exact .inl (.inr ⟨o, e _ _ h⟩)
 . exact .inr h
theorem bO.mono {Z Z' : Hp} (e : aG Z Z') {d : D} {v : V} (h : bO K CL Z d v) : bO K CL Z' d v :=
 bO.rec (motive_1 := fun d v _ => bO K CL Z' d v) (motive_2 := fun d v _ => aH K CL Z' d v) (motive_3 := fun d v _ => qt K CL Z' d v) (motive_4 := fun d v _ => dS K CL Z' d v)
   .non .bl .int .str .any .val (fun h _ r => .tup (aG.Lj e h) r) (fun h _ r => .lst (e.seq h) r) (fun h _ r => .ins (e _ _ h) r) (fun h _ r => .yF (e _ _ h) r) .nil (fun _ _ h r => .cons h r) .nil (fun _ _ h r => .cons h r) .nil (fun _ _ h r => .cons h r) h
theorem dS.mono {Z Z' : Hp} (e : aG Z Z') {d : List (Key × D)} {v : List (Key × V)} (h : dS K CL Z d v) : dS K CL Z' d v :=
 dS.rec (motive_1 := fun d v _ => bO K CL Z' d v) (motive_2 := fun d v _ => aH K CL Z' d v) (motive_3 := fun d v _ => qt K CL Z' d v) (motive_4 := fun d v _ => dS K CL Z' d v)
   .non .bl .int .str .any .val (fun h _ r => .tup (aG.Lj e h) r) (fun h _ r => .lst (e.seq h) r) (fun h _ r => .ins (e _ _ h) r) (fun h _ r => .yF (e _ _ h) r) .nil (fun _ _ h r => .cons h r) .nil (fun _ _ h r => .cons h r) .nil (fun _ _ h r => .cons h r) h
theorem cM.mono {H H' Z Z' : Hp} (e : aG Z Z') {t : T} {v : V} {fp : List Addr} (k : ∀ a ∈ fp, H' a = H a) (h : cM K CL H Z t v fp) : cM K CL H' Z' t v fp :=
 cM.rec (motive_1 := fun t v fp _ => (∀ a ∈ fp, H' a = H a) -> cM K CL H' Z' t v fp) (motive_2 := fun t v fp _ => (∀ a ∈ fp, H' a = H a) -> aR K CL H' Z' t v fp) (motive_3 := fun t v fp _ => (∀ a ∈ fp, H' a = H a) -> cZ K CL H' Z' t v fp)
   (fun h _ => .sh (h.mono e)) (fun h _ r k => .tup (e _ _ h) (r k)) (fun h _ r k => .lst ((k _ adW).trans h) (r fun a ha => k a (adX _ ha))) (fun h _ r k => .ins ((k _ adW).trans h) (r fun a ha => k a (adX _ ha))) (fun h f k => .yF ((k _ adW).trans h) (dS.mono e f)) (fun _ r k => .pin (r k)) (fun _ => .nil) (fun _ _ h r k => .cons (h fun a ha => k a (ad2 _ ha)) (r fun a ha => k a (adP _ ha))) (fun _ => .nil) (fun _ _ h r k => .cons (h fun a ha => k a (ad2 _ ha)) (r fun a ha => k a (adP _ ha))) h k
theorem aR.mono {H H' Z Z' : Hp} (e : aG Z Z') {t : List T} {v : List V} {fp : List Addr} (k : ∀ a ∈ fp, H' a = H a) (h : aR K CL H Z t v fp) : aR K CL H' Z' t v fp :=
 aR.rec (motive_1 := fun t v fp _ => (∀ a ∈ fp, H' a = H a) -> cM K CL H' Z' t v fp) (motive_2 := fun t v fp _ => (∀ a ∈ fp, H' a = H a) -> aR K CL H' Z' t v fp) (motive_3 := fun t v fp _ => (∀ a ∈ fp, H' a = H a) -> cZ K CL H' Z' t v fp)
   (fun h _ => .sh (h.mono e)) (fun h _ r k => .tup (e _ _ h) (r k)) (fun h _ r k => .lst ((k _ adW).trans h) (r fun a ha => k a (adX _ ha))) (fun h _ r k => .ins ((k _ adW).trans h) (r fun a ha => k a (adX _ ha))) (fun h f k => .yF ((k _ adW).trans h) (dS.mono e f)) (fun _ r k => .pin (r k)) (fun _ => .nil) (fun _ _ h r k => .cons (h fun a ha => k a (ad2 _ ha)) (r fun a ha => k a (adP _ ha))) (fun _ => .nil) (fun _ _ h r k => .cons (h fun a ha => k a (ad2 _ ha)) (r fun a ha => k a (adP _ ha))) h k
theorem cZ.mono {H H' Z Z' : Hp} (e : aG Z Z') {t : List (Str × T)} {v : List (Str × V)} {fp : List Addr} (k : ∀ a ∈ fp, H' a = H a) (h : cZ K CL H Z t v fp) : cZ K CL H' Z' t v fp :=
 cZ.rec (motive_1 := fun t v fp _ => (∀ a ∈ fp, H' a = H a) -> cM K CL H' Z' t v fp) (motive_2 := fun t v fp _ => (∀ a ∈ fp, H' a = H a) -> aR K CL H' Z' t v fp) (motive_3 := fun t v fp _ => (∀ a ∈ fp, H' a = H a) -> cZ K CL H' Z' t v fp)
   (fun h _ => .sh (h.mono e)) (fun h _ r k => .tup (e _ _ h) (r k)) (fun h _ r k => .lst ((k _ adW).trans h) (r fun a ha => k a (adX _ ha))) (fun h _ r k => .ins ((k _ adW).trans h) (r fun a ha => k a (adX _ ha))) (fun h f k => .yF ((k _ adW).trans h) (dS.mono e f)) (fun _ r k => .pin (r k)) (fun _ => .nil) (fun _ _ h r k => .cons (h fun a ha => k a (ad2 _ ha)) (r fun a ha => k a (adP _ ha))) (fun _ => .nil) (fun _ _ h r k => .cons (h fun a ha => k a (ad2 _ ha)) (r fun a ha => k a (adP _ ha))) h k
theorem cM.there {H Z : Hp} {t : T} {v : V} {fp : List Addr} (h : cM K CL H Z t v fp) : ∀ a ∈ fp, ∃ o, H a = some o :=
 cM.rec (motive_1 := fun t v fp _ => ∀ a ∈ fp, ∃ o, H a = some o) (motive_2 := fun t v fp _ => ∀ a ∈ fp, ∃ o, H a = some o) (motive_3 := fun t v fp _ => ∀ a ∈ fp, ∃ o, H a = some o)
   (fun _ a ha => absurd ha aeL) (fun _ _ r => r) (fun h _ r a ha => (adN.mp ha).elim (fun q => ⟨_, q ▸ h⟩) (r a)) (fun h _ r a ha => (adN.mp ha).elim (fun q => ⟨_, q ▸ h⟩) (r a)) (fun h _ a ha => (adN.mp ha).elim (fun q => ⟨_, q ▸ h⟩) (fun q => absurd q aeL)) (fun _ r => r) (fun a ha => absurd ha aeL) (fun _ _ h r a ha => (adZ.mp ha).elim (h a) (r a)) (fun a ha => absurd ha aeL) (fun _ _ h r a ha => (adZ.mp ha).elim (h a) (r a)) h
theorem aR.there {H Z : Hp} {t : List T} {v : List V} {fp : List Addr} (h : aR K CL H Z t v fp) : ∀ a ∈ fp, ∃ o, H a = some o :=
 aR.rec (motive_1 := fun t v fp _ => ∀ a ∈ fp, ∃ o, H a = some o) (motive_2 := fun t v fp _ => ∀ a ∈ fp, ∃ o, H a = some o) (motive_3 := fun t v fp _ => ∀ a ∈ fp, ∃ o, H a = some o)
   (fun _ a ha => absurd ha aeL) (fun _ _ r => r) (fun h _ r a ha => (adN.mp ha).elim (fun q => ⟨_, q ▸ h⟩) (r a)) (fun h _ r a ha => (adN.mp ha).elim (fun q => ⟨_, q ▸ h⟩) (r a)) (fun h _ a ha => (adN.mp ha).elim (fun q => ⟨_, q ▸ h⟩) (fun q => absurd q aeL)) (fun _ r => r) (fun a ha => absurd ha aeL) (fun _ _ h r a ha => (adZ.mp ha).elim (h a) (r a)) (fun a ha => absurd ha aeL) (fun _ _ h r a ha => (adZ.mp ha).elim (h a) (r a)) h
theorem cM.d7 {H Z Z' : Hp} (e : aG Z Z') {t : T} {v : V} {fp : List Addr} (k : ∀ a ∈ fp, Z' a = H a) (h : cM K CL H Z t v fp) : bO K CL Z' t.d7 v :=
 cM.rec (motive_1 := fun t v fp _ => (∀ a ∈ fp, Z' a = H a) -> bO K CL Z' t.d7 v) (motive_2 := fun t v fp _ => (∀ a ∈ fp, Z' a = H a) -> aH K CL Z' (T.gW t) v) (motive_3 := fun t v fp _ => (∀ a ∈ fp, Z' a = H a) -> qt K CL Z' (T.qp t) v)
   (fun h _ => by rw [T.d7]; exact h.mono e) (fun h _ r k => by rw [T.d7]; exact .tup (rM.of (e _ _ h)) (r k)) (fun h _ r k => by rw [T.d7]; exact .lst (jY.of ((k _ adW).trans h)) (r fun a ha => k a (adX _ ha))) (fun h _ r k => by rw [T.d7]; exact .ins ((k _ adW).trans h) (r fun a ha => k a (adX _ ha))) (fun h f k => by rw [T.d7]; exact .yF ((k _ adW).trans h) (dS.mono e f)) (fun _ r k => by rw [T.d7]; exact r k) (fun _ => by rw [T.gW]; exact .nil) (fun _ _ h r k => by rw [T.gW]; exact .cons (h fun a ha => k a (ad2 _ ha)) (r fun a ha => k a (adP _ ha))) (fun _ => by rw [T.qp]; exact .nil) (fun _ _ h r k => by rw [T.qp]; exact .cons (h fun a ha => k a (ad2 _ ha)) (r fun a ha => k a (adP _ ha))) h k
theorem aH.ind {Z : Hp} {P : List D -> List V -> Prop} (n : P [] []) (c : ∀ {d : D} {v : V} {ds : List D} {vs : List V}, bO K CL Z d v -> aH K CL Z ds vs -> P ds vs -> P (d :: ds) (v :: vs)) {ds : List D} {vs : List V} (h : aH K CL Z ds vs) : P ds vs :=
 aH.rec (motive_1 := fun _ _ _ => True) (motive_2 := fun d v _ => P d v) (motive_3 := fun _ _ _ => True) (motive_4 := fun _ _ _ => True)
   trivial (fun _ => trivial) (fun _ => trivial) (fun _ => trivial) (fun _ => trivial) (fun _ => trivial) (fun _ _ _ => trivial) (fun _ _ _ => trivial) (fun _ _ _ => trivial) (fun _ _ _ => trivial) n (fun a b _ i => c a b i) trivial (fun _ _ _ _ => trivial) trivial (fun _ _ _ _ => trivial) h
theorem dS.ind {Z : Hp} {P : List (Key × D) -> List (Key × V) -> Prop} (n : P [] []) (c : ∀ {x : Key} {d : D} {v : V} {ds : List (Key × D)} {vs : List (Key × V)}, bO K CL Z d v -> dS K CL Z ds vs -> P ds vs -> P ((x, d) :: ds) ((x, v) :: vs)) {ds : List (Key × D)} {vs : List (Key × V)} (h : dS K CL Z ds vs) : P ds vs :=
 dS.rec (motive_1 := fun _ _ _ => True) (motive_2 := fun _ _ _ => True) (motive_3 := fun _ _ _ => True) (motive_4 := fun d v _ => P d v)
   trivial (fun _ => trivial) (fun _ => trivial) (fun _ => trivial) (fun _ => trivial) (fun _ => trivial) (fun _ _ _ => trivial) (fun _ _ _ => trivial) (fun _ _ _ => trivial) (fun _ _ _ => trivial) trivial (fun _ _ _ _ => trivial) trivial (fun _ _ _ _ => trivial) n (fun a b _ i => c a b i) h
theorem aR.ind {H Z : Hp} {P : List T -> List V -> List Addr -> Prop} (n : P [] [] []) (c : ∀ {t : T} {v : V} {ts : List T} {vs : List V} {fp gp : List Addr}, cM K CL H Z t v fp -> aR K CL H Z ts vs gp -> P ts vs gp -> P (t :: ts) (v :: vs) (fp ++ gp)) {ts : List T} {vs : List V} {fp : List Addr} (h : aR K CL H Z ts vs fp) : P ts vs fp :=
 aR.rec (motive_1 := fun _ _ _ _ => True) (motive_2 := fun d v f _ => P d v f) (motive_3 := fun _ _ _ _ => True)
   (fun _ => trivial) (fun _ _ _ => trivial) (fun _ _ _ => trivial) (fun _ _ _ => trivial) (fun _ _ => trivial) (fun _ _ => trivial) n (fun a b _ i => c a b i) trivial (fun _ _ _ _ => trivial) h
theorem cZ.ind {H Z : Hp} {P : List (Str × T) -> List (Str × V) -> List Addr -> Prop} (n : P [] [] []) (c : ∀ {x : Str} {t : T} {v : V} {ts : List (Str × T)} {vs : List (Str × V)} {fp gp : List Addr}, cM K CL H Z t v fp -> cZ K CL H Z ts vs gp -> P ts vs gp -> P ((x, t) :: ts) ((x, v) :: vs) (fp ++ gp)) {ts : List (Str × T)} {vs : List (Str × V)} {fp : List Addr} (h : cZ K CL H Z ts vs fp) : P ts vs fp :=
 cZ.rec (motive_1 := fun _ _ _ _ => True) (motive_2 := fun _ _ _ _ => True) (motive_3 := fun d v f _ => P d v f)
   (fun _ => trivial) (fun _ _ _ => trivial) (fun _ _ _ => trivial) (fun _ _ _ => trivial) (fun _ _ => trivial) (fun _ _ => trivial) trivial (fun _ _ _ _ => trivial) n (fun a b _ i => c a b i) h
theorem aH.length {Z : Hp} {d : List D} {v : List V} (h : aH K CL Z d v) : d.length = v.length :=
 aH.ind (P := fun d v => d.length = v.length) rfl (fun _ _ i => congrArg (· + 1) i) h
theorem aR.length {H Z : Hp} {d : List T} {v : List V} {fp : List Addr} (h : aR K CL H Z d v fp) : d.length = v.length :=
 aR.ind (P := fun d v _ => d.length = v.length) rfl (fun _ _ i => congrArg (· + 1) i) h
theorem aH.get {Z : Hp} : ∀ {ds : List D} {vs : List V} {i : Nat} {d : D}, aH K CL Z ds vs -> ds[i]? = some d -> ∃ v, vs[i]? = some v /\ bO K CL Z d v
 | _, _, _, _, .nil, e => by simp at e
 | _, _, 0, _, .cons r _, e => by simp at e; subst e; exact ⟨_, rfl, r⟩
 | _, _, i + 1, d, .cons _ t, e => by
   obtain ⟨u, h1, h2⟩ := aH.get (i := i) (d := d) t (by simpa using e)
   exact ⟨u, by simpa using h1, h2⟩
theorem aH.Jb {Z : Hp} : ∀ {ds : List D} {vs : List V} {i : Nat} {v : V}, aH K CL Z ds vs -> vs[i]? = some v -> ∃ d, ds[i]? = some d /\ bO K CL Z d v
 | _, _, _, _, .nil, e => by simp at e
 | _, _, 0, _, .cons r _, e => by simp at e; subst e; exact ⟨_, rfl, r⟩
 | _, _, i + 1, d, .cons _ t, e => by
   obtain ⟨u, h1, h2⟩ := aH.Jb (i := i) (v := d) t (by simpa using e)
   exact ⟨u, by simpa using h1, h2⟩
theorem aR.get {H Z : Hp} : ∀ {ds : List T} {vs : List V} {fp : List Addr} {i : Nat} {d : T}, aR K CL H Z ds vs fp -> ds[i]? = some d -> ∃ v gp, vs[i]? = some v /\ cM K CL H Z d v gp /\ gp.Sublist fp
 | _, _, _, _, _, .nil, e => by simp at e
 | _, _, _, 0, _, .cons r _, e => by simp at e; subst e; exact ⟨_, _, rfl, r, List.sublist_append_left _ _⟩
 | _, _, _, i + 1, d, .cons _ t, e => by
   obtain ⟨u, gp, h1, h2, h3⟩ := aR.get (i := i) (d := d) t (by simpa using e)
   exact ⟨u, gp, by simpa using h1, h2, h3.trans (List.sublist_append_right _ _)⟩
theorem fB.get {H Z : Hp} : ∀ {δ : List (Option T)} {σ : L2.St} {fp : List Addr} {i : Nat} {t : T}, fB K CL H Z δ σ fp -> δ[i]? = some (some t) →
   ∃ v f1 f2 f3, σ[i]? = some (some v) /\ fp = f1 ++ (f2 ++ f3) /\ cM K CL H Z t v f2 ∧
     (∀ {H' Z' : Hp} {t' : T} {v' : V} {g : List Addr}, aG Z Z' -> (∀ a ∈ f1 ++ f3, H' a = H a) -> cM K CL H' Z' t' v' g -> fB K CL H' Z' (δ.set i (some t')) (σ.set i (some v')) (f1 ++ (g ++ f3))) ∧
     (∀ {o : Option V}, fB K CL H Z (δ.set i none) (σ.set i o) (f1 ++ f3)) := by
 intro δ σ fp i t h
 have mono : ∀ {H H' Z Z' : Hp} {δ : List (Option T)} {σ : L2.St} {fp : List Addr}, aG Z Z' -> (∀ a ∈ fp, H' a = H a) -> fB K CL H Z δ σ fp -> fB K CL H' Z' δ σ fp := by
   intro H H' Z Z' δ σ fp e k r
   induction r with
   | nil => exact .nil
   | skip _ ih => exact .skip (ih k)
   | cons r _ ih => exact .cons (r.mono e fun a ha => k a (ad2 _ ha)) (ih fun a ha => k a (adP _ ha))
 induction h generalizing i with
 | nil => intro e; simp at e
 | @skip o δ σ fp r ih =>
   cases i with
   | zero => intro e; simp at e
   | succ i =>
     intro e
     obtain ⟨v, f1, f2, f3, h1, h2, h3, h4, h5⟩ := ih (i := i) (by simpa using e)
     exact ⟨v, f1, f2, f3, by simpa using h1, h2, h3, fun e k q => .skip (h4 e k q), .skip h5⟩
 | @cons t0 v0 δ σ fp gp r0 r ih =>
   cases i with
   | zero =>
     intro e
     simp at e
     subst e
     refine ⟨v0, [], fp, gp, rfl, rfl, r0, fun {H' Z' t' v' g} e k q => fB.cons (fp := g) (gp := gp) q (mono (fp := gp) e (fun a ha => k a (by simpa using ha)) r), .skip (by simpa using r)⟩
   | succ i =>
     intro e
     obtain ⟨v, f1, f2, f3, h1, h2, h3, h4, h5⟩ := ih (i := i) (by simpa using e)
     refine ⟨v, fp ++ f1, f2, f3, by simpa using h1, by rw [h2, List.append_assoc], h3, fun {H' Z' t' v' g} e k q => ?_, fun {o} => ?_⟩
     . rw [adO]
       exact .cons (r0.mono e fun a ha => k a (by simp [ha])) (h4 e (fun a ha => k a (by rw [adO]; exact adP _ ha)) q)
     . rw [adO]
       exact .cons r0 h5
theorem fB.mono {H H' Z Z' : Hp} {δ : List (Option T)} {σ : L2.St} {fp : List Addr} (e : aG Z Z') (k : ∀ a ∈ fp, H' a = H a) (r : fB K CL H Z δ σ fp) : fB K CL H' Z' δ σ fp := by
 induction r with
 | nil => exact .nil
 | skip _ ih => exact .skip (ih k)
 | cons r _ ih => exact .cons (r.mono e fun a ha => k a (ad2 _ ha)) (ih fun a ha => k a (adP _ ha))
theorem fB.there {H Z : Hp} {δ : List (Option T)} {σ : L2.St} {fp : List Addr} (r : fB K CL H Z δ σ fp) : ∀ a ∈ fp, ∃ o, H a = some o := by
 induction r with
 | nil => intro a ha; cases ha
 | skip _ ih => exact ih
 | cons r _ ih => exact fun a ha => (adZ.mp ha).elim (r.there a) (ih a)
theorem fB.put {H Z : Hp} {δ : List (Option T)} {σ : L2.St} {fp : List Addr} (r : fB K CL H Z δ σ fp) {t : T} {v : V} {g : List Addr} (q : cM K CL H Z t v g) :
   ∀ {i : Nat}, i < δ.length -> ∃ f, fB K CL H Z (δ.set i (some t)) (σ.set i (some v)) f /\ ∃ f', f'.Sublist fp /\ f.Perm (g ++ f') := by
 induction r with
 | nil => intro i hi; simp at hi
 | @skip o δ σ fp r ih =>
   intro i hi
   cases i with
   | zero => exact ⟨g ++ fp, .cons q r, fp, aes _, afp _⟩
   | succ i =>
     obtain ⟨f, h1, f', h2, h3⟩ := ih (i := i) (by simpa using hi)
     exact ⟨f, .skip h1, f', h2, h3⟩
 | @cons t0 v0 δ σ fp gp r0 r ih =>
   intro i hi
   cases i with
   | zero => exact ⟨g ++ gp, .cons q r, gp, aeP _ _, afp _⟩
   | succ i =>
     obtain ⟨f, h1, f', h2, h3⟩ := ih (i := i) (by simpa using hi)
     refine ⟨fp ++ f, .cons r0 h1, fp ++ f', aeu (aes _) h2, ?_⟩
     refine (aeq fp h3).trans ?_
     rw [← adO, ← adO]
     exact List.Perm.append_right f' aew
end
noncomputable def Lk (X : Cx) (e : Expr) : TE := fun σ H Q => ∀ (pins : List (Addr × Obj)) (s : Shared), Inv X pins σ H s -> wpAny (model X.prog X.w) X.A (eval e X.env) (EP X pins σ Q) X.xe s
noncomputable def PD (X : Cx) (e : Expr) : TT := fun σ H Q => ∀ (pins : List (Addr × Obj)) (s : Shared), Inv X pins σ H s -> wpAny (model X.prog X.w) X.A (isTrue e X.env (eval e X.env)) (TP X pins σ Q) X.xe s
noncomputable def Lp (X : Cx) (es : List Expr) : TA := fun σ H Q => ∀ (pos : Pos) (pins : List (Addr × Obj)) (s : Shared), Inv X pins σ H s -> wpAny (model X.prog X.w) X.A (spliced (backTo pos (starEach es X.env))) (AP X pins σ Q) X.xe s
noncomputable def Ud (X : Cx) (st : Stmt) : TS := fun D σ H => ∀ (pins : List (Addr × Obj)) (s : Shared), Inv X pins σ H s -> wpAny (model X.prog X.w) X.A (exec st X.env) (SP X pins D) X.xe s
noncomputable def Ue (X : Cx) (st : List Stmt) : TS := fun D σ H => ∀ (pins : List (Addr × Obj)) (s : Shared), Inv X pins σ H s -> wpAny (model X.prog X.w) X.A (execs st X.env) (SP X pins D) X.xe s
section
variable {X : Cx}
theorem dG {e : Expr} : PE X e (Lk X e) := fun pins s _ _ _ I h => h pins s I
theorem RZ {e : Expr} : PT X e (PD X e) := fun pins s _ _ _ I h => h pins s I
theorem KG {e : List Expr} : PA X e (Lp X e) := fun pos pins s _ _ _ I h => h pos pins s I
theorem psS {e : Stmt} : PS X e (Ud X e) := fun pins s _ _ _ I h => h pins s I
theorem R0 {e : List Stmt} : G9 X e (Ue X e) := fun pins s _ _ _ I h => h pins s I
theorem cH {e : Expr} {t : TE} (h : PE X e t) {σ : L2.St} {H : Hp} {Q : VK} (q : t σ H Q) : Lk X e σ H Q := fun pins s I => h pins s σ H Q I q
theorem EG {e : Expr} {t : TT} (h : PT X e t) {σ : L2.St} {H : Hp} {Q : Bool -> Hp -> Prop} (q : t σ H Q) : PD X e σ H Q := fun pins s I => h pins s σ H Q I q
theorem Jc {e : List Expr} {t : TA} (h : PA X e t) {σ : L2.St} {H : Hp} {Q : List V -> Hp -> Prop} (q : t σ H Q) : Lp X e σ H Q := fun pos pins s I => h pos pins s σ H Q I q
theorem wF {e : Stmt} {t : TS} (h : PS X e t) {σ : L2.St} {H : Hp} {D : Ends} (q : t D σ H) : Ud X e D σ H := fun pins s I => h pins s σ H D I q
theorem W7 {e : List Stmt} {t : TS} (h : G9 X e t) {σ : L2.St} {H : Hp} {D : Ends} (q : t D σ H) : Ue X e D σ H := fun pins s I => h pins s σ H D I q
end
noncomputable def notStar : Expr -> Bool
 | .Starred _ _ => false
 | _ => true
theorem bD {e : Expr} {es : List Expr} {env : Env} (h : notStar e = true) : starEach (e :: es) env = (false, eval e env) :: starEach es env := by
 cases e <;> first | rfl | (cases h)
structure Bx where
 B : Hp
 Z : Hp
noncomputable def nF : HO -> Bool
 | .tup _ => true
 | .d7 _ _ => true
 | _ => false
noncomputable def Hw (x : Str) : Bool := x.cps[0]? == some 35
noncomputable def ZK (x : Str) : Str := ⟨x.cps.extract 1 x.cps.size⟩
noncomputable def nO (CL : Str -> Addr) (Z : Hp) : Prop := ∀ x, Hw x = true -> CL x ≠ 0 -> Z (CL x) = some (.tabs (ZK x))
structure bR (K : PySem.W.Frag) (CL : Str -> Addr) (b : Bx) (H Z : Hp) (δ : List (Option T)) (σ : L2.St) (ts : List T) (vs : List V) : Prop where
 rep : ∃ fp gp, fB K CL H Z δ σ fp /\ aR K CL H Z ts vs gp /\ (fp ++ gp).Nodup /\ ∀ a ∈ fp ++ gp, Z a = none /\ b.B a = none
 bh : aG b.B H
 zz : aG b.Z Z
 zh : aG Z H
 new : ∀ a o, Z a = some o -> b.Z a = none -> b.B a = none
 tp : ∀ a o, H a = some o -> nF o = true -> Z a = some o
 tab : nO CL b.Z
section
variable {K : PySem.W.Frag} {CL : Str -> Addr} {b : Bx} {H H' Z Z' : Hp} {δ δ' : List (Option T)} {σ σ' : L2.St} {ts ts' : List T} {vs vs' : List V} {t : T} {v : V}
theorem nO.mono {A B : Hp} (h : nO CL A) (e : aG A B) : nO CL B := fun x hx h0 => e _ _ (h x hx h0)
theorem bR.Ug (S : bR K CL b H Z δ σ ts vs) : nO CL Z := S.tab.mono S.zz
theorem bR.Uh (S : bR K CL b H Z δ σ ts vs) : nO CL H := S.Ug.mono S.zh
theorem Ui {A B : Hp} (e : aG A B) {a : Addr} (h : B a = none) : A a = none := e.free h
theorem aG.upd {H : Hp} {p : Addr} {o : HO} (h : H p = none) : aG H (upd H p o) := fun b u e => by rw [aA (bF e h)]; exact e
theorem bR.view (S : bR K CL b H Z δ σ (t :: ts) (v :: vs)) : bO K CL H t.d7 v := by
 obtain ⟨fp, gp, _, r, _, _⟩ := S.rep
 cases r with
 | cons r _ => exact r.d7 S.zh fun _ _ => rfl
theorem bR.pop (S : bR K CL b H Z δ σ (t :: ts) (v :: vs)) : bR K CL b H Z δ σ ts vs := by
 obtain ⟨fp, gp, e, r, nd, k⟩ := S.rep
 cases r with
 | @cons _ _ _ _ f1 f2 r1 r2 =>
   refine ⟨⟨fp, f2, e, r2, nd.sublist (aeu (aes _) (aeP _ _)), fun a ha => k a ?_⟩, S.bh, S.zz, S.zh, S.new, S.tp, S.tab⟩
   rcases adZ.mp ha with h | h
   . exact ad2 _ h
   . exact adP _ (adP _ h)
theorem bR.push {d : D} (S : bR K CL b H Z δ σ ts vs) (r : bO K CL Z d v) : bR K CL b H Z δ σ (.sh d :: ts) (v :: vs) := by
 obtain ⟨fp, gp, e, r2, nd, k⟩ := S.rep
 exact ⟨⟨fp, [] ++ gp, e, .cons (.sh r) r2, nd, k⟩, S.bh, S.zz, S.zh, S.new, S.tp, S.tab⟩
theorem bR.EH (S : bR K CL b H Z δ σ (t :: ts) (v :: vs)) : ∃ Z', aG Z Z' /\ bR K CL b H Z' δ σ (.sh t.d7 :: ts) (v :: vs) := by
 classical
 obtain ⟨fp, gp, e, r, nd, k⟩ := S.rep
 cases r with
 | @cons _ _ _ _ f1 f2 r1 r2 =>
   have nZ : ∀ a ∈ f1, Z a = none /\ b.B a = none := fun a ha => k a (adP _ (ad2 _ ha))
   have sz : aG Z (fun a => if a ∈ f1 then H a else Z a) := fun a o q => by
     by_cases ha : a ∈ f1
     . rw [(nZ a ha).1] at q; cases q
     . show (if a ∈ f1 then H a else Z a) = some o
       rw [adT ha]; exact q
   have W8 := aeJ.mp nd
   have dj : ∀ a ∈ fp ++ f2, a ∉ f1 := fun a ha h1 => by
     rcases adZ.mp ha with h | h
     . exact W8.2.2 a h a (ad2 _ h1) rfl
     . exact (aeJ.mp W8.2.1).2.2 a h1 a h rfl
   refine ⟨fun a => if a ∈ f1 then H a else Z a, sz, ⟨⟨fp, [] ++ f2, e.mono sz (fun _ _ => rfl), .cons (.sh (r1.d7 sz fun a ha => ad0 ha)) (r2.mono sz fun _ _ => rfl), ?_, fun a ha => ?_⟩, S.bh, S.zz.trans sz, fun a o q => ?_, fun a o q z => ?_, fun a o q i => ?_, S.tab⟩⟩
   . exact nd.sublist (aeu (aes _) (aeP _ _))
   . have Lq : a ∈ fp ++ f2 := ha
     refine ⟨?_, (k a ?_).2⟩
     . show (if a ∈ f1 then H a else Z a) = none
       rw [adT (dj a Lq)]
       refine (k a ?_).1
       rcases adZ.mp Lq with h | h
       . exact ad2 _ h
       . exact adP _ (adP _ h)
     . rcases adZ.mp Lq with h | h
       . exact ad2 _ h
       . exact adP _ (adP _ h)
   . have q' : (if a ∈ f1 then H a else Z a) = some o := q
     by_cases ha : a ∈ f1
     . rw [ad0 ha] at q'; exact q'
     . rw [adT ha] at q'; exact S.zh a o q'
   . have q' : (if a ∈ f1 then H a else Z a) = some o := q
     by_cases ha : a ∈ f1
     . exact (nZ a ha).2
     . rw [adT ha] at q'; exact S.new a o q' z
   . exact sz a o (S.tp a o q i)
theorem bR.PF {i : Nat} (S : bR K CL b H Z δ σ ts vs) (hi : δ[i]? = some (some t)) : ∃ v Z', σ[i]? = some (some v) /\ aG Z Z' /\ bR K CL b H Z' (δ.set i (some (.sh t.d7))) σ (.sh t.d7 :: ts) (v :: vs) := by
 classical
 obtain ⟨fp, gp, e, r, nd, k⟩ := S.rep
 obtain ⟨v, f1, f2, f3, hv, rY, rt, put, _⟩ := e.get hi
 subst rY
 have nZ : ∀ a ∈ f2, Z a = none /\ b.B a = none := fun a ha => k a (by simp [ha])
 have sz : aG Z (fun a => if a ∈ f2 then H a else Z a) := fun a o q => by
   by_cases ha : a ∈ f2
   . rw [(nZ a ha).1] at q; cases q
   . show (if a ∈ f2 then H a else Z a) = some o
     rw [adT ha]; exact q
 have dj : ∀ a ∈ (f1 ++ f3) ++ gp, a ∉ f2 := fun a ha h2 => by
   have hp : ((f1 ++ (f2 ++ f3)) ++ gp).Perm (f2 ++ ((f1 ++ f3) ++ gp)) := by
     rw [← adO, ← adO]
     refine (List.perm_append_right_iff gp).mpr ?_
     rw [← adO]
     exact (List.perm_append_right_iff f3).mpr aew
   exact (aeJ.mp (hp.nodup_iff.mp nd)).2.2 a h2 a ha rfl
 have rF : bO K CL (fun a => if a ∈ f2 then H a else Z a) t.d7 v := rt.d7 sz fun a ha => ad0 ha
 have Uj : σ.set i (some v) = σ := by
   apply afs
   intro j
   rw [aft]
   split
   . rename_i h; subst h
     split
     . exact hv.symm
     . rename_i h2; rw [afd (by omega)]
   . rfl
 have e2 : fB K CL H (fun a => if a ∈ f2 then H a else Z a) (δ.set i (some (.sh t.d7))) σ (f1 ++ ([] ++ f3)) := by
   have := put (H' := H) (t' := .sh t.d7) (v' := v) (g := []) sz (fun _ _ => rfl) (.sh rF)
   rwa [Uj] at this
 refine ⟨v, fun a => if a ∈ f2 then H a else Z a, hv, sz, ⟨⟨f1 ++ ([] ++ f3), [] ++ gp, e2, .cons (.sh rF) (r.mono sz fun _ _ => rfl), ?_, fun a ha => ?_⟩, S.bh, S.zz.trans sz, fun a o q => ?_, fun a o q z => ?_, fun a o q i => sz a o (S.tp a o q i), S.tab⟩⟩
 . exact nd.sublist (aeu (aeu (aes _) (aeP _ _)) (aes _))
 . have Lq : a ∈ (f1 ++ f3) ++ gp := ha
   have hm : a ∈ (f1 ++ (f2 ++ f3)) ++ gp := by
     simp only [adZ] at Lq ⊢
     rcases Lq with (h | h) | h
     . exact .inl (.inl h)
     . exact .inl (.inr (.inr h))
     . exact .inr h
   refine ⟨?_, (k a hm).2⟩
   show (if a ∈ f2 then H a else Z a) = none
   rw [adT (dj a Lq)]
   exact (k a hm).1
 . have q' : (if a ∈ f2 then H a else Z a) = some o := q
   by_cases ha : a ∈ f2
   . rw [ad0 ha] at q'; exact q'
   . rw [adT ha] at q'; exact S.zh a o q'
 . have q' : (if a ∈ f2 then H a else Z a) = some o := q
   by_cases ha : a ∈ f2
   . exact (nZ a ha).2
   . rw [adT ha] at q'; exact S.new a o q' z
theorem bR.move {i : Nat} (S : bR K CL b H Z δ σ ts vs) (hi : δ[i]? = some (some t)) : ∃ v, σ[i]? = some (some v) /\ bR K CL b H Z (δ.set i none) σ (t :: ts) (v :: vs) := by
 obtain ⟨fp, gp, e, r, nd, k⟩ := S.rep
 obtain ⟨v, f1, f2, f3, hv, rY, rt, _, del⟩ := e.get hi
 subst rY
 have Uj : σ.set i (some v) = σ := by
   apply afs
   intro j
   rw [aft]
   split
   . rename_i h; subst h
     split
     . exact hv.symm
     . rename_i h2; rw [afd (by omega)]
   . rfl
 have hp : ((f1 ++ (f2 ++ f3)) ++ gp).Perm ((f1 ++ f3) ++ (f2 ++ gp)) := by
   have h1 : (f2 ++ f3).Perm (f3 ++ f2) := aew
   have h2 := (aeq f1 h1).append_right gp
   simp only [adO] at h2 ⊢
   exact h2
 refine ⟨v, hv, ⟨⟨f1 ++ f3, f2 ++ gp, ?_, .cons rt r, hp.nodup_iff.mp nd, fun a ha => k a (hp.mem_iff.mpr ha)⟩, S.bh, S.zz, S.zh, S.new, S.tp, S.tab⟩⟩
 have := del (o := some v)
 rwa [Uj] at this
theorem bR.look {i : Nat} (S : bR K CL b H Z δ σ ts vs) (hi : δ[i]? = some (some t)) : ∃ v, σ[i]? = some (some v) /\ bO K CL H t.d7 v := by
 obtain ⟨fp, gp, e, r, nd, k⟩ := S.rep
 obtain ⟨v, f1, f2, f3, hv, rY, rt, _, _⟩ := e.get hi
 exact ⟨v, hv, rt.d7 S.zh fun _ _ => rfl⟩
theorem bR.R1 {i : Nat} {d : D} (S : bR K CL b H Z δ σ ts vs) (hi : δ[i]? = some (some (.sh d))) : ∃ v, σ[i]? = some (some v) /\ bO K CL Z d v := by
 obtain ⟨fp, gp, e, r, nd, k⟩ := S.rep
 obtain ⟨v, f1, f2, f3, hv, rY, rt, _, _⟩ := e.get hi
 cases rt with
 | sh h => exact ⟨v, hv, h⟩
theorem bR.set {i : Nat} (S : bR K CL b H Z δ σ (t :: ts) (v :: vs)) (hi : i < δ.length) : bR K CL b H Z (δ.set i (some t)) (σ.set i (some v)) ts vs := by
 obtain ⟨fp, gp, e, r, nd, k⟩ := S.rep
 cases r with
 | @cons _ _ _ _ f1 f2 r1 r2 =>
   obtain ⟨f, h1, f', h2, h3⟩ := e.put r1 hi
   have hp : (f ++ f2).Perm (f' ++ (f1 ++ f2)) := by
     refine (h3.append_right f2).trans ?_
     rw [← adO]
     exact aew.append_right f2
   have W9 : (f' ++ (f1 ++ f2)).Sublist (fp ++ (f1 ++ f2)) := aeu h2 (aes _)
   exact ⟨⟨f, f2, h1, r2, hp.nodup_iff.mpr (nd.sublist W9), fun a ha => k a (W9.subset (hp.mem_iff.mp ha))⟩, S.bh, S.zz, S.zh, S.new, S.tp, S.tab⟩
end
mutual
noncomputable def D.lD : D -> Bool
 | .tup ds => D.bK ds
 | .lst _ => false
 | .ins _ _ => false
 | .yF _ => false
 | .any => false
 | _ => true
noncomputable def D.bK : List D -> Bool
 | [] => true
 | d :: ds => d.lD && D.bK ds
end
mutual
noncomputable def T.clean : T -> Bool
 | .sh d => d.lD
 | .tup ts => T.dg ts
 | .lst ts => T.dg ts
 | .ins _ fs => T.bB fs
 | .yF i7 => D.bK (i7.map (·.2))
 | .pin _ t => t.clean
noncomputable def T.dg : List T -> Bool
 | [] => true
 | t :: ts => t.clean && T.dg ts
noncomputable def T.bB : List (Str × T) -> Bool
 | [] => true
 | (_, t) :: ts => t.clean && T.bB ts
end
noncomputable def bQ (X : Cx) (CL : Str -> Addr) (b : Bx) (e : Expr) (δ : List (Option T)) (t : T) (δ' : List (Option T)) : Prop :=
 ∀ (H Z : Hp) (σ : L2.St) (ts : List T) (vs : List V) (Q : VK), bR X.K CL b H Z δ σ ts vs -> (∀ v H' Z', aG Z Z' -> aG H H' -> bR X.K CL b H' Z' δ' σ (t :: ts) (v :: vs) -> Q v H') -> Lk X e σ H Q
noncomputable def cN (X : Cx) (CL : Str -> Addr) (b : Bx) (e : Expr) (δ : List (Option T)) (d : D) (δ' : List (Option T)) : Prop :=
 ∀ (H Z : Hp) (σ : L2.St) (ts : List T) (vs : List V) (Q : VK), bR X.K CL b H Z δ σ ts vs -> (∀ v H' Z', aG Z Z' -> aG H H' -> bR X.K CL b H' Z' δ' σ ts vs -> bO X.K CL H' d v -> Q v H') -> Lk X e σ H Q
noncomputable def qD (X : Cx) (CL : Str -> Addr) (b : Bx) (e : Expr) (δ : List (Option T)) (p : Bool) (δ' : List (Option T)) : Prop :=
 ∀ (H Z : Hp) (σ : L2.St) (ts : List T) (vs : List V) (Q : Bool -> Hp -> Prop), bR X.K CL b H Z δ σ ts vs -> (∀ H' Z', aG Z Z' -> aG H H' -> bR X.K CL b H' Z' δ' σ ts vs -> Q p H') -> PD X e σ H Q
noncomputable def Ek (X : Cx) (CL : Str -> Addr) (b : Bx) (es : List Expr) (δ : List (Option T)) (tl : List T) (δ' : List (Option T)) : Prop :=
 ∀ (H Z : Hp) (σ : L2.St) (ts : List T) (vs : List V) (Q : List V -> Hp -> Prop), bR X.K CL b H Z δ σ ts vs →
   (∀ us H' Z', us.length = tl.length -> aG Z Z' -> aG H H' -> bR X.K CL b H' Z' δ' σ (tl.reverse ++ ts) (us.reverse ++ vs) -> Q us H') -> Lp X es σ H Q
noncomputable def OI (X : Cx) (CL : Str -> Addr) (b : Bx) (es : List Expr) (δ : List (Option T)) (ds : List D) (δ' : List (Option T)) : Prop :=
 ∀ (H Z : Hp) (σ : L2.St) (ts : List T) (vs : List V) (Q : List V -> Hp -> Prop), bR X.K CL b H Z δ σ ts vs →
   (∀ us H' Z', aG Z Z' -> aG H H' -> bR X.K CL b H' Z' δ' σ ts vs -> aH X.K CL H' ds us -> Q us H') -> Lp X es σ H Q
structure cO where
 nx : List (Option T) -> Prop
 rt : T -> List (Option T) -> Prop
 bk : List (Option T) -> Prop := fun _ => False
 ct : List (Option T) -> Prop := fun _ => False
structure Meets (K : PySem.W.Frag) (CL : Str -> Addr) (b : Bx) (Z : Hp) (ts : List T) (vs : List V) (D : cO) (E : Ends) : Prop where
 nx : ∀ δ' σ' H' Z', aG Z Z' -> bR K CL b H' Z' δ' σ' ts vs -> D.nx δ' -> E.nx σ' H'
 rt : ∀ t v H' Z' δ' σ', aG Z Z' -> bR K CL b H' Z' δ' σ' (t :: ts) (v :: vs) -> D.rt t δ' -> E.rt v H'
 bk : ∀ δ' σ' H' Z', aG Z Z' -> bR K CL b H' Z' δ' σ' ts vs -> D.bk δ' -> E.bk σ' H'
 ct : ∀ δ' σ' H' Z', aG Z Z' -> bR K CL b H' Z' δ' σ' ts vs -> D.ct δ' -> E.ct σ' H'
noncomputable def R4 (X : Cx) (CL : Str -> Addr) (b : Bx) (st : Stmt) (δ : List (Option T)) (D : cO) : Prop :=
 ∀ (H Z : Hp) (σ : L2.St) (ts : List T) (vs : List V) (E : Ends), bR X.K CL b H Z δ σ ts vs -> Meets X.K CL b Z ts vs D E -> Ud X st E σ H
noncomputable def fD (X : Cx) (CL : Str -> Addr) (b : Bx) (st : List Stmt) (δ : List (Option T)) (D : cO) : Prop :=
 ∀ (H Z : Hp) (σ : L2.St) (ts : List T) (vs : List V) (E : Ends), bR X.K CL b H Z δ σ ts vs -> Meets X.K CL b Z ts vs D E -> Ue X st E σ H
section
variable {K : PySem.W.Frag} {CL : Str -> Addr} {b : Bx} {H H' Z Z' : Hp} {δ δ' : List (Option T)} {σ σ' : L2.St} {ts ts' : List T} {vs vs' : List V} {t : T} {v : V}
theorem Meets.mono {D : cO} {E : Ends} (M : Meets K CL b Z ts vs D E) (e : aG Z Z') : Meets K CL b Z' ts vs D E :=
 ⟨fun _ _ _ _ s => M.nx _ _ _ _ (e.trans s), fun _ _ _ _ _ _ s => M.rt _ _ _ _ _ _ (e.trans s), fun _ _ _ _ s => M.bk _ _ _ _ (e.trans s), fun _ _ _ _ s => M.ct _ _ _ _ (e.trans s)⟩
theorem Hx {a : Addr} {xs : List V} (zh : ∀ a o, H a = some o -> nF o = true -> Z a = some o) (h : rM K H a xs) : rM K Z a xs := by
 rcases h with (h | ⟨o, h⟩) | h
 . exact .inl (.inl (zh _ _ h rfl))
 . exact .inl (.inr ⟨o, zh _ _ h rfl⟩)
 . exact .inr h
theorem bO.lD (zh : ∀ a o, H a = some o -> nF o = true -> Z a = some o) {d : D} {v : V} (k : d.lD = true) (h : bO K CL H d v) : bO K CL Z d v :=
 bO.rec (motive_1 := fun d v _ => d.lD = true -> bO K CL Z d v) (motive_2 := fun d v _ => D.bK d = true -> aH K CL Z d v) (motive_3 := fun d v _ => True) (motive_4 := fun d v _ => True)
   (fun _ => .non) (fun b _ => .bl b) (fun b _ => .int b) (fun b _ => .str b) (fun _ k => by rw [D.lD] at k; cases k) (fun b _ => .val b) (fun h _ r k => .tup (Hx zh h) (r (by rw [D.lD] at k; exact k))) (fun _ _ _ k => by rw [D.lD] at k; cases k) (fun _ _ _ k => by rw [D.lD] at k; cases k) (fun _ _ _ k => by rw [D.lD] at k; cases k) (fun _ => .nil) (fun _ _ h r k => by rw [D.bK, aey] at k; exact .cons (h k.1) (r k.2)) trivial (fun _ _ _ _ => trivial) trivial (fun _ _ _ _ => trivial) h k
theorem aH.lD (zh : ∀ a o, H a = some o -> nF o = true -> Z a = some o) {d : List D} {v : List V} (k : D.bK d = true) (h : aH K CL H d v) : aH K CL Z d v :=
 aH.rec (motive_1 := fun d v _ => d.lD = true -> bO K CL Z d v) (motive_2 := fun d v _ => D.bK d = true -> aH K CL Z d v) (motive_3 := fun d v _ => True) (motive_4 := fun d v _ => True)
   (fun _ => .non) (fun b _ => .bl b) (fun b _ => .int b) (fun b _ => .str b) (fun _ k => by rw [D.lD] at k; cases k) (fun b _ => .val b) (fun h _ r k => .tup (Hx zh h) (r (by rw [D.lD] at k; exact k))) (fun _ _ _ k => by rw [D.lD] at k; cases k) (fun _ _ _ k => by rw [D.lD] at k; cases k) (fun _ _ _ k => by rw [D.lD] at k; cases k) (fun _ => .nil) (fun _ _ h r k => by rw [D.bK, aey] at k; exact .cons (h k.1) (r k.2)) trivial (fun _ _ _ _ => trivial) trivial (fun _ _ _ _ => trivial) h k
theorem dS.clean {Z1 : Hp} (zi : ∀ {d : D} {v : V}, d.lD = true -> bO K CL Z1 d v -> bO K CL Z d v) {i7 : List (Key × D)} {gs : List (Key × V)} (k : D.bK (i7.map (·.2)) = true) (h : dS K CL Z1 i7 gs) : dS K CL Z i7 gs :=
 dS.ind (P := fun i7 gs => D.bK (i7.map (·.2)) = true -> dS K CL Z i7 gs) (fun _ => .nil) (fun h _ i k => by rw [aen, D.bK, aey] at k; exact .cons (zi k.1 h) (i k.2)) h k
theorem cM.clean {Z1 : Hp} (zh : ∀ a xs, Z1 a = some (.tup xs) -> Z a = some (.tup xs)) (zi : ∀ {d : D} {v : V}, d.lD = true -> bO K CL Z1 d v -> bO K CL Z d v) {t : T} {v : V} {fp : List Addr} (k : t.clean = true) (h : cM K CL H Z1 t v fp) : cM K CL H Z t v fp :=
 cM.rec (motive_1 := fun t v fp _ => t.clean = true -> cM K CL H Z t v fp) (motive_2 := fun t v fp _ => T.dg t = true -> aR K CL H Z t v fp) (motive_3 := fun t v fp _ => T.bB t = true -> cZ K CL H Z t v fp)
   (fun h k => .sh (zi (by rw [T.clean] at k; exact k) h)) (fun h _ r k => .tup (zh _ _ h) (r (by rw [T.clean] at k; exact k))) (fun h _ r k => .lst h (r (by rw [T.clean] at k; exact k))) (fun h _ r k => .ins h (r (by rw [T.clean] at k; exact k))) (fun h f k => .yF h (dS.clean zi (by rw [T.clean] at k; exact k) f)) (fun _ r k => .pin (r (by rw [T.clean] at k; exact k))) (fun _ => .nil) (fun _ _ h r k => by rw [T.dg, aey] at k; exact .cons (h k.1) (r k.2)) (fun _ => .nil) (fun _ _ h r k => by rw [T.bB, aey] at k; exact .cons (h k.1) (r k.2)) h k
theorem bR.back {W W' : Hp} {fp : List Addr} (S : bR K CL b H Z δ σ ts vs) (hh : aG H H') (zw : aG Z W) (ww : aG W W') (wh : aG W' H') (new : ∀ a o, W' a = some o -> W a = none -> H a = none)
   (tp : ∀ a o, H' a = some o -> nF o = true -> W' a = some o) (r : cM K CL H' W' t v fp) (nd : fp.Nodup) (own : ∀ a ∈ fp, W' a = none /\ H a = none) (c : W = Z \/ t.clean = true) :
   ∃ Z', aG Z Z' /\ bR K CL b H' Z' δ σ (t :: ts) (v :: vs) := by
 classical
 let Z' : Hp := fun a => if (H a).isSome = true then Z a else W' a
 have zs : ∀ {a : Addr} {o : HO}, H a = some o -> Z' a = Z a := fun {a o} e => by
   show (if (H a).isSome = true then Z a else W' a) = Z a
   rw [ad0 (by rw [e]; rfl)]
 have zn : ∀ {a : Addr}, H a = none -> Z' a = W' a := fun {a} e => by
   show (if (H a).isSome = true then Z a else W' a) = W' a
   rw [adT (by rw [e]; simp)]
 have sz : aG Z Z' := fun a o q => by rw [zs (S.zh a o q)]; exact q
 have zw' : ∀ a o, Z' a = some o -> W' a = some o := fun a o q => by
   cases e : H a with
   | none => rw [zn e] at q; exact q
   | some u => rw [zs e] at q; exact ww a o (zw a o q)
 have ZL : ∀ a o, H' a = some o -> nF o = true -> Z' a = some o := fun a o q i => by
   cases e : H a with
   | none => rw [zn e]; exact tp a o q i
   | some u =>
     rw [zs e]
     have := hh a u e
     rw [q] at this; cases this
     exact S.tp a o e i
 have r' : cM K CL H' Z' t v fp := by
   rcases c with c | c
   . have : Z' = W' := by
       funext a
       cases e : H a with
       | none => exact zn e
       | some u =>
         rw [zs e]
         cases q : W' a with
         | none =>
           cases q2 : Z a with
           | none => rfl
           | some o => rw [ww a o (zw a o q2)] at q; cases q
         | some o =>
           cases q2 : W a with
           | none => rw [new a o q q2] at e; cases e
           | some o2 =>
             have := ww a o2 q2
             rw [q] at this; cases this
             rw [← c]; exact q2
     rw [this]; exact r
   . refine cM.clean (fun a xs h => ?_) (fun {d v} k h => ?_) c r
     . exact ZL a _ (wh a _ h) rfl
     . exact bO.lD (H := H') ZL k (h.mono wh)
 obtain ⟨f0, g0, e0, r0, nd0, k0⟩ := S.rep
 have old : ∀ a ∈ f0 ++ g0, ∃ o, H a = some o := fun a ha => (adZ.mp ha).elim (e0.there a) (r0.there a)
 have keep : ∀ a ∈ f0 ++ g0, H' a = H a := fun a ha => by
   obtain ⟨o, e⟩ := old a ha
   rw [e]; exact hh a o e
 refine ⟨Z', sz, ⟨⟨f0, fp ++ g0, e0.mono sz (fun a ha => keep a (ad2 _ ha)), .cons r' (r0.mono sz fun a ha => keep a (adP _ ha)), ?_, fun a ha => ?_⟩, S.bh.trans hh, S.zz.trans sz, fun a o q => wh a o (zw' a o q), fun a o q z => ?_, ZL, S.tab⟩⟩
 . have hp : (f0 ++ (fp ++ g0)).Perm (fp ++ (f0 ++ g0)) := by
     rw [← adO, ← adO]
     exact aew.append_right g0
   refine hp.nodup_iff.mpr (aeJ.mpr ⟨nd, nd0, fun a ha c hc e => ?_⟩)
   subst e
   obtain ⟨o, q⟩ := old a hc
   rw [(own a ha).2] at q; cases q
 . have : a ∈ f0 ++ g0 \/ a ∈ fp := by
     simp only [adZ] at ha ⊢
     rcases ha with h | h | h
     . exact .inl (.inl h)
     . exact .inr h
     . exact .inl (.inr h)
   rcases this with h | h
   . obtain ⟨o, q⟩ := old a h
     exact ⟨by rw [zs q]; exact (k0 a h).1, (k0 a h).2⟩
   . exact ⟨by rw [zn (own a h).2]; exact (own a h).1, S.bh.free (own a h).2⟩
 . cases e : H a with
   | none => exact S.bh.free e
   | some u => rw [zs e] at q; exact S.new a o q z
end
section
variable {X : Cx} {CL : Str -> Addr} {b : Bx} {δ δ1 δ2 δ3 : List (Option T)} {e e1 e2 : Expr} {t t1 t2 : T} {d d1 d2 : D} {pos : Pos}
theorem R5 (h : bQ X CL b e δ t δ1) : cN X CL b e δ t.d7 δ1 := fun H Z σ ts vs Q S k => h H Z σ ts vs Q S fun v H' Z' z s S' => k v H' Z' z s S'.pop S'.view
theorem ah (h : bQ X CL b e δ (.sh d) δ1) : cN X CL b e δ d δ1 := by have := R5 h; rwa [T.d7] at this
theorem bq (h : cN X CL b e δ d δ1) (i : d.lD = true) : bQ X CL b e δ (.sh d) δ1 := fun H Z σ ts vs Q S k => h H Z σ ts vs Q S fun v H' Z' z s S' r => k v H' Z' z s (S'.push (bO.lD S'.tp i r))
theorem z9 (h : bQ X CL b e δ t δ1) : bQ X CL b e δ (.sh t.d7) δ1 := fun H Z σ ts vs Q S k => h H Z σ ts vs Q S fun v H' Z' z s S' => by
 obtain ⟨Z2, z2, S2⟩ := S'.EH
 exact k v H' Z2 (z.trans z2) s S2
theorem ai {i : Int} {j : Nat} : bQ X CL b (.Constant (.int i) j pos) δ (.sh (.int i)) δ := fun H Z σ ts vs Q S k => cH SR (k _ _ Z (.refl _) (.refl _) (S.push (.int i)))
theorem R6 {i : Bool} {j : Nat} : bQ X CL b (.Constant (.bool i) j pos) δ (.sh (.bl i)) δ := fun H Z σ ts vs Q S k => cH Wi (k _ _ Z (.refl _) (.refl _) (S.push (.bl i)))
theorem aB {x : Str} {j : Nat} : bQ X CL b (.Constant (.str x) j pos) δ (.sh (.str x)) δ := fun H Z σ ts vs Q S k => cH SV (k _ _ Z (.refl _) (.refl _) (S.push (.str x)))
section
variable (i : Nat) {x : Str} (hi : X.N[i]? = some x := by rfl) (hv : VX X.env.scope x := by first | exact Or.inl rfl | exact Or.inr (Or.inl rfl) | exact Or.inr (Or.inr rfl)) (hd : (x == ("__debug__" : Str)) = false := by decide) (nI : (x == ("__classdict__" : Str)) = false := by decide)
include hi hv hd nI
theorem Uk (h : δ[i]? = some (some (.sh d)) := by rfl) : bQ X CL b (.Name x pos) δ (.sh d) δ := fun H Z σ ts vs Q S k => by
 obtain ⟨v, e, r⟩ := S.R1 h
 exact cH (lV hi hv hd nI) ⟨v, e, k v H Z (.refl _) (.refl _) (S.push r)⟩
theorem PJ (h : δ[i]? = some (some t) := by rfl) : bQ X CL b (.Name x pos) δ (.sh t.d7) (δ.set i (some (.sh t.d7))) := fun H Z σ ts vs Q S k => by
 obtain ⟨v, Z', e, z, S'⟩ := S.PF h
 exact cH (lV hi hv hd nI) ⟨v, e, k v H Z' z (.refl _) S'⟩
theorem PK (h : δ[i]? = some (some t) := by rfl) : bQ X CL b (.Name x pos) δ t (δ.set i none) := fun H Z σ ts vs Q S k => by
 obtain ⟨v, e, S'⟩ := S.move h
 exact cH (lV hi hv hd nI) ⟨v, e, k v H Z (.refl _) (.refl _) S'⟩
theorem Ul (h : δ[i]? = some (some t) := by rfl) : cN X CL b (.Name x pos) δ t.d7 δ := fun H Z σ ts vs Q S k => by
 obtain ⟨v, e, r⟩ := S.look h
 exact cH (lV hi hv hd nI) ⟨v, e, k v H Z (.refl _) (.refl _) S r⟩
end
noncomputable def Um : D -> Option V
 | .non => some .non
 | .bl b => some (.bl b)
 | .int i => some (.int i)
 | .str x => some (.str x)
 | _ => none
theorem bO.sc {K : PySem.W.Frag} {Z : Hp} {d : D} {v w : V} (r : bO K CL Z d v) (h : Um d = some w) : v = w := by
 cases r <;> first | (exact aeb h) | (cases h)
theorem PL {K : PySem.W.Frag} {Z : Hp} {d : D} {w : V} (h : Um d = some w) : bO K CL Z d w := by
 cases d <;> first | (cases h; constructor) | (cases h)
theorem nP {op : Operator} {r : R2} {w1 w2 w : V} (ho : tN X (binaryOp op) r) (h1 : cN X CL b e1 δ d1 δ1) (h2 : cN X CL b e2 δ1 d2 δ2) (s1 : Um d1 = some w1) (s2 : Um d2 = some w2) (s3 : Um d = some w)
   (hr : ∀ (H : Hp) (Q : VK), Q w H -> r w1 w2 H Q) : bQ X CL b (.BinOp e1 op e2 pos) δ (.sh d) δ2 := fun H Z σ ts vs Q S k => by
 refine cH (Hg ho dG dG) (h1 H Z σ ts vs _ S fun v1 H1 Z1 z1 k1 S1 r1 => h2 H1 Z1 σ ts vs _ S1 fun v2 H2 Z2 z2 k2 S2 r2 => ?_)
 rw [r1.sc s1, r2.sc s2]
 exact hr H2 Q (k w H2 Z2 (z1.trans z2) (k1.trans k2) (S2.push (PL s3)))
theorem jF {i j : Int} (h1 : cN X CL b e1 δ (.int i) δ1) (h2 : cN X CL b e2 δ1 (.int j) δ2) : bQ X CL b (.BinOp e1 .Add e2 pos) δ (.sh (.int (i + j))) δ2 := nP Tw h1 h2 rfl rfl rfl fun _ _ q => ⟨i, j, rfl, rfl, q⟩
theorem nQ {i j : Int} (h1 : cN X CL b e1 δ (.int i) δ1) (h2 : cN X CL b e2 δ1 (.int j) δ2) : bQ X CL b (.BinOp e1 .Sub e2 pos) δ (.sh (.int (i - j))) δ2 := nP Tz h1 h2 rfl rfl rfl fun _ _ q => ⟨i, j, rfl, rfl, q⟩
theorem Aa {i j : Int} (h1 : cN X CL b e1 δ (.int i) δ1) (h2 : cN X CL b e2 δ1 (.int j) δ2) (c : O9 i j) : bQ X CL b (.BinOp e1 .Mult e2 pos) δ (.sh (.int (i * j))) δ2 := nP TF h1 h2 rfl rfl rfl fun _ _ q => ⟨i, j, rfl, rfl, c, q⟩
theorem bZ {i j : Int} (h1 : cN X CL b e1 δ (.int i) δ1) (h2 : cN X CL b e2 δ1 (.int j) δ2) (c : 0 < j) : bQ X CL b (.BinOp e1 .Mod e2 pos) δ (.sh (.int (i % j))) δ2 := nP TH h1 h2 rfl rfl rfl fun _ _ q => ⟨i, j, rfl, rfl, c, q⟩
theorem cR {i j : Int} (h1 : cN X CL b e1 δ (.int i) δ1) (h2 : cN X CL b e2 δ1 (.int j) δ2) (c : Wz i j) : bQ X CL b (.BinOp e1 .FloorDiv e2 pos) δ (.sh (.int (i / j))) δ2 := nP Pa h1 h2 rfl rfl rfl fun _ _ q => ⟨i, j, rfl, rfl, c, q⟩
theorem Lr {i j : Int} (h1 : cN X CL b e1 δ (.int i) δ1) (h2 : cN X CL b e2 δ1 (.int j) δ2) (c : WB i j) : bQ X CL b (.BinOp e1 .Pow e2 pos) δ (.sh (.int (i ^ j.toNat))) δ2 := nP TJ h1 h2 rfl rfl rfl fun _ _ q => ⟨i, j, rfl, rfl, c, q⟩
theorem aM {x y : Str} (h1 : cN X CL b e1 δ (.str x) δ1) (h2 : cN X CL b e2 δ1 (.str y) δ2) (c : x.length + y.length <= sizeLine) : bQ X CL b (.BinOp e1 .Add e2 pos) δ (.sh (.str (x ++ y))) δ2 := nP Es h1 h2 rfl rfl rfl fun _ _ q => ⟨x, y, rfl, rfl, c, q⟩
theorem wG {op : CmpOp} {r : R2} {p : Bool} {w1 w2 : V} (ho : tN X (compareOp op) r) (h1 : cN X CL b e1 δ d1 δ1) (h2 : cN X CL b e2 δ1 d2 δ2) (s1 : Um d1 = some w1) (s2 : Um d2 = some w2)
   (hr : ∀ (H : Hp) (Q : VK), Q (.bl p) H -> r w1 w2 H Q) (hm : behindInMarks op e2 = false) : qD X CL b (.Compare e1 [op] [e2] pos) δ p δ2 /\ bQ X CL b (.Compare e1 [op] [e2] pos) δ (.sh (.bl p)) δ2 := by
 constructor
 . intro H Z σ ts vs Q S k
   refine EG (vN ho dG dG hm) (h1 H Z σ ts vs _ S fun v1 H1 Z1 z1 k1 S1 r1 => h2 H1 Z1 σ ts vs _ S1 fun v2 H2 Z2 z2 k2 S2 r2 => ?_)
   rw [r1.sc s1, r2.sc s2]
   exact hr H2 _ ⟨p, rfl, k H2 Z2 (z1.trans z2) (k1.trans k2) S2⟩
 . intro H Z σ ts vs Q S k
   refine cH (vK ho dG dG hm) (h1 H Z σ ts vs _ S fun v1 H1 Z1 z1 k1 S1 r1 => h2 H1 Z1 σ ts vs _ S1 fun v2 H2 Z2 z2 k2 S2 r2 => ?_)
   rw [r1.sc s1, r2.sc s2]
   exact hr H2 _ (k _ H2 Z2 (z1.trans z2) (k1.trans k2) (S2.push (.bl p)))
theorem eu {i j : Int} (h1 : cN X CL b e1 δ (.int i) δ1) (h2 : cN X CL b e2 δ1 (.int j) δ2) : qD X CL b (.Compare e1 [.Eq] [e2] pos) δ (decide (i = j)) δ2 /\ bQ X CL b (.Compare e1 [.Eq] [e2] pos) δ (.sh (.bl (decide (i = j)))) δ2 :=
 wG RW h1 h2 rfl rfl (fun _ _ q => ⟨rfl, by rw [show decide (V.int i = V.int j) = decide (i = j) by simp]; exact q⟩) (nK _)
theorem nR {i j : Int} (h1 : cN X CL b e1 δ (.int i) δ1) (h2 : cN X CL b e2 δ1 (.int j) δ2) : qD X CL b (.Compare e1 [.NotEq] [e2] pos) δ (!decide (i = j)) δ2 /\ bQ X CL b (.Compare e1 [.NotEq] [e2] pos) δ (.sh (.bl (!decide (i = j)))) δ2 :=
 wG K5 h1 h2 rfl rfl (fun _ _ q => ⟨rfl, by rw [show decide (V.int i = V.int j) = decide (i = j) by simp]; exact q⟩) (nK _)
theorem gX {i j : Str} (h1 : cN X CL b e1 δ (.str i) δ1) (h2 : cN X CL b e2 δ1 (.str j) δ2) : qD X CL b (.Compare e1 [.Eq] [e2] pos) δ (decide (i = j)) δ2 /\ bQ X CL b (.Compare e1 [.Eq] [e2] pos) δ (.sh (.bl (decide (i = j)))) δ2 :=
 wG RW h1 h2 rfl rfl (fun _ _ q => ⟨rfl, by rw [show decide (V.str i = V.str j) = decide (i = j) by simp]; exact q⟩) (nK _)
theorem Uo {i j : Str} (h1 : cN X CL b e1 δ (.str i) δ1) (h2 : cN X CL b e2 δ1 (.str j) δ2) : qD X CL b (.Compare e1 [.NotEq] [e2] pos) δ (!decide (i = j)) δ2 /\ bQ X CL b (.Compare e1 [.NotEq] [e2] pos) δ (.sh (.bl (!decide (i = j)))) δ2 :=
 wG K5 h1 h2 rfl rfl (fun _ _ q => ⟨rfl, by rw [show decide (V.str i = V.str j) = decide (i = j) by simp]; exact q⟩) (nK _)
theorem Hy {i j : Int} (h1 : cN X CL b e1 δ (.int i) δ1) (h2 : cN X CL b e2 δ1 (.int j) δ2) : qD X CL b (.Compare e1 [.Lt] [e2] pos) δ (decide (i < j)) δ2 /\ bQ X CL b (.Compare e1 [.Lt] [e2] pos) δ (.sh (.bl (decide (i < j)))) δ2 := wG WD h1 h2 rfl rfl (fun _ _ q => ⟨i, j, rfl, rfl, q⟩) (nK _)
theorem wH {i j : Int} (h1 : cN X CL b e1 δ (.int i) δ1) (h2 : cN X CL b e2 δ1 (.int j) δ2) : qD X CL b (.Compare e1 [.Gt] [e2] pos) δ (decide (j < i)) δ2 /\ bQ X CL b (.Compare e1 [.Gt] [e2] pos) δ (.sh (.bl (decide (j < i)))) δ2 := wG WG h1 h2 rfl rfl (fun _ _ q => ⟨i, j, rfl, rfl, q⟩) (nK _)
end
section
variable {K : PySem.W.Frag} {CL : Str -> Addr} {H Z : Hp}
theorem aR.split : ∀ {as bs : List T} {us ws : List V} {gp : List Addr}, as.length = us.length -> aR K CL H Z (as ++ bs) (us ++ ws) gp -> ∃ g1 g2, gp = g1 ++ g2 /\ aR K CL H Z as us g1 /\ aR K CL H Z bs ws g2
 | [], _, [], _, gp, _, r => ⟨[], gp, rfl, .nil, r⟩
 | [], _, _ :: _, _, _, h, _ => by simp at h
 | _ :: _, _, [], _, _, h, _ => by simp at h
 | a :: as, bs, u :: us, ws, gp, h, r => by
   cases r with
   | @cons _ _ _ _ f1 f2 r1 r2 =>
     obtain ⟨g1, g2, e, h1, h2⟩ := aR.split (as := as) (us := us) (by simpa using h) r2
     exact ⟨f1 ++ g1, g2, by rw [e, adO], .cons r1 h1, h2⟩
theorem aR.app {as bs : List T} {us ws : List V} {g1 g2 : List Addr} (h : aR K CL H Z as us g1) (q : aR K CL H Z bs ws g2) : aR K CL H Z (as ++ bs) (us ++ ws) (g1 ++ g2) :=
 aR.ind (P := fun as us g1 => aR K CL H Z (as ++ bs) (us ++ ws) (g1 ++ g2)) q (fun r _ i => by rw [adO]; exact .cons r i) h
theorem aR.rev : ∀ {as : List T} {us : List V} {g : List Addr}, aR K CL H Z as.reverse us.reverse g -> ∃ g', aR K CL H Z as us g' /\ g'.Perm g
 | [], [], g, r => by
   have r' : aR K CL H Z [] [] g := r
   cases r'
   exact ⟨[], .nil, afp _⟩
 | [], u :: us, g, r => by have := r.length; simp at this
 | a :: as, [], g, r => by have := r.length; simp at this
 | a :: as, u :: us, g, r => by
   rw [ae0, ae0] at r
   have hl := r.length
   obtain ⟨g1, g2, e, r1, r2⟩ := aR.split (by simp at hl ⊢; omega) r
   subst e
   obtain ⟨g', r', p⟩ := aR.rev r1
   cases r2 with
   | @cons _ _ _ _ f1 f2 q1 q2 =>
     cases q2
     refine ⟨f1 ++ g', .cons q1 r', ?_⟩
     rw [aef]
     exact (aeq f1 p).trans aew
theorem aR.toF : ∀ {ds : List D} {us : List V} {g : List Addr}, aR K CL H Z (ds.map T.sh) us g -> aH K CL Z ds us /\ g = []
 | [], _, _, r => by
   have r' : aR K CL H Z [] _ _ := r
   cases r'
   exact ⟨.nil, rfl⟩
 | d :: ds, _, _, r => by
   have r' : aR K CL H Z (T.sh d :: ds.map T.sh) _ _ := r
   cases r' with
   | cons r1 r2 =>
     cases r1 with
     | sh h =>
       obtain ⟨q, e⟩ := aR.toF r2
       exact ⟨.cons h q, by rw [e]; rfl⟩
theorem iy : ∀ (ds : List D), T.gW (ds.map T.sh) = ds
 | [] => rfl
 | d :: ds => by rw [aen, T.gW, iy ds, T.d7]
end
section
variable {K : PySem.W.Frag} {CL : Str -> Addr} {b : Bx} {H H' Z Z' : Hp} {δ δ' : List (Option T)} {σ σ' : L2.St} {ts tl : List T} {vs us : List V} {t : T} {v : V}
theorem bR.EI {p : Addr} (S : bR K CL b H Z δ σ (tl.reverse ++ ts) (us.reverse ++ vs)) (hl : us.length = tl.length) (hp : H p = none) :
   aG Z (upd Z p (.tup us)) /\ aG H (upd H p (.tup us)) /\ bR K CL b (upd H p (.tup us)) (upd Z p (.tup us)) δ σ (.tup tl :: ts) (.ref p :: vs) := by
 obtain ⟨fp, gp, e, r, nd, k⟩ := S.rep
 obtain ⟨g1, g2, eg, r1, r2⟩ := aR.split (by simp [hl]) r
 subst eg
 obtain ⟨g', r', pm⟩ := r1.rev
 have zp : Z p = none := S.zh.free hp
 have sz : aG Z (upd Z p (.tup us)) := aG.upd zp
 have sh : aG H (upd H p (.tup us)) := aG.upd hp
 have keep : ∀ a ∈ fp ++ (g1 ++ g2), a ≠ p := fun a ha => by
   have : ∃ o, H a = some o := by
     rcases adZ.mp ha with h | h
     . exact e.there a h
     . exact r.there a h
   obtain ⟨o, q⟩ := this
   exact bF q hp
 have R7 : (fp ++ (g' ++ g2)).Perm (fp ++ (g1 ++ g2)) := (pm.append_right g2).append_left fp
 have kk : ∀ a ∈ fp ++ (g' ++ g2), a ≠ p := fun a ha => keep a (R7.mem_iff.mp ha)
 refine ⟨sz, sh, ⟨⟨fp, g' ++ g2, e.mono sz (fun a ha => aA (keep a (ad2 _ ha))), .cons (.tup aX (r'.mono sz fun a ha => aA (kk a (by simp [ha])))) (r2.mono sz fun a ha => aA (keep a (by simp [ha]))), R7.nodup_iff.mpr nd, fun a ha => ?_⟩, S.bh.trans sh, S.zz.trans sz, fun a o q => ?_, fun a o q z => ?_, fun a o q i => ?_, S.tab⟩⟩
 . exact ⟨by rw [aA (kk a ha)]; exact (k a (R7.mem_iff.mp ha)).1, (k a (R7.mem_iff.mp ha)).2⟩
 . by_cases ha : a = p
   . subst ha; rw [aX] at q ⊢; exact q
   . rw [aA ha] at q ⊢; exact S.zh a o q
 . by_cases ha : a = p
   . subst ha; exact S.bh.free hp
   . rw [aA ha] at q; exact S.new a o q z
 . by_cases ha : a = p
   . subst ha; rw [aX] at q ⊢; exact q
   . rw [aA ha] at q ⊢; exact S.tp a o q i
theorem bR.tV {p : Addr} {g0 : List Addr} (S : bR K CL b H Z δ σ (tl.reverse ++ ts) (us.reverse ++ vs)) (hl : us.length = tl.length) (hp : H p = none) :
   aG H (upd H p (.lst us)) /\ bR K CL b (upd H p (.lst us)) Z δ σ (.lst tl :: ts) (.ref p :: vs) := by
 obtain ⟨fp, gp, e, r, nd, k⟩ := S.rep
 obtain ⟨g1, g2, eg, r1, r2⟩ := aR.split (by simp [hl]) r
 subst eg
 obtain ⟨g', r', pm⟩ := r1.rev
 have zp : Z p = none := S.zh.free hp
 have sh : aG H (upd H p (.lst us)) := aG.upd hp
 have keep : ∀ a ∈ fp ++ (g1 ++ g2), a ≠ p := fun a ha => by
   have : ∃ o, H a = some o := by
     rcases adZ.mp ha with h | h
     . exact e.there a h
     . exact r.there a h
   obtain ⟨o, q⟩ := this
   exact bF q hp
 have R7 : (fp ++ (g' ++ g2)).Perm (fp ++ (g1 ++ g2)) := (pm.append_right g2).append_left fp
 have kk : ∀ a ∈ fp ++ (g' ++ g2), a ≠ p := fun a ha => keep a (R7.mem_iff.mp ha)
 have pm3 : (fp ++ ((p :: g') ++ g2)).Perm (p :: (fp ++ (g' ++ g2))) := by
   rw [aej]; exact aeY
 refine ⟨sh, ⟨⟨fp, (p :: g') ++ g2, e.mono (.refl _) (fun a ha => aA (keep a (ad2 _ ha))), .cons (.lst aX (r'.mono (.refl _) fun a ha => aA (kk a (by simp [ha])))) (r2.mono (.refl _) fun a ha => aA (keep a (by simp [ha]))), ?_, fun a ha => ?_⟩, S.bh.trans sh, S.zz, S.zh.trans sh, S.new, fun a o q i => ?_, S.tab⟩⟩
 . refine pm3.nodup_iff.mpr (aeS.mpr ⟨fun h => kk p h rfl, R7.nodup_iff.mpr nd⟩)
 . rcases adN.mp (pm3.mem_iff.mp ha) with h | h
   . subst h; exact ⟨zp, S.bh.free hp⟩
   . exact k a (R7.mem_iff.mp h)
 . by_cases ha : a = p
   . subst ha; rw [aX] at q; cases q; cases i
   . rw [aA ha] at q; exact S.tp a o q i
end
section
variable {X : Cx} {CL : Str -> Addr} {b : Bx} {δ δ1 δ2 δ3 : List (Option T)} {e e1 e2 e3 : Expr} {es : List Expr} {t t1 t2 : T} {d d1 d2 : D} {tl : List T} {ds : List D} {p q : Bool} {pos : Pos}
theorem dh : Ek X CL b [] δ [] δ := fun H Z σ ts vs Q S k => Jc eo (k [] H Z rfl (.refl _) (.refl _) S)
theorem e7 (h1 : bQ X CL b e δ t δ1) (h2 : Ek X CL b es δ1 tl δ2) (hs : starEach (e :: es) X.env = (false, eval e X.env) :: starEach es X.env := by exact bD rfl) : Ek X CL b (e :: es) δ (t :: tl) δ2 := fun H Z σ ts vs Q S k =>
 Jc (b7 dG KG hs) (h1 H Z σ ts vs _ S fun v H1 Z1 z1 k1 S1 => h2 H1 Z1 σ _ _ _ S1 fun us H2 Z2 hl z2 k2 S2 => k (v :: us) H2 Z2 (by simp [hl]) (z1.trans z2) (k1.trans k2) (by
   rw [ae0, ae0, adO, adO]
   exact S2))
theorem aL : OI X CL b [] δ [] δ := fun H Z σ ts vs Q S k => Jc eo (k [] H Z (.refl _) (.refl _) S .nil)
theorem aj (h1 : cN X CL b e δ d δ1) (h2 : OI X CL b es δ1 ds δ2) (hs : starEach (e :: es) X.env = (false, eval e X.env) :: starEach es X.env := by exact bD rfl) : OI X CL b (e :: es) δ (d :: ds) δ2 := fun H Z σ ts vs Q S k =>
 Jc (b7 dG KG hs) (h1 H Z σ ts vs _ S fun v H1 Z1 z1 k1 S1 r1 => h2 H1 Z1 σ _ _ _ S1 fun us H2 Z2 z2 k2 S2 r2 => k (v :: us) H2 Z2 (z1.trans z2) (k1.trans k2) S2 (.cons (r1.mono k2) r2))
theorem Up {j : Nat} (h : Ek X CL b es δ tl δ1) (hl : tl.length <= sizeLine) : bQ X CL b (.Tuple es j pos) δ (.tup tl) δ1 := fun H Z σ ts vs Q S k =>
 cH (TR KG) (h H Z σ ts vs _ S fun us H1 Z1 hu z1 k1 S1 => ⟨by rw [hu]; exact hl, fun p hp => by
   obtain ⟨a, c, S2⟩ := S1.EI hu hp
   exact k _ _ _ (z1.trans a) (k1.trans c) S2⟩)
theorem bH {j : Nat} (h : Ek X CL b es δ (ds.map T.sh) δ1) (hl : ds.length <= sizeLine) : bQ X CL b (.Tuple es j pos) δ (.sh (.tup ds)) δ1 := by
 have := z9 (Up (pos := pos) (j := j) h (by simpa using hl))
 rwa [T.d7, iy] at this
theorem dM (h : Ek X CL b es δ tl δ1) (hl : tl.length <= sizeLine) : bQ X CL b (.List es pos) δ (.lst tl) δ1 := fun H Z σ ts vs Q S k =>
 cH (TV KG) (h H Z σ ts vs _ S fun us H1 Z1 hu z1 k1 S1 => ⟨by rw [hu]; exact hl, fun p hp => by
   obtain ⟨c, S2⟩ := S1.tV (g0 := []) hu hp
   exact k _ _ _ z1 (k1.trans c) S2⟩)
theorem qu (h : bQ X CL b e δ (.sh (.bl p)) δ1) (he : ∀ whole, isTrue e X.env whole = (do let v ← whole; standAt e.pos; holding [v] (truthy v)) := by intro _; rfl) : qD X CL b e δ p δ1 := fun H Z σ ts vs Q S k =>
 EG (SW dG he) (h H Z σ ts vs _ S fun v H1 Z1 z1 k1 S1 => ⟨p, by have := S1.view; rw [T.d7] at this; exact this.sc rfl, k H1 Z1 z1 k1 S1.pop⟩)
theorem Ls (h : qD X CL b e δ p δ1) : qD X CL b (.UnaryOp .Not e pos) δ (!p) δ1 := fun H Z σ ts vs Q S k => EG (S6 RZ) (h H Z σ ts vs _ S fun H1 Z1 z1 k1 S1 => k H1 Z1 z1 k1 S1)
noncomputable def Uq (X : Cx) (e : Expr) : TT := fun σ H Q => ∀ (whole : Sem Value) (pins : List (Addr × Obj)) (s : Shared), Inv X pins σ H s -> wpAny (model X.prog X.w) X.A (isTrue e X.env whole) (TP X pins σ Q) X.xe s
theorem pwS {e : Expr} : PW X e (Uq X e) := fun whole pins s _ _ _ I h => h whole pins s I
noncomputable def Ur (X : Cx) (CL : Str -> Addr) (b : Bx) (e : Expr) (δ : List (Option T)) (p : Bool) (δ' : List (Option T)) : Prop :=
 ∀ (H Z : Hp) (σ : L2.St) (ts : List T) (vs : List V) (Q : Bool -> Hp -> Prop), bR X.K CL b H Z δ σ ts vs -> (∀ H' Z', aG Z Z' -> aG H H' -> bR X.K CL b H' Z' δ' σ ts vs -> Q p H') -> Uq X e σ H Q
theorem PN {t : TT} (h : PW X e t) {σ : L2.St} {H : Hp} {Q : Bool -> Hp -> Prop} (q : t σ H Q) : Uq X e σ H Q := fun whole pins s I => h whole pins s σ H Q I q
theorem Ab (h : Ur X CL b e δ p δ1) : qD X CL b e δ p δ1 := fun H Z σ ts vs Q S k pins s I => h H Z σ ts vs Q S k _ pins s I
theorem Hz (h : qD X CL b e δ p δ1) : Ur X CL b (.BoolOp .And [e] pos) δ p δ1 := fun H Z σ ts vs Q S k => PN (O4 RZ) (h H Z σ ts vs _ S k)
theorem qE (h : qD X CL b e δ p δ1) : Ur X CL b (.BoolOp .Or [e] pos) δ p δ1 := fun H Z σ ts vs Q S k => PN (SX RZ) (h H Z σ ts vs _ S k)
theorem Lv (h : qD X CL b e δ p δ1) (h2 : p = true -> Ur X CL b (.BoolOp .And (e2 :: es) pos) δ1 q δ1) : Ur X CL b (.BoolOp .And (e :: e2 :: es) pos) δ (p && q) δ1 := fun H Z σ ts vs Q S k =>
 PN (SY RZ pwS) (h H Z σ ts vs _ S fun H1 Z1 z1 k1 S1 => by
   cases p with
   | true => exact Ja (h2 rfl H1 Z1 σ ts vs _ S1 fun H2 Z2 z2 k2 S2 => k H2 Z2 (z1.trans z2) (k1.trans k2) S2)
   | false => exact I0 (k H1 Z1 z1 k1 S1))
theorem uP (h : qD X CL b e δ p δ1) (h2 : p = false -> Ur X CL b (.BoolOp .Or (e2 :: es) pos) δ1 q δ1) : Ur X CL b (.BoolOp .Or (e :: e2 :: es) pos) δ (p || q) δ1 := fun H Z σ ts vs Q S k =>
 PN (Wj RZ pwS) (h H Z σ ts vs _ S fun H1 Z1 z1 k1 S1 => by
   cases p with
   | true => exact Ja (k H1 Z1 z1 k1 S1)
   | false => exact I0 (h2 rfl H1 Z1 σ ts vs _ S1 fun H2 Z2 z2 k2 S2 => k H2 Z2 (z1.trans z2) (k1.trans k2) S2))
theorem EJ {op : BoolOp} (h : bQ X CL b e δ t δ1) : bQ X CL b (.BoolOp op [e] pos) δ t δ1 := fun H Z σ ts vs Q S k => cH (S7 dG) (h H Z σ ts vs _ S k)
theorem Ac (h : bQ X CL b e δ (.sh (.bl p)) δ1) (h2 : p = true -> bQ X CL b (.BoolOp .And (e2 :: es) pos) δ1 (.sh (.bl q)) δ1) : bQ X CL b (.BoolOp .And (e :: e2 :: es) pos) δ (.sh (.bl (p && q))) δ1 := fun H Z σ ts vs Q S k =>
 cH (S8 dG dG) (h H Z σ ts vs _ S fun v H1 Z1 z1 k1 S1 => by
   have hv : v = .bl p := by have := S1.view; rw [T.d7] at this; exact this.sc rfl
   refine ⟨p, hv, ?_⟩
   cases p with
   | true => exact Ja (h2 rfl H1 Z1 σ ts vs _ S1.pop fun v H2 Z2 z2 k2 S2 => k v H2 Z2 (z1.trans z2) (k1.trans k2) S2)
   | false => exact I0 (k _ H1 Z1 z1 k1 (S1.pop.push (.bl false))))
theorem Lw (h : bQ X CL b e δ (.sh (.bl p)) δ1) : bQ X CL b (.UnaryOp .Not e pos) δ (.sh (.bl (!p))) δ1 := fun H Z σ ts vs Q S k =>
 cH (L2.S9 dG) (h H Z σ ts vs _ S fun v H1 Z1 z1 k1 S1 => ⟨p, by have := S1.view; rw [T.d7] at this; exact this.sc rfl, k _ H1 Z1 z1 k1 (S1.pop.push (.bl (!p)))⟩)
theorem wI (h : qD X CL b e δ p δ1) (h1 : p = true -> bQ X CL b e1 δ1 t δ2) (h2 : p = false -> bQ X CL b e2 δ1 t δ2) : bQ X CL b (.IfExp e e1 e2 pos) δ t δ2 := fun H Z σ ts vs Q S k =>
 cH (KY RZ dG dG) (h H Z σ ts vs _ S fun H1 Z1 z1 k1 S1 => by
   cases p with
   | true => exact Ja (h1 rfl H1 Z1 σ ts vs _ S1 fun v H2 Z2 z2 k2 S2 => k v H2 Z2 (z1.trans z2) (k1.trans k2) S2)
   | false => exact I0 (h2 rfl H1 Z1 σ ts vs _ S1 fun v H2 Z2 z2 k2 S2 => k v H2 Z2 (z1.trans z2) (k1.trans k2) S2))
theorem vP {K : PySem.W.Frag} {Z : Hp} {vs : List V} {k : Int} (r : aH K CL Z ds vs) (h : vq ds k = some d) : ∃ v, vq vs k = some v /\ bO K CL Z d v := by
 unfold vq at h ⊢
 rw [← r.length]
 cases e : IW ds.length k with
 | none => rw [e] at h; cases h
 | some j =>
   rw [e] at h
   exact r.get h
theorem aE {k : Int} (h1 : cN X CL b e1 δ (.tup ds) δ1) (h2 : cN X CL b e2 δ1 (.int k) δ2) (hk : vq ds k = some d) (hs : lY e2 := by exact fun _ _ => rfl) : cN X CL b (.Subscript e1 e2 pos) δ d δ2 := fun H Z σ ts vs Q S kk =>
 cH (zu Lf dG dG hs) (h1 H Z σ ts vs _ S fun v1 H1 Z1 z1 k1 S1 r1 => h2 H1 Z1 σ ts vs _ S1 fun v2 H2 Z2 z2 k2 S2 r2 => by
   have Xa := r1.mono k2
   cases Xa with
   | tup hq rr =>
     obtain ⟨v, hv, rv⟩ := vP rr hk
     exact ⟨_, _, k, v, rfl, r2.sc rfl, hq, hv, kk v H2 Z2 (z1.trans z2) (k1.trans k2) S2 rv⟩)
theorem aK {k : Int} (h1 : cN X CL b e1 δ (.lst ds) δ1) (h2 : cN X CL b e2 δ1 (.int k) δ2) (hk : vq ds k = some d) (hs : lY e2 := by exact fun _ _ => rfl) : cN X CL b (.Subscript e1 e2 pos) δ d δ2 := fun H Z σ ts vs Q S kk =>
 cH (zu z6 dG dG hs) (h1 H Z σ ts vs _ S fun v1 H1 Z1 z1 k1 S1 r1 => h2 H1 Z1 σ ts vs _ S1 fun v2 H2 Z2 z2 k2 S2 r2 => by
   have Xa := r1.mono k2
   cases Xa with
   | lst hq rr =>
     obtain ⟨v, hv, rv⟩ := vP rr hk
     exact ⟨_, _, k, v, rfl, r2.sc rfl, hq, hv, kk v H2 Z2 (z1.trans z2) (k1.trans k2) S2 rv⟩)
theorem Lx {k : Int} {x : Str} {c : Nat} (h1 : cN X CL b e1 δ (.str x) δ1) (h2 : cN X CL b e2 δ1 (.int k) δ2) (hl : x.length <= sizeLine) (hk : vq x.cps.toList k = some c) (hs : lY e2 := by exact fun _ _ => rfl) : bQ X CL b (.Subscript e1 e2 pos) δ (.sh (.str ⟨#[c]⟩)) δ2 := fun H Z σ ts vs Q S kk =>
 cH (zu T7 dG dG hs) (h1 H Z σ ts vs _ S fun v1 H1 Z1 z1 k1 S1 r1 => h2 H1 Z1 σ ts vs _ S1 fun v2 H2 Z2 z2 k2 S2 r2 =>
   ⟨x, k, c, r1.sc rfl, r2.sc rfl, hl, hk, kk _ H2 Z2 (z1.trans z2) (k1.trans k2) (S2.push (.str _))⟩)
theorem tW {k : Int} (h1 : bQ X CL b e1 δ (.sh (.tup ds)) δ1) (h2 : cN X CL b e2 δ1 (.int k) δ2) (hk : vq ds k = some d) (hs : lY e2 := by exact fun _ _ => rfl) : bQ X CL b (.Subscript e1 e2 pos) δ (.sh d) δ2 := fun H Z σ ts vs Q S kk =>
 cH (zu Lf dG dG hs) (h1 H Z σ ts vs _ S fun v1 H1 Z1 z1 k1 S1 => h2 H1 Z1 σ _ _ _ S1 fun v2 H2 Z2 z2 k2 S2 r2 => by
   obtain ⟨fp, gp, _, r, _, _⟩ := S2.rep
   cases r with
   | cons r _ =>
     cases r with
     | sh r =>
       cases r with
       | tup hq rr =>
         obtain ⟨v, hv, rv⟩ := vP rr hk
         exact ⟨_, _, k, v, rfl, r2.sc rfl, aG.Lj S2.zh hq, hv, kk v H2 Z2 (z1.trans z2) (k1.trans k2) (S2.pop.push rv)⟩)
theorem kL {k : Int} (h1 : bQ X CL b e1 δ (.sh (.lst ds)) δ1) (h2 : cN X CL b e2 δ1 (.int k) δ2) (hk : vq ds k = some d) (hs : lY e2 := by exact fun _ _ => rfl) : bQ X CL b (.Subscript e1 e2 pos) δ (.sh d) δ2 := fun H Z σ ts vs Q S kk =>
 cH (zu z6 dG dG hs) (h1 H Z σ ts vs _ S fun v1 H1 Z1 z1 k1 S1 => h2 H1 Z1 σ _ _ _ S1 fun v2 H2 Z2 z2 k2 S2 r2 => by
   obtain ⟨fp, gp, _, r, _, _⟩ := S2.rep
   cases r with
   | cons r _ =>
     cases r with
     | sh r =>
       cases r with
       | lst hq rr =>
         obtain ⟨v, hv, rv⟩ := vP rr hk
         exact ⟨_, _, k, v, rfl, r2.sc rfl, S2.zh.seq hq, hv, kk v H2 Z2 (z1.trans z2) (k1.trans k2) (S2.pop.push rv)⟩)
end
section
variable {K : PySem.W.Frag} {CL : Str -> Addr} {b : Bx} {H H' Z Z' : Hp} {δ δ' : List (Option T)} {σ σ' : L2.St} {ts tl : List T} {vs us : List V} {t : T} {v : V}
theorem bR.uQ : ∀ {ds : List D} {us : List V} {ts : List T} {vs : List V}, aH K CL Z ds us -> bR K CL b H Z δ σ ts vs -> bR K CL b H Z δ σ ((ds.map T.sh).reverse ++ ts) (us.reverse ++ vs)
 | _, _, _, _, .nil, S => S
 | _, _, ts, vs, .cons (d := d) (v := v) (ds := ds) (vs := us) r t, S => by
   rw [aen, ae0, ae0, adO, adO]
   exact bR.uQ t (S.push r)
theorem bR.drops (S : bR K CL b H Z δ σ (tl ++ ts) (us ++ vs)) (hl : us.length = tl.length) : bR K CL b H Z δ σ ts vs := by
 induction tl generalizing us with
 | nil =>
   cases us with
   | nil => exact S
   | cons _ _ => simp at hl
 | cons t tl ih =>
   cases us with
   | nil => simp at hl
   | cons u us => exact ih S.pop (by simpa using hl)
theorem bR.PR {ds : List D} (S : bR K CL b H Z δ σ ((ds.map T.sh).reverse ++ ts) (us.reverse ++ vs)) (hl : us.length = ds.length) : aH K CL Z ds us := by
 obtain ⟨fp, gp, e, r, nd, k⟩ := S.rep
 obtain ⟨g1, g2, eg, r1, r2⟩ := aR.split (by simp [hl]) r
 obtain ⟨g', r', pm⟩ := r1.rev
 exact r'.toF.1
end
section
variable {X : Cx} {CL : Str -> Addr} {b : Bx} {δ δ1 δ2 δ3 : List (Option T)} {e e1 e2 e3 : Expr} {es : List Expr} {t t1 t2 : T} {d d1 d2 : D} {tl : List T} {ds : List D} {p q : Bool} {pos pp : Pos}
theorem rZ (hm : X.mg "len" = none) (h : cN X CL b e δ (.lst ds) δ1) (hg : Gl X "len" := by rfl) (hs : starEach [e] X.env = (false, eval e X.env) :: starEach [] X.env := by exact bD rfl) (hpl : (backTo pos (starEach ([] : List Expr) X.env)).any (·.1) = false := by rfl) : bQ X CL b (.Call (.Name "len" pp) [e] [] pos) δ (.sh (.int ds.length)) δ1 := fun H Z σ ts vs Q S k =>
 cH (nL rX hg hm PySem.boot_len (b7 dG eo hs) (he := hs)) (h H Z σ ts vs _ S fun v H1 Z1 z1 k1 S1 r => by
   cases r with
   | lst hq rr => exact ⟨_, _, rfl, .inl hq, by rw [← rr.length]; exact k _ H1 Z1 z1 k1 (S1.push (.int _))⟩)
theorem r6 (hm : X.mg "len" = none) (h : cN X CL b e δ (.tup ds) δ1) (hg : Gl X "len" := by rfl) (hs : starEach [e] X.env = (false, eval e X.env) :: starEach [] X.env := by exact bD rfl) : bQ X CL b (.Call (.Name "len" pp) [e] [] pos) δ (.sh (.int ds.length)) δ1 := fun H Z σ ts vs Q S k =>
 cH (nL rX hg hm PySem.boot_len (b7 dG eo hs) (he := hs)) (h H Z σ ts vs _ S fun v H1 Z1 z1 k1 S1 r => by
   cases r with
   | tup hq rr => exact ⟨_, _, rfl, .inr hq, by rw [← rr.length]; exact k _ H1 Z1 z1 k1 (S1.push (.int _))⟩)
theorem cD (hm : X.mg "list" = none) (h : cN X CL b e δ (.lst ds) δ1) (hi : D.bK ds = true) (hg : Gl X "list" := by rfl) (hv : bootBuiltins "list" = some (.type "list") := by rfl) (hs : starEach [e] X.env = (false, eval e X.env) :: starEach [] X.env := by exact bD rfl) : bQ X CL b (.Call (.Name "list" pp) [e] [] pos) δ (.lst (ds.map T.sh)) δ1 := fun H Z σ ts vs Q S k =>
 cH (tR z8 hg hm hv (b7 dG eo hs) (he := hs)) (h H Z σ ts vs _ S fun v H1 Z1 z1 k1 S1 r => by
   cases r with
   | lst hq rr =>
     refine ⟨_, _, rfl, .inl hq, fun l hl => ?_⟩
     obtain ⟨c, S2⟩ := (bR.uQ (aH.lD S1.tp hi rr) S1).tV (g0 := []) (by simp [rr.length]) hl
     exact k _ _ _ z1 (k1.trans c) S2)
noncomputable def lE (K : PySem.W.Frag) (CL : Str -> Addr) {A : Type} (n : Nat) (arg : A -> List D) (Pre : A -> Prop) (res : A -> T) : Sp := fun vs H Q _ =>
 ∃ (W : Hp) (a : A), aG W H /\ (∀ c o, H c = some o -> nF o = true -> W c = some o) /\ aH K CL W (arg a) vs /\ (arg a).length = n /\ Pre a /\ nO CL W ∧
   ∀ v H' W' fp, aG H H' -> aG W W' -> aG W' H' -> (∀ c o, W' c = some o -> W c = none -> H c = none) -> (∀ c o, H' c = some o -> nF o = true -> W' c = some o) →
     cM K CL H' W' (res a) v fp -> fp.Nodup -> (∀ c ∈ fp, W' c = none /\ H c = none) -> Q v H'
section
variable {A : Type} {k n : Nat} {f : Addr} {fd : FuncData} {ps : List Str} {arg : A -> List D} {Pre : A -> Prop} {res : A -> T} {x : Str}
theorem PV (a : A) (F : b8 X.prog X.w X.K X.mg X.base iY k f fd ps (lE X.K CL n arg Pre res)) (hr : gq k X.A) (hm : X.mg x = some (.ref f)) (hk : PySem.W.keepIn X.K (.ref f) = true) (hb : Binds X.K fd ps [])
   (h : OI X CL b (e :: es) δ (arg a) δ1) (hn : (arg a).length = n) (hp : Pre a) (hc : (res a).clean = true) (hg : Gl X x)
   (yC : (x == ("__debug__" : Str)) = false := by decide) (he : starEach (e :: es) X.env = (false, eval e X.env) :: starEach es X.env := by exact bD rfl) (hpl : (backTo pos (starEach es X.env)).any (·.1) = false := by rfl) :
   bQ X CL b (.Call (.Name x pp) (e :: es) [] pos) δ (res a) δ1 := fun H Z σ ts vs Q S kk =>
 cH (Ho F hr hg hm hk hb .nil Hv KG yC he hpl) (h H Z σ ts vs _ S fun us H1 Z1 z1 k1 S1 r => by
   rw [aef]
   refine ⟨H1, a, .refl _, fun _ _ q _ => q, r, hn, hp, S1.Uh, fun v H' W' fp hh ww wh nw tp rt nd own => ?_⟩
   obtain ⟨Z', z', S'⟩ := S1.back hh S1.zh ww wh nw tp rt nd own (.inr hc)
   exact kk v H' Z' (z1.trans z') (k1.trans hh) S')
theorem Ly (a : A) (F : b8 X.prog X.w X.K X.mg X.base iY k f fd ps (lE X.K CL n arg Pre res)) (hr : gq k X.A) (hm : X.mg x = some (.ref f)) (hk : PySem.W.keepIn X.K (.ref f) = true) (hb : Binds X.K fd ps [])
   (h : Ek X CL b (e :: es) δ ((arg a).map T.sh) δ1) (hn : (arg a).length = n) (hp : Pre a) (hg : Gl X x)
   (yC : (x == ("__debug__" : Str)) = false := by decide) (he : starEach (e :: es) X.env = (false, eval e X.env) :: starEach es X.env := by exact bD rfl) (hpl : (backTo pos (starEach es X.env)).any (·.1) = false := by rfl) :
   bQ X CL b (.Call (.Name x pp) (e :: es) [] pos) δ (res a) δ1 := fun H Z σ ts vs Q S kk =>
 cH (Ho F hr hg hm hk hb .nil Hv KG yC he hpl) (h H Z σ ts vs _ S fun us H1 Z1 hl z1 k1 S1 => by
   rw [aef]
   have hl' : us.length = (arg a).length := by rw [hl, adM]
   have S2 := S1.drops (by simp [hl'])
   refine ⟨Z1, a, S1.zh, S1.tp, S1.PR hl', hn, hp, S1.Ug, fun v H' W' fp hh ww wh nw tp rt nd own => ?_⟩
   obtain ⟨Z', z', S'⟩ := S2.back hh (.refl _) ww wh nw tp rt nd own (.inl rfl)
   exact kk v H' Z' (z1.trans z') (k1.trans hh) S')
end
variable {D D' : cO} {st : Stmt} {fU Xb : List Stmt}
theorem Meets.to {K : PySem.W.Frag} {Z : Hp} {ts : List T} {vs : List V} {E : Ends} (M : Meets K CL b Z ts vs D E) (h1 : ∀ δ, D'.nx δ -> D.nx δ) (h2 : ∀ t δ, D'.rt t δ -> D.rt t δ) (h3 : ∀ δ, D'.bk δ -> D.bk δ) (h4 : ∀ δ, D'.ct δ -> D.ct δ) : Meets K CL b Z ts vs D' E :=
 ⟨fun _ _ _ _ s S k => M.nx _ _ _ _ s S (h1 _ k), fun _ _ _ _ _ _ s S k => M.rt _ _ _ _ _ _ s S (h2 _ _ k), fun _ _ _ _ s S k => M.bk _ _ _ _ s S (h3 _ k), fun _ _ _ _ s S k => M.ct _ _ _ _ s S (h4 _ k)⟩
theorem ao (h : D.nx δ) : fD X CL b [] δ D := fun H Z σ ts vs E S M => W7 O5 (M.nx δ σ H Z (.refl _) S h)
theorem di (h : R4 X CL b st δ { D with nx := fun δ1 => fD X CL b fU δ1 D }) : fD X CL b (st :: fU) δ D := fun H Z σ ts vs E S M =>
 W7 (KZ psS R0) (h H Z σ ts vs _ S ⟨fun δ' σ' H' Z' s S' k => k H' Z' σ' ts vs E S' (M.mono s), M.rt, M.bk, M.ct⟩)
theorem Us (h : bQ X CL b e δ t δ1) (k : D.rt t δ1) : R4 X CL b (.Return (some e) pos) δ D := fun H Z σ ts vs E S M => wF (Tc dG) (h H Z σ ts vs _ S fun v H1 Z1 z1 k1 S1 => M.rt t v H1 Z1 δ1 σ z1 S1 k)
theorem Xc (h : qD X CL b e δ p δ1) (h1 : p = true -> fD X CL b fU δ1 D) (h2 : p = false -> fD X CL b Xb δ1 D) : R4 X CL b (.If e fU Xb pos) δ D := fun H Z σ ts vs E S M =>
 wF (Wq RZ R0 R0) (h H Z σ ts vs _ S fun H1 Z1 z1 k1 S1 => by
   cases p with
   | true => exact Ja (h1 rfl H1 Z1 σ ts vs E S1 (M.mono z1))
   | false => exact I0 (h2 rfl H1 Z1 σ ts vs E S1 (M.mono z1)))
theorem Lz (i : Nat) {x : Str} {pos' : Pos} (h : bQ X CL b e δ t δ1) (k : D.nx (δ1.set i (some t))) (hl : i < δ1.length := by decide) (hN : X.N.Nodup := by assumption) (hi : X.N[i]? = some x := by rfl) (hx : Loc X.env.scope x := by first | exact .inl rfl | exact .inr rfl)
   (hs : swapsWith e (some (.Name x pos')) pos.line X.env = pure false := by rfl) (hf : X.fn x = true \/ X.env.scope.names.lookup x = some .local := by first | exact .inl rfl | exact .inr rfl | assumption) : R4 X CL b (.Assign [.Name x pos'] e pos) δ D := fun H Z σ ts vs E S M =>
 wF (Tq hN hi hx dG hs hf) (h H Z σ ts vs _ S fun v H1 Z1 z1 k1 S1 => M.nx _ _ H1 Z1 z1 (S1.set hl) k)
end
noncomputable def entry (N : List Str) (ds : List D) : List (Option T) := ds.map (fun d => some (T.sh d)) ++ List.replicate (N.length - ds.length) none
theorem lZ {K : PySem.W.Frag} {CL : Str -> Addr} {H Z : Hp} : ∀ {ds : List D} {vs : List V} (n : Nat), aH K CL Z ds vs -> fB K CL H Z (ds.map (fun d => some (T.sh d)) ++ List.replicate n none) (vs.map some ++ List.replicate n none) []
 | _, _, 0, .nil => .nil
 | _, _, n + 1, .nil => .skip (lZ (ds := []) (vs := []) n .nil)
 | _, _, n, .cons r t => .cons (fp := []) (gp := []) (.sh r) (lZ n t)
theorem bx {P : Program} {w : World} {K : PySem.W.Frag} {mg : Str -> Option Value} {base : Heap} {CL : Str -> Addr} {x qual : Str} {st : Stmt} {f : Addr} {fd : FuncData} {N ps : List Str} {k : Nat} {A : Type} {arg : A -> List D} {Pre : A -> Prop} {res : A -> T} (F : lU K x qual st f fd) (S : aT N ps (aq st))
   (hb : ∀ (fk : Value) (Ar : Around) (outer : List Env) (s : Shared) (H : Hp) (E : XK) (b : Bx) (a : A), gq k (Ar.deeper (envOfC qual (aq st) s.heap.objs.size f fk)) -> Pre a →
     fD (BR iY P w K mg base N qual (aq st) f fk Ar outer s H E).VY CL b (ig st) (entry N (arg a)) { nx := fun _ => res a = .sh .non, rt := fun t _ => t = res a }) :
   b8 P w K mg base iY (k + 1) f fd ps (lE K CL ps.length arg Pre res) := by
 refine F.ok S (fun vs H Q E h => ?_) (fun fk Ar outer s H vs Q E hr h => ?_)
 . obtain ⟨W, a, _, _, r, hl, _⟩ := h
   rw [← r.length]; exact hl
 . obtain ⟨W, a, wh, tp, r, hl, hp, tb, kk⟩ := h
   refine ⟨_, R0, hb fk Ar outer s H E ⟨H, W⟩ a hr hp H W _ [] [] _ ⟨⟨[], [], ?_, .nil, List.nodup_nil, fun a ha => by cases ha⟩, .refl _, .refl _, wh, fun a o q z => ?_, tp, tb⟩ ⟨fun δ' σ' H' Z' s' S' e => ?_, fun t v H' Z' δ' σ' s' S' e => ?_, fun _ _ _ _ _ _ e => e.elim, fun _ _ _ _ _ _ e => e.elim⟩⟩
   . unfold entry L2.start
     rw [← r.length]
     exact lZ _ r
   . have q' : W a = some o := q
     have z' : W a = none := z
     rw [q'] at z'; cases z'
   . exact kk .non H' Z' [] S'.bh S'.zz S'.zh S'.new S'.tp (by rw [show res a = .sh .non from e]; exact .sh .non) List.nodup_nil fun a ha => by cases ha
   . have e' : t = res a := e
     subst e'
     obtain ⟨fp, gp, _, r', nd, own⟩ := S'.rep
     cases r' with
     | @cons _ _ _ _ f1 f2 r1 r2 =>
       have h1 := (aeJ.mp nd).2.1
       exact kk v H' Z' f1 S'.bh S'.zz S'.zh S'.new S'.tp r1 (aeJ.mp h1).1 fun a ha => own a (adP _ (ad2 _ ha))
section
variable {prog : Program} {w : World} {A : Around} {R : Result -> Shared -> Prop} {s : Shared}
theorem Ad {elt target iter : Expr} {ifs : List Expr} {scope : Scope} {pos : Pos} {it acc : Value} {env : Env} (I : Nat -> Shared -> Prop)
   (turn : ∀ n s, I n s -> wpAny (model prog w) A (pyNext it) (fun r s₁ => match r with
     | none => R (.ok .next) s₁
     | some v => wpAny (model prog w) A (letOwnedTupleGo target it v) (fun _ R8 => wpAny (model prog w) A (assign target env v) (fun _ s₂ =>
         wpAny (model prog w) A (forIn ifs true fun c r => if r = true then do let ok ← isTrue c env (eval c env); pure (ForInStep.yield ok) else pure (ForInStep.yield r)) (fun ok s₃ =>
           if ok = true then wpAny (model prog w) A (eval elt env) (fun x s₄ =>
             wpAny (model prog w) A (call (.builtin "list.append") [acc, x]) (fun _ s₅ => ∃ m, m < n /\ I m s₅) (fun _ _ => False) s₄) (fun _ _ => False) s₃
           else ∃ m, m < n /\ I m s₃) (fun _ _ => False) s₂) (fun _ _ => False) R8) (fun _ _ => False) s₁) (fun _ _ => False) s)
   (n : Nat) (h : I n s) :
   codeAny (model prog w) A (.compLoop (.ListComp elt [⟨target, iter, ifs, 0⟩] scope pos) 0 it acc env) R s := by
 refine codeAny_loop rfl I (fun n s hI => ?_) n h
 show wpAny _ A ((compTurn (.ListComp elt [⟨target, iter, ifs, 0⟩] scope pos) 0 it acc env).onRaise (fun x => do noteFrame x env; theTreesLotGoes x)) _ _ s
 refine wpAny_noted ?_
 rw [compTurn_list]
 refine aea (wpAny_standAt (aea (ae1 (turn n s hI) (fun r s₁ h₁ => ?_) fun _ _ h' => h'.elim)))
 cases r with
 | none => exact aer h₁
 | some v =>
   refine aea (ae1 h₁ (fun _ R8 Xd => ?_) fun _ _ h' => h'.elim)
   refine aea (ae1 Xd (fun _ s₂ h₂ => aea (ae1 h₂ (fun ok s₃ h₃ => ?_) fun _ _ h' => h'.elim)) fun _ _ h' => h'.elim)
   cases ok with
   | false => exact aer ⟨rfl, h₃⟩
   | true =>
     exact aea (aea (ae1 h₃ (fun x s₄ h₄ => aea (ae1 h₄ (fun _ s₅ h₅ => aer (aer ⟨rfl, h₅⟩)) fun _ _ h' => h'.elim)) fun _ _ h' => h'.elim))
end
noncomputable def gu (env : Env) : List (Str × NameKind) -> List (Str × Addr) -> List (Str × Addr)
 | [], cs => cs
 | (n, k) :: r, cs => gu env r (if k == .free then (n, (env.cells.lookup n).getD 0) :: cs else cs)
theorem yG {scope : Scope} {env : Env} (h : ∀ x ∈ scope.names, x.2 = .free -> ∃ c, env.cells.lookup x.1 = some c) : closureFor scope env = pure (gu env scope.names []) := by
 have go : ∀ (l : List (Str × NameKind)) (cs : List (Str × Addr)), (∀ x ∈ l, x.2 = .free -> ∃ c, env.cells.lookup x.1 = some c) →
     (forIn l cs fun x r => match x with | (name, kind) => if (kind == NameKind.free) = true then do let a ← cellOf env name; pure (ForInStep.yield ((name, a) :: r)) else pure (ForInStep.yield r) : Sem (List (Str × Addr))) = pure (gu env l cs) := by
   intro l
   induction l with
   | nil => intro cs _; rfl
   | cons x r ih =>
     intro cs hx
     obtain ⟨n, k⟩ := x
     rw [List.forIn_cons]
     by_cases hk : k = .free
     . subst hk
       obtain ⟨c, hc⟩ := hx (n, .free) adW rfl
       have e : cellOf env n = pure c := by unfold cellOf; rw [hc]
       simp only [afg, if_true, e, pure_bind]
       rw [ih _ fun y hy => hx y (adX _ hy)]
       simp only [gu, afg, if_true]
       rw [hc]; rfl
     . have hb : (k == NameKind.free) = false := by simpa using hk
       simp only [hb, Bool.false_eq_true, if_false, pure_bind]
       rw [ih _ fun y hy => hx y (adX _ hy)]
       simp only [gu, hb, Bool.false_eq_true, if_false]
 unfold closureFor
 have := go scope.names [] h
 simp only [bind_pure] at this ⊢
 exact this
theorem qF {env : Env} : ∀ {l : List (Str × NameKind)} {cs : List (Str × Addr)} {y : Str} {c : Addr}, (∀ x ∈ l, x.2 = .free -> ∃ c, env.cells.lookup x.1 = some c) -> (∀ y c, cs.lookup y = some c -> env.cells.lookup y = some c) →
   (gu env l cs).lookup y = some c -> env.cells.lookup y = some c
 | [], cs, y, c, _, h, e => h y c e
 | (n, k) :: r, cs, y, c, hx, h, e => by
   refine qF (l := r) (fun z hz => hx z (adX _ hz)) (fun z d hz => ?_) e
   by_cases hk : k = .free
   . subst hk
     obtain ⟨c', hc⟩ := hx (n, .free) adW rfl
     simp only [afg, if_true, hc, Option.getD_some, aez] at hz
     by_cases ZM : (z == n) = true
     . rw [ZM] at hz
       have : z = n := by simpa using ZM
       subst this
       cases hz
       exact hc
     . have : (z == n) = false := by simpa using ZM
       rw [this] at hz
       exact h z d hz
   . have hb : (k == NameKind.free) = false := by simpa using hk
     rw [hb] at hz
     exact h z d hz
theorem uR {env : Env} {y : Str} : ∀ {l : List (Str × NameKind)} {cs : List (Str × Addr)}, (∃ c, cs.lookup y = some c) -> ∃ c, (gu env l cs).lookup y = some c
 | [], cs, h => h
 | (n, k) :: r, cs, h => by
   refine uR (l := r) ?_
   by_cases hk : (k == NameKind.free) = true
   . rw [ad0 hk, aez]
     by_cases hy : (y == n) = true
     . rw [hy]; exact ⟨_, rfl⟩
     . have : (y == n) = false := by simpa using hy
       rw [this]; exact h
   . rw [adT hk]; exact h
theorem qG {env : Env} {y : Str} : ∀ {l : List (Str × NameKind)} {cs : List (Str × Addr)}, l.lookup y = some .free -> ∃ c, (gu env l cs).lookup y = some c
 | [], _, h => by simp at h
 | (n, k) :: r, cs, h => by
   rw [aez] at h
   by_cases hy : (y == n) = true
   . rw [hy] at h
     cases h
     refine uR (l := r) ?_
     rw [ad0 (by rfl), aez, hy]
     exact ⟨_, rfl⟩
   . have : (y == n) = false := by simpa using hy
     rw [this] at h
     exact qG (l := r) h
noncomputable def cV (X : Cx) (scope : Scope) (Nc : List Str) (C : Addr) (s : Shared) (H : Hp) (fp : List Addr) : Cx where
 prog := X.prog
 w := X.w
 K := X.K
 mg := X.mg
 base := X.base
 A := X.A
 N := Nc
 s₀ := s
 H₀ := H
 env := compEnvC scope (gu X.env scope.names []) C X.env
 outer := X.stack
 stack := X.stack
 ex := fp
 fn := fun _ => false
 calm := X.calm
 pn := []
 xe := fun _ _ => False
structure lG (X : Cx) (scope : Scope) (x : Str) (Nc : List Str) (ix : List Nat) : Prop where
 kind : scope.kind = .function
 Ae : ∀ y ∈ scope.names, y.2 ≠ .cell
 nd : Nc.Nodup
 names : ∀ y ∈ scope.names, y.2 = .local -> scope.names.lookup y.1 = some .local
 own : scope.names.lookup x = some .local
 frees : ∀ y ∈ scope.names, y.2 = .free -> scope.names.lookup y.1 = some .free /\ (X.env.kindOf y.1 = some .cell \/ X.env.kindOf y.1 = some .free)
 hd : Nc = x :: ix.filterMap (X.N[·]?)
 Xe : ∀ i ∈ ix, ∃ y, X.N[i]? = some y /\ scope.names.lookup y = some .free
theorem eN {env : Env} : ∀ {names : List (Str × NameKind)} {x : Str} {k : NameKind}, names.lookup x = some k -> 
   (names.map fun (n, k) => if (k == NameKind.free && env.scope.kind == .function && env.kindOf n == some .cell) then (n, NameKind.cell) else (n, k)).lookup x = some (if (k == NameKind.free && env.scope.kind == .function && env.kindOf x == some .cell) then .cell else k)
 | [], _, _, h => by simp at h
 | (n, k') :: r, x, k, h => by
   have ih := @eN env r x k
   show List.lookup x ((if (k' == NameKind.free && env.scope.kind == .function && env.kindOf n == some .cell) = true then (n, NameKind.cell) else (n, k')) :: _) = _
   cases hx : x == n with
   | true =>
     simp only [aez, hx] at h
     cases h
     have e : x = n := by simpa using hx
     subst e
     split <;> simp [aez]
   | false =>
     simp only [aez, hx] at h
     split
     . simp only [aez, hx]; exact ih h
     . simp only [aez, hx]; exact ih h
theorem i9 {env : Env} : ∀ {names : List (Str × NameKind)} {x : Str}, names.lookup x = none -> 
   (names.map fun (n, k) => if (k == NameKind.free && env.scope.kind == .function && env.kindOf n == some .cell) then (n, NameKind.cell) else (n, k)).lookup x = none
 | [], _, _ => rfl
 | (n, k') :: r, x, h => by
   have ih := @i9 env r x
   show List.lookup x ((if (k' == NameKind.free && env.scope.kind == .function && env.kindOf n == some .cell) = true then (n, NameKind.cell) else (n, k')) :: _) = _
   cases hx : x == n with
   | true => simp only [aez, hx] at h; cases h
   | false =>
     simp only [aez, hx] at h
     split
     . simp only [aez, hx]; exact ih h
     . simp only [aez, hx]; exact ih h
section
variable {X : Cx} {scope : Scope} {x : Str} {Nc : List Str} {ix : List Nat} {pins : List (Addr × Obj)} {σ : L2.St} {H : Hp} {s : Shared}
theorem Jd {fp : List Addr} {G8 : List (Addr × Obj)} {σ' : L2.St} {H' : Hp} {s' : Shared} {V4 : Heap} (I : Inv X pins σ H s) (rY : ∀ b ∈ fp, vp X pins H b)
   (J : Inv (cV X scope Nc s.heap.objs.size s H fp) G8 σ' H' s') (hs : Heap.SameBut s.heap.objs.size s'.heap V4) : Inv X pins σ H' { s' with heap := V4 } := by
 have un : Un (Kz X.stack) fp H H' s.heap s'.heap := J.base
 have un2 : Un (Kz X.stack) fp H H' s.heap V4 := by
   have ne : ∀ b o, s.heap.get? b = some o -> b ≠ s.heap.objs.size := fun b o e => aeE (aec e)
   refine ⟨fun b o e n hb hx => (hs.2 b (ne b o e)).trans (un.keep b o e n hb hx), fun b o e n hb hx => ?_, un.free, fun b o e hx => ?_, un.zQ, un.gW, un.zR⟩
   . obtain ⟨sl, q⟩ := un.slot b o e n hb hx
     exact ⟨sl, (hs.2 b (ne b o e)).trans q⟩
   . obtain ⟨o', q⟩ := un.there b o e hx
     exact ⟨o', (hs.2 b (ne b o e)).trans q⟩
 have nC : H' s.heap.objs.size = none := J.free
 have dR : vI X.prog X.w H' V4 := fun b u e => by
   refine (J.dR b u e).zP (fun c v hc q => (hs.2 c ?_).trans q) (fun _ q => q) fun _ _ q => q
   rintro rfl
   rcases hc with z | z
   . subst z; rw [nC] at e; cases e
   . rw [nC] at z; cases z
 obtain ⟨hh, g, d, t, V1⟩ := s'
 obtain rfl : V1 = s.os := J.os
 show L2.Inv X pins σ H' { s with heap := V4, gens := g, drawn := d, toks := t }
 exact I.call (h' := V4) (g' := g) (d' := d) (t' := t) (ch := fp) un2 dR J.bare fun b hb => ⟨(rY b hb).2.2.2.1, (rY b hb).2.1, (rY b hb).2.2.2.2.1, (rY b hb).2.2.2.2.2⟩
noncomputable def Ut (X : Cx) : List Expr -> TT
 | [] => fun _ H Q => Q true H
 | [c] => PD X c
 | _ => fun _ _ _ => False
theorem LC {ifs : List Expr} {Q : Bool -> Hp -> Prop} (I : Inv X pins σ H s) (h : Ut X ifs σ H Q) (hx : X.xe = fun _ _ => False) :
   wpAny (model X.prog X.w) X.A (forIn ifs true fun c r => if r = true then do let ok ← isTrue c X.env (eval c X.env); pure (ForInStep.yield ok) else pure (ForInStep.yield r)) (TP X pins σ Q) (fun _ _ => False) s := by
 match ifs, h with
 | [], h => exact wpAny_tests_nil ⟨H, I, h⟩
 | [c], h =>
   have := h pins s I
   rw [hx] at this
   exact wpAny_tests_one this
end
noncomputable def Yy (X : Cx) (CL : Str -> Addr) (b : Bx) (ifs : List Expr) (δ : List (Option T)) (p : Bool) : Prop :=
 match ifs with
 | [] => p = true
 | [c] => qD X CL b c δ p δ
 | _ => False
theorem Yy.sem {X : Cx} {CL : Str -> Addr} {b : Bx} {ifs : List Expr} {δ : List (Option T)} {p : Bool} (h : Yy X CL b ifs δ p) {H Z : Hp} {σ : L2.St} {Q : Bool -> Hp -> Prop} (S : bR X.K CL b H Z δ σ [] [])
   (k : ∀ H' Z', aG Z Z' -> aG H H' -> bR X.K CL b H' Z' δ σ [] [] -> Q p H') : Ut X ifs σ H Q := by
 match ifs, h with
 | [], h =>
   have e : p = true := h
   subst e
   exact k H Z (.refl _) (.refl _) S
 | [c], h => exact (show qD X CL b c δ p δ from h) H Z σ [] [] Q S k
theorem gk {ts : List T} : (T.lst ts).clean = T.dg ts := by rw [T.clean]
theorem wJ {g : D -> T} : ∀ {ds : List D}, (∀ d ∈ ds, (g d).clean = true) -> T.dg (ds.map g) = true
 | [], _ => by rw [ae2, T.dg]
 | d :: ds, h => by
   rw [aen, T.dg, h d adW, wJ fun e he => h e (adX _ he)]
   rfl
section
variable {X : Cx} {CL : Str -> Addr} {b : Bx} {H Z W1 : Hp} {δ δc : List (Option T)} {σ : L2.St} {ts : List T} {vs us : List V} {ds : List D} {scope : Scope} {Nc : List Str} {ix : List Nat} {elt : Expr} {ifs : List Expr} {p : D -> Bool} {g : D -> T} {J : It}
end
section
variable {K : PySem.W.Frag} {CL : Str -> Addr} {b : Bx} {H H' Z Z' : Hp} {δ δ' : List (Option T)} {σ σ' : L2.St} {ts tl : List T} {vs us : List V} {t : T} {v : V}
theorem aR.at : ∀ {tl : List T} {us : List V} {fp : List Addr} {j : Nat} {t : T}, aR K CL H Z tl us fp -> tl[j]? = some t -> ∃ v f1 f2 f3, us[j]? = some v /\ fp = f1 ++ (f2 ++ f3) /\ cM K CL H Z t v f2 ∧
   ∀ {H' : Hp} {t' : T} {v' : V} {g : List Addr}, (∀ a ∈ f1 ++ f3, H' a = H a) -> cM K CL H' Z t' v' g -> aR K CL H' Z (tl.set j t') (us.set j v') (f1 ++ (g ++ f3))
 | _, _, _, _, _, .nil, e => by simp at e
 | _, _, _, 0, _, .cons (fp := fp) (gp := gp) r q, e => by
   simp at e
   subst e
   exact ⟨_, [], fp, gp, rfl, rfl, r, fun {H' t' v' g} k r' => aR.cons (fp := g) (gp := gp) r' (aR.mono (fp := gp) (.refl _) (fun a ha => k a (by simpa using ha)) q)⟩
 | _, _, _, j + 1, t, .cons (fp := fp) (gp := gp) r q, e => by
   obtain ⟨v, f1, f2, f3, h1, h2, h3, h4⟩ := aR.at (j := j) (t := t) q (by simpa using e)
   refine ⟨v, fp ++ f1, f2, f3, by simpa using h1, by rw [h2, List.append_assoc], h3, fun k r' => ?_⟩
   rw [adO]
   exact .cons (r.mono (.refl _) fun a ha => k a (by simp [ha])) (h4 (fun a ha => k a (by rw [adO]; exact adP _ ha)) r')
theorem lH {α : Type} {l : List α} {i : Nat} {x : α} (h : l[i]? = some x) : l.set i x = l := by
 apply afs
 intro j
 rw [aft]
 split
 . rename_i e; subst e
   split
   . exact h.symm
   . rename_i h2; rw [afd (by omega)]
 . rfl
theorem bR.write {a : Addr} {xs : List V} {f1 f2 f3 g gp Uu : List Addr} {δ2 : List (Option T)} (S : bR K CL b H Z δ σ ts vs) (nd : ((f1 ++ (f2 ++ f3)) ++ gp).Nodup) (own : ∀ c ∈ (f1 ++ (f2 ++ f3)) ++ gp, Z c = none /\ b.B c = none) (ha : a ∈ f2)
   (hH : ∃ o, H a = some o) (e' : fB K CL (upd H a (.lst xs)) Z δ2 σ (f1 ++ (g ++ f3))) (r' : aR K CL (upd H a (.lst xs)) Z tl us Uu) (pm : ((f1 ++ (g ++ f3)) ++ Uu).Nodup) (sub : ∀ c ∈ (f1 ++ (g ++ f3)) ++ Uu, c ∈ (f1 ++ (f2 ++ f3)) ++ gp) :
   bR K CL b (upd H a (.lst xs)) Z δ2 σ tl us := by
 have oa := own a (by simp [ha])
 refine ⟨⟨_, _, e', r', pm, fun c hc => own c (sub c hc)⟩, fun c o q => ?_, S.zz, fun c o q => ?_, S.new, fun c o q i => ?_, S.tab⟩
 . rw [aA (bF q oa.2)]; exact S.bh c o q
 . rw [aA (bF q oa.1)]; exact S.zh c o q
 . by_cases hc : c = a
   . subst hc; rw [aX] at q; cases q; cases i
   . rw [aA hc] at q; exact S.tp c o q i
theorem bR.append {i : Nat} (S : bR K CL b H Z δ σ (t :: ts) (v :: vs)) (hi : δ[i]? = some (some (.lst tl))) :
   ∃ a us, σ[i]? = some (some (.ref a)) /\ H a = some (.lst us) /\ us.length = tl.length /\ bR K CL b (upd H a (.lst (us ++ [v]))) Z (δ.set i (some (.lst (tl ++ [t])))) σ ts vs := by
 obtain ⟨fp, gp, e, r, nd, k⟩ := S.rep
 obtain ⟨v0, f1, f2, f3, hv, rY, rt, put, _⟩ := e.get hi
 subst rY
 cases rt with
 | @lst a us _ g ha rs =>
   cases r with
   | @cons _ _ _ _ ft gr q1 q2 =>
     have ne : ∀ c ∈ (f1 ++ (g ++ f3)) ++ (ft ++ gr), c ≠ a := fun c hc e => by
       subst e
       have hp : ((f1 ++ ((c :: g) ++ f3)) ++ (ft ++ gr)).Perm (c :: ((f1 ++ (g ++ f3)) ++ (ft ++ gr))) := by
         rw [aej, ← aej]
         exact (aeY.append_right _)
       exact (aeS.mp (hp.nodup_iff.mp nd)).1 hc
     refine ⟨a, us, hv, ha, rs.length.symm, ?_⟩
     have r1 : cM K CL (upd H a (.lst (us ++ [v]))) Z (.lst (tl ++ [t])) (.ref a) (a :: (g ++ (ft ++ []))) :=
       .lst aX (aR.app (rs.mono (.refl _) fun c hc => aA (ne c (by simp [hc]))) (.cons (q1.mono (.refl _) fun c hc => aA (ne c (by simp [hc]))) .nil))
     have e2 := put (H' := upd H a (.lst (us ++ [v]))) (.refl _) (fun c hc => aA (ne c (by
       rcases adZ.mp hc with h | h
       . simp [h]
       . simp [h]))) r1
     rw [lH hv] at e2
     have hp : ((f1 ++ ((a :: (g ++ (ft ++ []))) ++ f3)) ++ gr).Perm ((f1 ++ ((a :: g) ++ f3)) ++ (ft ++ gr)) := by
       simp only [aef, aej, adO]
       refine aeq f1 (List.Perm.cons a (aeq g ?_))
       rw [← adO, ← adO]
       exact aew.append_right gr
     exact S.write nd k (adW) ⟨_, ha⟩ e2 (q2.mono (.refl _) fun c hc => aA (ne c (by simp [hc]))) (hp.nodup_iff.mpr nd) fun c hc => hp.mem_iff.mp hc
theorem bR.setAt {i j : Nat} (S : bR K CL b H Z δ σ (t :: ts) (v :: vs)) (hi : δ[i]? = some (some (.lst tl))) (hj : j < tl.length) :
   ∃ a us, σ[i]? = some (some (.ref a)) /\ H a = some (.lst us) /\ us.length = tl.length /\ bR K CL b (upd H a (.lst (us.set j v))) Z (δ.set i (some (.lst (tl.set j t)))) σ ts vs := by
 obtain ⟨fp, gp, e, r, nd, k⟩ := S.rep
 obtain ⟨v0, f1, f2, f3, hv, rY, rt, put, _⟩ := e.get hi
 subst rY
 cases rt with
 | @lst a us _ g ha rs =>
   cases r with
   | @cons _ _ _ _ ft gr q1 q2 =>
     have ne : ∀ c ∈ (f1 ++ (g ++ f3)) ++ (ft ++ gr), c ≠ a := fun c hc e => by
       subst e
       have hp : ((f1 ++ ((c :: g) ++ f3)) ++ (ft ++ gr)).Perm (c :: ((f1 ++ (g ++ f3)) ++ (ft ++ gr))) := by
         rw [aej, ← aej]
         exact (aeY.append_right _)
       exact (aeS.mp (hp.nodup_iff.mp nd)).1 hc
     refine ⟨a, us, hv, ha, rs.length.symm, ?_⟩
     obtain ⟨vj, g1, g2, g3, _, hg, _, set⟩ := rs.at (ad3 hj)
     subst hg
     have r1 : cM K CL (upd H a (.lst (us.set j v))) Z (.lst (tl.set j t)) (.ref a) (a :: (g1 ++ (ft ++ g3))) :=
       .lst aX (set (fun c hc => aA (ne c (by
         rcases adZ.mp hc with h | h
         . simp [h]
         . simp [h]))) (q1.mono (.refl _) fun c hc => aA (ne c (by simp [hc]))))
     have e2 := put (H' := upd H a (.lst (us.set j v))) (.refl _) (fun c hc => aA (ne c (by
       rcases adZ.mp hc with h | h
       . simp [h]
       . simp [h]))) r1
     rw [lH hv] at e2
     have hp : ((f1 ++ ((a :: (g1 ++ (ft ++ g3))) ++ f3)) ++ gr).Perm ((f1 ++ ((a :: (g1 ++ g3)) ++ f3)) ++ (ft ++ gr)) := by
       simp only [aej, adO]
       refine aeq f1 (List.Perm.cons a (aeq g1 ?_))
       have := (aew (l₁ := ft) (l₂ := g3 ++ f3)).append_right gr
       simp only [adO] at this
       exact this
     have sb : ((f1 ++ ((a :: (g1 ++ g3)) ++ f3)) ++ (ft ++ gr)).Sublist ((f1 ++ ((a :: (g1 ++ (g2 ++ g3))) ++ f3)) ++ (ft ++ gr)) := by
       refine aeu (aeu (aes _) (aeu (List.Sublist.cons₂ a ?_) (aes _))) (aes _)
       exact aeu (aes _) (aeP _ _)
     exact S.write nd k (adW) ⟨_, ha⟩ e2 (q2.mono (.refl _) fun c hc => aA (ne c (by simp [hc]))) (hp.nodup_iff.mpr (nd.sublist sb)) fun c hc => sb.subset (hp.mem_iff.mp hc)
end
section
variable {X : Cx} {CL : Str -> Addr} {b : Bx} {δ δ1 δ2 : List (Option T)} {e e2 : Expr} {t : T} {tl KH tt Xf : List T} {D : cO} {pos pp pa pb : Pos}
theorem Uv (i : Nat) {x : Str} (h0 : δ[i]? = some (some (.lst KH))) (h : bQ X CL b e δ t δ1) (h1 : δ1[i]? = some (some (.lst tl))) (hl : tl.length < sizeLine) (k : D.nx (δ1.set i (some (.lst (tl ++ [t])))))
   (hi : X.N[i]? = some x := by rfl) (hv : VX X.env.scope x := by first | exact Or.inl rfl | exact Or.inr (Or.inl rfl) | exact Or.inr (Or.inr rfl)) (hd : (x == ("__debug__" : Str)) = false := by decide) (nI : (x == ("__classdict__" : Str)) = false := by decide)
   (jE : attributeBase (.Name x pp) "append" X.env (eval (.Name x pp) X.env) = eval (.Name x pp) X.env := by rfl)
   (qC : ((backTo pb (starEach [e] X.env)).all (fun x => !x.1) && (backToKw pb (keywordEach [] X.env)).all (fun x => x.1.isSome) && decide ([e].length + ([] : List Keyword).length + (if ([] : List Keyword).isEmpty then 0 else 1) < 30)) = true := by rfl)
   (hline : (pa.endLine == pb.line) = true := by rfl) (hs : starEach [e] X.env = (false, eval e X.env) :: starEach [] X.env := by exact bD rfl) (B3 : swapsWith (.Call (.Attribute (.Name x pp) "append" pa) [e] [] pb) none pos.line X.env = pure false := by rfl) :
   R4 X CL b (.Expr (.Call (.Attribute (.Name x pp) "append" pa) [e] [] pb) pos) δ D := fun H Z σ ts vs E S M =>
 wF (zW (zx afr PySem.F.slot_list_append PySem.F.type_list_append tU (lV hi hv hd nI) (b7 dG eo hs) jE qC hline hs rfl) B3) (by
   obtain ⟨v0, e0, r0⟩ := S.look h0
   refine ⟨v0, e0, ?_, ?_⟩
   . rw [T.d7] at r0
     cases r0 with
     | lst hq _ => exact .inl ⟨rfl, _, hq⟩
   . refine h H Z σ ts vs _ S fun v H1 Z1 z1 k1 S1 => ?_
     obtain ⟨a, us, ea, ha, hu, S2⟩ := S1.append h1
     rw [e0] at ea
     cases ea
     exact ⟨a, us, v, rfl, rfl, ha, by rw [hu]; exact hl, M.nx _ σ _ Z1 z1 S2 k⟩)
end
noncomputable def Xg : Option (Option T) -> Option T
 | some (some t) => some (.sh t.d7)
 | _ => none
noncomputable def shO : Option (Option T) -> Option T
 | some (some (T.sh d)) => some (.sh d)
 | _ => none
noncomputable def B4 (δ : List (Option T)) (ix : List Nat) : List (Option T) := ix.map fun i => Xg δ[i]?
noncomputable def B5 (δ : List (Option T)) (ix : List Nat) : List (Option T) := ix.map fun i => shO δ[i]?
section
variable {K : PySem.W.Frag} {CL : Str -> Addr} {b : Bx} {H Z : Hp} {δ : List (Option T)} {σ : L2.St} {ts : List T} {vs : List V}
theorem B6 (S : bR K CL b H Z δ σ ts vs) : ∀ (ix : List Nat) (H' : Hp), fB K CL H' H (B4 δ ix) (ix.map fun i => (σ[i]?).getD none) []
 | [], _ => .nil
 | i :: r, H' => by
   have ih := B6 S r H'
   show fB K CL H' H (Xg δ[i]? :: B4 δ r) (((σ[i]?).getD none) :: r.map fun i => (σ[i]?).getD none) []
   cases e : δ[i]? with
   | none => exact .skip ih
   | some o =>
     cases o with
     | none => exact .skip ih
     | some t =>
       obtain ⟨v, hv, rv⟩ := S.look e
       rw [hv]
       exact .cons (fp := []) (gp := []) (.sh rv) ih
theorem B7 (S : bR K CL b H Z δ σ ts vs) : ∀ (ix : List Nat) (H' : Hp), fB K CL H' Z (B5 δ ix) (ix.map fun i => (σ[i]?).getD none) []
 | [], _ => .nil
 | i :: r, H' => by
   have ih := B7 S r H'
   show fB K CL H' Z (shO δ[i]? :: B5 δ r) (((σ[i]?).getD none) :: r.map fun i => (σ[i]?).getD none) []
   cases e : δ[i]? with
   | none => exact .skip ih
   | some o =>
     cases o with
     | none => exact .skip ih
     | some t =>
       cases t with
       | sh d =>
         obtain ⟨v, hv, rv⟩ := S.R1 e
         rw [hv]
         exact .cons (fp := []) (gp := []) (.sh rv) ih
       | tup _ => exact .skip ih
       | lst _ => exact .skip ih
       | ins _ _ => exact .skip ih
       | yF _ => exact .skip ih
       | pin _ _ => exact .skip ih
end
section
variable {X : Cx} {CL : Str -> Addr} {b : Bx} {δ δ1 : List (Option T)} {scope : Scope} {x : Str} {Nc : List Str} {ix : List Nat} {elt iter : Expr} {ifs : List Expr} {px pos : Pos} {ds : List D}
structure Comes (X : Cx) (CL : Str -> Addr) (b : Bx) (δ1 : List (Option T)) (σ : L2.St) (ts : List T) (vs : List V) (Z H : Hp) (ds : List D) (J : It) (H1 : Hp) : Prop where
 ex : ∃ Z1 us, aG Z Z1 /\ aG H H1 /\ bR X.K CL b H1 Z1 δ1 σ ts vs /\ aH X.K CL Z1 ds us /\ (∀ i H2, aG Z1 H2 -> i < ds.length -> J.go i H2) ∧
   (∀ i H2 x H', aG Z1 H2 -> i < ds.length -> J.RV i H2 x H' -> H' = H2 /\ us[i]? = some x) /\ (∀ H2, aG Z1 H2 -> J.stop ds.length H2)
noncomputable def PX (X : Cx) (CL : Str -> Addr) (b : Bx) (tg e : Expr) (δ : List (Option T)) (ds : List D) (δ1 : List (Option T)) : Prop :=
 ∃ wi, PI X tg e wi /\ ∀ (H Z : Hp) (σ : L2.St) (ts : List T) (vs : List V) (R : It -> Hp -> Prop), bR X.K CL b H Z δ σ ts vs -> (∀ J H1, Comes X CL b δ1 σ ts vs Z H ds J H1 -> R J H1) -> wi σ H R
theorem kM {tg : Expr} (h : bQ X CL b iter δ (.sh (.lst ds)) δ1) : PX X CL b tg iter δ ds δ1 := by
 refine ⟨_, O8 dG, fun H Z σ ts vs R S k => h H Z σ ts vs _ S fun v H1 Z1 z1 k1 S1 => ?_⟩
 obtain ⟨fp, gp, _, r, _, _⟩ := S1.rep
 cases r with
 | cons r _ =>
   cases r with
   | sh r =>
     cases r with
     | @lst a us _ hq rr =>
       refine ⟨a, rfl, ⟨us, S1.zh.seq hq⟩, k _ _ ⟨Z1, us, z1, k1, S1.pop, rr, fun i H2 s hi => ?_, fun i H2 y H' s hi hy => ⟨hy.1, hy.2 us (s.seq hq)⟩, fun H2 s => ⟨us, s.seq hq, by rw [rr.length]; exact adV _⟩⟩⟩
       have R9 : i < us.length := by rw [← rr.length]; exact hi
       exact ⟨us, us[i], s.seq hq, by simp [R9]⟩
theorem nS {tg : Expr} (h : bQ X CL b iter δ (.sh (.tup ds)) δ1) : PX X CL b tg iter δ ds δ1 := by
 refine ⟨_, Tt dG, fun H Z σ ts vs R S k => h H Z σ ts vs _ S fun v H1 Z1 z1 k1 S1 => ?_⟩
 obtain ⟨fp, gp, _, r, _, _⟩ := S1.rep
 cases r with
 | cons r _ =>
   cases r with
   | sh r =>
     cases r with
     | @tup a us _ hq rr =>
       refine ⟨a, rfl, ⟨us, aG.Lj S1.zh hq⟩, k _ _ ⟨Z1, us, z1, k1, S1.pop, rr, fun i H2 s hi => ?_, fun i H2 y H' s hi hy => ⟨hy.1, hy.2 us (aG.Lj s hq)⟩, fun H2 s => ⟨us, aG.Lj s hq, by rw [rr.length]; exact adV _⟩⟩⟩
       have R9 : i < us.length := by rw [← rr.length]; exact hi
       exact ⟨us, us[i], aG.Lj s hq, by simp [R9]⟩
noncomputable def dU (lo : Int) (n : Nat) : List D := (List.range n).map fun (i : Nat) => D.int (lo + i)
theorem LD {K : PySem.W.Frag} {Z : Hp} (lo : Int) (n : Nat) : aH K CL Z (dU lo n) ((List.range n).map fun (i : Nat) => V.int (lo + i)) := by
 unfold dU
 generalize List.range n = l
 induction l with
 | nil => exact .nil
 | cons i r ih => exact .cons (.int _) ih
theorem iK {tg : Expr} {pr pc : Pos} {n : Int} (hm : X.mg "range" = none) (h : cN X CL b iter δ (.int n) δ1) (hn : -(2 ^ 62) <= n /\ n < 2 ^ 62) (hg : Gl X "range") (O7 : starEach [iter] X.env = [(false, eval iter X.env)] := by rfl) (Uw : starEach [iter] X.env = (false, eval iter X.env) :: starEach [] X.env := by exact bD rfl) :
   PX X CL b tg (.Call (.Name "range" pr) [iter] [] pc) δ (dU 0 n.toNat) δ1 := by
 refine ⟨_, IG hg hm (b7 dG eo Uw) O7, fun H Z σ ts vs R S k => h H Z σ ts vs _ S fun v H1 Z1 z1 k1 S1 r => ⟨n, by rw [r.sc rfl], hn.1, hn.2, k _ _ ⟨Z1, _, z1, k1, S1, LD 0 n.toNat, fun i H2 s hi => ?_, fun i H2 y H' s hi hy => ?_, fun H2 s => ?_⟩⟩⟩
 . show i < n.toNat
   have : (dU 0 n.toNat).length = n.toNat := by simp [dU]
   omega
 . have R9 : i < n.toNat := by simpa [dU] using hi
   refine ⟨hy.1, ?_⟩
   rw [ad8, aeO R9, hy.2]
   rfl
 . show n.toNat <= (dU 0 n.toNat).length
   simp [dU]
theorem Ux {D : cO} {fU : List Stmt} (i : Nat) {pos' : Pos} (P : Nat -> List (Option T) -> Prop) (h : PX X CL b (.Name x pos') iter δ ds δ1) (h0 : P 0 δ1) (hl : ∀ j δ, P j δ -> i < δ.length)
   (hs : ∀ j d δ, ds[j]? = some d -> P j δ -> fD X CL b fU (δ.set i (some (.sh d))) { nx := P (j + 1), rt := D.rt, bk := D.nx, ct := P (j + 1) }) (hd : ∀ δ, P ds.length δ -> D.nx δ)
   (hp : PassesOwn (model X.prog X.w) X.A X.env X.xe) (hc : X.calm = true) (hN : X.N.Nodup) (hi : X.N[i]? = some x) (hx : Loc X.env.scope x) (hf : X.fn x = true \/ X.env.scope.names.lookup x = some .local) (hq : ∀ x, foldedSetIterable iter X.env x = pure x := by intro _; rfl) :
   R4 X CL b (.For (.Name x pos') iter fU [] pos) δ D := fun H Z σ ts vs E S M => by
 obtain ⟨wi, pi, hw⟩ := h
 refine wF (K3 hp hc pi (rP hN hi hx hf) R0 hq) (hw H Z σ ts vs _ S fun J H1 zz => ?_)
 obtain ⟨Z1, us, z1, k1, S1, rr, go, yl, st⟩ := zz
 refine ⟨fun j m σ H2 => m = ds.length - j /\ j <= ds.length /\ ∃ Z2 δ2, aG Z1 Z2 /\ bR X.K CL b H2 Z2 δ2 σ ts vs /\ P j δ2, ⟨_, rfl, ael _, Z1, δ1, .refl _, S1, h0⟩, ?_⟩
 rintro j m σ H2 ⟨rfl, hj, Z2, δ2, s, S2, p2⟩
 by_cases yx : j < ds.length
 . refine .inr ⟨go j H2 (s.trans S2.zh) yx, fun σ' H' => ∃ Z2 δ2, aG Z1 Z2 /\ bR X.K CL b H' Z2 δ2 σ' ts vs /\ P (j + 1) δ2, fun σ' H' h => ⟨ds.length - (j + 1), by omega, rfl, yx, h⟩, fun y H' hy => ?_⟩
   obtain ⟨e, hu⟩ := yl j H2 y H' (s.trans S2.zh) yx hy
   subst e
   obtain ⟨d, SQ, rd⟩ := rr.Jb hu
   have S3 := (S2.push (rd.mono s)).set (hl j δ2 p2)
   exact hs j d δ2 SQ p2 _ Z2 _ ts vs _ S3 ⟨fun δ' σ' H' Z' s' S' k => ⟨Z', δ', s.trans s', S', k⟩, fun t v H' Z' δ' σ' s' S' k => M.rt t v H' Z' δ' σ' (z1.trans (s.trans s')) S' k, fun δ' σ' H' Z' s' S' k => M.nx δ' σ' H' Z' (z1.trans (s.trans s')) S' k, fun δ' σ' H' Z' s' S' k => ⟨Z', δ', s.trans s', S', k⟩⟩
 . have e : j = ds.length := by omega
   subst e
   exact .inl ⟨st H2 (s.trans S2.zh), M.nx δ2 σ H2 Z2 (z1.trans s) S2 (hd δ2 p2)⟩
noncomputable def Block (X : Cx) (CL : Str -> Addr) (scope : Scope) (Nc : List Str) (ifs : List Expr) (elt : Expr) (δc : List (Option T)) (ds : List D) (p : D -> Bool) (g : D -> T) : Prop :=
 ∀ C s0 H0 f0 b' d, d ∈ ds -> Yy (cV X scope Nc C s0 H0 f0) CL b' ifs (some (.sh d) :: δc) (p d) /\ (p d = true -> bQ (cV X scope Nc C s0 H0 f0) CL b' elt (some (.sh d) :: δc) (g d) (some (.sh d) :: δc))
variable {p : D -> Bool} {g : D -> T} {δc : List (Option T)}
end
section
variable {X : Cx} {CL : Str -> Addr} {b : Bx} {δ δ1 : List (Option T)} {scope : Scope} {x : Str} {Nc : List Str} {ix : List Nat} {elt iter : Expr} {ifs : List Expr} {px pos : Pos} {ds : List D} {p : D -> Bool} {g : D -> T} {δc : List (Option T)}
noncomputable def isD : L3.D -> String -> Option Bool
 | .non, n => if n = "int" \/ n = "str" \/ n = "list" \/ n = "tuple" \/ n = "bool" \/ n = "dict" then some false else none
 | .bl _, n => if n = "int" \/ n = "bool" then some true else if n = "str" \/ n = "list" \/ n = "tuple" \/ n = "dict" then some false else none
 | .int _, n => if n = "int" then some true else if n = "str" \/ n = "list" \/ n = "tuple" \/ n = "bool" \/ n = "dict" then some false else none
 | .str _, n => if n = "str" then some true else if n = "int" \/ n = "list" \/ n = "tuple" \/ n = "bool" \/ n = "dict" then some false else none
 | .lst _, n => if n = "list" then some true else if n = "int" \/ n = "str" \/ n = "tuple" \/ n = "bool" \/ n = "dict" then some false else none
 | .tup _, n => if n = "tuple" then some true else if n = "int" \/ n = "str" \/ n = "list" \/ n = "bool" \/ n = "dict" then some false else none
 | _, _ => none
noncomputable def Uy (t n : String) : Option Bool := if (Value.type t == Value.type n) = true then some true else if PySem.W.kitMeta n = true then (fastBuiltinMro t).map (·.contains (.type n)) else none
theorem lI {K : PySem.W.Frag} {t n : String} : PySem.W.kitOne K (.type t) (.type n) = Uy t n := rfl
theorem LJ : (["NoneType", "bool", "int", "str", "list", "tuple"].all fun t => ["int", "str", "list", "tuple", "bool", "dict"].all fun n => Uy t n == some (t == n || (t == "bool" && n == "int"))) = true := by decide +kernel
theorem pM {t n : String} (ht : t ∈ ["NoneType", "bool", "int", "str", "list", "tuple"]) (hn : n ∈ ["int", "str", "list", "tuple", "bool", "dict"]) : Uy t n = some (t == n || (t == "bool" && n == "int")) := by
 have := LJ
 rw [afh] at this
 have h := this t ht
 rw [afh] at h
 simpa using h n hn
noncomputable def V5 : L3.D -> Option String
 | .non => some "NoneType"
 | .bl _ => some "bool"
 | .int _ => some "int"
 | .str _ => some "str"
 | .lst _ => some "list"
 | .tup _ => some "tuple"
 | _ => none
theorem Je : rR X (.builtin "isinstance") (fun xs H Q => ∃ y n d t, xs = [y, .ty n] /\ bO X.K CL H d y /\ V5 d = some t /\ n ∈ ["int", "str", "list", "tuple", "bool", "dict"] /\ Q (.bl (t == n || (t == "bool" && n == "int"))) H) := by
 intro pins s σ H xs us Q I r h
 obtain ⟨y, n, d, t, rfl, rd, ht, hn, q⟩ := h
 obtain ⟨u, u2, rfl, ru, ZN⟩ := r.two
 cases (show u2 = Value.type n from ZN)
 have fin : ∀ tk, EP X pins σ Q (.bool (t == n || (t == "bool" && n == "int"))) { s with toks := tk } := fun tk => ⟨.bl _, H, I.tok tk, rfl, q⟩
 cases rd with
 | non => cases ht; cases (show u = Value.none from ru); exact ae9 PySem.W.kitx_none I.BK True.intro (lI.trans (pM (by decide) hn)) (fun z => nomatch z) fin
 | bl c => cases ht; cases (show u = Value.bool c from ru); exact ae9 PySem.W.kitx_bool I.BK True.intro (lI.trans (pM (by decide) hn)) (fun z => nomatch z) fin
 | int c => cases ht; obtain ⟨tt, e⟩ := (show ∃ t, u = Value.int c t from ru); cases e; exact ae9 PySem.W.kitx_int I.BK True.intro (lI.trans (pM (by decide) hn)) (fun z => nomatch z) fin
 | str c => cases ht; obtain ⟨tt, e⟩ := (show ∃ t, u = Value.str c t from ru); cases e; exact ae9 PySem.W.kitx_str I.BK True.intro (lI.trans (pM (by decide) hn)) (fun z => nomatch z) fin
 | @lst a ws _ hq rr =>
   cases ht
   cases (show u = Value.ref a from ru)
   obtain ⟨its, _, pl, _⟩ := I.list hq
   obtain ⟨o, n', e, c, _⟩ := pl
   exact ae9 PySem.W.kitx_list I.BK ⟨o, e, c⟩ (lI.trans (pM (by decide) hn)) (fun z => nomatch z) fin
 | @tup a ws _ hq rr =>
   cases ht
   cases (show u = Value.ref a from ru)
   obtain ⟨its, _, pl, _⟩ := I.tuple hq
   obtain ⟨o, e, c, _⟩ := pl
   exact ae9 PySem.W.kitx_tuple I.BK ⟨o, e, c⟩ (lI.trans (pM (by decide) hn)) (fun z => nomatch z) fin
 | ins _ _ => cases ht
 | any _ => cases ht
 | val _ => cases ht
 | yF _ _ => cases ht
theorem vQ {e : Expr} {d : L3.D} {t n : String} {nm : Str} {pp pq : Pos} (hm : X.mg "isinstance" = none) (PY : X.mg nm = none) (hg : Gl X "isinstance") (PZ : Gl X nm) (hbn : bootBuiltins nm = some (.type n)) (hnm : nm ≠ "__name__") (hnd : (nm == ("__debug__" : Str)) = false) (h : cN X CL b e δ d δ1) (ht : V5 d = some t) (hn : n ∈ ["int", "str", "list", "tuple", "bool", "dict"])
   (hs : starEach [e, .Name nm pq] X.env = (false, eval e X.env) :: starEach [.Name nm pq] X.env := by exact bD rfl) :
   bQ X CL b (.Call (.Name "isinstance" pp) [e, .Name nm pq] [] pos) δ (.sh (.bl (t == n || (t == "bool" && n == "int")))) δ1 := fun H Z σ ts vs Q S k =>
 cH (nL (Je (CL := CL)) hg hm boot_isinstance (b7 dG (b7 (O2 PZ PY hbn (v := .ty n) rfl hnm hnd) eo) hs) (he := hs)) (h H Z σ ts vs _ S fun v H1 Z1 z1 k1 S1 r =>
   ⟨v, n, d, t, rfl, r, ht, hn, k _ H1 Z1 z1 k1 (S1.push (.bl _))⟩)
end
theorem az {n : Nat} (h : Nat.ble n 1000 = true) : n <= sizeLine := aeB (bz (adQ h))
structure Vn (X : Cx) (i : Nat) (x : Str) : Prop where
 hi : X.N[i]? = some x
 hv : VX X.env.scope x
 hd : (x == ("__debug__" : Str)) = false
 nI : (x == ("__classdict__" : Str)) = false
structure Ln (X : Cx) (i : Nat) (x : Str) : Prop extends Vn X i x where
 loc : Loc X.env.scope x
 hf : X.fn x = true \/ X.env.scope.names.lookup x = some .local
structure Gx (X : Cx) : Prop where
 nd : X.N.Nodup
 calm : X.calm = true
 xe : X.xe = fun _ _ => False
structure Fc (X : Cx) (CL : Str -> Addr) (x : Str) (k n : Nat) {A : Type} (arg : A -> List D) (Pre : A -> Prop) (res : A -> T) : Prop where
 ex : ∃ f fd ps, b8 X.prog X.w X.K X.mg X.base iY k f fd ps (lE X.K CL n arg Pre res) /\ X.mg x = some (.ref f) /\ PySem.W.keepIn X.K (.ref f) = true /\ Binds X.K fd ps []
 room : gq k X.A
section
variable {X : Cx} {CL : Str -> Addr} {b : Bx} {δ δ1 δ2 : List (Option T)} {e e1 e2 : Expr} {es : List Expr} {d : L3.D} {t : T} {i : Nat} {x : Str} {pos pp : Pos} {D : cO} {fU : List Stmt} {ds : List L3.D}
theorem v_ (n : Vn X i x) (h : δ[i]? = some (some (.sh d)) := by rfl) : bQ X CL b (.Name x pos) δ (.sh d) δ := Uk i n.hi n.hv n.hd n.nI h
theorem vF (n : Vn X i x) (h : δ[i]? = some (some t) := by rfl) : bQ X CL b (.Name x pos) δ (.sh t.d7) (δ.set i (some (.sh t.d7))) := PJ i n.hi n.hv n.hd n.nI h
theorem vM (n : Vn X i x) (h : δ[i]? = some (some t) := by rfl) : bQ X CL b (.Name x pos) δ t (δ.set i none) := PK i n.hi n.hv n.hd n.nI h
theorem vB (n : Vn X i x) (h : δ[i]? = some (some t) := by rfl) : cN X CL b (.Name x pos) δ t.d7 δ := Ul i n.hi n.hv n.hd n.nI h
theorem fC {k : Int} (h : cN X CL b e δ (.int k) δ1) : bQ X CL b (.UnaryOp .USub e pos) δ (.sh (.int (-k))) δ1 := fun H Z σ ts vs Q S kk =>
 cH (Ww TL dG) (h H Z σ ts vs _ S fun v H1 Z1 z1 k1 S1 r => ⟨k, r.sc rfl, kk _ H1 Z1 z1 k1 (S1.push (.int _))⟩)
theorem vL (n : Vn X i x) (h : δ[i]? = some (some (.lst (ds.map T.sh))) := by rfl) : cN X CL b (.Name x pos) δ (.lst ds) δ := by
 have := vB (CL := CL) (b := b) (pos := pos) n h
 rwa [T.d7, iy] at this
theorem c_ {k n : Nat} {A : Type} {arg : A -> List L3.D} {Pre : A -> Prop} {res : A -> T} (a : A) (F : Fc X CL x k n arg Pre res) (hg : Gl X x) (h : OI X CL b (e :: es) δ (arg a) δ1) (hp : Pre a) (hc : (res a).clean = true) (hn : (arg a).length = n := by rfl)
   (yC : (x == ("__debug__" : Str)) = false := by decide) (he : starEach (e :: es) X.env = (false, eval e X.env) :: starEach es X.env := by exact bD rfl) (hpl : (backTo pos (starEach es X.env)).any (·.1) = false := by rfl) :
   bQ X CL b (.Call (.Name x pp) (e :: es) [] pos) δ (res a) δ1 := by
 obtain ⟨f, fd, ps, F1, m, k, b⟩ := F.ex
 exact PV a F1 F.room m k b h hn hp hc hg yC he hpl
theorem cF {k n : Nat} {A : Type} {arg : A -> List L3.D} {Pre : A -> Prop} {res : A -> T} (a : A) (F : Fc X CL x k n arg Pre res) (hg : Gl X x) (h : Ek X CL b (e :: es) δ ((arg a).map T.sh) δ1) (hp : Pre a) (hn : (arg a).length = n := by rfl)
   (yC : (x == ("__debug__" : Str)) = false := by decide) (he : starEach (e :: es) X.env = (false, eval e X.env) :: starEach es X.env := by exact bD rfl) (hpl : (backTo pos (starEach es X.env)).any (·.1) = false := by rfl) :
   bQ X CL b (.Call (.Name x pp) (e :: es) [] pos) δ (res a) δ1 := by
 obtain ⟨f, fd, ps, F1, m, k, b⟩ := F.ex
 exact Ly a F1 F.room m k b h hn hp hg yC he hpl
theorem aJ {pos' : Pos} (g : Gx X) (n : Ln X i x) (h : bQ X CL b e δ t δ1) (k : fD X CL b fU (δ1.set i (some t)) D) (hl : i < δ1.length := by exact adQ rfl) (hs : swapsWith e (some (.Name x pos')) pos.line X.env = pure false := by rfl) :
   fD X CL b (.Assign [.Name x pos'] e pos :: fU) δ D := di (Lz i h k hl g.nd n.hi n.loc hs n.hf)
theorem bw (h : bQ X CL b e δ t δ1) (k : D.rt t δ1) : fD X CL b (.Return (some e) pos :: fU) δ D := di (Us h k)
theorem c7 {p : Bool} {a c : List Stmt} (h : qD X CL b e δ p δ1) (h1 : p = true -> fD X CL b a δ1 { D with nx := fun δ2 => fD X CL b fU δ2 D }) (h2 : p = false -> fD X CL b c δ1 { D with nx := fun δ2 => fD X CL b fU δ2 D }) : fD X CL b (.If e a c pos :: fU) δ D := di (Xc h h1 h2)
theorem fD.to {D' : cO} (h : fD X CL b fU δ D') (h1 : ∀ δ, D'.nx δ -> D.nx δ) (h2 : ∀ t δ, D'.rt t δ -> D.rt t δ) (h3 : ∀ δ, D'.bk δ -> D.bk δ) (h4 : ∀ δ, D'.ct δ -> D.ct δ) : fD X CL b fU δ D := fun H Z σ ts vs E S M => h H Z σ ts vs E S (M.to h1 h2 h3 h4)
theorem zA {p : Bool} {a c : List Stmt} (J : List (Option T) -> Prop) (h : qD X CL b e δ p δ1) (h1 : p = true -> fD X CL b a δ1 { D with nx := J }) (h2 : p = false -> fD X CL b c δ1 { D with nx := J }) (k : ∀ δ2, J δ2 -> fD X CL b fU δ2 D) : fD X CL b (.If e a c pos :: fU) δ D :=
 c7 h (fun hp => fD.to (h1 hp) k (fun _ _ q => q) (fun _ q => q) (fun _ q => q)) (fun hp => fD.to (h2 hp) k (fun _ _ q => q) (fun _ q => q) (fun _ q => q))
theorem jG {body : List Stmt} {pos' : Pos} (g : Gx X) (n : Ln X i x) (P : Nat -> List (Option T) -> Prop) (h : PX X CL b (.Name x pos') e δ ds δ1) (h0 : P 0 δ1) (hl : ∀ j δ, P j δ -> i < δ.length)
   (hs : ∀ j d δ, ds[j]? = some d -> P j δ -> fD X CL b body (δ.set i (some (.sh d))) { nx := P (j + 1), rt := D.rt, bk := fun δ2 => fD X CL b fU δ2 D, ct := P (j + 1) }) (hd : ∀ δ, P ds.length δ -> fD X CL b fU δ D) (hq : ∀ x, foldedSetIterable e X.env x = pure x := by intro _; rfl) :
   fD X CL b (.For (.Name x pos') e body [] pos :: fU) δ D :=
 di (Ux (D := { D with nx := fun δ1 => fD X CL b fU δ1 D }) i P h h0 hl hs hd (by rw [g.xe]; exact PassesOwn.never) g.calm g.nd n.hi n.loc n.hf hq)
theorem lJ {e : Expr} {o : Option Expr} {l : Nat} {env : Env} (h : ∃ c, swapsWith e o l env = pure c) : swapsWith e o l env = pure true \/ swapsWith e o l env = pure false := by
 obtain ⟨c, h⟩ := h
 cases c
 . exact .inr h
 . exact .inl h
theorem dN {scope : Scope} {Nc : List Str} {C : Addr} {s : Shared} {H : Hp} {fp : List Addr} (h1 : Nc[i]? = some x) (h2 : scope.names.lookup x = some .local) (hd : (x == ("__debug__" : Str)) = false := by decide) (nI : (x == ("__classdict__" : Str)) = false := by decide) : Vn (cV X scope Nc C s H fp) i x :=
 ⟨h1, .inl (lookup_relabel_local h2), hd, nI⟩
theorem jH {scope : Scope} {Nc : List Str} {C : Addr} {s : Shared} {H : Hp} {fp : List Addr} (h1 : Nc[i]? = some x) (h2 : scope.names.lookup x = some .free) (hd : (x == ("__debug__" : Str)) = false := by decide) (nI : (x == ("__classdict__" : Str)) = false := by decide) : Vn (cV X scope Nc C s H fp) i x := by
 refine ⟨h1, ?_, hd, nI⟩
 have q := eN (env := X.env) h2
 show (relabel scope X.env).names.lookup x = some .local \/ (relabel scope X.env).names.lookup x = some .cell \/ (relabel scope X.env).names.lookup x = some .free
 rw [show (relabel scope X.env).names.lookup x = _ from q]
 split
 . exact .inr (.inl rfl)
 . exact .inr (.inr rfl)
theorem jZ {scope : Scope} {Nc : List Str} {C : Addr} {s : Shared} {H : Hp} {fp : List Addr} (h2 : scope.names.lookup x = some .globalImplicit) : Gl (cV X scope Nc C s H fp) x := by
 have q := eN (env := X.env) h2
 show (relabel scope X.env).names.lookup x = some .globalImplicit
 rw [show (relabel scope X.env).names.lookup x = _ from q]
 rfl
theorem l0 {scope : Scope} {Nc : List Str} {C : Addr} {s : Shared} {H : Hp} {fp : List Addr} {k n : Nat} {A : Type} {arg : A -> List L3.D} {Pre : A -> Prop} {res : A -> T} (F : Fc X CL x k n arg Pre res) : Fc (cV X scope Nc C s H fp) CL x k n arg Pre res := ⟨F.ex, F.room⟩
end
section
variable {X : Cx} {CL : Str -> Addr} {b : Bx} {δ δ1 δ2 : List (Option T)} {e e1 e2 : Expr} {es : List Expr} {ds : List L3.D} {pos : Pos}
theorem Af {i j : Bool} (h1 : cN X CL b e1 δ (.bl i) δ1) (h2 : cN X CL b e2 δ1 (.bl j) δ2) : qD X CL b (.Compare e1 [.NotEq] [e2] pos) δ (!decide (i = j)) δ2 /\ bQ X CL b (.Compare e1 [.NotEq] [e2] pos) δ (.sh (.bl (!decide (i = j)))) δ2 :=
 wG K5 h1 h2 rfl rfl (fun _ _ q => ⟨rfl, by rw [show decide (V.bl i = V.bl j) = decide (i = j) by simp]; exact q⟩) (nK _)
theorem HB (h : Ek X CL b es δ (ds.map T.sh) δ1) (hl : ds.length <= sizeLine := by exact az rfl) : bQ X CL b (.List es pos) δ (.sh (.lst ds)) δ1 := by
 have := z9 (dM (pos := pos) h (by simpa using hl))
 rwa [T.d7, iy] at this
end
section
variable {X : Cx} {CL : Str -> Addr} {b : Bx} {δ δ1 : List (Option T)} {e : Expr} {d : L3.D} {t : String} {pos pp pq : Pos}
theorem Jf : bootBuiltins "int" = some (.type "int") := by decide +kernel
theorem EK : bootBuiltins "bool" = some (.type "bool") := by decide +kernel
theorem isB (hm : X.mg "isinstance" = none) (PY : X.mg "bool" = none) (hg : Gl X "isinstance") (PZ : Gl X "bool") (h : cN X CL b e δ d δ1) (ht : V5 d = some t := by rfl) (hs : starEach [e, .Name "bool" pq] X.env = (false, eval e X.env) :: starEach [.Name "bool" pq] X.env := by exact bD rfl) :
   bQ X CL b (.Call (.Name "isinstance" pp) [e, .Name "bool" pq] [] pos) δ (.sh (.bl (t == "bool" || (t == "bool" && "bool" == "int")))) δ1 := vQ hm PY hg PZ EK (by decide) (by decide) h ht (by decide) hs
theorem Jg : bootBuiltins "str" = some (.type "str") := by decide +kernel
theorem isS (hm : X.mg "isinstance" = none) (PY : X.mg "str" = none) (hg : Gl X "isinstance") (PZ : Gl X "str") (h : cN X CL b e δ d δ1) (ht : V5 d = some t := by rfl) (hs : starEach [e, .Name "str" pq] X.env = (false, eval e X.env) :: starEach [.Name "str" pq] X.env := by exact bD rfl) :
   bQ X CL b (.Call (.Name "isinstance" pp) [e, .Name "str" pq] [] pos) δ (.sh (.bl (t == "str" || (t == "bool" && "str" == "int")))) δ1 := vQ hm PY hg PZ Jg (by decide) (by decide) h ht (by decide) hs
theorem bG : bootBuiltins "list" = some (.type "list") := by decide +kernel
theorem Sb (hm : X.mg "isinstance" = none) (PY : X.mg "list" = none) (hg : Gl X "isinstance") (PZ : Gl X "list") (h : cN X CL b e δ d δ1) (ht : V5 d = some t := by rfl) (hs : starEach [e, .Name "list" pq] X.env = (false, eval e X.env) :: starEach [.Name "list" pq] X.env := by exact bD rfl) :
   bQ X CL b (.Call (.Name "isinstance" pp) [e, .Name "list" pq] [] pos) δ (.sh (.bl (t == "list" || (t == "bool" && "list" == "int")))) δ1 := vQ hm PY hg PZ bG (by decide) (by decide) h ht (by decide) hs
theorem B8 : bootBuiltins "tuple" = some (.type "tuple") := by decide +kernel
theorem Sd (hm : X.mg "isinstance" = none) (PY : X.mg "tuple" = none) (hg : Gl X "isinstance") (PZ : Gl X "tuple") (h : cN X CL b e δ d δ1) (ht : V5 d = some t := by rfl) (hs : starEach [e, .Name "tuple" pq] X.env = (false, eval e X.env) :: starEach [.Name "tuple" pq] X.env := by exact bD rfl) :
   bQ X CL b (.Call (.Name "isinstance" pp) [e, .Name "tuple" pq] [] pos) δ (.sh (.bl (t == "tuple" || (t == "bool" && "tuple" == "int")))) δ1 := vQ hm PY hg PZ B8 (by decide) (by decide) h ht (by decide) hs
end
noncomputable def nq (sc : Scope) (l : List (Str × NameKind)) : Bool := l.all fun p => sc.names.lookup p.1 == some p.2
theorem iz {sc : Scope} {l : List (Str × NameKind)} (h : nq sc l = true) (i : Nat) {x : Str} {k : NameKind} (hi : l[i]? = some (x, k)) : sc.names.lookup x = some k := by
 unfold nq at h
 rw [afh] at h
 exact afe.mp (h _ (ad7 hi))
inductive LK (X : Cx) : List Nat -> List Str -> Prop where
 | nil : LK X [] []
 | cons {i : Nat} {y : Str} {ix : List Nat} {ys : List Str} (n : Vn X i y) (k : X.env.kindOf y = some .cell \/ X.env.kindOf y = some .free) (r : LK X ix ys) : LK X (i :: ix) (y :: ys)
noncomputable def LN (scope : Scope) (x : Str) (nT : List Str) : Bool :=
 scope.kind == .function && scope.names.lookup x == some .local && nT.all (fun y => scope.names.lookup y == some .free) && decide ((x :: nT).Nodup) &&
   scope.names.all fun y => y.2 != .cell && (y.2 != .local || scope.names.lookup y.1 == some .local) && (y.2 != .free || (nT.contains y.1 && scope.names.lookup y.1 == some .free))
theorem cP {X : Cx} {scope : Scope} {x : Str} {ix : List Nat} {nT : List Str} (c : LK X ix nT) (ok : LN scope x nT = true) : lG X scope x (x :: nT) ix := by
 unfold LN at ok
 simp only [aey, afh, decide_eq_true_eq, afe] at ok
 obtain ⟨⟨⟨⟨h1, h2⟩, h3⟩, h4⟩, h5⟩ := ok
 have kc : ∀ y ∈ nT, X.env.kindOf y = some .cell \/ X.env.kindOf y = some .free := by
   clear h3 h4 h5
   induction c with
   | nil => intro y hy; cases hy
   | cons n k r ih =>
     intro y hy
     rcases adN.mp hy with e | hy
     . subst e; exact k
     . exact ih y hy
 refine ⟨h1, fun y hy e => ?_, h4, fun y hy e => ?_, h2, fun y hy e => ?_, ?_, fun i hi => ?_⟩
 . have := (h5 y hy).1.1
   rw [e] at this
   simp at this
 . have := (h5 y hy).1.2
   rw [e] at this
   simpa using this
 . have := (h5 y hy).2
   rw [e] at this
   simp at this
   exact ⟨this.2, kc _ this.1⟩
 . congr 1
   clear h3 h4 h5 kc
   induction c with
   | nil => rfl
   | cons n k r ih => rw [aeT, n.hi, ← ih]
 . clear h4 h5 kc
   induction c with
   | nil => cases hi
   | @cons i' y ix ys n k r ih =>
     rcases adN.mp hi with e | hi
     . subst e; exact ⟨y, n.hi, h3 y adW⟩
     . exact ih (fun z hz => h3 z (adX _ hz)) hi
noncomputable def D.yy : D -> Int
 | .int i => i
 | _ => 0
noncomputable def D.toS : D -> Str
 | .str x => x
 | _ => Str.empty
theorem f9 {bs : List Int} {k : Int} (h0 : 0 <= k) (h1 : k < bs.length) : vq (bs.map D.int) k = some (.int (bs.getD k.toNat 0)) := by
 obtain ⟨j, rfl⟩ : ∃ j : Nat, k = j := ⟨k.toNat, by omega⟩
 refine lX ?_
 have hl : j < bs.length := by omega
 rw [ad8, ad3 hl]
 simp [List.getD, hl]
theorem iL : ∀ (bs : List Int), D.bK (bs.map D.int) = true
 | [] => rfl
 | i :: r => by rw [aen, D.bK, iL r]; rfl
theorem lK {lo : Int} {n j : Nat} {d : D} (h : (dU lo n)[j]? = some d) : d = .int (lo + j) /\ j < n := by
 have hl : j < n := by
   have := (aev.mp h).1
   simpa [dU] using this
 refine ⟨?_, hl⟩
 unfold dU at h
 rw [ad8, aeO hl] at h
 exact (aeb h).symm
theorem dH {α : Type} (l : List α) : l.filter (fun _ => true) = l := by simp
theorem B9 {K : PySem.W.Frag} {CL : Str -> Addr} {Z : Hp} : ∀ (ns : List Int), aH K CL Z (ns.map D.int) (ns.map V.int)
 | [] => .nil
 | n :: r => .cons (.int n) (B9 r)
theorem Uz {K : PySem.W.Frag} {CL : Str -> Addr} {H : Hp} {a : Addr} {arg : List Int -> List D} {pre : List Int -> Prop} {res : List Int -> T} {ns : List Int} (ha : arg ns = [.lst (ns.map D.int)]) (hp : pre ns) (hr : res ns = .sh (.bl true)) (hS : jY K H a (ns.map V.int)) (h0 : ∀ x, Hw x = true -> CL x = 0 := by intros; rfl) :
   lE K CL 1 arg pre res [.ref a] H (fun v _ => v = .bl true) fun _ _ _ => False :=
 ⟨H, ns, .refl _, fun _ _ q _ => q, by rw [ha]; exact .cons (.lst hS (B9 ns)) .nil, by rw [ha]; rfl, hp, fun x hx e => absurd (h0 x hx) e, fun v H' W' fp _ _ _ _ _ r _ _ => by
   rw [hr] at r
   cases r with
   | sh r => exact r.sc rfl⟩
mutual
noncomputable def D.toPy : D -> PyData
 | .non => .none
 | .bl b => .bool b
 | .int i => .int i
 | .str x => .str x
 | .tup ds => .tuple (D.fu ds)
 | .lst ds => .list (D.fu ds)
 | .ins _ _ => .none
 | .yF _ => .none
 | .any => .none
 | .val _ => .none
noncomputable def D.fu : List D -> List PyData
 | [] => []
 | d :: ds => d.toPy :: D.fu ds
end
inductive pN : Nat -> D -> Prop where
 | non (n : Nat) : pN n .non
 | bl (n : Nat) (b : Bool) : pN n (.bl b)
 | int (n : Nat) (i : Int) : pN n (.int i)
 | str (n : Nat) (x : Str) (h : PyData.strOk x = true) : pN n (.str x)
 | tup {n : Nat} {ds : List D} (h : ∀ d ∈ ds, pN n d) : pN (n + 1) (.tup ds)
 | lst {n : Nat} {ds : List D} (h : ∀ d ∈ ds, pN n d) : pN (n + 1) (.lst ds)
noncomputable def KJ (a b : D) : Bool := PyData.eqv a.toPy b.toPy
theorem pN.UA {n : Nat} : ∀ {ds : List D}, (∀ d ∈ ds, d.toPy.canLay0 = true /\ d.toPy.depth <= n) -> PyData.canLayAll0 (D.fu ds) = true /\ PyData.depthAll (D.fu ds) <= n
 | [], _ => ⟨by rw [D.fu, PyData.canLayAll0], by rw [D.fu, PyData.depthAll]; exact ael _⟩
 | d :: ds, h => by
   have h1 := h d adW
   have h2 := pN.UA (ds := ds) fun e he => h e (adX _ he)
   rw [D.fu, PyData.canLayAll0, PyData.depthAll, h1.1, h2.1]
   exact ⟨rfl, Nat.max_le.mpr ⟨h1.2, h2.2⟩⟩
theorem pN.lay {n : Nat} {d : D} (h : pN n d) : d.toPy.canLay0 = true /\ d.toPy.depth <= n := by
 induction h with
 | non n => exact ⟨by rw [D.toPy, PyData.canLay0], by rw [D.toPy, PyData.depth]; exact ael _⟩
 | bl n b => exact ⟨by rw [D.toPy, PyData.canLay0], by rw [D.toPy, PyData.depth]; exact ael _⟩
 | int n i => exact ⟨by rw [D.toPy, PyData.canLay0], by rw [D.toPy, PyData.depth]; exact ael _⟩
 | str n x hx => exact ⟨by rw [D.toPy, PyData.canLay0]; exact hx, by rw [D.toPy, PyData.depth]; exact ael _⟩
 | @tup n ds _ ih =>
   have := pN.UA ih
   rw [D.toPy, PyData.canLay0, PyData.depth]
   exact ⟨this.1, by omega⟩
 | @lst n ds _ ih =>
   have := pN.UA ih
   rw [D.toPy, PyData.canLay0, PyData.depth]
   exact ⟨this.1, by omega⟩
section
variable {X : Cx} {CL : Str -> Addr} {pins : List (Addr × Obj)} {σ : L2.St} {H : Hp} {s : Shared}
theorem LQ (I : L2.Inv X pins σ H s) {n : Nat} {d : D} {v : V} {u : Value} (hd : pN n d) (q : bO X.K CL H d v) (r : RelV v u) : ∃ as, Reads s.heap u d.toPy as := by
 refine bO.rec (motive_1 := fun d v _ => ∀ (n : Nat) (u : Value), pN n d -> RelV v u -> ∃ as, Reads s.heap u d.toPy as)
   (motive_2 := fun ds vs _ => ∀ (n : Nat) (us : List Value), (∀ d ∈ ds, pN n d) -> Vals vs us -> ∃ as, ReadsAll s.heap us (D.fu ds) as) (motive_3 := fun _ _ _ => True) (motive_4 := fun _ _ _ => True)
   (fun _ _ _ r => ?non) (fun b _ _ _ r => ?bl) (fun i _ _ _ r => ?int) (fun x _ _ _ r => ?str) (fun _ _ _ hd _ => by cases hd) (fun _ _ _ hd _ => by cases hd) (fun hq _ ih n u hd r => ?tup) (fun hq _ ih n u hd r => ?lst) (fun _ _ _ _ _ hd _ => by cases hd) (fun _ _ _ _ _ hd _ => by cases hd)
   (fun _ _ _ r => ?nil) (fun _ _ ih ihs n us h r => ?cons) trivial (fun _ _ _ _ => trivial) trivial (fun _ _ _ _ => trivial) q n u hd r
 case non => cases r; rw [D.toPy]; exact ⟨[], .none⟩
 case bl => cases r; rw [D.toPy]; exact ⟨[], .bool b⟩
 case int => obtain ⟨t, rfl⟩ := r; rw [D.toPy]; exact ⟨[], .int i t⟩
 case str => obtain ⟨t, rfl⟩ := r; rw [D.toPy]; exact ⟨[], .str x t⟩
 case tup =>
   cases hd with
   | tup hd =>
     cases r
     obtain ⟨its, rv, ⟨o, e, c, k, dt⟩, _⟩ := I.tuple hq
     obtain ⟨as, ra⟩ := ih _ _ hd rv
     rw [D.toPy]
     exact ⟨as, .tuple e c dt (by simpa using ra)⟩
 case lst =>
   cases hd with
   | lst hd =>
     cases r
     obtain ⟨its, rv, ⟨o, k, e, c, _, dt⟩, _⟩ := I.list hq
     obtain ⟨as, ra⟩ := ih _ _ hd rv
     rw [D.toPy]
     exact ⟨_, .list e c dt (by simpa using ra)⟩
 case nil => cases r; rw [D.fu]; exact ⟨[], .nil⟩
 case cons =>
   cases r with
   | cons r rs =>
     obtain ⟨as, ra⟩ := ih n _ (h _ adW) r
     obtain ⟨bs, rb⟩ := ihs n _ (fun e he => h e (adX _ he)) rs
     rw [D.fu]
     exact ⟨as ++ bs, .cons ra rb⟩
end
section
variable {X : Cx} {CL : Str -> Addr} {b : Bx} {δ δ1 δ2 δ3 : List (Option T)} {e e1 e2 e3 : Expr} {d1 d2 : D} {ds : List D} {pos p2 pp : Pos} {n m : Nat} {i : Nat} {x : Str} {t : T} {fU : List Stmt} {DD : cO}
theorem UB (hu : X.A.units + 64 < cLine) : tN X (compareOp .Eq) (fun x y H Q => ∃ a c, bO X.K CL H a x /\ bO X.K CL H c y /\ pN 60 a /\ pN 60 c /\ Q (.bl (KJ a c)) H) := by
 intro pins s σ H x y v u Q I rx ry h
 obtain ⟨a, c, ra, rc, da, dc, q⟩ := h
 obtain ⟨as, r1⟩ := LQ I da ra rx
 obtain ⟨bs, r2⟩ := LQ I dc rc ry
 exact SeqAt.rcAt_reads r1 r2 da.lay.1 dc.lay.1 (by have := da.lay.2; omega) X.prog X.w X.xe _ ⟨.bl _, H, I, rfl, q⟩
theorem ZO {op : CmpOp} {f : Bool -> Bool} (ho : tN X (compareOp op) (fun x y H Q => ∃ a c, bO X.K CL H a x /\ bO X.K CL H c y /\ pN 60 a /\ pN 60 c /\ Q (.bl (f (KJ a c))) H)) (h1 : cN X CL b e1 δ d1 δ1) (h2 : cN X CL b e2 δ1 d2 δ2) (k1 : pN 60 d1) (k2 : pN 60 d2)
   (hm : behindInMarks op e2 = false) : qD X CL b (.Compare e1 [op] [e2] pos) δ (f (KJ d1 d2)) δ2 /\ bQ X CL b (.Compare e1 [op] [e2] pos) δ (.sh (.bl (f (KJ d1 d2)))) δ2 := by
 constructor
 . intro H Z σ ts vs Q S k
   refine EG (vN ho dG dG hm) (h1 H Z σ ts vs _ S fun v1 H1 Z1 z1 ZP S1 r1 => h2 H1 Z1 σ ts vs _ S1 fun v2 H2 Z2 z2 Xh S2 r2 => ?_)
   exact ⟨d1, d2, r1.mono Xh, r2, k1, k2, _, rfl, k H2 Z2 (z1.trans z2) (ZP.trans Xh) S2⟩
 . intro H Z σ ts vs Q S k
   refine cH (vK ho dG dG hm) (h1 H Z σ ts vs _ S fun v1 H1 Z1 z1 ZP S1 r1 => h2 H1 Z1 σ ts vs _ S1 fun v2 H2 Z2 z2 Xh S2 r2 => ?_)
   exact ⟨d1, d2, r1.mono Xh, r2, k1, k2, k _ H2 Z2 (z1.trans z2) (ZP.trans Xh) (S2.push (.bl _))⟩
theorem LR (hu : X.A.units + 64 < cLine) (h1 : cN X CL b e1 δ d1 δ1) (h2 : cN X CL b e2 δ1 d2 δ2) (k1 : pN 60 d1) (k2 : pN 60 d2) : qD X CL b (.Compare e1 [.Eq] [e2] pos) δ (KJ d1 d2) δ2 /\ bQ X CL b (.Compare e1 [.Eq] [e2] pos) δ (.sh (.bl (KJ d1 d2))) δ2 :=
 ZO (f := fun b => b) (UB hu) h1 h2 k1 k2 (nK _)
noncomputable def cutD {α : Type} (xs : List α) (lo hi : Option Int) : List α := (xs.drop (HT.fq xs.length 0 lo)).take (HT.fq xs.length xs.length hi - HT.fq xs.length 0 lo)
theorem aH.drop {K : PySem.W.Frag} {Z : Hp} : ∀ {ds : List L3.D} {vs : List V} (n : Nat), aH K CL Z ds vs -> aH K CL Z (ds.drop n) (vs.drop n)
 | _, _, 0, r => r
 | _, _, _ + 1, .nil => .nil
 | _, _, n + 1, .cons _ t => aH.drop n t
theorem aH.take {K : PySem.W.Frag} {Z : Hp} : ∀ {ds : List L3.D} {vs : List V} (n : Nat), aH K CL Z ds vs -> aH K CL Z (ds.take n) (vs.take n)
 | _, _, 0, _ => .nil
 | _, _, _ + 1, .nil => .nil
 | _, _, n + 1, .cons r t => .cons r (aH.take n t)
theorem aH.cut {K : PySem.W.Frag} {Z : Hp} {ds : List L3.D} {vs : List V} (r : aH K CL Z ds vs) (lo hi : Option Int) : aH K CL Z (cutD ds lo hi) (BW vs lo hi) := by
 unfold cutD BW
 rw [r.length]
 exact (r.drop _).take _
theorem Ca : ∀ {ds : List L3.D}, D.bK ds = true -> ∀ d ∈ ds, d.lD = true
 | [], _, _, h => by cases h
 | d :: ds, k, e, h => by
   rw [D.bK, aey] at k
   rcases adN.mp h with h | h
   . subst h; exact k.1
   . exact Ca k.2 e h
theorem r9 : ∀ {ds : List L3.D}, (∀ d ∈ ds, d.lD = true) -> D.bK ds = true
 | [], _ => rfl
 | d :: ds, h => by rw [D.bK, h d adW, r9 fun e he => h e (adX _ he)]; rfl
theorem P0 {α : Type} {xs : List α} {lo hi : Option Int} {x : α} (h : x ∈ cutD xs lo hi) : x ∈ xs := List.mem_of_mem_drop (afi h)
noncomputable def V6 (X : Cx) (CL : Str -> Addr) (b : Bx) (e : Option Expr) (δ : List (Option T)) (k : Option Int) (δ' : List (Option T)) : Prop :=
 ∃ t, PO X e t /\ ∀ (H Z : Hp) (σ : L2.St) (ts : List T) (vs : List V) (Q : Option Int -> Hp -> Prop), bR X.K CL b H Z δ σ ts vs -> (∀ H' Z', aG Z Z' -> aG H H' -> bR X.K CL b H' Z' δ' σ ts vs -> Q k H') -> t σ H Q
theorem pO : V6 X CL b none δ none δ := ⟨_, Pq, fun H Z σ ts vs Q S k => k H Z (.refl _) (.refl _) S⟩
theorem pP {k : Int} (h : cN X CL b e δ (.int k) δ1) : V6 X CL b (some e) δ (some k) δ1 := ⟨_, Pr dG, fun H Z σ ts vs Q S kk => h H Z σ ts vs _ S fun v H1 Z1 z1 k1 S1 r => ⟨k, r.sc rfl, kk H1 Z1 z1 k1 S1⟩⟩
theorem Cb {lo hi : Option Expr} {l h : Option Int} (h1 : cN X CL b e δ (.lst ds) δ1) (ZQ : D.bK ds = true) (h2 : V6 X CL b lo δ1 l δ2) (h3 : V6 X CL b hi δ2 h δ3) : bQ X CL b (.Subscript e (.Slice lo hi none p2) pos) δ (.lst ((cutD ds l h).map T.sh)) δ3 := fun H Z σ ts vs Q S k => by
 obtain ⟨t2, ZR, w2⟩ := h2
 obtain ⟨t3, ZS, w3⟩ := h3
 refine cH (BV Pw dG ZR ZS) (h1 H Z σ ts vs _ S fun v H1 Z1 z1 k1 S1 r => w2 H1 Z1 σ ts vs _ S1 fun H2 Z2 z2 k2 S2 => w3 H2 Z2 σ ts vs _ S2 fun H3 Z3 z3 k3 S3 => ?_)
 have r' := r.mono (k2.trans k3)
 cases r' with
 | lst hq rr =>
   refine ⟨_, _, rfl, hq, fun p hp => ?_⟩
   have rc := aH.lD S3.tp (r9 fun d hd => Ca ZQ d (P0 hd)) (rr.cut l h)
   obtain ⟨c, S4⟩ := (bR.uQ rc S3).tV (g0 := []) (by simp [rc.length]) hp
   exact k _ _ _ (z1.trans (z2.trans z3)) (k1.trans (k2.trans (k3.trans c))) S4
theorem fE {tl KH : List T} {pa pb : Pos} (n : Vn X i x) (h0 : δ[i]? = some (some (.lst KH))) (h : bQ X CL b e δ t δ1) (h1 : δ1[i]? = some (some (.lst tl))) (hl : tl.length <= 1000000) (k : fD X CL b fU (δ1.set i (some (.lst (tl ++ [t])))) DD)
   (jE : attributeBase (.Name x pp) "append" X.env (eval (.Name x pp) X.env) = eval (.Name x pp) X.env := by rfl)
   (qC : ((backTo pb (starEach [e] X.env)).all (fun x => !x.1) && (backToKw pb (keywordEach [] X.env)).all (fun x => x.1.isSome) && decide ([e].length + ([] : List Keyword).length + (if ([] : List Keyword).isEmpty then 0 else 1) < 30)) = true := by rfl)
   (hline : (pa.endLine == pb.line) = true := by rfl) (hs : starEach [e] X.env = (false, eval e X.env) :: starEach [] X.env := by exact bD rfl) (B3 : swapsWith (.Call (.Attribute (.Name x pp) "append" pa) [e] [] pb) none pos.line X.env = pure false := by rfl) :
   fD X CL b (.Expr (.Call (.Attribute (.Name x pp) "append" pa) [e] [] pb) pos :: fU) δ DD :=
 di (Uv i h0 h h1 (afn hl (by rw [aek]; decide)) k n.hi n.hv n.hd n.nI jE qC hline hs B3)
theorem HC {tl : List T} {k : Int} {j : Nat} {ps : Pos} (n : Vn X i x) (h : bQ X CL b e δ t δ1) (h2 : cN X CL b e2 δ1 (.int k) δ1) (h1 : δ1[i]? = some (some (.lst tl))) (hk : IW tl.length k = some j) (kk : fD X CL b fU (δ1.set i (some (.lst (tl.set j t)))) DD)
   (ha : ∀ v, assign (.Subscript (.Name x pp) e2 ps) X.env v = (do
     let ov ← holding [v] (eval (.Name x pp) X.env)
     let iv ← holding [v, ov] (eval e2 X.env)
     standAt ps
     holding [v, ov, iv] (setItem ov iv v)
     release [v, ov, iv] []) := by intro _; rfl)
   (hs : swapsWithSole [.Subscript (.Name x pp) e2 ps] e pos.line X.env = pure false := by rfl) (hw : swappedStores [.Subscript (.Name x pp) e2 ps] e X.env = pure none := by rfl) (ha1 : (assignEach [.Subscript (.Name x pp) e2 ps] X.env).map (·.2) = [assign (.Subscript (.Name x pp) e2 ps) X.env] := by rfl) :
   fD X CL b (.Assign [.Subscript (.Name x pp) e2 ps] e pos :: fU) δ DD := by
 refine di fun H Z σ ts vs E S M => wF (Tp dG (Tj (lV n.hi n.hv n.hd n.nI) dG set_list ha) hs hw ha1) (h H Z σ ts vs _ S fun v H1 Z1 z1 k1 S1 => ?_)
 have hj : j < tl.length := (zZ hk).2.1
 obtain ⟨v0, e0, _⟩ := S1.look h1
 refine ⟨v0, e0, ?_⟩
 refine h2 H1 Z1 σ _ _ _ S1 fun v2 H2 Z2 z2 k2 S2 r2 => ?_
 obtain ⟨a, us, ea, Lq, hu, S3⟩ := S2.setAt h1 hj
 rw [e0] at ea
 cases ea
 exact ⟨a, us, k, j, rfl, r2.sc rfl, Lq, by rw [hu]; exact hk, M.nx _ σ _ Z2 (z1.trans z2) S3 kk⟩
theorem cI {n : Nat} (hn : ds.length = n) (hm : X.mg "len" = none) (h : cN X CL b e δ (.lst ds) δ1) (hg : Gl X "len") (hs : starEach [e] X.env = (false, eval e X.env) :: starEach [] X.env := by exact bD rfl) : bQ X CL b (.Call (.Name "len" pp) [e] [] pos) δ (.sh (.int n)) δ1 := by
 subst hn
 exact rZ hm h hg hs
theorem bS (h : bQ X CL b e δ (.lst (ds.map T.sh)) δ1) : cN X CL b e δ (.lst ds) δ1 := by
 have := R5 h
 rwa [T.d7, iy] at this
end
theorem cW {α : Type} {f : α -> D} {l : List α} {k : Int} (z : α) (h0 : 0 <= k) (h1 : k < l.length) : vq (l.map f) k = some (f (l.getD k.toNat z)) := by
 obtain ⟨j, rfl⟩ : ∃ j : Nat, k = j := ⟨k.toNat, by omega⟩
 refine lX ?_
 have hl : j < l.length := by omega
 rw [ad8, ad3 hl]
 simp [List.getD, hl]
theorem Cd {α β : Type} {f : α -> β} {l : List α} {lo hi : Option Int} : cutD (l.map f) lo hi = (cutD l lo hi).map f := by
 unfold cutD
 rw [adM, List.map_take, List.map_drop]
theorem sd {α : Type} {f : α -> D} (h : ∀ a, (f a).lD = true) : ∀ (l : List α), D.bK (l.map f) = true
 | [] => rfl
 | a :: l => by rw [aen, D.bK, h a, sd h l]; rfl
section
variable {X : Cx} {CL : Str -> Addr} {b : Bx} {δ δ1 δ2 δ3 : List (Option T)} {e e1 e2 e3 : Expr} {es : List Expr} {d d1 d2 : D} {ds : List D} {pos p2 pp : Pos} {n m : Nat} {i : Nat} {x : Str} {t : T} {fU : List Stmt} {DD : cO}
theorem P1 {k : Int} {u : Tok} (hm : X.mg x = some (.int k u)) (hg : Gl X x) (hd : (x == ("__debug__" : Str)) = false := by decide) : bQ X CL b (.Name x pos) δ (.sh (.int k)) δ := fun H Z σ ts vs Q S kk =>
 cH (O1 (v := .int k) hg hm ⟨u, rfl⟩ hd) (kk _ H Z (.refl _) (.refl _) (S.push (.int k)))
theorem iM {k : Int} (hm : ∃ u, X.mg x = some (.int k u)) (hg : Gl X x) (hd : (x == ("__debug__" : Str)) = false := by decide) : bQ X CL b (.Name x pos) δ (.sh (.int k)) δ := by
 obtain ⟨u, hm⟩ := hm
 exact P1 hm hg hd
theorem se (x : Str) : ∀ l : List Str, WX (.str x) (l.map V.str) = decide (x ∈ l)
 | [] => by simp [WX]
 | y :: l => by
   have ih := se x l
   unfold WX at ih ⊢
   rw [aen, List.any_cons, ih]
   have e : ∀ a c : Str, Px (.str a) (.str c) = (a == c) := fun _ _ => rfl
   rw [e]
   by_cases h : y = x
   . subst h; simp
   . have h' : ¬ x = y := fun e => h e.symm
     simp [h, h']
theorem aH.strs {K : PySem.W.Frag} {Z : Hp} : ∀ {l : List Str} {vs : List V}, aH K CL Z (l.map D.str) vs -> vs = l.map V.str
 | [], _, r => by
   have r' : aH K CL Z [] _ := r
   cases r'; rfl
 | y :: l, _, r => by
   have r' : aH K CL Z (D.str y :: l.map D.str) _ := r
   cases r' with
   | cons r1 r2 => rw [r1.sc rfl, aH.strs r2]; rfl
theorem gw : ∀ l : List Str, (l.map V.str).all rT = true
 | [] => rfl
 | y :: l => by rw [aen, List.all_cons, gw l]; rfl
theorem Xi {l : List Str} (h1 : cN X CL b e1 δ (.str x) δ1) (h2 : cN X CL b e2 δ1 (.tup (l.map .str)) δ2) (hm : behindInMarks .In e2 = false) :
   qD X CL b (.Compare e1 [.In] [e2] pos) δ (decide (x ∈ l)) δ2 /\ bQ X CL b (.Compare e1 [.In] [e2] pos) δ (.sh (.bl (decide (x ∈ l)))) δ2 := by
 constructor
 . intro H Z σ ts vs Q S k
   refine EG (vN zv dG dG hm) (h1 H Z σ ts vs _ S fun v1 H1 Z1 z1 k1 S1 r1 => h2 H1 Z1 σ ts vs _ S1 fun v2 H2 Z2 z2 k2 S2 r2 => ?_)
   cases r2 with
   | tup hq rr =>
     have e := rr.strs
     subst e
     refine ⟨_, _, rfl, .inr hq, by rw [r1.sc rfl]; rfl, gw l, _, rfl, ?_⟩
     rw [adT ad5, r1.sc rfl, se]
     exact k H2 Z2 (z1.trans z2) (k1.trans k2) S2
 . intro H Z σ ts vs Q S k
   refine cH (vK zv dG dG hm) (h1 H Z σ ts vs _ S fun v1 H1 Z1 z1 k1 S1 r1 => h2 H1 Z1 σ ts vs _ S1 fun v2 H2 Z2 z2 k2 S2 r2 => ?_)
   cases r2 with
   | tup hq rr =>
     have e := rr.strs
     subst e
     refine ⟨_, _, rfl, .inr hq, by rw [r1.sc rfl]; rfl, gw l, ?_⟩
     rw [adT ad5, r1.sc rfl, se]
     exact k _ H2 Z2 (z1.trans z2) (k1.trans k2) (S2.push (.bl _))
theorem LV {l : List Str} {j : Nat} (h1 : cN X CL b e1 δ (.str x) δ1) (h2 : Ek X CL b es δ1 ((l.map D.str).map T.sh) δ2) (hl : (l.map D.str).length <= sizeLine := by exact az rfl) :
   qD X CL b (.Compare e1 [.In] [.Tuple es j p2] pos) δ (decide (x ∈ l)) δ2 /\ bQ X CL b (.Compare e1 [.In] [.Tuple es j p2] pos) δ (.sh (.bl (decide (x ∈ l)))) δ2 := Xi h1 (ah (bH h2 hl)) rfl
theorem P4 {p : Bool} (hm : X.mg "int" = none) (h : cN X CL b e δ (.bl p) δ1) (hg : Gl X "int") (hs : starEach [e] X.env = (false, eval e X.env) :: starEach [] X.env := by exact bD rfl) : bQ X CL b (.Call (.Name "int" pp) [e] [] pos) δ (.sh (.int (if p then 1 else 0))) δ1 := fun H Z σ ts vs Q S k =>
 cH (tR IK hg hm Jf (b7 dG eo hs) (he := hs)) (h H Z σ ts vs _ S fun v H1 Z1 z1 k1 S1 r => .inr ⟨p, by rw [r.sc rfl], k _ H1 Z1 z1 k1 (S1.push (.int _))⟩)
noncomputable def wK : Expr -> Option Str
 | .Constant (.str x) _ _ => some x
 | _ => none
noncomputable def tX : List Expr -> Option (List Str)
 | [] => some []
 | e :: es => (wK e).bind fun x => (tX es).map (x :: ·)
theorem Ce {e : Expr} {x : Str} (h : wK e = some x) : ∃ j p, e = .Constant (.str x) j p := by
 unfold wK at h
 split at h
 . cases h; exact ⟨_, _, rfl⟩
 . cases h
theorem Ag : ∀ {es : List Expr} {l : List Str}, tX es = some l -> Ek X CL b es δ ((l.map D.str).map T.sh) δ
 | [], l, h => by
   have e : l = [] := (aeb h).symm
   subst e
   exact dh
 | e :: es, l, h => by
   rw [tX] at h
   obtain ⟨x, hx, h⟩ := Option.bind_eq_some_iff.mp h
   obtain ⟨l', hl, rfl⟩ := Option.map_eq_some_iff.mp h
   obtain ⟨j, p, rfl⟩ := Ce hx
   exact e7 aB (Ag hl)
end
theorem LW {α : Type} {l : List α} {k : Int} (z : α) (h0 : 0 <= k) (h1 : k < l.length) : vq l k = some (l.getD k.toNat z) := by
 obtain ⟨j, rfl⟩ : ∃ j : Nat, k = j := ⟨k.toNat, by omega⟩
 refine lX ?_
 have hl : j < l.length := by omega
 rw [ad3 hl]
 simp [List.getD, hl]
theorem str_len (x y : Str) : (x ++ y).length = x.length + y.length := by
 show (x.cps ++ y.cps).size = _
 rw [Array.size_append]; rfl
theorem UC (x y : Str) (h1 : PyData.strOk x = true) (h2 : PyData.strOk y = true) : PyData.strOk (x ++ y) = true := by
 unfold PyData.strOk at *
 show (x.cps ++ y.cps).all _ = true
 rw [Array.all_append, h1, h2]; rfl
theorem uS (l : List Int) : T.dg ((l.map D.int).map T.sh) = true := by
 rw [aei]
 induction l with
 | nil => rfl
 | cons i r ih => rw [aen, T.dg, ih]; rfl
section
variable {X : Cx} {tg : Expr}
end
section
variable {X : Cx} {CL : Str -> Addr} {b : Bx} {δ δ1 : List (Option T)} {e : Expr} {ds : List D} {tg : Expr} {pr pc : Pos}
end
section
variable {K : PySem.W.Frag} {CL : Str -> Addr} {b : Bx} {H Z : Hp} {δ : List (Option T)} {σ : L2.St} {ts tt : List T} {vs : List V} {t : T}
end
section
variable {X : Cx} {CL : Str -> Addr} {b : Bx} {δ : List (Option T)} {tt : List T} {t : T} {i : Nat} {x : Str} {pp pc ps : Pos} {kj : Nat}
end
section
variable {X : Cx} {CL : Str -> Addr} {b : Bx} {δ δ1 : List (Option T)} {e : Expr} {ds : List D} {t : T} {i : Nat} {x : Str} {pos pp p2 : Pos} {kj : Nat}
theorem vFL (n : Vn X i x) (h : δ[i]? = some (some (.lst (ds.map T.sh)))) : bQ X CL b (.Name x pos) δ (.sh (.lst ds)) (δ.set i (some (.sh (.lst ds)))) := by
 have := vF (CL := CL) (b := b) (pos := pos) n h
 rwa [T.d7, iy] at this
end
section
variable {K : PySem.W.Frag} {CL : Str -> Addr} {b : Bx} {H H' Z Z' : Hp} {δ δ' : List (Option T)} {σ σ' : L2.St} {ts tl : List T} {vs us : List V} {t : T} {v : V}
theorem qt.get : ∀ {fs : List (Str × D)} {gs : List (Str × V)} {f : Str} {d : D}, qt K CL Z fs gs -> fs.lookup f = some d -> ∃ v, gs.lookup f = some v /\ bO K CL Z d v
 | _, _, _, _, .nil, e => by simp at e
 | _, _, f, d, .cons (x := x) r t, e => by
   rw [aez] at e ⊢
   cases h : f == x with
   | true => rw [h] at e; cases e; exact ⟨_, rfl, r⟩
   | false => rw [h] at e; exact qt.get t e
noncomputable def yH (f : Str) (t : T) : List (Str × T) -> List (Str × T)
 | [] => [(f, t)]
 | (g, x) :: r => if g = f then (g, t) :: r else (g, x) :: yH f t r
theorem cZ.length {fs : List (Str × T)} {gs : List (Str × V)} {fp : List Addr} (h : cZ K CL H Z fs gs fp) : fs.length = gs.length :=
 cZ.ind (P := fun d v _ => d.length = v.length) rfl (fun _ _ i => congrArg (· + 1) i) h
theorem cZ.put {f : Str} {g : List Addr} (q : cM K CL H Z t v g) : ∀ {fs : List (Str × T)} {gs : List (Str × V)} {fp : List Addr}, cZ K CL H Z fs gs fp →
   ∃ HD f', cZ K CL H Z (yH f t fs) (jD f v gs) HD /\ f'.Sublist fp /\ HD.Perm (g ++ f')
 | _, _, _, .nil => ⟨g ++ [], [], .cons q .nil, aes _, afp _⟩
 | _, _, _, .cons (x := x) (fp := fp) (gp := gp) r rs => by
   rw [yH, jD]
   by_cases h : x = f
   . rw [ad0 h, ad0 h]
     exact ⟨g ++ gp, gp, .cons q rs, aeP _ _, afp _⟩
   . rw [adT h, adT h]
     obtain ⟨p, p', h1, h2, h3⟩ := cZ.put (f := f) q rs
     refine ⟨fp ++ p, fp ++ p', .cons r h1, aeu (aes _) h2, (aeq fp h3).trans ?_⟩
     rw [← adO, ← adO]
     exact aew.append_right p'
theorem bR.UD {a : Addr} {o : HO} {HD gp fp Uu : List Addr} {δ2 : List (Option T)} (hm : nF o = false) (S : bR K CL b H Z δ σ ts vs) (own : ∀ c ∈ fp ++ gp, Z c = none /\ b.B c = none) (ha : a ∈ fp ++ gp)
   (e' : fB K CL (upd H a o) Z δ2 σ HD) (r' : aR K CL (upd H a o) Z tl us Uu) (pm : (HD ++ Uu).Nodup) (sub : ∀ c ∈ HD ++ Uu, c ∈ fp ++ gp) :
   bR K CL b (upd H a o) Z δ2 σ tl us := by
 have oa := own a ha
 refine ⟨⟨_, _, e', r', pm, fun c hc => own c (sub c hc)⟩, fun c u q => ?_, S.zz, fun c u q => ?_, S.new, fun c u q i => ?_, S.tab⟩
 . rw [aA (bF q oa.2)]; exact S.bh c u q
 . rw [aA (bF q oa.1)]; exact S.zh c u q
 . by_cases hc : c = a
   . subst hc; rw [aX] at q; cases q; rw [hm] at i; cases i
   . rw [aA hc] at q; exact S.tp c u q i
theorem bR.setField {i : Nat} {x : Addr} {c f : Str} {fs : List (Str × T)} (S : bR K CL b H Z δ σ (t :: ts) (v :: vs)) (hi : δ[i]? = some (some (.pin x (.ins c fs)))) :
   ∃ dx gs, σ[i]? = some (some (.ref x)) /\ H x = some (.ins (CL c) dx gs) /\ gs.length = fs.length /\ bR K CL b (upd H x (.ins (CL c) dx (jD f v gs))) Z (δ.set i (some (.pin x (.ins c (yH f t fs))))) σ ts vs := by
 obtain ⟨fp, gp, e, r, nd, k⟩ := S.rep
 obtain ⟨v0, f1, f2, f3, hv, rY, rt, put, _⟩ := e.get hi
 subst rY
 cases rt with
 | pin rt =>
 cases rt with
 | @ins a dx _ gs _ g ha rs =>
   cases r with
   | @cons _ _ _ _ ft gr q1 q2 =>
     have ne : ∀ c ∈ (f1 ++ (g ++ f3)) ++ (ft ++ gr), c ≠ x := fun c hc e => by
       subst e
       have hp : ((f1 ++ ((c :: g) ++ f3)) ++ (ft ++ gr)).Perm (c :: ((f1 ++ (g ++ f3)) ++ (ft ++ gr))) := by
         rw [aej, ← aej]
         exact (aeY.append_right _)
       exact (aeS.mp (hp.nodup_iff.mp nd)).1 hc
     refine ⟨dx, gs, hv, ha, rs.length.symm, ?_⟩
     have q1' := q1.mono (H' := upd H x (.ins (CL c) dx (jD f v gs))) (.refl _) fun c hc => aA (ne c (by simp [hc]))
     have rs' := rs.mono (H' := upd H x (.ins (CL c) dx (jD f v gs))) (.refl _) fun c hc => aA (ne c (by simp [hc]))
     obtain ⟨p, p', h1, h2, h3⟩ := cZ.put (f := f) q1' rs'
     have r1 : cM K CL (upd H x (.ins (CL c) dx (jD f v gs))) Z (.pin x (.ins c (yH f t fs))) (.ref x) (x :: p) := .pin (.ins aX h1)
     have e2 := put (H' := upd H x (.ins (CL c) dx (jD f v gs))) (.refl _) (fun c hc => aA (ne c (by
       rcases adZ.mp hc with h | h
       . simp [h]
       . simp [h]))) r1
     rw [lH hv] at e2
     have hp : ((f1 ++ ((x :: p) ++ f3)) ++ gr).Perm ((f1 ++ ((x :: p') ++ f3)) ++ (ft ++ gr)) := by
       have h4 : ((f1 ++ ((x :: p) ++ f3)) ++ gr).Perm ((f1 ++ ((x :: (ft ++ p')) ++ f3)) ++ gr) := ((h3.cons x).append_right f3).append_left f1 |>.append_right gr
       refine h4.trans ?_
       simp only [aej, adO]
       refine aeq f1 (List.Perm.cons x ?_)
       have := (aew (l₁ := ft) (l₂ := p' ++ f3)).append_right gr
       simp only [adO] at this
       exact this
     have sb : ((f1 ++ ((x :: p') ++ f3)) ++ (ft ++ gr)).Sublist ((f1 ++ ((x :: g) ++ f3)) ++ (ft ++ gr)) :=
       aeu (aeu (aes _) (aeu (List.Sublist.cons₂ x h2) (aes _))) (aes _)
     exact S.UD rfl k (by simp) e2 (q2.mono (.refl _) fun c hc => aA (ne c (by simp [hc]))) (hp.nodup_iff.mpr (nd.sublist sb)) fun c hc => sb.subset (hp.mem_iff.mp hc)
end
section
variable {X : Cx} {CL : Str -> Addr} {b : Bx} {δ δ1 δ2 : List (Option T)} {e : Expr} {es : List Expr} {t : T} {d : D} {c f x : Str} {fs : List (Str × D)} {pos pp : Pos} {DD : cO} {i : Nat}
theorem gY (hc : uN X.K (CL c)) (n : aS X.K (CL c) f) (h : cN X CL b e δ (.ins c fs) δ1) (hl : fs.lookup f = some d) (hb : attributeBase e f X.env (eval e X.env) = eval e X.env := by rfl) :
   cN X CL b (.Attribute e f pos) δ d δ1 := fun H Z σ ts vs Q S k =>
 cH (La dG hb) (h H Z σ ts vs _ S fun v H' Z' z s S' r => by
   cases r with
   | @ins a dx _ gs _ ha rf =>
     obtain ⟨w, hw, T6⟩ := rf.get hl
     exact ⟨a, CL c, dx, gs, w, rfl, ha, hc, n, hw, k w H' Z' z s S' T6⟩)
theorem gZ (hc : uN X.K (CL c)) (n : aS X.K (CL c) f) (h : bQ X CL b e δ (.sh (.ins c fs)) δ1) (hl : fs.lookup f = some d) (hb : attributeBase e f X.env (eval e X.env) = eval e X.env := by rfl) :
   bQ X CL b (.Attribute e f pos) δ (.sh d) δ1 := fun H Z σ ts vs Q S k =>
 cH (La dG hb) (h H Z σ ts vs _ S fun v H' Z' z s S' => by
   obtain ⟨fp, gp, _, r, _, _⟩ := S'.rep
   cases r with
   | cons r _ =>
     cases r with
     | sh r =>
       cases r with
       | @ins a dx _ gs _ ha rf =>
         obtain ⟨w, hw, T6⟩ := rf.get hl
         exact ⟨a, CL c, dx, gs, w, rfl, S'.zh _ _ ha, hc, n, hw, k w H' Z' z s (S'.pop.push T6)⟩)
theorem sf {fU : List Stmt} {a : Addr} {gs : List (Str × T)} {pa pb pc : Pos} (hc : uN X.K (CL c)) (n : aS X.K (CL c) f) (nm : Vn X i x) (h : bQ X CL b e δ t δ1) (h1 : δ1[i]? = some (some (.pin a (.ins c gs)))) (hl : gs.length < 1000)
   (k : fD X CL b fU (δ1.set i (some (.pin a (.ins c (yH f t gs))))) DD) (hs : swapsWith e (some (.Attribute (.Name x pa) f pb)) pc.line X.env = pure false := by rfl) :
   fD X CL b (.Assign [.Attribute (.Name x pa) f pb] e pc :: fU) δ DD := di fun H Z σ ts vs E S M =>
 wF (TQ (lV nm.hi nm.hv nm.hd nm.nI) dG hs) (h H Z σ ts vs _ S fun v H' Z' z s S' => by
   obtain ⟨dx, ws, hv, hx, hlen, S2⟩ := S'.setField (f := f) h1
   exact ⟨.ref a, hv, a, CL c, dx, ws, rfl, hx, hc, n, by rw [hlen]; exact hl, M.nx _ σ _ Z' z S2 k⟩)
end
noncomputable def Xj (K : PySem.W.Frag) (CL : Str -> Addr) {A : Type} (c : Str) (n : Nat) (arg : A -> List D) (Pre : A -> Prop) (res : A -> List (Str × T)) : Sp := fun vs H Q _ =>
 ∃ (W H0 : Hp) (a : A) (x dx : Addr) (us : List V), vs = .ref x :: us /\ H0 x = none /\ H0 dx = none /\ dx ≠ x /\ H = upd (upd H0 dx (.own x)) x (.ins (CL c) dx []) ∧
   aG W H0 /\ (∀ c o, H0 c = some o -> nF o = true -> W c = some o) /\ aH K CL W (arg a) us /\ (arg a).length + 1 = n /\ Pre a /\ nO CL W ∧
   ∀ H' W' fp, aG H0 H' -> aG W W' -> aG W' H' -> (∀ c o, W' c = some o -> W c = none -> H0 c = none) -> (∀ c o, H' c = some o -> nF o = true -> W' c = some o) →
     cM K CL H' W' (.ins c (res a)) (.ref x) fp -> fp.Nodup -> (∀ c ∈ fp, W' c = none /\ H0 c = none) -> Q .non H'
section
variable {X : Cx} {CL : Str -> Addr} {b : Bx} {δ δ1 δ2 : List (Option T)} {e o : Expr} {es : List Expr} {pos pp apos : Pos}
variable {A : Type} {k n : Nat} {f : Addr} {fd : FuncData} {ps : List Str} {arg : A -> List D} {Pre : A -> Prop} {x c m : Str}
theorem P5 {res : A -> List (Str × T)} (a : A) (M : Mk X.K (CL c) f) (F : b8 X.prog X.w X.K X.mg X.base iY k f fd ps (Xj X.K CL c n arg Pre res)) (hr : gq (k + 1) X.A) (hm : X.mg x = some (.ref (CL c))) (hb : Binds X.K fd ps [])
   (h : OI X CL b (e :: es) δ (arg a) δ1) (hn : (arg a).length + 1 = n) (hp : Pre a) (hc : T.bB (res a) = true) (hg : Gl X x)
   (yC : (x == ("__debug__" : Str)) = false := by decide) (he : starEach (e :: es) X.env = (false, eval e X.env) :: starEach es X.env := by exact bD rfl) (hpl : (backTo pos (starEach es X.env)).any (·.1) = false := by rfl) :
   bQ X CL b (.Call (.Name x pp) (e :: es) [] pos) δ (.ins c (res a)) δ1 := fun H Z σ ts vs Q S kk =>
 cH (Hq M F hr hg hm hb .nil Hv KG yC he hpl) (h H Z σ ts vs _ S fun us H1 Z1 z1 k1 S1 r x dx hx Xk ne => by
   rw [aef]
   refine ⟨H1, H1, a, x, dx, us, rfl, hx, Xk, ne, rfl, .refl _, fun _ _ q _ => q, r, hn, hp, S1.Uh, fun H' W' fp hh ww wh nw tp rt nd own => ⟨rfl, ?_⟩⟩
   obtain ⟨Z', z', S'⟩ := S1.back hh S1.zh ww wh nw tp rt nd own (.inr (by rw [T.clean]; exact hc))
   exact kk _ H' Z' (z1.trans z') (k1.trans hh) S')
end
theorem HF {P : Program} {w : World} {K : PySem.W.Frag} {mg : Str -> Option Value} {base : Heap} {CL : Str -> Addr} {x qual c : Str} {st : Stmt} {f : Addr} {fd : FuncData} {N ps : List Str} {k : Nat} {A : Type} {arg : A -> List D} {Pre : A -> Prop} {res : A -> List (Str × T)} (F : lU K x qual st f fd) (S : aT N ps (aq st))
   (hb : ∀ (fk : Value) (Ar : Around) (outer : List Env) (s : Shared) (H : Hp) (E : XK) (b : Bx) (a : A) (y : Addr), gq k (Ar.deeper (envOfC qual (aq st) s.heap.objs.size f fk)) -> Pre a →
     fD (BR iY P w K mg base N qual (aq st) f fk Ar outer s H E).VY CL b (ig st) (some (.pin y (.ins c [])) :: ((arg a).map (fun d => some (T.sh d)) ++ List.replicate (N.length - ((arg a).length + 1)) none))
       { nx := fun δ => δ[0]? = some (some (.pin y (.ins c (res a)))), rt := fun _ _ => False }) :
   b8 P w K mg base iY (k + 1) f fd ps (Xj K CL c ps.length arg Pre res) := by
 refine F.ok S (fun vs H Q E h => ?_) (fun fk Ar outer s H vs Q E hr h => ?_)
 . obtain ⟨W, H0, a, y, dx, us, rfl, _, _, _, _, _, _, r, hl, _⟩ := h
   rw [aeo, ← r.length]; exact hl
 . obtain ⟨W, H0, a, y, dx, us, rfl, hy, Xk, ne, rfl, wh, tp, r, hl, hp, tb, kk⟩ := h
   have old : ∀ {d : Addr} {o : HO}, H0 d = some o -> upd (upd H0 dx (.own y)) y (.ins (CL c) dx []) d = some o := fun {d o} q => by
     rw [aA (bF q hy), aA (bF q Xk)]; exact q
   refine ⟨_, R0, hb fk Ar outer s _ E ⟨H0, W⟩ a y hr hp _ W _ [] [] _ ⟨⟨[y] ++ [], [], ?_, .nil, by simp, fun d hd => ?_⟩, fun d o q => old q, .refl _, fun d o q => old (wh d o q), fun d o q z => ?_, fun d o q i => ?_, tb⟩ ⟨fun δ' σ' H' Z' s' S' e => ?_, fun t v H' Z' δ' σ' s' S' e => e.elim, fun _ _ _ _ _ _ e => e.elim, fun _ _ _ _ _ _ e => e.elim⟩⟩
   . unfold L2.start
     rw [aen, aeo, aej, ← r.length]
     exact .cons (.pin (.ins aX .nil)) (lZ _ r)
   . have : d = y := by simpa using hd
     subst this
     exact ⟨Ui wh hy, hy⟩
   . have q' : W d = some o := q
     have z' : W d = none := z
     rw [q'] at z'; cases z'
   . by_cases h1 : d = y
     . subst h1; rw [aX] at q; cases q; cases i
     . rw [aA h1] at q
       by_cases h2 : d = dx
       . subst h2; rw [aX] at q; cases q; cases i
       . rw [aA h2] at q; exact tp d o q i
   . obtain ⟨fp, gp, eE, _, nd, own⟩ := S'.rep
     obtain ⟨v, f1, f2, f3, hv, rY, rt, _, _⟩ := eE.get e
     subst rY
     cases rt with
     | pin rt =>
       refine kk H' Z' f2 S'.bh S'.zz S'.zh S'.new S'.tp rt ?_ fun d hd => own d (by simp [hd])
       have h1 := (aeJ.mp nd).1
       exact (aeJ.mp (aeJ.mp h1).2.1).1
section
variable {X : Cx} {CL : Str -> Addr} {b : Bx} {δ δ1 δ2 : List (Option T)} {e e1 e2 : Expr} {es : List Expr} {t : T} {d : D} {ds Ah : List D} {x : Str} {pos pp : Pos} {DD : cO} {i : Nat} {fU body : List Stmt}
theorem Ai (g : Gx X) (P : Nat -> List (Option T) -> Prop) (m : Nat) (h0 : P m δ)
   (hs : ∀ m δ, P m δ -> ∃ p δ1, qD X CL b e δ p δ1 ∧
     (p = true -> fD X CL b body δ1 { nx := fun δ2 => ∃ m', m' < m /\ P m' δ2, rt := DD.rt, bk := fun δ2 => fD X CL b fU δ2 DD, ct := fun δ2 => ∃ m', m' < m /\ P m' δ2 }) /\ (p = false -> fD X CL b fU δ1 DD)) :
   fD X CL b (.While e body [] pos :: fU) δ DD := di fun H Z σ ts vs E S M =>
 wF (K0 (by rw [g.xe]; exact PassesOwn.never) RZ R0) (by
   refine ⟨fun m σ H => ∃ Z2 δ2, aG Z Z2 /\ bR X.K CL b H Z2 δ2 σ ts vs /\ P m δ2, ⟨m, Z, δ, .refl _, S, h0⟩, ?_⟩
   rintro m σ H ⟨Z2, δ2, z2, S2, p2⟩
   obtain ⟨p, δ3, ht, h1, h2⟩ := hs m δ2 p2
   refine ht H Z2 σ ts vs _ S2 fun H3 Z3 z3 k3 S3 => ?_
   cases p with
   | true =>
     rw [ad0 rfl]
     refine ⟨fun σ' H' => ∃ m', m' < m /\ ∃ Z2 δ2, aG Z Z2 /\ bR X.K CL b H' Z2 δ2 σ' ts vs /\ P m' δ2, fun σ' H' q => q, ?_⟩
     refine h1 rfl H3 Z3 σ ts vs _ S3 ⟨fun δ' σ' H' Z' s' S' ⟨m', l, q⟩ => ⟨m', l, Z', δ', z2.trans (z3.trans s'), S', q⟩, fun t v H' Z' δ' σ' s' S' q => M.rt t v H' Z' δ' σ' (z2.trans (z3.trans s')) S' q,
       fun δ' σ' H' Z' s' S' q => M.nx δ' σ' H' Z' (z2.trans (z3.trans s')) S' q, fun δ' σ' H' Z' s' S' ⟨m', l, q⟩ => ⟨m', l, Z', δ', z2.trans (z3.trans s'), S', q⟩⟩
   | false =>
     rw [adT (by decide)]
     exact M.nx δ3 σ H3 Z3 (z2.trans z3) S3 (h2 rfl))
noncomputable def Xl (K : PySem.W.Frag) : R2 := fun x y H Q => ∃ l b xs zs, x = .ref l /\ y = .ref b /\ jY K H l xs /\ jY K H b zs /\ xs.length + zs.length <= sizeLine /\ ∀ p, H p = none -> Q (.ref p) (upd H p (.lst (xs ++ zs)))
theorem HG : tN X (binaryOp .Add) (Xl X.K) := by
 intro pins s σ H x y v u Q I rx ry h
 obtain ⟨l, b, xs, zs, rfl, rfl, hH, hB, hz, q⟩ := h
 cases rx
 cases ry
 obtain ⟨its, r, pl, _⟩ := I.list hH
 obtain ⟨tT, r2, pl2, _⟩ := I.list hB
 have e1 := r.length
 have e2 := r2.length
 obtain ⟨⟨c1, dd, da1, sl⟩, ho, hc, n, hd⟩ := pl.isList
 obtain ⟨⟨c2, V2, da2, V3⟩, OG, Pk, n2, hd2⟩ := pl2.isList
 cases hc; cases Pk; cases hd; cases hd2
 refine concat_meets ⟨_, ho, rfl⟩ ⟨_, OG, rfl⟩ noFill_list_add seq_list_add PySem.F.slot_list_add PySem.F.entry_list_add (PySem.F.args_list_add_2 (Value.ref l) (Value.ref b))
   (list_addW l b its.toArray tT.toArray n n2 dd V2 sl V3 (by rw [aeh, aeh]; omega)) ⟨ho, OG, ?_⟩
 have ea : its.toArray ++ tT.toArray = (its ++ tT).toArray := by simp
 rw [ea]
 exact ⟨.ref _, _, I.W0 (t' := s.toks) (r.append r2) (by rw [adR]; omega), rfl, q _ I.fresh⟩
theorem aH.app {K : PySem.W.Frag} {Z : Hp} {ds Ah : List L3.D} {vs ZT : List V} (h : aH K CL Z ds vs) (r2 : aH K CL Z Ah ZT) : aH K CL Z (ds ++ Ah) (vs ++ ZT) :=
 aH.ind (P := fun ds vs => aH K CL Z (ds ++ Ah) (vs ++ ZT)) r2 (fun r _ i => .cons r i) h
theorem HJ (h1 : cN X CL b e1 δ (.lst ds) δ1) (h2 : cN X CL b e2 δ1 (.lst Ah) δ2) (i1 : D.bK ds = true) (i2 : D.bK Ah = true) (hz : ds.length + Ah.length <= sizeLine) :
   bQ X CL b (.BinOp e1 .Add e2 pos) δ (.lst ((ds ++ Ah).map T.sh)) δ2 := fun H Z σ ts vs Q S k =>
 cH (Hg HG dG dG) (h1 H Z σ ts vs _ S fun v1 H1 Z1 z1 k1 S1 r1 => h2 H1 Z1 σ ts vs _ S1 fun v2 H2 Z2 z2 k2 S2 r2 => by
   have Xa := r1.mono k2
   cases Xa with
   | lst KL Jh =>
     cases r2 with
     | lst Cg Ji =>
       refine ⟨_, _, _, _, rfl, rfl, KL, Cg, by rw [← Jh.length, ← Ji.length]; exact hz, fun p hp => ?_⟩
       have rc := aH.app (aH.lD S2.tp i1 Jh) (aH.lD S2.tp i2 Ji)
       obtain ⟨c, S4⟩ := (bR.uQ rc S2).tV (g0 := []) (by simp [rc.length, Jh.length, Ji.length]) hp
       exact k _ _ _ (z1.trans z2) (k1.trans (k2.trans c)) S4)
theorem boot_min : bootBuiltins "min" = some (.builtin "min") := by decide +kernel
theorem boot_str : bootBuiltins "str" = some (.type "str") := by decide +kernel
theorem P6 {i j : Int} (g : Gx X) (hm : X.mg "min" = none) (hg : Gl X "min") (h : OI X CL b [e1, e2] δ [.int i, .int j] δ1) (hs : starEach [e1, e2] X.env = (false, eval e1 X.env) :: starEach [e2] X.env := by exact bD rfl) (hpl : (backTo pos (starEach [e2] X.env)).any (·.1) = false := by rfl) :
   bQ X CL b (.Call (.Name "min" pp) [e1, e2] [] pos) δ (.sh (.int (if j < i then j else i))) δ1 := fun H Z σ ts vs Q S k =>
 cH (nL (IJ g.calm) hg hm boot_min KG (he := hs) (hpl := hpl)) (h H Z σ ts vs _ S fun us H1 Z1 z1 k1 S1 r => by
   cases r with
   | cons r1 r =>
     cases r with
     | cons r2 r =>
       cases r
       rw [r1.sc rfl, r2.sc rfl]
       exact ⟨i, j, rfl, k _ H1 Z1 z1 k1 (S1.push (.int _))⟩)
theorem pQ {i : Int} (hm : X.mg "str" = none) (hg : Gl X "str") (h : cN X CL b e δ (.int i) δ1) (hi : i.natAbs.log2 < 1920) (hs : starEach [e] X.env = (false, eval e X.env) :: starEach [] X.env := by exact bD rfl) :
   bQ X CL b (.Call (.Name "str" pp) [e] [] pos) δ (.sh (.str (toString i))) δ1 := fun H Z σ ts vs Q S k =>
 cH (tR zX hg hm boot_str (b7 dG eo hs) (he := hs)) (h H Z σ ts vs _ S fun v H1 Z1 z1 k1 S1 r => by
   rw [r.sc rfl]
   exact ⟨i, rfl, hi, k _ H1 Z1 z1 k1 (S1.push (.str _))⟩)
end
structure Fm (X : Cx) (CL : Str -> Addr) (x : Str) (k n : Nat) {A : Type} (arg : A -> List D) (Pre : A -> Prop) (res : A -> List (Str × T)) : Prop where
 ex : ∃ f fd ps, Mk X.K (CL x) f /\ b8 X.prog X.w X.K X.mg X.base iY k f fd ps (Xj X.K CL x n arg Pre res) /\ X.mg x = some (.ref (CL x)) /\ Binds X.K fd ps []
 room : gq (k + 1) X.A
noncomputable def LX (N : List Str) (y : Addr) (c : Str) (ds : List D) : List (Option T) := some (.pin y (.ins c [])) :: (ds.map (fun d => some (T.sh d)) ++ List.replicate (N.length - (ds.length + 1)) none)
theorem UE {K : PySem.W.Frag} {CL CL' : Str -> Addr} {arg : List Int -> List D} {pre : List Int -> Prop} {res : List Int -> T} (ha : ∀ a, arg a = [.lst (a.map .int)]) (hr : ∀ a, res a = .sh (.bl true)) (h0 : ∀ x, Hw x = true -> CL x = 0) :
   ∀ (vs : List V) (H : Hp) (Q : VK) (E : XK), lE K CL' 1 arg pre res vs H Q E -> lE K CL 1 arg pre res vs H Q E := by
 rintro vs H Q E ⟨W, a, h1, h2, h3, h4, h5, _, k⟩
 have UG : ∀ {l : List Int} {us : List V}, aH K CL' W (l.map .int) us -> aH K CL W (l.map .int) us := by
   intro l
   induction l with
   | nil => intro us r; cases r; exact .nil
   | cons i l ih =>
     intro us r
     cases r with
     | cons r t => cases r; exact .cons (.int i) (ih t)
 refine ⟨W, a, h1, h2, ?_, h4, h5, fun x hx e => absurd (h0 x hx) e, fun v H' W' fp a1 a2 a3 a4 a5 r nd own => k v H' W' fp a1 a2 a3 a4 a5 ?_ nd own⟩
 . rw [ha] at h3 ⊢
   cases h3 with
   | cons r t =>
     cases t
     cases r with
     | lst q rr => exact .cons (.lst q (UG rr)) .nil
 . rw [hr] at r ⊢
   cases r with
   | sh r => cases r; exact .sh (.bl _)
section
variable {X : Cx} {CL : Str -> Addr} {b : Bx} {δ δ1 δ2 : List (Option T)} {e e1 e2 o : Expr} {es : List Expr} {d : L3.D} {t : T} {i : Nat} {x c m : Str} {pos pp apos : Pos} {D : cO} {fU : List Stmt} {ds : List L3.D}
theorem mk_ {k n : Nat} {A : Type} {arg : A -> List L3.D} {Pre : A -> Prop} {res : A -> List (Str × T)} (a : A) (F : Fm X CL x k n arg Pre res) (hg : Gl X x) (h : OI X CL b (e :: es) δ (arg a) δ1) (hp : Pre a) (hc : T.bB (res a) = true) (hn : (arg a).length + 1 = n := by rfl)
   (yC : (x == ("__debug__" : Str)) = false := by decide) (he : starEach (e :: es) X.env = (false, eval e X.env) :: starEach es X.env := by exact bD rfl) (hpl : (backTo pos (starEach es X.env)).any (·.1) = false := by rfl) :
   bQ X CL b (.Call (.Name x pp) (e :: es) [] pos) δ (.ins x (res a)) δ1 := by
 obtain ⟨f, fd, ps, M, F1, m, b⟩ := F.ex
 exact P5 a M F1 F.room m b h hn hp hc hg yC he hpl
end
theorem jc {α : Type} {f : Str} {d : α} {fs : List (Str × α)} : ((f, d) :: fs).lookup f = some d := by
 rw [aez, afg]
theorem cS {α : Type} {f g : Str} {d : α} {fs : List (Str × α)} (h : (f == g) = false) : ((g, d) :: fs).lookup f = fs.lookup f := by
 rw [aez, h]
theorem gy {f : Str} {t : T} : yH f t [] = [(f, t)] := rfl
theorem bN {f g : Str} {t u : T} {fs : List (Str × T)} (h : ¬ g = f) : yH f t ((g, u) :: fs) = (g, u) :: yH f t fs := by
 rw [yH, adT h]
section
variable {X : Cx} {CL : Str -> Addr} {b : Bx} {δ δ1 δ2 : List (Option T)} {e1 e2 : Expr} {x : Str} {pos : Pos} {d : L3.D}
noncomputable def LY (d : L3.D) : Option (List L3.D) := match d with
 | .lst ds => some ds
 | .tup ds => some ds
 | _ => none
theorem bO.LY {K : PySem.W.Frag} {Z : Hp} {v : V} {ds : List L3.D} (r : bO K CL Z d v) (h : L3.LY d = some ds) : ∃ p us, v = .ref p /\ (jY K Z p us \/ rM K Z p us) /\ aH K CL Z ds us := by
 cases r with
 | tup hq rr => cases h; exact ⟨_, _, rfl, .inr hq, rr⟩
 | lst hq rr => cases h; exact ⟨_, _, rfl, .inl hq, rr⟩
 | non => cases h
 | bl => cases h
 | int => cases h
 | str => cases h
 | any => cases h
 | val => cases h
 | yF => cases h
 | ins => cases h
theorem HK {l : List Str} (h1 : cN X CL b e1 δ (.str x) δ1) (h2 : cN X CL b e2 δ1 d δ2) (hd : L3.LY d = some (l.map .str)) (hm : behindInMarks .NotIn e2 = false) :
   qD X CL b (.Compare e1 [.NotIn] [e2] pos) δ (!decide (x ∈ l)) δ2 /\ bQ X CL b (.Compare e1 [.NotIn] [e2] pos) δ (.sh (.bl (!decide (x ∈ l)))) δ2 := by
 constructor
 . intro H Z σ ts vs Q S k
   refine EG (vN rW dG dG hm) (h1 H Z σ ts vs _ S fun v1 H1 Z1 z1 k1 S1 r1 => h2 H1 Z1 σ ts vs _ S1 fun v2 H2 Z2 z2 k2 S2 r2 => ?_)
   obtain ⟨p, us, rfl, hq, rr⟩ := bO.LY r2 hd
   have e := rr.strs
   subst e
   refine ⟨_, _, rfl, hq, by rw [r1.sc rfl]; rfl, gw l, _, rfl, ?_⟩
   rw [ad0 rfl, r1.sc rfl, se]
   exact k H2 Z2 (z1.trans z2) (k1.trans k2) S2
 . intro H Z σ ts vs Q S k
   refine cH (vK rW dG dG hm) (h1 H Z σ ts vs _ S fun v1 H1 Z1 z1 k1 S1 r1 => h2 H1 Z1 σ ts vs _ S1 fun v2 H2 Z2 z2 k2 S2 r2 => ?_)
   obtain ⟨p, us, rfl, hq, rr⟩ := bO.LY r2 hd
   have e := rr.strs
   subst e
   refine ⟨_, _, rfl, hq, by rw [r1.sc rfl]; rfl, gw l, ?_⟩
   rw [ad0 rfl, r1.sc rfl, se]
   exact k _ H2 Z2 (z1.trans z2) (k1.trans k2) (S2.push (.bl _))
end
section
variable {X : Cx} {CL : Str -> Addr} {b : Bx} {δ δ1 δ2 : List (Option T)} {e : Expr} {es : List Expr} {d : L3.D} {ds : List L3.D} {t : T} {i : Nat} {x : Str} {pos pp : Pos} {DD : cO} {fU : List Stmt}
theorem bu : Ek X CL b [] δ (([] : List L3.D).map T.sh) δ := dh
theorem ay (h1 : bQ X CL b e δ (.sh d) δ1) (h2 : Ek X CL b es δ1 (ds.map T.sh) δ2) (hs : starEach (e :: es) X.env = (false, eval e X.env) :: starEach es X.env := by exact bD rfl) : Ek X CL b (e :: es) δ ((d :: ds).map T.sh) δ2 := e7 h1 h2 hs
theorem e9 (h : Ek X CL b es δ (ds.map T.sh) δ1) (hl : ds.length <= sizeLine) : bQ X CL b (.List es pos) δ (.lst (ds.map T.sh)) δ1 := dM h (by simpa using hl)
theorem lM (l : List Str) : D.bK (l.map L3.D.str) = true := sd (fun _ => rfl) _
theorem vR (h : bQ X CL b e δ (.lst (ds.map T.sh)) δ1) : bQ X CL b e δ (.sh (.lst ds)) δ1 := by
 have := z9 h
 rwa [T.d7, iy] at this
theorem vS (h : bQ X CL b e δ t δ1) (q : t.d7 = d) : bQ X CL b e δ (.sh d) δ1 := q ▸ z9 h
theorem uT {d2 : L3.D} (h : cN X CL b e δ d δ1) (q : d = d2) : cN X CL b e δ d2 δ1 := q ▸ h
theorem cA {t2 : T} (h : bQ X CL b e δ t δ1) (q : t = t2) : bQ X CL b e δ t2 δ1 := q ▸ h
end
structure wL (Z H Z' H' : Hp) : Prop where
 z : aG Z Z'
 h : aG H H'
 zh : aG Z' H'
 new : ∀ a o, Z' a = some o -> Z a = none -> H a = none
 tp : ∀ a o, H' a = some o -> nF o = true -> Z' a = some o
theorem wL.refl {Z H : Hp} (zh : aG Z H) (tp : ∀ a o, H a = some o -> nF o = true -> Z a = some o) : wL Z H Z H := ⟨.refl _, .refl _, zh, fun a o q z => (by rw [q] at z; cases z), tp⟩
theorem wL.tup {Z H : Hp} {p : Addr} {xs : List V} (zh : aG Z H) (tp : ∀ a o, H a = some o -> nF o = true -> Z a = some o) (hp : H p = none) : wL Z H (upd Z p (.tup xs)) (upd H p (.tup xs)) := by
 have zp : Z p = none := zh.free hp
 refine ⟨aG.upd zp, aG.upd hp, fun a o q => ?_, fun a o q z => ?_, fun a o q i => ?_⟩
 . by_cases e : a = p
   . subst e; rw [aX] at q ⊢; exact q
   . rw [aA e] at q ⊢; exact zh a o q
 . by_cases e : a = p
   . subst e; exact hp
   . rw [aA e, z] at q; cases q
 . by_cases e : a = p
   . subst e; rw [aX] at q ⊢; exact q
   . rw [aA e] at q ⊢; exact tp a o q i
section
variable {K : PySem.W.Frag} {CL : Str -> Addr} {b : Bx} {H H' Z Z' : Hp} {δ : List (Option T)} {σ : L2.St} {ts : List T} {vs : List V}
theorem bR.grow (S : bR K CL b H Z δ σ ts vs) (g : wL Z H Z' H') : bR K CL b H' Z' δ σ ts vs := by
 obtain ⟨fp, gp, e, r, nd, k⟩ := S.rep
 have old : ∀ a ∈ fp ++ gp, ∃ o, H a = some o := fun a ha => (adZ.mp ha).elim (e.there a) (r.there a)
 have keep : ∀ a ∈ fp ++ gp, H' a = H a := fun a ha => by
   obtain ⟨o, q⟩ := old a ha
   rw [q]; exact g.h a o q
 refine ⟨⟨fp, gp, e.mono g.z (fun a ha => keep a (ad2 _ ha)), r.mono g.z (fun a ha => keep a (adP _ ha)), nd, fun a ha => ⟨?_, (k a ha).2⟩⟩, S.bh.trans g.h, S.zz.trans g.z, g.zh, fun a o q z => ?_, g.tp, S.tab⟩
 . cases q : Z' a with
   | none => rfl
   | some o =>
     obtain ⟨u, hu⟩ := old a ha
     rw [g.new a o q (k a ha).1] at hu; cases hu
 . cases e2 : Z a with
   | none => exact S.bh.free (g.new a o q e2)
   | some u =>
     have := g.z a u e2
     rw [q] at this; cases this
     exact S.new a o e2 z
noncomputable def HL (δ : List (Option T)) : List Nat -> List D -> List (Option T)
 | i :: is, d :: ds => HL (δ.set i (some (.sh d))) is ds
 | _, _ => δ
noncomputable def wM (σ : L2.St) : List Nat -> List V -> L2.St
 | i :: is, v :: vs => wM (σ.set i (some v)) is vs
 | _, _ => σ
theorem bR.sets {ps : List D} {ys : List V} : ∀ {is : List Nat} {δ : List (Option T)} {σ : L2.St}, bR K CL b H Z δ σ ts vs -> aH K CL Z ps ys -> (∀ i ∈ is, i < δ.length) -> bR K CL b H Z (HL δ is ps) (wM σ is ys) ts vs := by
 intro is
 induction is generalizing ps ys with
 | nil =>
   intro δ σ S r _
   cases ps <;> cases ys <;> exact S
 | cons i is ih =>
   intro δ σ S r hl
   cases r with
   | nil => exact S
   | cons r rr => exact ih ((S.push r).set (hl i adW)) rr (fun j hj => by rw [ae8]; exact hl j (adX _ hj))
end
section
variable {X : Cx} {CL : Str -> Addr} {b : Bx} {δ δ1 : List (Option T)} {ds : List D} {iter tg : Expr} {pos : Pos}
structure Aj (X : Cx) (CL : Str -> Addr) (b : Bx) (δ1 : List (Option T)) (σ : L2.St) (ts : List T) (vs : List V) (Z H : Hp) (ds : List D) (J : It) (H1 : Hp) : Prop where
 ex : ∃ Z1, aG Z Z1 /\ aG H H1 /\ bR X.K CL b H1 Z1 δ1 σ ts vs /\ (∀ i H2, aG Z1 H2 -> i < ds.length -> J.go i H2) ∧
   (∀ i Z2 H2 x H', aG Z1 Z2 -> aG Z2 H2 -> (∀ a o, H2 a = some o -> nF o = true -> Z2 a = some o) -> i < ds.length -> J.RV i H2 x H' -> ∃ Z3 d, ds[i]? = some d /\ wL Z2 H2 Z3 H' /\ bO X.K CL Z3 d x) /\ (∀ H2, aG Z1 H2 -> J.stop ds.length H2)
noncomputable def P7 (X : Cx) (CL : Str -> Addr) (b : Bx) (tg e : Expr) (δ : List (Option T)) (ds : List D) (δ1 : List (Option T)) : Prop :=
 ∃ wi, PI X tg e wi /\ ∀ (H Z : Hp) (σ : L2.St) (ts : List T) (vs : List V) (R : It -> Hp -> Prop), bR X.K CL b H Z δ σ ts vs -> (∀ J H1, Aj X CL b δ1 σ ts vs Z H ds J H1 -> R J H1) -> wi σ H R
theorem LZ (h : PX X CL b tg iter δ ds δ1) : P7 X CL b tg iter δ ds δ1 := by
 obtain ⟨wi, pi, hw⟩ := h
 refine ⟨wi, pi, fun H Z σ ts vs R S k => hw H Z σ ts vs R S fun J H1 zz => ?_⟩
 obtain ⟨Z1, us, z1, k1, S1, rr, go, yl, st⟩ := zz
 refine k J H1 ⟨Z1, z1, k1, S1, go, fun i Z2 H2 x H' s1 s2 tp hi hy => ?_, st⟩
 obtain ⟨e, hu⟩ := yl i H2 x H' (s1.trans s2) hi hy
 subst e
 obtain ⟨d, hd, rd⟩ := rr.Jb hu
 exact ⟨Z2, d, hd, .refl s2 tp, rd.mono s1⟩
noncomputable def Xm (X : Cx) (CL : Str -> Addr) (tg : Expr) (is : List Nat) (parts : D -> Option (List D)) : Prop :=
 ∃ t : TG, PG X tg t /\ ∀ (Z H : Hp) (d : D) (ps : List D) (x : V) (σ : L2.St) (Q : L2.St -> Hp -> Prop), aG Z H -> bO X.K CL Z d x -> parts d = some ps -> (∀ ys, aH X.K CL Z ps ys -> Q (wM σ is ys) H) -> t x σ H Q
noncomputable def part1 (d : D) : Option (List D) := some [d]
noncomputable def part2 : D -> Option (List D)
 | .tup [a, c] => some [a, c]
 | _ => none
theorem Jj {d : D} {ps : List D} (h : part2 d = some ps) : ∃ d1 d2, d = .tup [d1, d2] /\ ps = [d1, d2] := by
 unfold part2 at h
 split at h
 . cases h; exact ⟨_, _, rfl, rfl⟩
 . cases h
theorem EL {K : PySem.W.Frag} {i j : Nat} {Z H : Hp} {d : D} {ps : List D} {x : V} {σ : L2.St} {Q : L2.St -> Hp -> Prop} (zh : aG Z H) (r : bO K CL Z d x) (e : part2 d = some ps) (k : ∀ ys, aH K CL Z ps ys -> Q (wM σ [i, j] ys) H) : Tg K 2 (BP (uK i) (BP (uK j) Tf)) x σ H Q := by
 obtain ⟨d1, d2, rfl, rfl⟩ := Jj e
 cases r with
 | tup hq rr =>
   cases rr with
   | cons r1 rr =>
     cases rr with
     | cons r2 rr =>
       cases rr
       exact ⟨_, _, rfl, aG.Lj zh hq, rfl, _, _, rfl, _, _, rfl, rfl, k _ (.cons r1 (.cons r2 .nil))⟩
theorem L0 {i : Nat} {x : Str} {px : Pos} (hN : X.N.Nodup) (n : Ln X i x) : Xm X CL (.Name x px) [i] part1 :=
 ⟨uK i, rP hN n.hi n.loc n.hf, fun Z H d ps x σ Q zh r e k => by
   cases e
   exact k [x] (.cons r .nil)⟩
theorem Ak {i j k : Nat} {x y : Str} {px py pt : Pos} (hN : X.N.Nodup) (hc : X.calm = true) (n : Ln X i x) (m : Ln X j y) (hs : (assignEach [.Name x px, .Name y py] X.env).map (·.2) = assign (.Name x px) X.env :: (assignEach [.Name y py] X.env).map (·.2) := by rfl) (tP : (assignEach [.Name y py] X.env).map (·.2) = assign (.Name y py) X.env :: (assignEach [] X.env).map (·.2) := by rfl)
   (hn : (assignEach [.Name x px, .Name y py] X.env).length = 2 := by rfl) (O7 : (assignEach [.Name x px, .Name y py] X.env).findIdx? (·.1) = none := by rfl) : Xm X CL (.Tuple [.Name x px, .Name y py] k pt) [i, j] part2 :=
 ⟨Tg X.K 2 (BP (uK i) (BP (uK j) Tf)), Ti hc (BQ (rP hN n.hi n.loc n.hf) (BQ (rP hN m.hi m.loc m.hf) O6 tP) hs) hn O7, fun Z H d ps x σ Q zh r e k => EL zh r e k⟩
theorem P8 {D : cO} {fU : List Stmt} (is : List Nat) (parts : L3.D -> Option (List L3.D)) (P : Nat -> List (Option T) -> Prop) (h : P7 X CL b tg iter δ ds δ1) (ht : Xm X CL tg is parts) (h0 : P 0 δ1) (hl : ∀ j δ, P j δ -> ∀ i ∈ is, i < δ.length)
   (hs : ∀ j d δ, ds[j]? = some d -> P j δ -> ∃ ps, parts d = some ps /\ fD X CL b fU (HL δ is ps) { nx := P (j + 1), rt := D.rt, bk := D.nx, ct := P (j + 1) }) (hd : ∀ δ, P ds.length δ -> D.nx δ)
   (hp : PassesOwn (model X.prog X.w) X.A X.env X.xe) (hc : X.calm = true) (hq : ∀ x, foldedSetIterable iter X.env x = pure x := by intro _; rfl) :
   R4 X CL b (.For tg iter fU [] pos) δ D := fun H Z σ ts vs E S M => by
 obtain ⟨wi, pi, hw⟩ := h
 obtain ⟨t, pg, ht⟩ := ht
 refine wF (K3 hp hc pi pg R0 hq) (hw H Z σ ts vs _ S fun J H1 zz => ?_)
 obtain ⟨Z1, z1, k1, S1, go, yl, st⟩ := zz
 refine ⟨fun j m σ H2 => m = ds.length - j /\ j <= ds.length /\ ∃ Z2 δ2, aG Z1 Z2 /\ bR X.K CL b H2 Z2 δ2 σ ts vs /\ P j δ2, ⟨_, rfl, ael _, Z1, δ1, .refl _, S1, h0⟩, ?_⟩
 rintro j m σ H2 ⟨rfl, hj, Z2, δ2, s, S2, p2⟩
 by_cases yx : j < ds.length
 . refine .inr ⟨go j H2 (s.trans S2.zh) yx, fun σ' H' => ∃ Z2 δ2, aG Z1 Z2 /\ bR X.K CL b H' Z2 δ2 σ' ts vs /\ P (j + 1) δ2, fun σ' H' h => ⟨ds.length - (j + 1), by omega, rfl, yx, h⟩, fun y H' hy => ?_⟩
   obtain ⟨Z3, d, SQ, gr, rd⟩ := yl j Z2 H2 y H' s S2.zh S2.tp yx hy
   obtain ⟨ps, ZU, hb⟩ := hs j d δ2 SQ p2
   have S3 := S2.grow gr
   refine ht Z3 H' d ps y σ _ S3.zh rd ZU fun ys Yz => ?_
   have S4 := S3.sets (is := is) Yz (hl j δ2 p2)
   have s3 := s.trans gr.z
   exact hb _ Z3 _ ts vs _ S4 ⟨fun δ' σ' H' Z' s' S' k => ⟨Z', δ', s3.trans s', S', k⟩, fun t v H' Z' δ' σ' s' S' k => M.rt t v H' Z' δ' σ' (z1.trans (s3.trans s')) S' k, fun δ' σ' H' Z' s' S' k => M.nx δ' σ' H' Z' (z1.trans (s3.trans s')) S' k, fun δ' σ' H' Z' s' S' k => ⟨Z', δ', s3.trans s', S', k⟩⟩
 . have e : j = ds.length := by omega
   subst e
   exact .inl ⟨st H2 (s.trans S2.zh), M.nx δ2 σ H2 Z2 (z1.trans s) S2 (hd δ2 p2)⟩
theorem L1 {D : cO} {body fU : List Stmt} {is : List Nat} {parts : L3.D -> Option (List L3.D)} (g : Gx X) (ht : Xm X CL tg is parts) (P : Nat -> List (Option T) -> Prop) (h : P7 X CL b tg iter δ ds δ1) (h0 : P 0 δ1) (hl : ∀ j δ, P j δ -> ∀ i ∈ is, i < δ.length)
   (hs : ∀ j d δ, ds[j]? = some d -> P j δ -> ∃ ps, parts d = some ps /\ fD X CL b body (HL δ is ps) { nx := P (j + 1), rt := D.rt, bk := fun δ2 => fD X CL b fU δ2 D, ct := P (j + 1) }) (hd : ∀ δ, P ds.length δ -> fD X CL b fU δ D) (hq : ∀ x, foldedSetIterable iter X.env x = pure x := by intro _; rfl) :
   fD X CL b (.For tg iter body [] pos :: fU) δ D :=
 di (P8 (D := { D with nx := fun δ1 => fD X CL b fU δ1 D }) is parts P h ht h0 hl hs hd (by rw [g.xe]; exact PassesOwn.never) g.calm hq)
end
structure mh (X : Cx) (scope : Scope) (xs : List Str) (Nc : List Str) (ix : List Nat) : Prop where
 kind : scope.kind = .function
 Ae : ∀ y ∈ scope.names, y.2 ≠ .cell
 nd : Nc.Nodup
 names : ∀ y ∈ scope.names, y.2 = .local -> scope.names.lookup y.1 = some .local
 own : ∀ x ∈ xs, scope.names.lookup x = some .local
 frees : ∀ y ∈ scope.names, y.2 = .free -> scope.names.lookup y.1 = some .free /\ (X.env.kindOf y.1 = some .cell \/ X.env.kindOf y.1 = some .free)
 hd : Nc = xs ++ ix.filterMap (X.N[·]?)
 Xe : ∀ i ∈ ix, ∃ y, X.N[i]? = some y /\ scope.names.lookup y = some .free
noncomputable def Jk (σ : L2.St) (ix : List Nat) (os : List (Option V)) : L2.St := os ++ ix.map fun i => (σ[i]?).getD none
section
variable {X : Cx} {scope : Scope} {xs : List Str} {Nc : List Str} {ix : List Nat} {pins : List (Addr × Obj)} {σ : L2.St} {H : Hp} {s : Shared}
theorem Ci {fp : List Addr} (sc : mh X scope xs Nc ix) (I : Inv X pins σ H s) (rY : ∀ b ∈ fp, vp X pins H b /\ b < s.heap.objs.size) {h' : Heap} {m : Str -> Option Value} {tk : Nat}
   (hn : h'.Ns s.heap.objs.size m) (hk : ∀ b o, s.heap.get? b = some o -> h'.get? b = some o) :
   Inv (cV X scope Nc s.heap.objs.size s H fp) [] (Jk σ ix (List.replicate xs.length none)) H { s with heap := h', toks := tk } := by
 have frees : ∀ y ∈ scope.names, y.2 = .free -> ∃ c, X.env.cells.lookup y.1 = some c := fun y hy e => I.ok.has y.1 (sc.frees y hy e).2
 have sub : ∀ {y : Str} {c : Addr}, (gu X.env scope.names []).lookup y = some c -> X.env.cells.lookup y = some c := fun {y c} e => qF frees (fun _ _ z => by cases z) e
 have hlen : (Jk σ ix (List.replicate xs.length none)).length = Nc.length := by
   have all : ∀ l : List Nat, (∀ i ∈ l, ∃ y, X.N[i]? = some y /\ scope.names.lookup y = some .free) -> (l.filterMap (X.N[·]?)).length = l.length := by
     intro l
     induction l with
     | nil => intro _; rfl
     | cons i r ih =>
       intro h
       obtain ⟨y, e, _⟩ := h i adW
       rw [aeT, e]
       show _ + 1 = _ + 1
       rw [ih fun j hj => h j (adX _ hj)]
   unfold Jk
   rw [sc.hd, adR, adR, adM, aeV, all ix sc.Xe]
 have C0 : s.heap.get? s.heap.objs.size = none := Heap.get?_none_of_le (adV _)
 refine ⟨⟨I.ok.mod, sc.kind, I.ok.glob, I.ok.blt, adV _, fun y z c h1 h2 => I.ok.inj y z c (sub h1) (sub h2), fun y hy => ?_, fun y c hf _ => (by cases (show false = true from hf)), I.ok.hd, I.ok.frames, .inl rfl, fun b hb => ⟨aeE (rY b hb).2, fun y c e => (rY b hb).1.2.2.2.2.1 y c (sub e)⟩, I.bs, aeA I.ok.OX I.sz, fun b o e hb => ?_, fun b hb hf => ?_, I.stack, I.G7⟩,
   rfl, I.bare, Un.kept hk, ⟨m, hn, fun i y v h1 h2 h3 => ?_⟩, fun y c e => ?_, I.dR.fresh (adV _), fun y c e => I.qq y c (sub e), fun p hp => absurd (show p ∈ ([] : List (Addr × Obj)) from hp) (by simp), I.dR.kept hk, hlen⟩
 . 
   have hy' : (relabel scope X.env).names.lookup y = some .cell \/ (relabel scope X.env).names.lookup y = some .free := hy
   cases e : scope.names.lookup y with
   | none => 
     have := i9 (env := X.env) e
     rcases hy' with q | q <;> (rw [show (relabel scope X.env).names.lookup y = none from this] at q; cases q)
   | some k =>
     have q := eN (env := X.env) e
     have hk : k = .free := by
       by_cases hk : k = .free
       . exact hk
       . have hb : (k == NameKind.free) = false := by simpa using hk
         rw [adT (by rw [hb]; simp)] at q
         have nc : k ≠ .cell := fun z => by
           subst z
           exact sc.Ae _ (aeU e) rfl
         rcases hy' with z | z
         . rw [show (relabel scope X.env).names.lookup y = some k from q] at z
           exact absurd (aeb z) nc
         . rw [show (relabel scope X.env).names.lookup y = some k from q] at z
           exact absurd (aeb z) hk
     subst hk
     exact qG e
 . 
   rcases (rY b hb).1.2.2.2.1 with z | z
   . exact I.ok.KW b o e z
   . exact absurd (aex (aec e) (aeA I.ok.OX z)) (afj _)
 . rcases adN.mp (I.zU b hf) with z | z
   . exact (rY b hb).1.2.1 z
   . exact (rY b hb).1.2.2.1 z
 . 
   unfold Jk at h2
   by_cases hi : i < xs.length
   . rw [List.getElem?_append_left (by rw [aeV]; exact hi), List.getElem?_replicate, ad0 hi] at h2
     cases h2
   . obtain ⟨n, rfl⟩ : ∃ n, i = xs.length + n := ⟨i - xs.length, by omega⟩
     rw [afk (by rw [aeV]; omega), aeV, Nat.add_sub_cancel_left, ad8] at h2
     cases ei : ix[n]? with
     | none => rw [ei] at h2; cases h2
     | some j =>
       rw [ei] at h2
       have YB : (σ[j]?).getD none = some v := aeb h2
       have hj : σ[j]? = some (some v) := by
         cases q : σ[j]? with
         | none => rw [q] at YB; cases YB
         | some o => rw [q] at YB; exact congrArg some YB
       obtain ⟨y', hy1, ZV⟩ := sc.Xe j (ad7 ei)
       have hNc : Nc[xs.length + n]? = some y' := by
         have all : ∀ (l : List Nat) (i : Nat), (∀ j ∈ l, ∃ y, X.N[j]? = some y /\ scope.names.lookup y = some .free) -> l[i]? = some j -> (l.filterMap (X.N[·]?))[i]? = some y' := by
           intro l
           induction l with
           | nil => intro i _ h; simp at h
           | cons a r ih =>
             intro i h hi
             obtain ⟨ya, ea, _⟩ := h a adW
             rw [aeT, ea]
             cases i with
             | zero =>
               simp at hi
               subst hi
               rw [hy1] at ea
               cases ea
               rfl
             | succ i => exact ih i (fun j hj => h j (List.mem_cons_of_mem _ hj)) (by simpa using hi)
         rw [sc.hd, afk (by omega), Nat.add_sub_cancel_left]
         exact all ix n sc.Xe ei
       have ey : y' = y := by
         have h1' : Nc[xs.length + n]? = some y := h1
         rw [hNc] at h1'
         exact aeb h1'
       subst ey
       have Hr := (sc.frees (y', .free) (aeU ZV) rfl).2
       have ZW : VX X.env.scope y' := Hr.elim (fun z => .inr (.inl z)) (fun z => .inr (.inr z))
       obtain ⟨m0, hn0, hl0⟩ := I.loc
       obtain ⟨u, ru, lk⟩ := hl0 j y' v hy1 hj ZW
       refine ⟨u, ru, ?_⟩
       rcases lk with ⟨kk, _⟩ | ⟨_, c, hc, zk⟩
       . rcases Hr with z | z
         . rw [kk] at z; cases z
         . rw [kk] at z; cases z
       . obtain ⟨c', Wh⟩ := qG (env := X.env) (cs := []) ZV
         have : c' = c := by
           have := sub Wh
           rw [hc] at this
           exact (aeb this).symm
         subst this
         obtain ⟨o, ho, hd⟩ := zk
         refine .inr ⟨?_, c', Wh, o, hk _ _ ho, hd⟩
         have q := eN (env := X.env) ZV
         show (relabel scope X.env).names.lookup y' = some .cell \/ (relabel scope X.env).names.lookup y' = some .free
         rw [show (relabel scope X.env).names.lookup y' = _ from q]
         split
         . exact .inl rfl
         . exact .inr rfl
 . obtain ⟨v, o, ho, hd⟩ := I.cell y c (sub e)
   exact ⟨v, o, hk _ _ ho, hd⟩
noncomputable def L4 (X : Cx) (tg elt : Expr) (ifs : List Expr) (n : Nat) (σ : L2.St) (ix : List Nat) (D : Addr) (N : Hp -> Prop) (xv : V) (os : List (Option V)) (H3 : Hp) : Prop :=
 ∃ t : TG, PG X tg t /\ t xv (Jk σ ix os) H3 fun σ8 H4 => ∃ V1, V1.length = n /\ σ8 = Jk σ ix V1 /\ Ut X ifs σ8 H4 fun ok H5 =>
   if ok = true then Lk X elt σ8 H5 fun y H6 => ∃ acc, H6 D = some (.lst acc) /\ acc.length < sizeLine /\ N (upd H6 D (.lst (acc ++ [y]))) else N H5
theorem ER {elt iter tg : Expr} {pos : Pos} {ifs : List Expr} {J : It} {fp : List Addr} {it : Addr} {tn : Nat -> Heap -> Prop} {G : Addr -> Hp -> Prop} {RR : Value -> Addr -> Result -> Shared -> Prop} {E : Value -> Shared -> Prop}
   (sc : mh X scope xs Nc ix) (hc : X.calm = true) (I : Inv X pins σ H s) (Tn : Turn X.prog X.w X.K tg J fp it tn) (st : tn 0 s.heap) (hf : ∀ b ∈ fp, vp X pins H b)
   (loop : ∀ D, H D = none -> ∃ W : Nat -> Nat -> Hp -> Prop, (∃ m, W 0 m (upd H D (.lst []))) /\ ∀ i m H2, W i m H2 -> (J.stop i H2 /\ G D H2) ∨
     (J.go i H2 /\ ∃ N : Hp -> Prop, (∀ H', N H' -> ∃ m', m' < m /\ W (i + 1) m' H') /\ ∀ xv H3, J.RV i H2 xv H3 -> ∀ C s0 H0 f0 os, os.length = xs.length -> L4 (cV X scope Nc C s0 H0 f0) tg elt ifs xs.length σ ix D N xv os H3))
   (ZX : ∀ D C s' H', (∃ m, s'.heap.Ns C m) -> (∃ o, s'.heap.get? C = some o /\ ∀ v, o.data ≠ .cell v) -> H' C = none -> (C ≠ X.env.locals /\ C ∉ X.fs /\ X.s₀.heap.objs.size <= C /\ (∀ y c, X.env.cells.lookup y = some c -> c ≠ C) /\ ∀ q ∈ X.pn ++ pins, q.1 ≠ C) -> (∀ h', Heap.SameBut C s'.heap h' -> Inv X pins σ H' { s' with heap := h' }) -> G D H' -> RR (.ref D) C (.ok .next) s') :
   wpAny (model X.prog X.w) X.A (newList []) (fun acc s₃ => wpAny (model X.prog X.w) X.A (newFunctionEnv scope X.env.globals (gu X.env scope.names []) [] X.env.qual none .none (some X.env)) (fun L5 s₄ =>
     codeAny (model X.prog X.w) X.A (.compStart (.ListComp elt [⟨tg, iter, ifs, 0⟩] scope pos) 0 (.ref it) acc { L5 with scope := relabel scope X.env }) (RR acc L5.locals) s₄) E s₃) E s := by
 refine afc ?_
 have I3 : Inv X pins σ (upd H s.heap.objs.size (.lst [])) { s with heap := s.heap.push { cls := .type "list", dict := none, data := .seq ([] : List Value).toArray } } :=
   I.laid (t' := s.toks) (fun b u e => aee _ e) (adV _) ⟨by show 0 <= sizeLine; exact ael _, [], 0, .nil, aeG _ rfl⟩
 have hD : H s.heap.objs.size = none := I.dR.fresh (adV _)
 obtain ⟨W, ⟨m0, w0⟩, turn⟩ := loop _ hD
 have L6 : ∀ b ∈ fp, vp X pins (upd H s.heap.objs.size (.lst [])) b /\ b < (s.heap.push { cls := .type "list", dict := none, data := .seq ([] : List Value).toArray }).objs.size := fun b hb => by
   obtain ⟨f0, f1⟩ := hf b hb
   obtain ⟨o, ho, _⟩ := Tn.obj 0 _ st b hb
   have yx := aec ho
   refine ⟨⟨by rw [aA (aeE yx)]; exact f0, f1⟩, ?_⟩
   rw [Heap.size_push]; exact Nat.lt_succ_of_lt yx
 have Wv : tn 0 (s.heap.push { cls := .type "list", dict := none, data := .seq ([] : List Value).toArray }) := Tn.keep 0 _ _ st fun b _ o e => aee _ e
 generalize ZY : ({ s with heap := s.heap.push { cls := .type "list", dict := none, data := .seq ([] : List Value).toArray } } : Shared) = s3 at I3 ⊢
 have UH : s3.heap = s.heap.push { cls := .type "list", dict := none, data := .seq ([] : List Value).toArray } := by rw [← ZY]
 rw [← UH] at L6 Wv
 refine wpAny_newFunctionEnv sc.Ae (by intro y hy; simp at hy) (fun h₁ UI UJ => ?_) sc.kind
 have old : ∀ b o, s3.heap.get? b = some o -> h₁.get? b = some o := fun b o e => (UJ.2 b (aeE (aec e))).trans (aee _ e)
 have J0 := Ci (tk := s3.toks + ([] : List (Str × Value)).length) sc I3 L6 UI old
 have st4 : tn 0 h₁ := Tn.keep 0 _ _ Wv fun b _ o e => old b o e
 have Se : ∀ s4 : Shared, s4 = { s3 with heap := h₁, toks := s3.toks + ([] : List (Str × Value)).length } -> codeAny (model X.prog X.w) X.A (.compLoop (.ListComp elt [⟨tg, iter, ifs, 0⟩] scope pos) 0 (.ref it) (.ref s.heap.objs.size) (compEnvC scope (gu X.env scope.names []) s3.heap.objs.size X.env)) (RR (.ref s.heap.objs.size) s3.heap.objs.size) s4 := by
   rintro s4 rfl
   have stat : ∀ {H' : Hp}, (∀ b ∈ fp, H' b = none) -> ∀ b ∈ fp, vp (cV X scope Nc s3.heap.objs.size s3 (upd H s.heap.objs.size (.lst [])) fp) [] H' b := fun {H'} hn b hb => by
     obtain ⟨⟨f0, f1, f2, f3, f4, f5⟩, yx⟩ := L6 b hb
     refine ⟨hn b hb, aeE yx, fun z => ?_, .inl hb, fun y c e => f4 y c (qF (fun y hy e => I.ok.has y.1 (sc.frees y hy e).2) (fun _ _ z => by cases z) e), fun p hp => absurd (show p ∈ ([] : List (Addr × Obj)) from hp) (by simp)⟩
     rcases adN.mp (I3.zU b z) with q | q
     . exact f1 q
     . exact f2 q
   refine Ad (fun n s' => ∃ i o H', o.length = xs.length /\ Inv (cV X scope Nc s3.heap.objs.size s3 (upd H s.heap.objs.size (.lst [])) fp) [] (Jk σ ix o) H' s' /\ tn i s'.heap /\ (∀ b ∈ fp, H' b = none) /\ W i n H') ?_ m0 ⟨0, _, _, aeV, J0, st4, fun b hb => (L6 b hb).1.1, w0⟩
   rintro n s5 ⟨i, o5, H5, ol5, I5, VZ, Yq, w5⟩
   rcases turn i n H5 w5 with ⟨stop, g⟩ | ⟨go, N, hN, step⟩
   . refine eL (Tn.done (cV X scope Nc s3.heap.objs.size s3 (upd H s.heap.objs.size (.lst [])) fp) rfl rfl rfl hc i [] s5 _ H5 _ I5 (stat Yq) VZ stop) fun r s6 zz => ?_
     obtain ⟨hr, I6⟩ := zz
     subst hr
     obtain ⟨m6, hn6, _⟩ := I6.loc
     obtain ⟨oc, esc, epc, Yl, hdc, _⟩ := id hn6
     have YC := I3.yz (adV s3.heap.objs.size) (H' := fun _ => none) rfl
     refine ZX _ _ s6 H5 ⟨m6, hn6⟩ ⟨oc, Yl, fun v z => by rw [hdc] at z; cases z⟩ I6.free ⟨YC.2.1, YC.2.2.1, ?_, YC.2.2.2.2.1, YC.2.2.2.2.2⟩ (fun h' Xn => Jd I3 (fun b hb => (L6 b hb).1) I6 Xn) g
     exact I3.sz
   . refine eL (Tn.item (cV X scope Nc s3.heap.objs.size s3 (upd H s.heap.objs.size (.lst [])) fp) rfl rfl rfl hc i [] s5 _ H5 _ I5 (stat Yq) VZ go) fun r s6 zz => ?_
     obtain ⟨u, hr, h6⟩ := zz
     subst hr
     refine eL h6 fun _ s7 zz => ?_
     obtain ⟨xv, H7, I7, r7, y7, ZZ, fr7⟩ := zz
     have I7' := I7.pinned (stat fr7) (Tn.obj _ _ ZZ)
     obtain ⟨t, hg, ht⟩ := step xv _ y7 s3.heap.objs.size s3 (upd H s.heap.objs.size (.lst [])) fp o5 ol5
     refine eL (hg _ s7 _ H7 xv u _ I7' r7 ht) fun _ s8 zz => ?_
     obtain ⟨σ8, H8, I8, os8, ol8, e8, h8⟩ := zz
     subst e8
     refine eL (LC I8 h8 rfl) fun ok s9 zz => ?_
     obtain ⟨H9, I9, q9⟩ := zz
     have again : ∀ {Ha : Hp} {sa : Shared}, Inv (cV X scope Nc s3.heap.objs.size s3 (upd H s.heap.objs.size (.lst [])) fp) ([] ++ wA fp s7.heap) (Jk σ ix os8) Ha sa -> N Ha -> ∃ m, m < n /\ ∃ i o H', o.length = xs.length /\ Inv (cV X scope Nc s3.heap.objs.size s3 (upd H s.heap.objs.size (.lst [])) fp) [] (Jk σ ix o) H' sa /\ tn i sa.heap /\ (∀ b ∈ fp, H' b = none) /\ W i m H' := fun {Ha sa} Ia na => by
       obtain ⟨m', hm, wa⟩ := hN Ha na
       refine ⟨m', hm, i + 1, os8, Ha, ol8, Ia.rQ, Tn.keep _ _ _ ZZ fun b hb o e => (Ia.pin (b, o) (adP _ (adP _ (lW hb e)))).1, fun b hb => ?_, wa⟩
       obtain ⟨o, e, d⟩ := Tn.obj _ _ ZZ b hb
       exact (Ia.pin (b, o) (adP _ (adP _ (lW hb e)))).2.1
     cases ok with
     | false =>
       rw [adT ad5] at q9 ⊢
       exact again I9 q9
     | true =>
       rw [ad0 rfl] at q9 ⊢
       refine eL (q9 _ s9 I9) fun v sa zz => ?_
       obtain ⟨y, Ha, Ia, ra, acc, Z0, hlen, na⟩ := zz
       refine eL (tU (X := cV X scope Nc s3.heap.objs.size s3 (upd H s.heap.objs.size (.lst [])) fp) _ sa _ Ha (.ref s.heap.objs.size) [y] (.ref s.heap.objs.size) [v] (fun _ Hb => Hb = upd Ha s.heap.objs.size (.lst (acc ++ [y]))) Ia rfl (.cons ra .nil) ⟨_, acc, y, rfl, rfl, Z0, hlen, rfl⟩) fun _ sb zz => ?_
       obtain ⟨_, Hb, Ib, _, eb⟩ := zz
       subst eb
       exact again Ib na
 exact codeAny_compStart_list (Se _ rfl) (Tn.self _ 0 _ _ _ st4 (Se _ rfl))
end
noncomputable def Jl (ps : List D) : List (Option T) := ps.map fun p => some (.sh p)
theorem zB : ∀ {ys : List V} {os : List (Option V)} {pre r : L2.St}, os.length = ys.length -> wM (pre ++ (os ++ r)) (List.range' pre.length ys.length) ys = pre ++ (ys.map some ++ r)
 | [], os, pre, r, h => by
   have : os = [] := List.length_eq_zero_iff.mp h
   subst this
   rfl
 | y :: ys, os, pre, r, h => by
   match os, h with
   | o :: os, h =>
     show wM ((pre ++ (o :: (os ++ r))).set pre.length (some y)) (List.range' (pre.length + 1) ys.length) ys = _
     rw [List.set_append_right _ _ (adV _), Nat.sub_self, List.set_cons_zero]
     have := zB (ys := ys) (os := os) (pre := pre ++ [some y]) (r := r) (by simpa using h)
     simp only [adR, aeo, List.length_nil, adO, List.singleton_append] at this
     rw [this]
     simp
theorem P9 {K : PySem.W.Frag} {CL : Str -> Addr} {H Z : Hp} : ∀ {ps : List D} {ys : List V} {δc : List (Option T)} {σc : L2.St}, aH K CL Z ps ys -> fB K CL H Z δc σc [] -> fB K CL H Z (Jl ps ++ δc) (ys.map some ++ σc) [] := fun {ps ys δc σc} h e =>
 aH.ind (P := fun ps ys => fB K CL H Z (Jl ps ++ δc) (ys.map some ++ σc) []) e (fun r _ i => .cons (fp := []) (gp := []) (.sh r) i) h
section
variable {X : Cx} {CL : Str -> Addr} {b : Bx} {H Z W1 : Hp} {δ δc : List (Option T)} {σ : L2.St} {ts : List T} {vs : List V} {ds : List D} {scope : Scope} {Nc : List Str} {n : Nat} {ix : List Nat} {elt tg : Expr} {ifs : List Expr} {p : D -> Bool} {g : D -> T} {J : It} {parts : D -> Option (List D)}
noncomputable def tY (X : Cx) (CL : Str -> Addr) (scope : Scope) (Nc : List Str) (n : Nat) (tg : Expr) (parts : D -> Option (List D)) (ifs : List Expr) (elt : Expr) (δc : List (Option T)) (ds : List D) (p : D -> Bool) (g : D -> T) : Prop :=
 ∀ C s0 H0 f0 b', Xm (cV X scope Nc C s0 H0 f0) CL tg (List.range' 0 n) parts /\ ∀ d, d ∈ ds -> ∃ ps, parts d = some ps /\ ps.length = n /\ Yy (cV X scope Nc C s0 H0 f0) CL b' ifs (Jl ps ++ δc) (p d) /\ (p d = true -> bQ (cV X scope Nc C s0 H0 f0) CL b' elt (Jl ps ++ δc) (g d) (Jl ps ++ δc))
structure GW (K : PySem.W.Frag) (CL : Str -> Addr) (H W1 : Hp) (D : Addr) (l : List T) (k : Nat) (H2 Z2 : Hp) (El : List V) (fp : List Addr) : Prop where
 a1 : aG H H2
 a2 : aG W1 Z2
 a3 : aG Z2 H2
 a4 : Z2 D = none
 a5 : ∀ a o, Z2 a = some o -> W1 a = none -> H a = none
 a6 : ∀ a o, H2 a = some o -> nF o = true -> Z2 a = some o
 a7 : H2 D = some (.lst El)
 a8 : aR K CL H2 Z2 l El fp
 a9 : fp.Nodup
 b1 : D ∉ fp
 b2 : ∀ a ∈ fp, Z2 a = none /\ H a = none
 b3 : El.length <= k
theorem wN (S : bR X.K CL b H Z δ σ ts vs) (zw : aG Z W1) (wh : aG W1 H) (tp : ∀ a o, H a = some o -> nF o = true -> W1 a = some o)
   (cap : ∀ H', fB X.K CL H' W1 δc (ix.map fun i => (σ[i]?).getD none) []) (inner : tY X CL scope Nc n tg parts ifs elt δc ds p g)
   (Z6 : ∀ i H2, aG W1 H2 -> i < ds.length -> J.go i H2)
   (hy : ∀ i Z2 H2 x H', aG W1 Z2 -> aG Z2 H2 -> (∀ a o, H2 a = some o -> nF o = true -> Z2 a = some o) -> i < ds.length -> J.RV i H2 x H' -> ∃ Z3 d, ds[i]? = some d /\ wL Z2 H2 Z3 H' /\ bO X.K CL Z3 d x)
   (O7 : ∀ H2, aG W1 H2 -> J.stop ds.length H2) (hlen : ds.length <= sizeLine) (c : W1 = Z \/ ∀ d ∈ ds, (g d).clean = true) :
   ∀ D, H D = none -> ∃ W : Nat -> Nat -> Hp -> Prop, (∃ m, W 0 m (upd H D (.lst []))) /\ ∀ i m H2, W i m H2 -> (J.stop i H2 /\ ∃ Z2, aG Z Z2 /\ aG H H2 /\ bR X.K CL b H2 Z2 δ σ (.lst ((ds.filter p).map g) :: ts) (.ref D :: vs)) ∨
     (J.go i H2 /\ ∃ N : Hp -> Prop, (∀ H', N H' -> ∃ m', m' < m /\ W (i + 1) m' H') /\ ∀ xv H3, J.RV i H2 xv H3 -> ∀ C s0 H0 f0 os, os.length = n -> L4 (cV X scope Nc C s0 H0 f0) tg elt ifs n σ ix D N xv os H3) := by
 intro D hD
 have wD : W1 D = none := wh.free hD
 refine ⟨fun i m H2 => m = ds.length - i /\ i <= ds.length /\ ∃ Z2 El fp, GW X.K CL H W1 D (((ds.take i).filter p).map g) i H2 Z2 El fp, ⟨ds.length, rfl, ael _, W1, [], [], aG.upd hD, .refl _, wh.trans (aG.upd hD), wD, fun a o q z => ?_, fun a o q i => ?_, aX, .nil, List.nodup_nil, by simp, by simp, by simp⟩, ?_⟩
 . rw [q] at z; cases z
 . by_cases ha : a = D
   . subst ha; rw [aX] at q; cases q; cases i
   . rw [aA ha] at q; exact tp a o q i
 . rintro i m H2 ⟨rfl, hi, Z2, El, fp, hh, wz, zh, zD, nw, Z7, YD, ra, nd, nD, own, hav⟩
   by_cases yx : i < ds.length
   . refine .inr ⟨Z6 i H2 (wz.trans zh) yx, fun H' => ∃ Z2 El fp, GW X.K CL H W1 D (((ds.take (i + 1)).filter p).map g) (i + 1) H' Z2 El fp, fun H' h => ⟨ds.length - (i + 1), by omega, rfl, yx, h⟩, fun xv H3 y C s0 H0 f0 os T4 => ?_⟩
     obtain ⟨Z3, d, hd, gr, rd⟩ := hy i Z2 H2 xv H3 wz zh Z7 yx y
     have UK : ∀ a, Z2 a = none -> (∃ o, H2 a = some o) -> Z3 a = none := fun a e ⟨o, e2⟩ => by
       cases q : Z3 a with
       | none => rfl
       | some u => rw [gr.new a u q e] at e2; cases e2
     have nw3 : ∀ a o, Z3 a = some o -> W1 a = none -> H a = none := fun a o q z => by
       cases e : Z2 a with
       | none => exact hh.free (gr.new a o q e)
       | some u =>
         have := gr.z a u e
         rw [q] at this; cases this
         exact nw a o e z
     have UL : aR X.K CL H3 Z3 (((ds.take i).filter p).map g) El fp := ra.mono gr.z fun a ha => by
       obtain ⟨o, e⟩ := ra.there a ha
       rw [e]; exact gr.h a o e
     have YF : ∀ a ∈ fp, Z3 a = none /\ H a = none := fun a ha => ⟨UK a (own a ha).1 (ra.there a ha), (own a ha).2⟩
     have Z8 : Z3 D = none := UK D zD ⟨_, YD⟩
     have Sf : H3 D = some (.lst El) := gr.h D _ YD
     have UH := hh.trans gr.h
     have YG := wz.trans gr.z
     have zh3 := gr.zh
     have tp3 := gr.tp
     clear own nw ra zD YD hh wz zh Z7 gr UK
     have Z9 : d ∈ ds := ad7 hd
     have htk : ds.take (i + 1) = ds.take i ++ [d] := by rw [List.take_add_one, hd]; rfl
     obtain ⟨tgt, inn⟩ := inner C s0 H0 f0 ⟨H3, Z3⟩
     obtain ⟨ps, ZU, hpl, it, ie⟩ := inn d Z9
     obtain ⟨t, pg, ht⟩ := tgt
     refine ⟨t, pg, ht Z3 H3 d ps xv _ _ zh3 rd ZU fun ys Yz => ?_⟩
     have hyl : ys.length = n := by rw [← Yz.length]; exact hpl
     have es : wM (Jk σ ix os) (List.range' 0 n) ys = Jk σ ix (ys.map some) := by
       have := zB (ys := ys) (os := os) (pre := []) (r := ix.map fun i => (σ[i]?).getD none) (by rw [T4, hyl])
       rw [hyl] at this
       exact this
     refine ⟨ys.map some, by rw [adM]; exact hyl, es, ?_⟩
     rw [es]
     have S0 : bR X.K CL ⟨H3, Z3⟩ H3 Z3 (Jl ps ++ δc) (Jk σ ix (ys.map some)) [] [] :=
       ⟨⟨[], [], P9 Yz ((cap H3).mono YG fun a ha => by cases ha), .nil, List.nodup_nil, fun a ha => by cases ha⟩, .refl _, .refl _, zh3, fun a o q z => (by have z' : Z3 a = none := z; rw [show Z3 a = some o from q] at z'; cases z'), tp3, (S.Ug.mono zw).mono YG⟩
     refine it.sem S0 fun H4 Z4 z4 k4 S4 => ?_
     have aad : ∀ a ∈ fp, H4 a = H3 a := fun a ha => by
       obtain ⟨o, e⟩ := UL.there a ha
       rw [e]; exact k4 a o e
     have L7 : ∀ a, Z3 a = none -> (∃ o, H3 a = some o) -> Z4 a = none := fun a e ⟨o, e2⟩ => by
       cases q : Z4 a with
       | none => rfl
       | some u =>
         have := S4.new a u q e
         rw [show H3 a = none from this] at e2; cases e2
     cases hp : p d with
     | false =>
       refine I0 ⟨Z4, El, fp, UH.trans k4, YG.trans z4, S4.zh, L7 D Z8 ⟨_, Sf⟩, fun a o q z => ?_, S4.tp, k4 D _ Sf, ?_, nd, nD, fun a ha => ⟨L7 a (YF a ha).1 (UL.there a ha), (YF a ha).2⟩, by omega⟩
       . cases e : Z3 a with
         | none => exact UH.free (S4.new a o q e)
         | some u => 
           have := z4 a u e
           rw [q] at this; cases this
           exact nw3 a o e z
       . rw [htk, List.filter_append, List.filter_cons_of_neg (by simp [hp]), List.filter_nil, aef]
         exact UL.mono z4 aad
     | true =>
       refine Ja ((ie hp) H4 Z4 (Jk σ ix (ys.map some)) [] [] _ S4 fun yv H5 Z5 z5 k5 S5 => ⟨El, k5 D _ (k4 D _ Sf), by omega, ?_⟩)
       obtain ⟨f1, g1, e1, r1, W8, Xo⟩ := S5.rep
       cases r1 with
       | @cons _ _ _ _ fy fn ry rn =>
         cases rn
         rw [aef] at W8 Xo
         have ndy : fy.Nodup := (aeJ.mp W8).2.1
         have Qa : ∀ a ∈ fy, Z5 a = none /\ H3 a = none := fun a ha => Xo a (adP _ ha)
         have EV : ∀ a, Z3 a = none -> (∃ o, H3 a = some o) -> Z5 a = none := fun a e ⟨o, e2⟩ => by
           cases q : Z5 a with
           | none => rfl
           | some u =>
             have := S5.new a u q e
             rw [show H3 a = none from this] at e2; cases e2
         have yD : ∀ a ∈ fy, a ≠ D := fun a ha e => by
           subst e
           rw [(Qa a ha).2] at Sf; cases Sf
         have h5D : H5 D = some (.lst El) := k5 D _ (k4 D _ Sf)
         have sD : aG H (upd H5 D (.lst (El ++ [yv]))) := fun a o q => by
           rw [aA (bF q hD)]
           exact k5 a o (k4 a o (UH a o q))
         refine ⟨Z5, El ++ [yv], fp ++ fy, sD, YG.trans (z4.trans z5), fun a o q => ?_, EV D Z8 ⟨_, Sf⟩, fun a o q z => ?_, fun a o q im => ?_, aX, ?_, ?_, ?_, fun a ha => ?_, ?_⟩
         . rw [aA (bF q (EV D Z8 ⟨_, Sf⟩))]; exact S5.zh a o q
         . cases e : Z3 a with
           | none => exact UH.free (S5.new a o q e)
           | some u =>
             have := z5 a u (z4 a u e)
             rw [q] at this; cases this
             exact nw3 a o e z
         . by_cases ha : a = D
           . subst ha; rw [aX] at q; cases q; cases im
           . rw [aA ha] at q; exact S5.tp a o q im
         . rw [htk, List.filter_append, List.filter_cons_of_pos hp, List.filter_nil, adU]
           refine aR.app (UL.mono (z4.trans z5) fun a ha => ?_) (by
             have := aR.cons (fp := fy) (gp := []) (ry.mono (.refl _) fun a ha => aA (yD a ha)) (aR.nil (H := upd H5 D (.lst (El ++ [yv]))) (Z := Z5))
             rwa [aef] at this)
           have : a ≠ D := fun e => nD (e ▸ ha)
           rw [aA this]
           obtain ⟨o, e⟩ := UL.there a ha
           rw [e]; exact k5 a o (k4 a o e)
         . refine aeJ.mpr ⟨nd, ndy, fun a ha a' Lq e => ?_⟩
           subst e
           obtain ⟨o, e⟩ := UL.there a ha
           rw [(Qa a Lq).2] at e; cases e
         . intro h
           rcases adZ.mp h with h | h
           . exact nD h
           . exact yD D h rfl
         . rcases adZ.mp ha with h | h
           . exact ⟨EV a (YF a h).1 (UL.there a h), (YF a h).2⟩
           . exact ⟨(Qa a h).1, UH.free (Qa a h).2⟩
         . rw [adR, ad9]; omega
   . have e : i = ds.length := by omega
     subst e
     refine .inl ⟨O7 H2 (wz.trans zh), ?_⟩
     rw [aeM] at ra
     obtain ⟨Z', z', S'⟩ := S.back (H' := H2) (W := W1) (W' := Z2) (t := .lst ((ds.filter p).map g)) (v := .ref D) (fp := D :: fp) hh zw wz zh nw Z7 (.lst YD ra) (aeS.mpr ⟨nD, nd⟩) (fun a ha => by
       rcases adN.mp ha with h | h
       . subst h; exact ⟨zD, hD⟩
       . exact own a h) (c.imp id fun c => by
         rw [gk]
         exact wJ fun d hd => c d (ae7.mp hd).1)
     exact ⟨Z', z', hh, S'⟩
end
section
variable {X : Cx} {CL : Str -> Addr} {b : Bx} {δ δ1 : List (Option T)} {scope : Scope} {xs : List Str} {Nc : List Str} {ix : List Nat} {elt iter tg : Expr} {ifs : List Expr} {pos : Pos} {ds : List D} {p : D -> Bool} {g : D -> T} {δc : List (Option T)} {parts : D -> Option (List D)}
theorem zC {J : It} {fp : List Addr} {it : Addr} {tn : Nat -> Heap -> Prop} {pins : List (Addr × Obj)} {σ : L2.St} {H H1 Z : Hp} {s : Shared} {ts : List T} {vs : List V} {RR : Value -> Addr -> Result -> Shared -> Prop} {E : Value -> Shared -> Prop}
   (sc : mh X scope xs Nc ix) (hc : X.calm = true) (C : Aj X CL b δ1 σ ts vs Z H ds J H1) (I : L2.Inv X pins σ H1 s) (Tn : Turn X.prog X.w X.K tg J fp it tn) (st : tn 0 s.heap) (hf : ∀ b ∈ fp, vp X pins H1 b)
   (hb : (δc = B4 δ1 ix /\ ∀ d ∈ ds, (g d).clean = true) \/ δc = B5 δ1 ix) (inner : tY X CL scope Nc xs.length tg parts ifs elt δc ds p g) (hlen : ds.length <= sizeLine)
   (ZX : ∀ D C s' H' Z', (∃ m, s'.heap.Ns C m) -> (∃ o, s'.heap.get? C = some o /\ ∀ v, o.data ≠ .cell v) -> H' C = none -> (C ≠ X.env.locals /\ C ∉ X.fs /\ X.s₀.heap.objs.size <= C /\ (∀ y c, X.env.cells.lookup y = some c -> c ≠ C) /\ ∀ q ∈ X.pn ++ pins, q.1 ≠ C) -> (∀ h', Heap.SameBut C s'.heap h' -> L2.Inv X pins σ H' { s' with heap := h' }) -> aG Z Z' -> aG H H' -> bR X.K CL b H' Z' δ1 σ (.lst ((ds.filter p).map g) :: ts) (.ref D :: vs) -> RR (.ref D) C (.ok .next) s') :
   wpAny (model X.prog X.w) X.A (newList []) (fun acc s₃ => wpAny (model X.prog X.w) X.A (newFunctionEnv scope X.env.globals (gu X.env scope.names []) [] X.env.qual none .none (some X.env)) (fun L5 s₄ =>
     codeAny (model X.prog X.w) X.A (.compStart (.ListComp elt [⟨tg, iter, ifs, 0⟩] scope pos) 0 (.ref it) acc { L5 with scope := relabel scope X.env }) (RR acc L5.locals) s₄) E s₃) E s := by
 obtain ⟨Z1, z1, k1, S1, go, yl, stp⟩ := C.ex
 have lp : ∀ D, H1 D = none -> ∃ W : Nat -> Nat -> Hp -> Prop, (∃ m, W 0 m (upd H1 D (.lst []))) /\ ∀ i m H2, W i m H2 -> (J.stop i H2 /\ ∃ Z2, aG Z1 Z2 /\ aG H1 H2 /\ bR X.K CL b H2 Z2 δ1 σ (.lst ((ds.filter p).map g) :: ts) (.ref D :: vs)) ∨
     (J.go i H2 /\ ∃ N : Hp -> Prop, (∀ H', N H' -> ∃ m', m' < m /\ W (i + 1) m' H') /\ ∀ xv H3, J.RV i H2 xv H3 -> ∀ C s0 H0 f0 os, os.length = xs.length -> L4 (cV X scope Nc C s0 H0 f0) tg elt ifs xs.length σ ix D N xv os H3) := by
   rcases hb with ⟨e, cl⟩ | e
   . subst e
     exact wN (W1 := H1) S1 S1.zh (.refl _) (fun _ _ q _ => q) (B6 S1 ix) inner (fun i H2 s => go i H2 (S1.zh.trans s)) (fun i Z2 H2 y H' s => yl i Z2 H2 y H' (S1.zh.trans s)) (fun H2 s => stp H2 (S1.zh.trans s)) hlen (.inr cl)
   . subst e
     exact wN (W1 := Z1) S1 (.refl _) S1.zh S1.tp (B7 S1 ix) inner go yl stp hlen (.inl rfl)
 exact ER sc hc I Tn st hf lp fun D C s' H' m io nC ch ci ⟨Z', z', k', S'⟩ => ZX D C s' H' Z' m io nC ch ci (z1.trans z') (k1.trans k') S'
theorem uU (sc : mh X scope xs Nc ix) {pins : List (Addr × Obj)} {σ : L2.St} {H : Hp} {s : Shared} (I : L2.Inv X pins σ H s) : closureFor scope X.env = pure (gu X.env scope.names []) :=
 yG fun y hy e => I.ok.has y.1 (sc.frees y hy e).2
theorem Cj (sc : mh X scope xs Nc ix) (hc : X.calm = true) (h : P7 X CL b tg iter δ ds δ1) (hb : (δc = B4 δ1 ix /\ ∀ d ∈ ds, (g d).clean = true) \/ δc = B5 δ1 ix) (inner : tY X CL scope Nc xs.length tg parts ifs elt δc ds p g) (hlen : ds.length <= sizeLine)
   (hs : ∀ x, foldedSetIterable iter X.env x = pure x := by intro _; rfl) : bQ X CL b (.ListComp elt [⟨tg, iter, ifs, 0⟩] scope pos) δ (.lst ((ds.filter p).map g)) δ1 := fun H Z σ ts vs Q S k pins s I => by
 obtain ⟨wi, pi, hw⟩ := h
 rw [eval_ListComp]
 refine wpAny_comprehension_free (use := none) rfl hs (uU sc I) sc.kind sc.names ?_
 refine eL (pi pins s σ H _ I (hw H Z σ ts vs (fun J H1 => Aj X CL b δ1 σ ts vs Z H ds J H1) S fun J H1 C => C)) fun v s1 h1 => eL h1 fun Yo s2 zz => ?_
 obtain ⟨it, fp, tn, J, H1, e, I1, Tn, st, hf, C⟩ := zz
 subst e
 refine zC (RR := fun acc C => compPost (model X.prog X.w) X.A X.xe none (EP X pins σ Q) acc C) sc hc C I1 Tn st hf hb inner hlen fun D C' s' H' Z' m io nC ch ci z' k' S' => ?_
 obtain ⟨m, hn⟩ := m
 exact ⟨m, hn, fun h' Xn => ⟨.ref D, H', ci h' Xn, rfl, k _ H' Z' z' k' S'⟩⟩
theorem Qc {D : cO} {y : Str} {py Xp : Pos} (i : Nat) (sc : mh X scope xs Nc ix) (hc : X.calm = true) (h : P7 X CL b tg iter δ ds δ1) (hb : (δc = B4 δ1 ix /\ ∀ d ∈ ds, (g d).clean = true) \/ δc = B5 δ1 ix) (inner : tY X CL scope Nc xs.length tg parts ifs elt δc ds p g) (hlen : ds.length <= sizeLine)
   (k : D.nx (δ1.set i (some (.lst ((ds.filter p).map g))))) (hl : i < δ1.length) (hN : X.N.Nodup) (hi : X.N[i]? = some y) (hx : Loc X.env.scope y) (hf' : X.fn y = true \/ X.env.scope.names.lookup y = some .local)
   (B3 : swapsWith (.ListComp elt [⟨tg, iter, ifs, 0⟩] scope pos) (some (.Name y py)) Xp.line X.env = pure true)
   (hs : ∀ x, foldedSetIterable iter X.env x = pure x := by intro _; rfl) : R4 X CL b (.Assign [.Name y py] (.ListComp elt [⟨tg, iter, ifs, 0⟩] scope pos) Xp) δ D := fun H Z σ ts vs E S M pins s I => by
 obtain ⟨wi, pi, hw⟩ := h
 rw [exec_Assign_Name_used _ _ _ _ B3]
 refine aea (wpAny_standAt (aea ?_))
 show wpAny _ X.A (do let _ ← comprehension (.ListComp elt [⟨tg, iter, ifs, 0⟩] scope pos) scope X.env _ (newList []) false (eval iter X.env) (some (assign (.Name y py) X.env))) _ _ s
 refine aea (ae1 (wpAny_comprehension_free (use := some (assign (.Name y py) X.env)) (Q := fun _ s' => SP X pins E .next s') rfl hs (uU sc I) sc.kind sc.names ?_) (fun _ s' hq => aer (aer hq)) fun _ _ e => e)
 refine eL (pi pins s σ H _ I (hw H Z σ ts vs (fun J H1 => Aj X CL b δ1 σ ts vs Z H ds J H1) S fun J H1 C => C)) fun v s1 h1 => eL h1 fun Yo s2 zz => ?_
 obtain ⟨it, fp, tn, J, H1, e, I1, Tn, st, hf, C⟩ := zz
 subst e
 refine zC (RR := fun acc C => compPost (model X.prog X.w) X.A X.xe (some (assign (.Name y py) X.env)) (fun _ s' => SP X pins E .next s') acc C) sc hc C I1 Tn st hf hb inner hlen fun D' C' s' H' Z' m io nC ch ci z' k' S' => ?_
 obtain ⟨m, hn⟩ := m
 obtain ⟨o, ho, zk⟩ := io
 have I' : L2.Inv X pins σ H' s' := ci s'.heap (.refl ..)
 have I2 : L2.Inv X (pins ++ [(C', o)]) σ H' s' := I'.vJ fun q hq => by
   rcases adZ.mp hq with z | z
   . exact I'.pin q (adP _ z)
   . have e : q = (C', o) := by simpa using z
     subst e
     exact ⟨ho, nC, ch.1, ch.2.1, zk⟩
 show wpAny _ X.A (assign (.Name y py) X.env (.ref D')) _ _ s'
 have hg : PG X (.Name y py) (uK i) := rP hN hi hx hf'
 refine eL (hg _ s' σ H' (.ref D') (.ref D') (fun σ8 H8 => σ8 = σ.set i (some (.ref D')) /\ H8 = H') I2 rfl ⟨rfl, rfl⟩) fun _ s8 zz => ?_
 obtain ⟨σ8, H8, I8, e8, e8'⟩ := zz
 subst e8
 subst e8'
 obtain ⟨hC8, nC8, _⟩ := I8.pin (C', o) (adP _ (adP _ (by simp)))
 refine ⟨m, hn.at' fun o' e' => by rw [ho] at e'; cases e'; exact hC8, fun h' Xn => ?_⟩
 have I9 : L2.Inv X pins (σ.set i (some (.ref D'))) _ s8 := I8.vJ fun q hq => I8.pin q (adP _ (ad2 _ hq))
 have I10 := I9.turned (it := C') (h' := h') (t' := s8.toks) (fun b o hb e => (Xn.2 b hb).trans e) nC8 ch.1.symm.symm (.inr ch.2.2.1) ch.2.2.2.1 ch.2.2.2.2
 exact ⟨_, _, I10, M.nx _ _ _ Z' z' (S'.set hl) k⟩
theorem L8 {D : cO} {fU : List Stmt} {i : Nat} {x : Str} {pos' pc : Pos} (gx : Gx X) (n : Ln X i x) (sc : mh X scope xs Nc ix) (h : P7 X CL b tg iter δ ds δ1)
   (hb : (δc = B4 δ1 ix /\ ∀ d ∈ ds, (g d).clean = true) \/ δc = B5 δ1 ix) (inner : tY X CL scope Nc xs.length tg parts ifs elt δc ds p g) (hlen : ds.length <= sizeLine) (k : fD X CL b fU (δ1.set i (some (.lst ((ds.filter p).map g)))) D) (hl : i < δ1.length)
   (B3 : swapsWith (.ListComp elt [⟨tg, iter, ifs, 0⟩] scope pc) (some (.Name x pos')) pos.line X.env = pure true \/ swapsWith (.ListComp elt [⟨tg, iter, ifs, 0⟩] scope pc) (some (.Name x pos')) pos.line X.env = pure false) (hs : ∀ x, foldedSetIterable iter X.env x = pure x := by intro _; rfl) :
   fD X CL b (.Assign [.Name x pos'] (.ListComp elt [⟨tg, iter, ifs, 0⟩] scope pc) pos :: fU) δ D := by
 rcases B3 with B3 | B3
 . exact di (Qc i sc gx.calm h hb inner hlen k hl gx.nd n.hi n.loc n.hf B3 hs)
 . exact di (Lz i (Cj sc gx.calm h hb inner hlen hs) k hl gx.nd n.hi n.loc B3 n.hf)
noncomputable def gOk (scope : Scope) (xs nT : List Str) : Bool :=
 scope.kind == .function && xs.all (fun y => scope.names.lookup y == some .local) && nT.all (fun y => scope.names.lookup y == some .free) && decide ((xs ++ nT).Nodup) &&
   scope.names.all fun y => y.2 != .cell && (y.2 != .local || scope.names.lookup y.1 == some .local) && (y.2 != .free || (nT.contains y.1 && scope.names.lookup y.1 == some .free))
theorem Qd {nT : List Str} (c : LK X ix nT) (ok : gOk scope xs nT = true) : mh X scope xs (xs ++ nT) ix := by
 unfold gOk at ok
 simp only [aey, afh, decide_eq_true_eq, afe] at ok
 obtain ⟨⟨⟨⟨h1, h2⟩, h3⟩, h4⟩, h5⟩ := ok
 have kc : ∀ y ∈ nT, X.env.kindOf y = some .cell \/ X.env.kindOf y = some .free := by
   clear h3 h4 h5
   induction c with
   | nil => intro y hy; cases hy
   | cons n k r ih =>
     intro y hy
     rcases adN.mp hy with e | hy
     . subst e; exact k
     . exact ih y hy
 refine ⟨h1, fun y hy e => ?_, h4, fun y hy e => ?_, h2, fun y hy e => ?_, ?_, fun i hi => ?_⟩
 . have := (h5 y hy).1.1
   rw [e] at this
   simp at this
 . have := (h5 y hy).1.2
   rw [e] at this
   simpa using this
 . have := (h5 y hy).2
   rw [e] at this
   simp at this
   exact ⟨this.2, kc _ this.1⟩
 . congr 1
   clear h3 h4 h5 kc
   induction c with
   | nil => rfl
   | cons n k r ih => rw [aeT, n.hi, ← ih]
 . clear h4 h5 kc
   induction c with
   | nil => cases hi
   | @cons i' y ix ys n k r ih =>
     rcases adN.mp hi with e | hi
     . subst e; exact ⟨y, n.hi, h3 y adW⟩
     . exact ih (fun z hz => h3 z (adX _ hz)) hi
theorem EW {i : Nat} {x : Str} {C : Addr} {s : Shared} {H : Hp} {fp : List Addr} (h1 : Nc[i]? = some x) (h2 : scope.names.lookup x = some .local) (hd : (x == ("__debug__" : Str)) = false := by decide) (nI : (x == ("__classdict__" : Str)) = false := by decide) : Ln (cV X scope Nc C s H fp) i x :=
 ⟨dN h1 h2 hd nI, .inl (lookup_relabel_local h2), .inr (lookup_relabel_local h2)⟩
end
noncomputable def Ite (K : PySem.W.Frag) (a : Addr) : It :=
 ⟨fun i H => ∃ xs x, jY K H a xs /\ xs[i]? = some x, fun i H x H' => ∃ T y, H T = none /\ x = .ref T /\ (∀ xs, jY K H a xs -> xs[i]? = some y) /\ H' = upd H T (.tup [.int i, y]), fun i H => ∃ xs, jY K H a xs /\ xs.length <= i⟩
theorem Jm {P : Program} {w : World} {K : PySem.W.Frag} {elts : List Expr} {kk : Nat} {pt : Pos} (a e it : Addr) (hne : e ≠ it) : Turn P w K (.Tuple elts kk pt) (Ite K a) [e, it] e (fun i h => (∃ old, PySem.IsEnum h e it i old) /\ h.IsListIter it a i) where
 mem := by simp
 obj := fun i h st b hb => by
   obtain ⟨⟨old, he⟩, hit⟩ := st
   rcases adN.mp hb with z | z
   . subst z
     exact ⟨_, he, fun v z => by
       have z' : Data.fields _ = Data.cell v := z
       cases z'⟩
   . have z : b = it := by simpa using z
     subst z
     obtain ⟨o, e, c, d⟩ := hit
     exact ⟨o, e, fun v z => by rw [d] at z; cases z⟩
 keep := fun i h h' st k => by
   obtain ⟨⟨old, he⟩, hit⟩ := st
   exact ⟨⟨old, k e (by simp) _ he⟩, hit.at fun o q => k it (by simp) o q⟩
 item := by
   intro X hP hw hK hc i pins s σ H E I hf st hg
   subst hP hw hK
   obtain ⟨xs, x, hq, hx⟩ := hg
   obtain ⟨its, rv, p, hz⟩ := I.list hq
   obtain ⟨u, hu, ru⟩ := rv.get hx
   obtain ⟨⟨old, he⟩, hit⟩ := st
   have fe := hf e (by simp)
   have fi := hf it (by simp)
   have UM : H s.heap.objs.size = none := I.dR.fresh (adV _)
   have fT := I.yz (adV s.heap.objs.size) UM
   refine PySem.wpAny_pyNext_enum_item he hit p.isList (x := u) (by simpa using hu) hne fun h' ho aae hT K8 hk => ⟨_, rfl, ?_⟩
   refine PySem.wpAny_letOwnedTupleGo_enum ho fun h2 he2 tP => ?_
   replace tP : Heap.SameBut e h' h2 := tP
   have eT : e < s.heap.objs.size := aec he
   have keep : ∀ b o, b ≠ e -> b ≠ it -> s.heap.get? b = some o -> h2.get? b = some o := fun b o h1 h3 q => (tP.2 b h1).trans (hk b o h1 h3 q)
   have hT2 : h2.get? s.heap.objs.size = some { cls := .type "tuple", data := .seq #[.int i s.toks, u] } := (tP.2 _ (Nat.ne_of_gt eT)).trans hT
   have nH : ∀ b o, H b = some o -> b ≠ e /\ b ≠ it /\ b ≠ s.heap.objs.size := fun b o q => ⟨fun z => (by rw [z, fe.1] at q; cases q), fun z => (by rw [z, fi.1] at q; cases q), fun z => (by rw [z, UM] at q; cases q)⟩
   have I' : L2.Inv X pins σ (upd H s.heap.objs.size (.tup [.int i, x])) { s with heap := h2, toks := s.toks + 1 } := by
     refine I.step (g' := s.gens) (d' := s.drawn) (ch := [e, it, s.heap.objs.size]) (fun b hb => ?_) (fun b o _ _ hc q _ => ?_) (fun b o _ _ hc q _ => ⟨o.slots, ?_⟩) (fun b o hc q n => ?_) (fun b o hc q => ⟨o, ?_⟩) (fun b ys q => ?_) (fun b o u q => ?_) (fun b ps q => ⟨#[], ?_⟩) (fun m hm => ?_) (fun b o q => ?_) I.bare
     . rcases adN.mp hb with z | hb
       . subst z; exact ⟨fe.2.2.2.1, fe.2.1, fe.2.2.2.2.1, fe.2.2.2.2.2⟩
       . rcases adN.mp hb with z | hb
         . subst z; exact ⟨fi.2.2.2.1, fi.2.1, fi.2.2.2.2.1, fi.2.2.2.2.2⟩
         . have z : b = s.heap.objs.size := by simpa using hb
           subst z; exact ⟨fT.2.2.2.1, fT.2.1, fT.2.2.2.2.1, fT.2.2.2.2.2⟩
     . exact keep b o (fun z => hc (by simp [z])) (fun z => hc (by simp [z])) q
     . exact keep b o (fun z => hc (by simp [z])) (fun z => hc (by simp [z])) q
     . rw [aA (fun z => hc (by simp [z]))]; exact n
     . exact keep b o (fun z => hc (by simp [z])) (fun z => hc (by simp [z])) q
     . rw [aA (nH b _ q).2.2]; exact q
     . rw [aA (nH b _ q).2.2]; exact q
     . rw [aA (nH b _ q).2.2, q]; simp
     . obtain ⟨o, es, ep, ho, r⟩ := hm
       exact ⟨o, es, ep, keep _ o (aeW fe.2.1) (aeW fi.2.1) ho, r⟩
     . by_cases hb : b = s.heap.objs.size
       . subst hb
         rw [aX] at q
         cases q
         exact ⟨aeB (bz (adQ rfl)), [.int i s.toks, u], .cons ⟨s.toks, rfl⟩ (.cons ru .nil), ⟨_, hT2, rfl, _, rfl⟩⟩
       . rw [aA hb] at q
         refine (I.dR b o q).zP (fun c v hc z => keep c v ?_ ?_ z) (fun c z => by rw [aA (nH c _ z).2.2]; exact z) (fun c ys z => by rw [aA (nH c _ z).2.2]; exact z) fun c ys z => by rw [aA (nH c _ z).2.2]; exact z
         . rcases hc with z | z
           . rw [z]; exact (nH b _ q).1
           . exact (nH c _ z).1
         . rcases hc with z | z
           . rw [z]; exact (nH b _ q).2.1
           . exact (nH c _ z).2.1
   have ei : ((i + 1 : Nat) : Int) = (i : Int) + 1 := by omega
   refine ⟨.ref s.heap.objs.size, _, I', rfl, ⟨_, x, UM, rfl, fun ys hy => by rw [I.rO hy hq]; exact hx, rfl⟩, ⟨⟨u, by rw [ei]; exact he2⟩, aae.at fun o q => (tP.2 it (aeW hne)).trans q⟩, fun b hb => ?_⟩
   have hb' := hf b hb
   obtain ⟨o, OZ, _⟩ : ∃ o, s.heap.get? b = some o /\ True := by
     rcases adN.mp hb with z | z
     . subst z; exact ⟨_, he, trivial⟩
     . have z : b = it := by simpa using z
       subst z
       obtain ⟨o, q, _⟩ := hit
       exact ⟨o, q, trivial⟩
   rw [aA (aeE (aec OZ))]
   exact hb'.1
 done := by
   intro X hP hw hK hc i pins s σ H E I hf st hg
   subst hP hw hK
   obtain ⟨xs, hq, hx⟩ := hg
   obtain ⟨its, rv, p, hz⟩ := I.list hq
   obtain ⟨⟨old, he⟩, hit⟩ := st
   obtain ⟨f0, f1, f2, f3, f4, f5⟩ := hf it (by simp)
   have hl := rv.length
   exact PySem.wpAny_pyNext_enum_end (I.ok.hd hc) he hit p.isList (by simp; omega) fun h' eb => ⟨rfl, I.turned (t' := s.toks) (fun b o hb e => eb b o hb e) f0 f1 f3 f4 f5⟩
 self := fun _ _ _ _ _ st h => by
   obtain ⟨⟨old, he⟩, _⟩ := st
   exact PySem.wpAny_pyIter_enum he h
section
variable {X : Cx} {elts : List Expr} {kk : Nat} {pt : Pos}
noncomputable def Xq (K : PySem.W.Frag) (ta : TA) : TI := fun σ H R => ta σ H fun vs H1 => ∃ a xs, vs = [.ref a] /\ jY K H1 a xs /\ R (Ite K a) H1
theorem Qe {a : Expr} {ta : TA} {p pos : Pos} (hg : Gl X "enumerate") (hm : X.mg "enumerate" = none) (ha : PA X [a] ta) (hs : starEach [a] X.env = (false, eval a X.env) :: starEach [] X.env) : PI X (.Tuple elts kk pt) (.Call (.Name "enumerate" p) [a] [] pos) (Xq X.K ta) := by
 intro pins s σ H R I h
 refine Call_ (qB I hg hm boot_enumerate (aeR (eL (ha pos pins s σ H _ I h) fun us s1 zz => ?_) hs rfl))
 obtain ⟨vs, H1, I1, r1, q1⟩ := zz
 obtain ⟨l, xs, e, hq, q⟩ := q1
 subst e
 cases r1 with
 | cons r rr =>
   cases rr
   cases r
   obtain ⟨its, rv, p, hz⟩ := I1.list hq
   refine PySem.call_enumerate_list p.isList fun h' he hit K8 hk => ?_
   have I2 : L2.Inv X pins σ H1 { s1 with heap := h' } := I1.kept (t' := s1.toks) fun b o e => hk b o e
   refine PySem.wpAny_pyIter_enum he ?_
   refine ⟨s1.heap.objs.size + 1, [s1.heap.objs.size + 1, s1.heap.objs.size], _, _, H1, rfl, I2, Jm l _ _ (Nat.succ_ne_self _), ⟨⟨_, he⟩, hit⟩, fun b hb => ?_, q⟩
   rcases adN.mp hb with z | z
   . subst z
     exact I1.yz (Nat.le_succ _) (I1.dR.fresh (Nat.le_succ _))
   . have z : b = s1.heap.objs.size := by simpa using z
     subst z
     exact I1.yz (adV _) (I1.dR.fresh (adV _))
end
noncomputable def wO (ds : List D) : List D := (List.range ds.length).map fun (i : Nat) => .tup [.int i, ds.getD i .non]
theorem tZ (ds : List D) : (wO ds).length = ds.length := by simp [wO]
theorem Jo {ds : List D} {i : Nat} {d : D} (h : ds[i]? = some d) : (wO ds)[i]? = some (.tup [.int i, d]) := by
 have hi : i < ds.length := (aev.mp h).1
 unfold wO
 rw [ad8, aeO hi]
 show some (D.tup [.int i, ds.getD i .non]) = _
 rw [adS, h]
 rfl
section
variable {X : Cx} {CL : Str -> Addr} {b : Bx} {δ δ1 : List (Option T)} {e : Expr} {ds : List D} {elts : List Expr} {kk : Nat} {pt pr pc : Pos}
theorem Qf (hm : X.mg "enumerate" = none) (h : bQ X CL b e δ (.sh (.lst ds)) δ1) (hg : Gl X "enumerate") (hs : starEach [e] X.env = (false, eval e X.env) :: starEach [] X.env := by exact bD rfl) : P7 X CL b (.Tuple elts kk pt) (.Call (.Name "enumerate" pr) [e] [] pc) δ (wO ds) δ1 := by
 refine ⟨_, Qe hg hm (b7 dG eo hs) hs, fun H Z σ ts vs R S k => h H Z σ ts vs _ S fun v H1 Z1 z1 k1 S1 => ?_⟩
 obtain ⟨fp, gp, _, r, _, _⟩ := S1.rep
 cases r with
 | cons r _ =>
   cases r with
   | sh r =>
     cases r with
     | @lst a us _ hq rr =>
       have hl := rr.length
       refine ⟨a, us, rfl, S1.zh.seq hq, k _ _ ⟨Z1, z1, k1, S1.pop, fun i H2 s hi => ?_, fun i Z2 H2 x H' s1 s2 tp hi hy => ?_, fun H2 s => ?_⟩⟩
       . rw [tZ] at hi
         have R9 : i < us.length := by rw [← hl]; exact hi
         exact ⟨us, us[i], s.seq hq, ad3 R9⟩
       . rw [tZ] at hi
         obtain ⟨T, y, hT, rfl, hx, rfl⟩ := hy
         obtain ⟨d, hd, rd⟩ := rr.Jb (hx us ((s1.trans s2).seq hq))
         have gr : wL Z2 H2 _ _ := wL.tup (xs := [.int i, y]) s2 tp hT
         exact ⟨_, _, Jo hd, gr, .tup (rM.of aX) (.cons (.int _) (.cons ((rd.mono s1).mono gr.z) .nil))⟩
       . rw [tZ]
         exact ⟨us, s.seq hq, by rw [← hl]; exact adV _⟩
end
section
variable {X : Cx}
end
section
variable {X : Cx} {CL : Str -> Addr} {b : Bx} {δ δ1 : List (Option T)} {e : Expr} {pos pp : Pos}
end
section
variable {X : Cx}
end
section
variable {X : Cx} {CL : Str -> Addr} {b : Bx} {δ δ1 : List (Option T)} {e : Expr} {pos pp : Pos}
end
section
variable {prog : Program} {w : World} {A : Around} {s : Shared}
end
section
variable {prog : Program} {w : World} {A : Around} {s : Shared}
end
section
variable {X : Cx}
end
section
variable {X : Cx} {CL : Str -> Addr} {b : Bx} {δ δ1 : List (Option T)} {e : Expr} {ds : List D} {pos pp pq pr : Pos}
end
theorem UN {α β : Type} {f : α -> β} {l : List α} {j : Nat} {d : β} (h : (l.map f)[j]? = some d) : ∃ x, d = f x /\ l[j]? = some x /\ x ∈ l /\ j < l.length /\ l.drop j = x :: l.drop (j + 1) /\ l.take (j + 1) = l.take j ++ [x] := by
 rw [ad8] at h
 cases hx : l[j]? with
 | none => rw [hx] at h; cases h
 | some x =>
   rw [hx] at h
   cases h
   have hj : j < l.length := (aev.mp hx).1
   have e : l[j] = x := (aev.mp hx).2
   exact ⟨x, rfl, rfl, ad7 hx, hj, by rw [List.drop_eq_getElem_cons hj, e], by rw [List.take_add_one, hx]; rfl⟩
noncomputable def D.V7 : L3.D -> L3.D
 | .tup (a :: _) => a
 | d => d
noncomputable def D.at2 : L3.D -> L3.D
 | .tup (_ :: a :: _) => a
 | d => d
noncomputable def D.cnt : L3.D -> Nat
 | .lst ds => ds.length
 | .tup ds => ds.length
 | _ => 0
section
variable {X : Cx} {CL : Str -> Addr} {b : Bx} {δ δ1 : List (Option T)} {e : Expr} {elts : List Expr} {kk : Nat} {pt pr pc : Pos}
theorem Jp {α : Type} (f : α -> L3.D) (z : α) (l : List α) : wO (l.map f) = (List.range l.length).map fun (i : Nat) => L3.D.tup [.int i, f (l.getD i z)] := by
 unfold wO
 rw [adM]
 apply List.map_congr_left
 intro i hi
 have hi : i < l.length := aeQ.mp hi
 have : (l.map f).getD i .non = f (l.getD i z) := by
   rw [adS, adS, ad8, ad3 hi]
   rfl
 rw [this]
theorem Ma {α : Type} {f : α -> L3.D} {l : List α} (z : α) (hm : X.mg "enumerate" = none) (h : bQ X CL b e δ (.sh (.lst (l.map f))) δ1) (hg : Gl X "enumerate") (hs : starEach [e] X.env = (false, eval e X.env) :: starEach [] X.env := by exact bD rfl) :
   P7 X CL b (.Tuple elts kk pt) (.Call (.Name "enumerate" pr) [e] [] pc) δ ((List.range l.length).map fun (i : Nat) => L3.D.tup [.int i, f (l.getD i z)]) δ1 := by
 have := Qf (elts := elts) (kk := kk) (pt := pt) (pr := pr) (pc := pc) hm h hg hs
 rwa [Jp f z l] at this
end
section
variable {K : PySem.W.Frag} {CL : Str -> Addr} {b : Bx} {H H' Z Z' : Hp} {δ δ' : List (Option T)} {σ σ' : L2.St} {ts tl : List T} {vs us : List V} {t : T} {v : V}
theorem bR.Jq {i j : Nat} {tt : List T} (S : bR K CL b H Z δ σ (t :: ts) (v :: vs)) (hi : δ[i]? = some (some (.lst tt))) (hj : tt[j]? = some (.lst tl)) :
   ∃ a0 Sg a us, σ[i]? = some (some (.ref a0)) /\ H a0 = some (.lst Sg) /\ Sg[j]? = some (.ref a) /\ Sg.length = tt.length /\ H a = some (.lst us) /\ us.length = tl.length /\ bR K CL b (upd H a (.lst (us ++ [v]))) Z (δ.set i (some (.lst (tt.set j (.lst (tl ++ [t])))))) σ ts vs := by
 obtain ⟨fp, gp, e, r, nd, k⟩ := S.rep
 obtain ⟨v0, f1, f2, f3, hv, rY, rt, put, _⟩ := e.get hi
 subst rY
 cases rt with
 | @lst a0 Sg _ g0 hq r0 =>
   obtain ⟨vj, g1, g2, g3, Xr, hg, rj, set⟩ := r0.at hj
   subst hg
   cases rj with
   | @lst a us _ g ha rs =>
     cases r with
     | @cons _ _ _ _ ft gr q1 q2 =>
       have ne : ∀ c ∈ (f1 ++ ((a0 :: (g1 ++ (g ++ g3))) ++ f3)) ++ (ft ++ gr), c ≠ a := fun c hc e => by
         subst e
         have hp : ((f1 ++ ((a0 :: (g1 ++ ((c :: g) ++ g3))) ++ f3)) ++ (ft ++ gr)).Perm (c :: ((f1 ++ ((a0 :: (g1 ++ (g ++ g3))) ++ f3)) ++ (ft ++ gr))) := by
           have h1 : (a0 :: (g1 ++ ((c :: g) ++ g3))).Perm (c :: (a0 :: (g1 ++ (g ++ g3)))) := by
             have h0 : (g1 ++ ((c :: g) ++ g3)).Perm (c :: (g1 ++ (g ++ g3))) := aeY
             exact (h0.cons a0).trans (List.Perm.swap c a0 _)
           have h2 := (((h1.append_right f3).append_left f1).append_right (ft ++ gr))
           refine h2.trans ?_
           rw [aej]
           exact aeY.append_right _
         exact (aeS.mp (hp.nodup_iff.mp nd)).1 hc
       have a0a : a0 ≠ a := ne a0 (by simp)
       refine ⟨a0, Sg, a, us, hv, hq, Xr, r0.length.symm, ha, rs.length.symm, ?_⟩
       have r1 : cM K CL (upd H a (.lst (us ++ [v]))) Z (.lst (tl ++ [t])) (.ref a) (a :: (g ++ (ft ++ []))) :=
         .lst aX (aR.app (rs.mono (.refl _) fun c hc => aA (ne c (by simp [hc]))) (.cons (q1.mono (.refl _) fun c hc => aA (ne c (by simp [hc]))) .nil))
       have r2 := set (H' := upd H a (.lst (us ++ [v]))) (fun c hc => aA (ne c (by
         rcases adZ.mp hc with h | h
         . simp [h]
         . simp [h]))) r1
       rw [lH Xr] at r2
       have e2 := put (H' := upd H a (.lst (us ++ [v]))) (.refl _) (fun c hc => aA (ne c (by
         rcases adZ.mp hc with h | h
         . simp [h]
         . simp [h]))) (.lst (by rw [aA a0a]; exact hq) r2)
       rw [lH hv] at e2
       have hp : ((f1 ++ ((a0 :: (g1 ++ ((a :: (g ++ (ft ++ []))) ++ g3))) ++ f3)) ++ gr).Perm ((f1 ++ ((a0 :: (g1 ++ ((a :: g) ++ g3))) ++ f3)) ++ (ft ++ gr)) := by
         simp only [aef, aej, adO]
         refine aeq f1 (List.Perm.cons a0 (aeq g1 (List.Perm.cons a (aeq g ?_))))
         have := (aew (l₁ := ft) (l₂ := g3 ++ f3)).append_right gr
         simp only [adO] at this
         exact this
       exact S.write nd k (by simp) ⟨_, ha⟩ e2 (q2.mono (.refl _) fun c hc => aA (ne c (by simp [hc]))) (hp.nodup_iff.mpr nd) fun c hc => hp.mem_iff.mp hc
end
section
variable {X : Cx} {CL : Str -> Addr} {b : Bx} {δ δ1 δ2 : List (Option T)} {e e2 : Expr} {t : T} {tl KH tt Xf : List T} {D : cO} {pos pp pa pb : Pos}
end
section
variable {X : Cx} {CL : Str -> Addr} {b : Bx} {δ δ1 : List (Option T)} {e : Expr} {t : T} {i : Nat} {x : Str} {pos pp : Pos} {DD : cO} {fU : List Stmt}
end
section
variable {X : Cx}
end
section
variable {K : PySem.W.Frag} {CL : Str -> Addr} {b : Bx} {H Z : Hp} {δ : List (Option T)} {σ : L2.St} {ts tl : List T} {vs : List V} {t : T} {v : V}
end
section
variable {X : Cx} {CL : Str -> Addr} {b : Bx} {δ δ1 : List (Option T)} {e : Expr} {t : T} {tl KH : List T} {D : cO} {pos pp pa pb pc : Pos} {kj i : Nat} {x : Str} {fU : List Stmt}
end
theorem uV : ∀ (l r : List Int), PyData.eqvAll (D.fu (l.map L3.D.int)) (D.fu (r.map L3.D.int)) = decide (l = r)
 | [], [] => by rw [ae2, D.fu, PyData.eqvAll]; rfl
 | [], _ :: _ => by rw [ae2, aen, D.fu, D.fu, PyData.eqvAll]; rfl
 | _ :: _, [] => by rw [ae2, aen, D.fu, D.fu, PyData.eqvAll]; rfl
 | x :: l, y :: r => by
   rw [aen, aen, D.fu, D.fu, PyData.eqvAll, uV l r, D.toPy, D.toPy, PyData.eqv]
   by_cases e : x = y
   . subst e
     simp
   . have : (x == y) = false := by simpa using e
     rw [this, Bool.false_and, aeC (by simp [e])]
theorem Mb (l r : List Int) : KJ (.lst (l.map .int)) (.lst (r.map .int)) = decide (l = r) := by
 unfold KJ
 rw [D.toPy, D.toPy, PyData.eqv, uV]
section
variable {X : Cx} {CL : Str -> Addr} {b : Bx} {δ δ1 : List (Option T)} {e : Expr} {pos pp : Pos}
theorem UO {i : Int} (hm : X.mg "abs" = none) (hg : Gl X "abs") (h : cN X CL b e δ (.int i) δ1) (hs : starEach [e] X.env = (false, eval e X.env) :: starEach [] X.env := by exact bD rfl) :
   bQ X CL b (.Call (.Name "abs" pp) [e] [] pos) δ (.sh (.int (if i < 0 then -i else i))) δ1 := fun H Z σ ts vs Q S k =>
 cH (nL K7 hg hm (by decide +kernel) (b7 dG eo hs) (he := hs)) (h H Z σ ts vs _ S fun v H1 Z1 z1 k1 S1 r => ⟨i, by rw [r.sc rfl], k _ H1 Z1 z1 k1 (S1.push (.int _))⟩)
end
section
variable {K : PySem.W.Frag} {CL : Str -> Addr} {b : Bx} {H Z : Hp} {δ : List (Option T)} {σ : L2.St} {ts tl Mf : List T} {vs : List V} {v : V}
theorem bR.extend {i : Nat} (S : bR K CL b H Z δ σ (.lst Mf :: ts) (v :: vs)) (hi : δ[i]? = some (some (.lst tl))) :
   ∃ a us a2 EX, σ[i]? = some (some (.ref a)) /\ H a = some (.lst us) /\ us.length = tl.length /\ v = .ref a2 /\ H a2 = some (.lst EX) /\ EX.length = Mf.length /\ bR K CL b (upd H a (.lst (us ++ EX))) Z (δ.set i (some (.lst (tl ++ Mf)))) σ ts vs := by
 obtain ⟨fp, gp, e, r, nd, k⟩ := S.rep
 obtain ⟨v0, f1, f2, f3, hv, rY, rt, put, _⟩ := e.get hi
 subst rY
 cases rt with
 | @lst a us _ g ha rs =>
   cases r with
   | @cons _ _ _ _ ft gr q1 q2 =>
     cases q1 with
     | @lst a2 EX _ g2 ha2 rs2 =>
       have ne : ∀ c ∈ (f1 ++ (g ++ f3)) ++ (g2 ++ gr), c ≠ a := fun c hc e => by
         subst e
         have hp : ((f1 ++ ((c :: g) ++ f3)) ++ ((a2 :: g2) ++ gr)).Perm (c :: ((f1 ++ (g ++ f3)) ++ ((a2 :: g2) ++ gr))) := by
           rw [aej, ← aej]
           exact (aeY.append_right _)
         refine (aeS.mp (hp.nodup_iff.mp nd)).1 ?_
         rcases adZ.mp hc with z | z
         . exact ad2 _ z
         . exact adP _ (adX _ z)
       refine ⟨a, us, a2, EX, hv, ha, rs.length.symm, rfl, ha2, rs2.length.symm, ?_⟩
       have r1 : cM K CL (upd H a (.lst (us ++ EX))) Z (.lst (tl ++ Mf)) (.ref a) (a :: (g ++ g2)) :=
         .lst aX (aR.app (rs.mono (.refl _) fun c hc => aA (ne c (by simp [hc]))) (rs2.mono (.refl _) fun c hc => aA (ne c (by simp [hc]))))
       have e2 := put (H' := upd H a (.lst (us ++ EX))) (.refl _) (fun c hc => aA (ne c (by
         rcases adZ.mp hc with h | h
         . simp [h]
         . simp [h]))) r1
       rw [lH hv] at e2
       have hp : ((f1 ++ ((a :: (g ++ g2)) ++ f3)) ++ gr).Perm ((f1 ++ ((a :: g) ++ f3)) ++ (g2 ++ gr)) := by
         simp only [aej, adO]
         refine aeq f1 (List.Perm.cons a (aeq g ?_))
         rw [← adO, ← adO]
         exact aew.append_right gr
       have sb : ((f1 ++ ((a :: g) ++ f3)) ++ (g2 ++ gr)).Sublist ((f1 ++ ((a :: g) ++ f3)) ++ ((a2 :: g2) ++ gr)) :=
         aeu (aes _) (by rw [aej]; exact List.sublist_cons_self _ _)
       exact S.write nd k (adW) ⟨_, ha⟩ e2 (q2.mono (.refl _) fun c hc => aA (ne c (by simp [hc]))) (hp.nodup_iff.mpr (nd.sublist sb)) fun c hc => sb.subset (hp.mem_iff.mp hc)
end
section
variable {X : Cx} {CL : Str -> Addr} {b : Bx} {δ δ1 : List (Option T)} {e : Expr} {tl KH Mf : List T} {D : cO} {pos pp pa pb : Pos} {i : Nat} {x : Str} {fU : List Stmt}
theorem Ck (n : Vn X i x) (h0 : δ[i]? = some (some (.lst KH))) (h : bQ X CL b e δ (.lst Mf) δ1) (h1 : δ1[i]? = some (some (.lst tl))) (hl : tl.length + Mf.length <= 1000000) (k : fD X CL b fU (δ1.set i (some (.lst (tl ++ Mf)))) D)
   (jE : attributeBase (.Name x pp) "extend" X.env (eval (.Name x pp) X.env) = eval (.Name x pp) X.env := by rfl)
   (qC : ((backTo pb (starEach [e] X.env)).all (fun x => !x.1) && (backToKw pb (keywordEach [] X.env)).all (fun x => x.1.isSome) && decide ([e].length + ([] : List Keyword).length + (if ([] : List Keyword).isEmpty then 0 else 1) < 30)) = true := by rfl)
   (hline : (pa.endLine == pb.line) = true := by rfl) (hs : starEach [e] X.env = (false, eval e X.env) :: starEach [] X.env := by exact bD rfl)
   (B3 : swapsWith (.Call (.Attribute (.Name x pp) "extend" pa) [e] [] pb) none pos.line X.env = pure false := by rfl) :
   fD X CL b (.Expr (.Call (.Attribute (.Name x pp) "extend" pa) [e] [] pb) pos :: fU) δ D := di fun H Z σ ts vs E S M =>
 wF (zW (zx afr PySem.F.slot_list_extend PySem.F.type_list_extend IX (lV n.hi n.hv n.hd n.nI) (b7 dG eo hs) jE qC hline hs rfl) B3) (by
   obtain ⟨v0, e0, r0⟩ := S.look h0
   refine ⟨v0, e0, ?_, ?_⟩
   . rw [T.d7] at r0
     cases r0 with
     | lst hq _ => exact .inl ⟨rfl, _, hq⟩
   . refine h H Z σ ts vs _ S fun v H1 Z1 z1 k1 S1 => ?_
     obtain ⟨a, us, a2, EX, ea, ha, hu, rfl, ha2, hu2, S2⟩ := S1.extend h1
     rw [e0] at ea
     cases ea
     exact ⟨a, a2, us, EX, rfl, rfl, ha, ha2, by rw [hu, hu2]; exact aeB (afn hl (by rw [aek]; decide)), M.nx _ σ _ Z1 z1 S2 k⟩)
end
section
variable {X : Cx} {CL : Str -> Addr} {b : Bx} {e1 e2 : Expr} {δ δ1 δ2 : List (Option T)} {ds : List L3.D} {pos : Pos}
end
section
variable {X : Cx} {CL : Str -> Addr} {b : Bx} {δ : List (Option T)} {x : Str} {pos : Pos}
theorem aH.Sh {K : PySem.W.Frag} {Z : Hp} : ∀ l : List Str, aH K CL Z (l.map .str) (l.map V.str)
 | [] => .nil
 | x :: l => .cons (.str x) (aH.Sh l)
end
section
variable {X : Cx} {CL : Str -> Addr} {b : Bx} {e1 e2 e iter : Expr} {δ δ1 δ2 : List (Option T)} {pos : Pos}
end
section
variable {X : Cx} {CL : Str -> Addr} {b : Bx} {e : Expr} {δ δ1 δ2 δ3 : List (Option T)} {pos p2 : Pos}
end
end L3
namespace L3
open PySem PySem.Spec PyProof.Rows L2 PySem.Builtin PySem.Builtin.Str
section
variable {X : Cx} {CL : Str -> Addr} {b : Bx} {e o : Expr} {δ δ1 δ2 : List (Option T)} {pos apos : Pos}
theorem Vals.strsFrom : ∀ (k : Nat) (l : List Str), Vals (l.map V.str) (strsFrom k l)
 | _, [] => .nil
 | k, x :: l => .cons ⟨_, rfl⟩ (Vals.strsFrom (k + 1) l)
noncomputable def Al (x y : Str) : Bool := !(y.length == 0) && !(decide (x.length < y.length) || decide (strKind x < strKind y)) && !(occurrences x y 0 x.length (x.length + 1)).isEmpty
noncomputable def splitM (x y : Str) : List Str := partsBetween x (occurrences x y 0 x.length (x.length + 1)) y.length
noncomputable def UQ : V -> List V -> Hp -> VK -> Prop := fun x vs H Q => ∃ z y, x = .str z /\ vs = [.str y] /\ Al z y = true /\ z.length <= sizeLine /\ (splitM z y).length <= sizeLine /\ ∀ p, H p = none -> Q (.ref p) (upd H p (.lst ((splitM z y).map V.str)))
theorem Mg : Yw X "str.split" UQ := by
 intro pins s σ H x vs v us Q I rx rv h
 obtain ⟨z, y, rfl, rfl, dR, hz, hp, q⟩ := h
 obtain ⟨t, rfl⟩ := rx
 obtain ⟨u, rfl, ru⟩ := rv.one
 obtain ⟨t', rfl⟩ := ru
 unfold Al at dR
 simp only [aey, aeN] at dR
 obtain ⟨⟨h1, h2⟩, h3⟩ := dR
 refine call_meets F.slot_str_split (typeIs_str _ _ _) F.entry_str_split (F.args_str_split_2 _ _) (meets_str_split_sep z y t t' h2 h1 h3 hz hp) ?_
 exact ⟨.ref _, _, I.W0 (its := strsFrom s.toks (splitM z y)) (Vals.strsFrom _ _) (by rw [adM]; exact hp), rfl, q _ I.fresh⟩
theorem Mh {z y : Str} {l : List Str} (h1 : cN X CL b o δ (.str z) δ1) (h2 : cN X CL b e δ1 (.str y) δ2) (dR : Al z y = true) (hz : z.length <= sizeLine) (hl : splitM z y = l) (hp : l.length <= sizeLine)
   (jE : attributeBase o "split" X.env (eval o X.env) = eval o X.env := by rfl)
   (qC : ((backTo pos (starEach [e] X.env)).all (fun x => !x.1) && (backToKw pos (keywordEach [] X.env)).all (fun x => x.1.isSome) && decide ([e].length + ([] : List Keyword).length + (if ([] : List Keyword).isEmpty then 0 else 1) < 30)) = true := by rfl)
   (hline : (apos.endLine == pos.line) = true := by rfl) (hs : starEach [e] X.env = (false, eval e X.env) :: starEach [] X.env := by exact bD rfl) :
   bQ X CL b (.Call (.Attribute o "split" apos) [e] [] pos) δ (.lst ((l.map L3.D.str).map T.sh)) δ2 := fun H Z σ ts vs Q S k =>
 cH (zx PySem.F.plainAttrs_str PySem.F.slot_str_split PySem.F.type_str_split Mg dG (b7 dG eo hs) jE qC hline hs rfl)
   (h1 H Z σ ts vs _ S fun v1 H1 Z1 z1 k1 S1 r1 => by
     have e1 := r1.sc rfl
     subst e1
     refine ⟨rfl, h2 H1 Z1 σ ts vs _ S1 fun v2 H2 Z2 z2 k2 S2 r2 => ?_⟩
     have e2 := r2.sc rfl
     subst e2
     subst hl
     refine ⟨z, y, rfl, rfl, dR, hz, hp, fun p hpn => ?_⟩
     have rc : aH X.K CL Z2 ((splitM z y).map L3.D.str) ((splitM z y).map V.str) := aH.Sh _
     obtain ⟨c, S4⟩ := (bR.uQ rc S2).tV (g0 := []) (by simp) hpn
     exact k _ _ _ (z1.trans z2) (k1.trans (k2.trans c)) S4)
end
end L3
namespace L3
open PySem PySem.Spec PyProof.Rows L2
section
variable {X : Cx} {CL : Str -> Addr} {b : Bx} {δ : List (Option T)} {pos pp : Pos} {x : Str}
end
section
variable {K : PySem.W.Frag} {CL : Str -> Addr} {b : Bx} {H Z : Hp} {δ : List (Option T)} {σ : L2.St} {ts tl : List T} {vs : List V} {t : T} {v : V} {d : D} {i7 : List (Key × D)} {gs : List (Key × V)}
end
section
variable {X : Cx} {CL : Str -> Addr} {b : Bx} {δ δ1 δ2 : List (Option T)} {e e1 e2 : Expr} {t : T} {d : L3.D} {D : cO} {pos pp ps : Pos} {i : Nat} {x : Str} {fU : List Stmt} {i7 : List (Key × L3.D)} {k : Key}
end
section
variable {K : PySem.W.Frag} {CL : Str -> Addr} {b : Bx} {H Z : Hp} {δ : List (Option T)} {σ : L2.St} {ts : List T} {vs : List V} {t : T} {v w : V} {f c : Str} {KN : List (Str × T)}
theorem cZ.Qg {ft : List Addr} (rt : cM K CL H Z t v ft) : ∀ {Cm : List (Str × T)} {gs : List (Str × V)} {fp : List Addr}, cZ K CL H Z (Cm ++ (f, .sh (.val v)) :: KN) gs fp -> ∃ HD, cZ K CL H Z (Cm ++ (f, t) :: KN) gs HD /\ HD.Perm (fp ++ ft)
 | [], _, _, r => by
   cases r with
   | @cons _ _ v' _ _ f1 gp h r =>
     cases h with
     | sh h =>
       cases h
       exact ⟨ft ++ gp, .cons rt r, aew⟩
 | (y, u) :: Cm, _, _, r => by
   cases r with
   | @cons _ _ v' _ _ f1 gp h r =>
     obtain ⟨HD, r', p⟩ := cZ.Qg rt (Cm := Cm) r
     refine ⟨f1 ++ HD, .cons h r', ?_⟩
     rw [adO]
     exact p.append_left f1
theorem bR.Qg {Cm : List (Str × T)} (S : bR K CL b H Z δ σ (.ins c (Cm ++ (f, .sh (.val v)) :: KN) :: t :: ts) (w :: v :: vs)) : bR K CL b H Z δ σ (.ins c (Cm ++ (f, t) :: KN) :: ts) (w :: vs) := by
 obtain ⟨fp, gp, e, r, nd, k⟩ := S.rep
 cases r with
 | @cons _ _ _ _ g1 g2 r1 r2 =>
   cases r2 with
   | @cons _ _ _ _ g3 g4 r3 r4 =>
     cases r1 with
     | @ins a dx _ gs _ fp1 ha rf =>
       obtain ⟨HD, rf', p⟩ := cZ.Qg r3 rf
       have pm : (fp ++ ((a :: HD) ++ g4)).Perm (fp ++ ((a :: fp1) ++ (g3 ++ g4))) := by
         refine aeq fp ?_
         rw [← adO]
         refine List.Perm.append_right g4 ?_
         rw [aej]
         exact List.Perm.cons a p
       exact ⟨⟨fp, (a :: HD) ++ g4, e, .cons (.ins ha rf') r4, pm.nodup_iff.mpr nd, fun c hc => k c (pm.mem_iff.mp hc)⟩, S.bh, S.zz, S.zh, S.new, S.tp, S.tab⟩
end
noncomputable def YH (X : Cx) (CL : Str -> Addr) (b : Bx) (es : List Expr) (δ : List (Option T)) (dv : V -> List D) (t : T) (δ' : List (Option T)) : Prop :=
 ∀ (H Z : Hp) (σ : L2.St) (ts : List T) (vs : List V) (Q : List V -> Hp -> Prop), bR X.K CL b H Z δ σ ts vs →
   (∀ us H' Z' v, aG Z Z' -> aG H H' -> bR X.K CL b H' Z' δ' σ (t :: ts) (v :: vs) -> aH X.K CL H' (dv v) us -> Q us H') -> Lp X es σ H Q
theorem T.wQ {f : Str} {v : V} {KN : List (Str × T)} (h2 : T.bB KN = true) : ∀ {Cm : List (Str × T)}, T.bB Cm = true -> T.bB (Cm ++ (f, .sh (.val v)) :: KN) = true
 | [], _ => by rw [List.nil_append, T.bB, h2]; rfl
 | (x, t) :: Cm, h => by
   rw [T.bB, aey] at h
   rw [aej, T.bB, h.1, T.wQ h2 h.2]; rfl
section
variable {X : Cx} {CL : Str -> Addr} {b : Bx} {δ δ1 δ2 : List (Option T)} {e o : Expr} {es : List Expr} {pos pp apos : Pos} {t : T} {ds : List D} {d : D} {dv : V -> List D}
theorem Mi (h : bQ X CL b e δ t δ1) (r : OI X CL b es δ1 ds δ2) (hs : notStar e = true := by rfl) : YH X CL b (e :: es) δ (fun v => .val v :: ds) t δ2 := fun H Z σ ts vs Q S k =>
 Jc (b7 dG KG (bD hs)) (h H Z σ ts vs _ S fun v H1 Z1 z1 k1 S1 => r H1 Z1 σ _ _ _ S1 fun us H2 Z2 z2 k2 S2 r2 => k (v :: us) H2 Z2 v (z1.trans z2) (k1.trans k2) S2 (.cons (.val v) r2))
theorem Cp (h : cN X CL b e δ d δ1) (r : YH X CL b es δ1 dv t δ2) (hs : notStar e = true := by rfl) : YH X CL b (e :: es) δ (fun v => d :: dv v) t δ2 := fun H Z σ ts vs Q S k =>
 Jc (b7 dG KG (bD hs)) (h H Z σ ts vs _ S fun v H1 Z1 z1 k1 S1 r1 => r H1 Z1 σ ts vs _ S1 fun us H2 Z2 v2 z2 k2 S2 r2 => k (v :: us) H2 Z2 v2 (z1.trans z2) (k1.trans k2) S2 (.cons (r1.mono k2) r2))
variable {A : Type} {k n : Nat} {arg : A -> List D} {Pre : A -> Prop} {x c m f : Str}
theorem mkP {res : A -> List (Str × T)} (a : V -> A) {Cm KN : List (Str × T)} (F : Fm X CL x k n arg Pre res) (hg : Gl X x) (h : YH X CL b (e :: es) δ dv t δ1) (ha : ∀ v, arg (a v) = dv v) (hp : ∀ v, Pre (a v)) (hr : ∀ v, res (a v) = Cm ++ (f, .sh (.val v)) :: KN) (hc : T.bB Cm = true) (Pk : T.bB KN = true) (hn : ∀ v, (arg (a v)).length + 1 = n := by exact fun _ => rfl)
   (yC : (x == ("__debug__" : Str)) = false := by decide) (he : starEach (e :: es) X.env = (false, eval e X.env) :: starEach es X.env := by exact bD rfl) (hpl : (backTo pos (starEach es X.env)).any (·.1) = false := by rfl) :
   bQ X CL b (.Call (.Name x pp) (e :: es) [] pos) δ (.ins x (Cm ++ (f, t) :: KN)) δ1 := fun H Z σ ts vs Q S kk => by
 obtain ⟨f', fd, ps, M, F1, hm, hb⟩ := F.ex
 exact cH (Hq M F1 F.room hg hm hb .nil Hv KG yC he hpl) (h H Z σ ts vs _ S fun us H1 Z1 v z1 k1 S1 r y dx hx Xk ne => by
   rw [aef]
   refine ⟨H1, H1, a v, y, dx, us, rfl, hx, Xk, ne, rfl, .refl _, fun _ _ q _ => q, by rw [ha]; exact r, hn v, hp v, S1.Uh, fun H' W' fp hh ww wh nw tp rt nd own => ⟨rfl, ?_⟩⟩
   obtain ⟨Z', z', S'⟩ := S1.back hh S1.zh ww wh nw tp rt nd own (.inr (by rw [T.clean, hr]; exact T.wQ Pk hc))
   rw [hr] at S'
   exact kk _ H' Z' (z1.trans z') (k1.trans hh) S'.Qg)
end
section
variable {X : Cx}
end
section
variable {X : Cx} {CL : Str -> Addr} {b : Bx} {δ δ1 : List (Option T)} {e : Expr} {pos pp : Pos} {l : List Bool}
end
namespace Rv
theorem Jr : PySem.Slot "reversed" "__init__" "object.__init__" :=
 .of (owner := "object") (n := "__init__") (by rw [typeLookup_type, builtinLookup_eq_fast]; kernel_rfl) (by decide +kernel) (by decide +kernel) (by decide +kernel)
   (by first | exact .inl (by decide +kernel) | exact .inr (by decide +kernel)) (by rw [isSubtype_type]; kernel_rfl)
theorem called : TypeCalled "reversed" "reversed.__new__" "object.__init__" :=
 ⟨by decide +kernel, by decide +kernel, ⟨_, _, PySem.F.mro_reversed⟩, PySem.F.made_reversed, by decide +kernel, PySem.F.sub_reversed_self, Jr⟩
noncomputable def obj (t : Addr) (i : Int) : Obj := { cls := .type "reversed", data := .fields #[.ref t, rawInt i] }
section
variable {prog : Program} {w : World} {A : Around} {E : Value -> Shared -> Prop} {s : Shared}
end
end Rv
namespace Rv
section
variable {prog : Program} {w : World} {A : Around} {E : Value -> Shared -> Prop} {s : Shared}
end
end Rv
section
variable {X : Cx} {tg : Expr}
end
section
variable {X : Cx} {CL : Str -> Addr} {b : Bx} {δ δ1 : List (Option T)} {e : Expr} {ds : List D} {tg : Expr} {pr pc : Pos}
end
section
variable {X : Cx} {CL : Str -> Addr} {b : Bx} {δ δ1 : List (Option T)} {e : Expr} {t : T} {tl KH tt Xf : List T} {D : cO} {pos pp pa pb : Pos}
variable {fU : List Stmt} {i i2 : Nat} {x y : Str} {DD : cO}
end
section
variable {X : Cx} {CL : Str -> Addr} {b : Bx} {δ δ1 : List (Option T)} {e : Expr} {ds : List D} {tg : Expr} {pr pc : Pos} {l : Bool}
theorem HM {p q : Bool} (h : qD X CL b e δ p δ1) (q' : p = q) : qD X CL b e δ q δ1 := q' ▸ h
end
section
variable {X : Cx} {CL : Str -> Addr} {b : Bx} {δ : List (Option T)}
noncomputable def constInt : Expr -> Option Int
 | .Constant (.int i) _ _ => some i
 | .UnaryOp .USub (.Constant (.int i) _ _) _ => some (-i)
 | _ => none
noncomputable def t6 : List Expr -> Option (List Int)
 | [] => some []
 | e :: es => (constInt e).bind fun x => (t6 es).map (x :: ·)
theorem Js {e : Expr} {x : Int} (h : constInt e = some x) : bQ X CL b e δ (.sh (.int x)) δ := by
 unfold constInt at h
 split at h
 . cases h; exact ai
 . cases h; exact fC (ah ai)
 . cases h
theorem Cq {e : Expr} {x : Int} (h : constInt e = some x) : notStar e = true := by
 unfold constInt at h
 split at h
 . rfl
 . rfl
 . cases h
theorem HN : ∀ {es : List Expr} {l : List Int}, t6 es = some l -> Ek X CL b es δ ((l.map D.int).map T.sh) δ
 | [], l, h => by
   have e : l = [] := (aeb h).symm
   subst e
   exact dh
 | e :: es, l, h => by
   rw [t6] at h
   obtain ⟨x, hx, h⟩ := Option.bind_eq_some_iff.mp h
   obtain ⟨l', hl, rfl⟩ := Option.map_eq_some_iff.mp h
   exact e7 (Js hx) (HN hl) (bD (Cq hx))
end
section
variable {K : PySem.W.Frag} {CL : Str -> Addr} {b : Bx} {H Z : Hp} {δ : List (Option T)} {σ : L2.St} {ts tl : List T} {vs : List V} {ds : List D} {us : List V}
end
section
variable {X : Cx} {CL : Str -> Addr} {b : Bx} {δ δ1 : List (Option T)} {e : Expr} {tl KH : List T} {ds : List L3.D} {D : cO} {pos pp pa pb : Pos} {i : Nat} {x : Str} {fU : List Stmt}
end
section
variable {X : Cx} {CL : Str -> Addr} {b : Bx} {δ δ1 δ2 δ3 : List (Option T)} {e e1 e2 : Expr} {ds Ah : List L3.D} {pos p2 : Pos}
theorem bR.EY {K : PySem.W.Frag} {H Z : Hp} {σ : L2.St} {ts : List T} {v : V} {vs : List V} {d : L3.D} (S : bR K CL b H Z δ σ (.sh d :: ts) (v :: vs)) : bO K CL Z d v := by
 obtain ⟨fp, gp, e0, r0, nd, ow⟩ := S.rep
 cases r0 with
 | cons q1 q2 =>
   cases q1 with
   | sh r => exact r
theorem mj {lo hi : Option Expr} {l h : Option Int} (h1 : bQ X CL b e δ (.sh (.tup ds)) δ1) (hw : ¬ (HT.fq ds.length 0 l = 0 /\ HT.fq ds.length ds.length h = ds.length)) (h2 : V6 X CL b lo δ1 l δ2) (h3 : V6 X CL b hi δ2 h δ3) :
   bQ X CL b (.Subscript e (.Slice lo hi none p2) pos) δ (.sh (.tup (cutD ds l h))) δ3 := fun H Z σ ts vs Q S k => by
 obtain ⟨t2, ZR, w2⟩ := h2
 obtain ⟨t3, ZS, w3⟩ := h3
 refine cH (BV T5 dG ZR ZS) (h1 H Z σ ts vs _ S fun v H1 Z1 z1 k1 S1 => w2 H1 Z1 σ _ _ _ S1 fun H2 Z2 z2 k2 S2 => w3 H2 Z2 σ _ _ _ S2 fun H3 Z3 z3 k3 S3 => ?_)
 have r := S3.EY
 cases r with
 | tup hq rr =>
   refine ⟨_, _, rfl, aG.Lj S3.zh hq, by rw [← rr.length]; exact hw, fun p hp => ?_⟩
   have rc := rr.cut l h
   obtain ⟨a, c, S4⟩ := (bR.uQ rc S3.pop).EI (by simp [rc.length]) hp
   obtain ⟨Z5, z5, S5⟩ := S4.EH
   rw [T.d7, iy] at S5
   exact k _ _ Z5 (z1.trans (z2.trans (z3.trans (a.trans z5)))) (k1.trans (k2.trans (k3.trans c))) S5
end
section
variable {a₀ xs : Array Keyed} {ι : Nat -> Nat} {n : Nat}
noncomputable def turned (ι : Nat -> Nat) (i j : Nat) : Nat -> Nat := fun k => if i <= k /\ k < j then ι (i + j - 1 - k) else ι k
end
section
variable {prog : Program} {w : World} {A : Around} {E : Value -> Shared -> Prop} {s : Shared} {a₀ : Array Keyed}
end
section
variable {X : Cx}
end
section
variable {X : Cx} {CL : Str -> Addr} {b : Bx} {δ δ1 : List (Option T)} {e : Expr} {pos pp p1 p2 : Pos} {kj : Nat}
end
section
variable {X : Cx} {i : Nat} {x : Str}
theorem mkL (hi : X.N[i]? = some x) (h : X.env.scope.names.lookup x = some .local) (hf : X.fn x = true) (hd : (x == ("__debug__" : Str)) = false := by decide) (hc : (x == ("__classdict__" : Str)) = false := by decide) : Ln X i x := ⟨⟨hi, .inl h, hd, hc⟩, .inl h, .inl hf⟩
theorem mkC (hi : X.N[i]? = some x) (h : X.env.scope.names.lookup x = some .cell) (hf : X.fn x = true) (hd : (x == ("__debug__" : Str)) = false := by decide) (hc : (x == ("__classdict__" : Str)) = false := by decide) : Ln X i x := ⟨⟨hi, .inr (.inl h), hd, hc⟩, .inr h, .inl hf⟩
end
theorem cU {P : Program} {w : World} {K : PySem.W.Frag} {mg : Str -> Option Value} {base : Heap} {k : Nat} {f : Addr} {fd : FuncData} {ps : List Str} {sp : Sp} {x : Str} (G : b8 P w K mg base iY k f fd ps sp) (m : mg x = some (.ref f)) (q : PySem.W.keepIn K (.ref f) = true) (b : Binds K fd ps []) :
   ∃ f fd ps, b8 P w K mg base iY k f fd ps sp /\ mg x = some (.ref f) /\ PySem.W.keepIn K (.ref f) = true /\ Binds K fd ps [] := ⟨_, _, _, G, m, q, b⟩
section
variable {X : Cx} {CL : Str -> Addr} {b : Bx} {δ δ1 δc : List (Option T)} {scope : Scope} {y : Str} {Nc : List Str} {ix : List Nat} {elt iter : Expr} {ifs : List Expr} {px pc pos : Pos} {p : L3.D -> Bool} {g : L3.D -> T} {ds : List L3.D}
theorem Xs (sc : lG X scope y Nc ix) : mh X scope [y] Nc ix := ⟨sc.kind, sc.Ae, sc.nd, sc.names, (fun x hx => by rw [adY] at hx; subst hx; exact sc.own), sc.frees, sc.hd, sc.Xe⟩
theorem Xu (sc : lG X scope y Nc ix) (h : Block X CL scope Nc ifs elt δc ds p g) (h1 : (y == ("__debug__" : Str)) = false) (h2 : (y == ("__classdict__" : Str)) = false) : tY X CL scope Nc [y].length (.Name y px) part1 ifs elt δc ds p g := fun C s0 H0 f0 b' =>
 ⟨L0 (i := 0) sc.nd (EW (by rw [sc.hd]; rfl) sc.own h1 h2), fun d hd => ⟨[d], rfl, rfl, (h C s0 H0 f0 b' d hd).1, (h C s0 H0 f0 b' d hd).2⟩⟩
theorem pR (sc : lG X scope y Nc ix) (hc : X.calm = true) (h : PX X CL b (.Name y px) iter δ ds δ1) (hb : (δc = B4 δ1 ix /\ ∀ d ∈ ds, (g d).clean = true) \/ δc = B5 δ1 ix) (inner : Block X CL scope Nc ifs elt δc ds p g) (hlen : ds.length <= sizeLine)
   (hs : ∀ x, foldedSetIterable iter X.env x = pure x := by intro _; rfl) (h1 : (y == ("__debug__" : Str)) = false := by decide) (h2 : (y == ("__classdict__" : Str)) = false := by decide) : bQ X CL b (.ListComp elt [⟨.Name y px, iter, ifs, 0⟩] scope pos) δ (.lst ((ds.filter p).map g)) δ1 :=
 Cj (xs := [y]) (Xs sc) hc (LZ h) hb (Xu sc inner h1 h2) hlen hs
theorem wR {D : cO} {fU : List Stmt} {i : Nat} {x : Str} {pos' : Pos} {gg : L3.D -> T} (g : Gx X) (n : Ln X i x) (sc : lG X scope y Nc ix) (h : PX X CL b (.Name y px) iter δ ds δ1) (hb : (δc = B4 δ1 ix /\ ∀ d ∈ ds, (gg d).clean = true) \/ δc = B5 δ1 ix) (inner : Block X CL scope Nc ifs elt δc ds p gg)
   (hlen : ds.length <= sizeLine) (k : fD X CL b fU (δ1.set i (some (.lst ((ds.filter p).map gg)))) D) (hl : i < δ1.length)
   (B3 : swapsWith (.ListComp elt [⟨.Name y px, iter, ifs, 0⟩] scope pc) (some (.Name x pos')) pos.line X.env = pure true \/ swapsWith (.ListComp elt [⟨.Name y px, iter, ifs, 0⟩] scope pc) (some (.Name x pos')) pos.line X.env = pure false) (hs : ∀ x, foldedSetIterable iter X.env x = pure x := by intro _; rfl)
   (h1 : (y == ("__debug__" : Str)) = false := by decide) (h2 : (y == ("__classdict__" : Str)) = false := by decide) : fD X CL b (.Assign [.Name x pos'] (.ListComp elt [⟨.Name y px, iter, ifs, 0⟩] scope pc) pos :: fU) δ D :=
 L8 (xs := [y]) g n (Xs sc) (LZ h) hb (Xu sc inner h1 h2) hlen k hl B3 hs
end
section
variable {X : Cx} {CL : Str -> Addr} {b : Bx} {δ : List (Option T)} {i : Nat} {x : Str} {d : L3.D} {pos : Pos}
theorem aC (n : Ln X i x) (h : δ[i]? = some (some (.sh d)) := by rfl) : cN X CL b (.Name x pos) δ d δ := ah (v_ n.1 h)
end
structure cE (X : Cx) : Prop where
 g : Gx X
 u : X.A.units + 64 < cLine
noncomputable abbrev aD (X : Cx) (CL : Str -> Addr) (b : Bx) (st : Stmt) (N : List Str) (l : List L3.D) (r : T) : Prop := fD X CL b (ig st) (entry N l) { nx := fun _ => r = .sh .non, rt := fun v__ _ => v__ = r }
noncomputable abbrev aF : NameKind := .globalImplicit
noncomputable abbrev au : NameKind := .local
theorem aZ {N P : List Str} {sc : Scope} (h1 : sc.kind = .function := by rfl) (h2 : sc.isCoroutine = false := by rfl) (h3 : sc.isGenerator = false := by rfl) (h4 : N.Nodup := by decide +kernel) (h5 : N.take P.length = P := by rfl) (h6 : ∀ x ∈ P, sc.names.lookup x = some .local \/ sc.names.lookup x = some .cell := by decide +kernel) (h7 : ∀ y ∈ sc.names, y.2 ≠ .free := by decide +kernel) : aT N P sc := ⟨h1, h2, h3, h4, h5, h6, h7⟩
section
variable {X : Cx} {i : Nat} {x : Str} {tb : List (Str × NameKind)}
theorem bA (c : nq X.env.scope tb = true) (j : Nat) (hj : tb[j]? = some (x, .local) := by rfl) (hi : X.N[i]? = some x := by rfl) (hf : X.fn x = true := by rfl) (hd : (x == ("__debug__" : Str)) = false := by decide) (hc : (x == ("__classdict__" : Str)) = false := by decide) : Ln X i x := mkL hi (iz c j hj) hf hd hc
theorem UR (c : nq X.env.scope tb = true) (j : Nat) (hj : tb[j]? = some (x, .cell) := by rfl) (hi : X.N[i]? = some x := by rfl) (hf : X.fn x = true := by rfl) (hd : (x == ("__debug__" : Str)) = false := by decide) (hc : (x == ("__classdict__" : Str)) = false := by decide) : Ln X i x := mkC hi (iz c j hj) hf hd hc
theorem dW (c : nq X.env.scope tb = true) (j : Nat) (hj : tb[j]? = some (x, .globalImplicit) := by rfl) : Gl X x := iz c j hj
theorem dX {CL : Str -> Addr} {k n m : Nat} {A : Type} {arg : A -> List D} {Pre : A -> Prop} {res : A -> T} (F : ∃ f fd ps, b8 X.prog X.w X.K X.mg X.base iY k f fd ps (lE X.K CL n arg Pre res) /\ X.mg x = some (.ref f) /\ PySem.W.keepIn X.K (.ref f) = true /\ Binds X.K fd ps []) (r : gq m X.A) (h : k <= m := by decide) : Fc X CL x k n arg Pre res := ⟨F, r.mono h⟩
end
section
variable {K : PySem.W.Frag} {CL : Str -> Addr} {b : Bx} {H H' Z Z' : Hp} {δ δ' : List (Option T)} {σ σ' : L2.St} {ts tl : List T} {vs us : List V} {t : T} {v : V} {y : Addr} {i : Nat}
end
section
variable {K : PySem.W.Frag} {CL : Str -> Addr} {b : Bx} {H Z : Hp} {σ : L2.St} {ts : List T} {vs : List V}
end
section
variable {X : Cx} {CL : Str -> Addr} {b : Bx} {δ δ1 δ2 : List (Option T)} {e : Expr} {es : List Expr} {t : T} {d : L3.D} {pos pp : Pos} {D : cO} {i : Nat} {x : Str} {is : List Nat} {fx : List Addr -> Prop} {al : List Addr -> List T} {y : Addr}
variable {fU : List Stmt}
end
section
variable {X : Cx} {CL : Str -> Addr} {b : Bx} {δ δ1 δ2 : List (Option T)} {e e2 : Expr} {t : T} {tl KH Mf : List T} {D : cO} {pos pp pa pb : Pos} {y : Addr} {fU : List Stmt}
section
variable {i : Nat} {x : Str}
end
end
section
variable {α β : Type} {g : α -> Int}
end
section
variable {X : Cx} {CL : Str -> Addr} {pins : List (Addr × Obj)} {σ : L2.St} {H : Hp} {s : Shared} {x q : Str} {params : Arguments} {body : Expr} {scope : Scope} {pos : Pos}
end
section
variable {X : Cx} {scope : Scope} {x q : Str} {Nc : List Str} {ix : List Nat} {pins : List (Addr × Obj)} {σ : L2.St} {H : Hp} {s : Shared} {A : Around} {f c : Addr}
end
section
variable {X : Cx} {pins : List (Addr × Obj)} {σ : L2.St} {H : Hp} {s : Shared}
end
section
variable {α β : Type} {F : α -> β -> Prop} {g1 : α -> Int} {g2 : β -> Int}
end
section
variable {X : Cx} {pins : List (Addr × Obj)} {σ : L2.St} {H : Hp} {s : Shared} {a kS f l : Addr} {us : List Value} {xs : List V} {kz : List Int} {J : Hp -> Prop} {e1 : Nat} {A : Around} {E : Value -> Shared -> Prop} {P : PySem.Fin -> Shared -> Prop}
end
section
variable {K : PySem.W.Frag} {CL : Str -> Addr} {Z : Hp} {g : D -> Int}
end
section
variable {X : Cx} {CL : Str -> Addr} {b : Bx} {δ δ1 : List (Option T)} {e body : Expr} {ds : List L3.D} {g : L3.D -> Int} {scope : Scope} {y q tx : Str} {Nc : List Str} {ix : List Nat} {params : Arguments} {pos pp lp p2 : Pos}
variable {A : Around} {f c : Addr} {s : Shared} {H : Hp} {i : Nat} {x : Str}
end
section
variable {X : Cx}
end
section
variable {X : Cx} {CL : Str -> Addr} {b : Bx} {δ δ1 δ2 : List (Option T)} {o e : Expr} {apos pos : Pos}
end
section
variable {X : Cx} {CL : Str -> Addr} {b : Bx} {δ : List (Option T)} {e : Expr} {es : List Expr} {d : L3.D} {ds : List L3.D}
end
section
variable {X : Cx} {CL : Str -> Addr} {b : Bx} {δ δ1 : List (Option T)} {scope : Scope} {y : Str} {Nc : List Str} {ix : List Nat} {elt iter : Expr} {ifs : List Expr} {px pos : Pos} {p : L3.D -> Bool} {g : L3.D -> T} {ds : List L3.D}
end
section
variable {X : Cx}
end
section
variable {X : Cx} {CL : Str -> Addr} {b : Bx} {δ δ1 : List (Option T)} {e : Expr} {pos pp pq pr : Pos}
end
section
variable {X : Cx} {CL : Str -> Addr} {b : Bx} {δ δ1 : List (Option T)} {ds : List L3.D} {i q : Nat} {x y : Str} {pos pp pos' : Pos}
end
section
variable {X : Cx} {CL : Str -> Addr} {b : Bx} {e o : Expr} {δ δ1 δ2 : List (Option T)} {pos apos : Pos}
theorem Qh {l : List Str} {its : List Value} (r : Vals (l.map V.str) its) : ∃ ps : List (Str × Tok), its = strValues ps /\ ps.map (·.1) = l := by
 induction l generalizing its with
 | nil => cases r; exact ⟨[], rfl, rfl⟩
 | cons x l ih =>
   rw [aen] at r
   cases r with
   | cons r rs =>
     obtain ⟨t, rfl⟩ := r
     obtain ⟨ps, e1, e2⟩ := ih rs
     exact ⟨(x, t) :: ps, by rw [e1]; rfl, by rw [aen, e2]⟩
theorem Qi : Yw X "str.join" (fun x vs H Q => ∃ (z : Str) (p : Addr) (l : List Str), x = .str z /\ vs = [.ref p] /\ jY X.K H p (l.map V.str) /\ JoinOk z l = true /\ Q (.str (Txt.join z l)) H) := by
 intro pins s σ H x vs v us Q I rx rv h
 obtain ⟨z, p, l, rfl, rfl, hq, dR, q⟩ := h
 obtain ⟨t, rfl⟩ := rx
 obtain ⟨u, rfl, ru⟩ := rv.one
 cases ru
 obtain ⟨its, r, pl, _⟩ := I.list hq
 obtain ⟨ps, rfl, e⟩ := Qh r
 exact SC.join pl.isList e dR fun t' k => ⟨.str _, H, I.tok k, ⟨_, rfl⟩, q⟩
theorem j0 {z : Str} {l : List Str} (h1 : cN X CL b o δ (.str z) δ1) (h2 : cN X CL b e δ1 (.lst (l.map L3.D.str)) δ2) (dR : JoinOk z l = true)
   (jE : attributeBase o "join" X.env (eval o X.env) = eval o X.env := by rfl)
   (qC : ((backTo pos (starEach [e] X.env)).all (fun x => !x.1) && (backToKw pos (keywordEach [] X.env)).all (fun x => x.1.isSome) && decide ([e].length + ([] : List Keyword).length + (if ([] : List Keyword).isEmpty then 0 else 1) < 30)) = true := by rfl)
   (hline : (apos.endLine == pos.line) = true := by rfl) (hs : starEach [e] X.env = (false, eval e X.env) :: starEach [] X.env := by exact bD rfl) :
   bQ X CL b (.Call (.Attribute o "join" apos) [e] [] pos) δ (.sh (.str (Txt.join z l))) δ2 := fun H Z σ ts vs Q S k =>
 cH (zx PySem.F.plainAttrs_str PySem.F.slot_str_join PySem.F.type_str_join Qi dG (b7 dG eo hs) jE qC hline hs rfl)
   (h1 H Z σ ts vs _ S fun v1 H1 Z1 z1 k1 S1 r1 => by
     have e1 := r1.sc rfl
     subst e1
     refine ⟨rfl, h2 H1 Z1 σ ts vs _ S1 fun v2 H2 Z2 z2 k2 S2 r2 => ?_⟩
     cases r2 with
     | @lst p us _ hq rr =>
       have e2 := rr.strs
       subst e2
       exact ⟨z, p, l, rfl, rfl, hq, dR, k _ _ _ (z1.trans z2) (k1.trans k2) (S2.push (.str _))⟩)
end
noncomputable def Xv (lo c : Int) (n : Nat) : It := ⟨fun i _ => i < n, fun i H x H' => H' = H /\ x = .int (lo + i * c), fun i _ => n <= i⟩
theorem Jt {P : Program} {w : World} {K : PySem.W.Frag} {tg : Expr} (it : Addr) (lo c : Int) (n : Nat) : Turn P w K tg (Xv lo c n) [it] it (fun i h => IsRangeIter h it (lo + (i : Nat) * c) ((n : Int) - (i : Nat)) c) where
 mem := adY.mpr rfl
 obj := fun i h st b hb => by
   cases adY.mp hb
   exact ⟨_, st, fun v z => by
     have z' : Data.fields _ = Data.cell v := z
     cases z'⟩
 keep := fun i h h' st k => k it (adY.mpr rfl) _ st
 item := by
   intro X hP hw hK hc i pins s σ H E I hf st hg
   subst hP hw hK
   obtain ⟨f0, f1, f2, f3, f4, f5⟩ := hf it (adY.mpr rfl)
   have W := Walks.range (prog := X.prog) (w := X.w) (I.ok.hd hc) it lo c n
   refine W.item i s _ _ hg st fun v h' tk hv K1 kk => ?_
   obtain ⟨t, rfl⟩ := hv
   have I1 : Inv X pins σ H { s with heap := h', toks := tk } := I.turned (fun b o hb e => kk b o (by simpa using hb) e) f0 f1 f3 f4 f5
   exact ⟨_, rfl, Hf (s := { s with heap := h', toks := tk }) (n := "range_iterator") K1 rfl rfl (by decide) ⟨.int (lo + i * c), H, I1, ⟨t, rfl⟩, ⟨rfl, rfl⟩, K1, fun b hb => (hf b hb).1⟩⟩
 done := by
   intro X hP hw hK hc i pins s σ H E I hf st hg
   subst hP hw hK
   obtain ⟨f0, f1, f2, f3, f4, f5⟩ := hf it (adY.mpr rfl)
   exact wpAny_pyNext_range_end (I.ok.hd hc) st (by have : n <= i := hg; omega) fun h' eb => ⟨rfl, I.turned (t' := s.toks) (fun b o hb e => eb b o hb e) f0 f1 f3 f4 f5⟩
 self := fun _ _ _ _ _ st h => wpAny_pyIter_rangeiter st h
noncomputable def nG (lo hi : Int) : Nat := ((hi - lo + 1) / 2).toNat
theorem step_size {lo hi : Int} (h0 : 0 <= lo) (h1 : lo <= 1000) (h2 : 0 <= hi) (h3 : hi <= 1000) : Builtin.Range.rangeSize lo hi 2 = (nG lo hi : Int) /\ Builtin.Range.small lo hi 2 = true := by
 have e : Builtin.Range.rangeSize lo hi 2 = (nG lo hi : Int) := by
   unfold Builtin.Range.rangeSize nG
   simp only [show (2 : Int) > 0 by decide, if_true]
   split <;> omega
 refine ⟨e, ?_⟩
 unfold Builtin.Range.small
 rw [e]
 unfold nG
 simp only [Builtin.Range.rangeFitsLong, aey, Bool.or_eq_true, decide_eq_true_eq, afe, show (2 : Int) > 0 by decide, if_true]
 omega
section
variable {X : Cx} {tg : Expr}
noncomputable def Xw (ta : TA) : TI := fun σ H R => ta σ H fun vs H1 => ∃ i j : Int, vs = [.int i, .int j, .int 2] /\ (0 <= i /\ i <= 1000 /\ 0 <= j /\ j <= 1000) /\ R (Xv i 2 (nG i j)) H1
theorem Ju {a b c : Expr} {ta : TA} {p pos : Pos} (hg : Gl X "range") (hm : X.mg "range" = none) (ha : PA X [a, b, c] ta) (hs : starEach [a, b, c] X.env = [(false, eval a X.env), (false, eval b X.env), (false, eval c X.env)] := by rfl) (tP : starEach [b, c] X.env = [(false, eval b X.env), (false, eval c X.env)] := by rfl) :
   PI X tg (.Call (.Name "range" p) [a, b, c] [] pos) (Xw ta) := by
 intro pins s σ H R I h
 refine Call_ (qB I hg hm boot_range (aeR (eL (ha pos pins s σ H _ I h) fun us s1 ⟨vs, H1, I1, r1, q1⟩ => ?_) (by rw [hs, tP]) (by rw [tP]; rfl)))
 obtain ⟨i, j, e, ⟨q1, q2, q3, q4⟩, q⟩ := q1
 subst e
 cases r1 with
 | cons r rr =>
   cases rr with
   | cons r' rr =>
     cases rr with
     | cons r'' rr =>
       cases rr
       obtain ⟨t, rfl⟩ := r
       obtain ⟨t', rfl⟩ := r'
       obtain ⟨t'', rfl⟩ := r''
       obtain ⟨hn, YJ⟩ := step_size q1 q2 q3 q4
       refine call_range_3 (by decide) ?_ (.inl (PyProof.noPylong_small (by decide)))
       refine wpAny_pyIter_range (IsRange.new ..) YJ ?_
       have I2 := I1.kept (t' := s1.toks) (h' := s1.heap.push { cls := .type "range", data := .fields #[.int i t, .int j t', .int 2 t''] }) fun b o e => aee _ e
       refine ⟨_, [_], _, _, H1, rfl, I2.kept (t' := s1.toks) fun b o e => aee _ e, Jt _ i 2 (nG i j), ?_, fun b hb => ?_, q⟩
       . have e1 : i + ((0 : Nat) : Int) * 2 = i := by omega
         have e2 : ((nG i j : Nat) : Int) - ((0 : Nat) : Int) = Builtin.Range.rangeSize i j 2 := by rw [hn]; omega
         show IsRangeIter _ _ (i + ((0 : Nat) : Int) * 2) (((nG i j : Nat) : Int) - ((0 : Nat) : Int)) 2
         rw [e1, e2]
         exact aeG _ rfl
       . cases adY.mp hb
         exact I2.yz (adV _) (I2.dR.fresh (adV _))
end
noncomputable def qv (lo : Int) (n : Nat) : List D := (List.range n).map fun (i : Nat) => D.int (lo + i * 2)
section
variable {X : Cx} {CL : Str -> Addr} {b : Bx} {δ δ1 δ2 δ3 : List (Option T)} {e e1 e2 e3 : Expr} {ds Ah : List L3.D} {pos p2 pr pc : Pos} {tg : Expr}
theorem Mj {K : PySem.W.Frag} {Z : Hp} (lo : Int) (n : Nat) : aH K CL Z (qv lo n) ((List.range n).map fun (i : Nat) => V.int (lo + i * 2)) := by
 unfold qv
 generalize List.range n = l
 induction l with
 | nil => exact .nil
 | cons i r ih => exact .cons (.int _) ih
theorem Jv {m n : Int} (hm : X.mg "range" = none) (h : OI X CL b [e1, e2, e3] δ [.int m, .int n, .int 2] δ1) (hn : 0 <= m /\ m <= 1000 /\ 0 <= n /\ n <= 1000) (hg : Gl X "range")
   (O7 : starEach [e1, e2, e3] X.env = [(false, eval e1 X.env), (false, eval e2 X.env), (false, eval e3 X.env)] := by rfl) (Uw : starEach [e2, e3] X.env = [(false, eval e2 X.env), (false, eval e3 X.env)] := by rfl) :
   PX X CL b tg (.Call (.Name "range" pr) [e1, e2, e3] [] pc) δ (qv m (nG m n)) δ1 := by
 refine ⟨_, Ju hg hm KG O7 Uw, fun H Z σ ts vs R S k => h H Z σ ts vs _ S fun vs' H1 Z1 z1 k1 S1 r => ?_⟩
 cases r with
 | cons r1 r =>
   cases r with
   | cons r2 r =>
     cases r with
     | cons r3 r =>
       cases r
       rw [r1.sc rfl, r2.sc rfl, r3.sc rfl]
       refine ⟨m, n, rfl, hn, k _ _ ⟨Z1, _, z1, k1, S1, Mj m (nG m n), fun i H2 s hi => ?_, fun i H2 y H' s hi hy => ?_, fun H2 s => ?_⟩⟩
       . show i < nG m n
         rw [qv, adM, aem] at hi
         exact hi
       . rw [qv, adM, aem] at hi
         refine ⟨hy.1, ?_⟩
         rw [ad8, aeO hi, hy.2]
         rfl
       . show nG m n <= (qv m (nG m n)).length
         rw [qv, adM, aem]
         exact adV _
noncomputable def Xx (K : PySem.W.Frag) : R2 := fun x y H Q => ∃ a b xs ys, x = .ref a /\ y = .ref b /\ rM K H a xs /\ rM K H b ys /\ ys ≠ [] /\ xs.length + ys.length <= sizeLine ∧
 (xs = [] -> Q (.ref b) H) /\ (xs ≠ [] -> ∀ p, H p = none -> Q (.ref p) (upd H p (.tup (xs ++ ys))))
theorem Qj : tN X (binaryOp .Add) (Xx X.K) := by
 intro pins s σ H x y v u Q I rx ry h
 obtain ⟨a, b, xs, ys, rfl, rfl, ha, hb, hy, hz, q1, q2⟩ := h
 by_cases hx : xs = []
 . subst hx
   cases rx
   cases ry
   obtain ⟨its, r1, p1, _⟩ := I.tuple ha
   obtain ⟨tT, r2, p2, _⟩ := I.tuple hb
   cases r1
   obtain ⟨⟨cls, dd, data, sl⟩, ho, hc, n, hd⟩ := id p1
   obtain ⟨⟨Zv, V2, data2, V3⟩, OG, Pk, n2, hd2⟩ := id p2
   simp only at hc hd Pk hd2
   subst hc hd Pk hd2
   exact concat_meets ⟨_, ho, rfl⟩ ⟨_, OG, rfl⟩ noFill_tuple_add seq_tuple_add PySem.F.slot_tuple_add afq (afm _ _)
     (tuple_addW0 a b _ _ n n2 dd V2 sl V3 rfl) ⟨ho, OG, ⟨.ref b, H, I, rfl, q1 rfl⟩⟩
 . exact Pu pins s σ H _ _ v u Q I rx ry ⟨a, b, xs, ys, rfl, rfl, ha, hb, hx, hz, fun e => absurd e hy, fun _ => q2 hx⟩
theorem iN (h1 : bQ X CL b e1 δ (.sh (.tup ds)) δ1) (h2 : bQ X CL b e2 δ1 (.sh (.tup Ah)) δ2) (n2 : Ah ≠ []) (hz : ds.length + Ah.length <= sizeLine) :
   bQ X CL b (.BinOp e1 .Add e2 pos) δ (.sh (.tup (ds ++ Ah))) δ2 := fun H Z σ ts vs Q S k =>
 cH (Hg Qj dG dG) (h1 H Z σ ts vs _ S fun v1 H1 Z1 z1 k1 S1 => h2 H1 Z1 σ _ _ _ S1 fun v2 H2 Z2 z2 k2 S2 => by
   have r2 := S2.EY
   have r1 := S2.pop.EY
   have r2' := r2
   cases r1 with
   | tup KL Jh =>
     cases r2 with
     | tup Cg Ji =>
       have e1 := Jh.length
       have e2 := Ji.length
       refine ⟨_, _, _, _, rfl, rfl, aG.Lj S2.zh KL, aG.Lj S2.zh Cg, fun z => n2 (List.eq_nil_of_length_eq_zero (by rw [e2, z]; rfl)), by omega, fun z => ?_, fun _ p hp => ?_⟩
       . have : ds = [] := List.eq_nil_of_length_eq_zero (by rw [e1, z]; rfl)
         subst this
         exact k _ _ _ (z1.trans z2) (k1.trans k2) (S2.pop.pop.push r2')
       . have rc := aH.app Jh Ji
         obtain ⟨a, c, S4⟩ := (bR.uQ rc S2.pop.pop).EI (by simp [rc.length, e1, e2]) hp
         obtain ⟨Z5, z5, S5⟩ := S4.EH
         rw [T.d7, iy] at S5
         exact k _ _ Z5 (z1.trans (z2.trans (a.trans z5))) (k1.trans (k2.trans c)) S5)
theorem Ml (h1 : bQ X CL b e1 δ (.sh (.lst ds)) δ1) (h2 : bQ X CL b e2 δ1 (.sh (.lst Ah)) δ2) (hz : ds.length + Ah.length <= sizeLine) :
   bQ X CL b (.BinOp e1 .Add e2 pos) δ (.lst ((ds ++ Ah).map T.sh)) δ2 := fun H Z σ ts vs Q S k =>
 cH (Hg HG dG dG) (h1 H Z σ ts vs _ S fun v1 H1 Z1 z1 k1 S1 => h2 H1 Z1 σ _ _ _ S1 fun v2 H2 Z2 z2 k2 S2 => by
   have r2 := S2.EY
   have r1 := S2.pop.EY
   cases r1 with
   | lst KL Jh =>
     cases r2 with
     | lst Cg Ji =>
       refine ⟨_, _, _, _, rfl, rfl, S2.zh.seq KL, S2.zh.seq Cg, by rw [← Jh.length, ← Ji.length]; exact hz, fun p hp => ?_⟩
       have rc := aH.app Jh Ji
       obtain ⟨c, S4⟩ := (bR.uQ rc S2.pop.pop).tV (g0 := []) (by simp [rc.length, Jh.length, Ji.length]) hp
       exact k _ _ _ (z1.trans z2) (k1.trans (k2.trans c)) S4)
end
noncomputable def Itz (K : PySem.W.Frag) (a c : Addr) : It :=
 ⟨fun i H => ∃ xs ys x y, jY K H a xs /\ jY K H c ys /\ xs[i]? = some x /\ ys[i]? = some y, fun i H v H' => ∃ T x y, H T = none /\ v = .ref T /\ (∀ xs, jY K H a xs -> xs[i]? = some x) /\ (∀ ys, jY K H c ys -> ys[i]? = some y) /\ H' = upd H T (.tup [x, y]),
   fun i H => ∃ xs ys, jY K H a xs /\ jY K H c ys /\ (xs.length <= i \/ ys.length <= i)⟩
structure Xy (z TI TO i1 i2 a c : Addr) (i : Nat) (h : Heap) : Prop where
 hz : IsZip h z TI TO .none
 YK : IsPair h TI (.ref i1) (.ref i2)
 YL : ∃ x y, IsPair h TO x y
 h1 : h.IsListIter i1 a i
 h2 : h.IsListIter i2 c i
theorem Mm {P : Program} {w : World} {K : PySem.W.Frag} {elts : List Expr} {kk : Nat} {pt : Pos} {z TI TO i1 i2 a c : Addr} (D : ZipApart z TI TO i1 i2 a c) : Turn P w K (.Tuple elts kk pt) (Itz K a c) [z, TI, TO, i1, i2] z (Xy z TI TO i1 i2 a c) where
 mem := adW
 obj := fun i h st b hb => by
   have seq : ∀ {T : Addr} {x y : Value}, IsPair h T x y -> ∃ o, h.get? T = some o /\ ∀ v, o.data ≠ .cell v := fun e => ⟨_, e, fun v z => by
     have z' : Data.seq _ = Data.cell v := z
     cases z'⟩
   have itr : ∀ {T l : Addr} {n : Nat}, h.IsListIter T l n -> ∃ o, h.get? T = some o /\ ∀ v, o.data ≠ .cell v := fun q => by
     obtain ⟨o, e, c, d⟩ := q
     exact ⟨o, e, fun v z => by rw [d] at z; cases z⟩
   rcases adN.mp hb with rfl | hb
   . exact ⟨_, st.hz, fun v z => by
       have z' : Data.fields _ = Data.cell v := z
       cases z'⟩
   rcases adN.mp hb with rfl | hb
   . exact seq st.YK
   rcases adN.mp hb with rfl | hb
   . obtain ⟨x, y, e⟩ := st.YL
     exact seq e
   rcases adN.mp hb with rfl | hb
   . exact itr st.h1
   . cases adY.mp hb
     exact itr st.h2
 keep := fun i h h' st k => by
   obtain ⟨x, y, e⟩ := st.YL
   exact ⟨k z (by simp) _ st.hz, k TI (by simp) _ st.YK, ⟨x, y, k TO (by simp) _ e⟩, st.h1.at fun o q => k i1 (by simp) o q, st.h2.at fun o q => k i2 (by simp) o q⟩
 item := by
   intro X hP hw hK hc i pins s σ H E I hf st hg
   subst hP hw hK
   obtain ⟨xs, ys, x, y, hq, Cg, hx, hy⟩ := hg
   obtain ⟨its, rv, p, hz⟩ := I.list hq
   obtain ⟨tT, YM, p2, hz2⟩ := I.list Cg
   obtain ⟨u, hu, ru⟩ := rv.get hx
   obtain ⟨u2, hu2, ZN⟩ := YM.get hy
   obtain ⟨sz, Xz, ⟨x0, y0, YN⟩, s1, s2⟩ := st
   have fz := hf z (by simp)
   have fO := hf TO (by simp)
   have f1 := hf i1 (by simp)
   have f2 := hf i2 (by simp)
   have UM : H s.heap.objs.size = none := I.dR.fresh (adV _)
   have fT := I.yz (adV s.heap.objs.size) UM
   refine PySem.wpAny_pyNext_zip_item D sz Xz YN s1 s2 p.isList p2.isList (x := u) (y := u2) (by simpa using hu) (by simpa using hu2) fun h' ho hO aaj aak hT K8 hk => ⟨_, rfl, ?_⟩
   refine PySem.wpAny_letOwnedTupleGo_zip ho fun h2 he2 tP => ?_
   replace tP : Heap.SameBut z h' h2 := tP
   have lt : ∀ {b : Addr} {o : Obj}, s.heap.get? b = some o -> b < s.heap.objs.size := fun e => aec e
   have zT := lt sz
   have keep : ∀ b o, b ≠ z -> b ≠ TO -> b ≠ i1 -> b ≠ i2 -> s.heap.get? b = some o -> h2.get? b = some o := fun b o h1 h3 h4 h5 q => (tP.2 b h1).trans (hk b o h1 h3 h4 h5 q)
   have hT2 : h2.get? s.heap.objs.size = some { cls := .type "tuple", data := .seq #[u, u2] } := (tP.2 _ (Nat.ne_of_gt zT)).trans hT
   have nH : ∀ b o, H b = some o -> (b ≠ z /\ b ≠ TO /\ b ≠ i1 /\ b ≠ i2) /\ b ≠ s.heap.objs.size := fun b o q => ⟨⟨fun w => (by rw [w, fz.1] at q; cases q), fun w => (by rw [w, fO.1] at q; cases q), fun w => (by rw [w, f1.1] at q; cases q), fun w => (by rw [w, f2.1] at q; cases q)⟩, fun w => (by rw [w, UM] at q; cases q)⟩
   have UT : ∀ b o, ¬ b ∈ [z, TO, i1, i2, s.heap.objs.size] -> s.heap.get? b = some o -> h2.get? b = some o := fun b o hc q => keep b o (fun w => hc (by simp [w])) (fun w => hc (by simp [w])) (fun w => hc (by simp [w])) (fun w => hc (by simp [w])) q
   have I' : L2.Inv X pins σ (upd H s.heap.objs.size (.tup [x, y])) { s with heap := h2 } := by
     refine I.step (g' := s.gens) (d' := s.drawn) (t' := s.toks) (ch := [z, TO, i1, i2, s.heap.objs.size]) (fun b hb => ?_) (fun b o _ _ hc q _ => ?_) (fun b o _ _ hc q _ => ⟨o.slots, ?_⟩) (fun b o hc q n => ?_) (fun b o hc q => ⟨o, ?_⟩) (fun b ys q => ?_) (fun b o u q => ?_) (fun b ps q => ⟨#[], ?_⟩) (fun m hm => ?_) (fun b o q => ?_) I.bare
     . rcases adN.mp hb with rfl | hb
       . exact ⟨fz.2.2.2.1, fz.2.1, fz.2.2.2.2.1, fz.2.2.2.2.2⟩
       rcases adN.mp hb with rfl | hb
       . exact ⟨fO.2.2.2.1, fO.2.1, fO.2.2.2.2.1, fO.2.2.2.2.2⟩
       rcases adN.mp hb with rfl | hb
       . exact ⟨f1.2.2.2.1, f1.2.1, f1.2.2.2.2.1, f1.2.2.2.2.2⟩
       rcases adN.mp hb with rfl | hb
       . exact ⟨f2.2.2.2.1, f2.2.1, f2.2.2.2.2.1, f2.2.2.2.2.2⟩
       . cases adY.mp hb
         exact ⟨fT.2.2.2.1, fT.2.1, fT.2.2.2.2.1, fT.2.2.2.2.2⟩
     . exact UT b o hc q
     . exact UT b o hc q
     . rw [aA (fun w => hc (by simp [w]))]; exact n
     . exact UT b o hc q
     . rw [aA (nH b _ q).2]; exact q
     . rw [aA (nH b _ q).2]; exact q
     . rw [aA (nH b _ q).2, q]; simp
     . obtain ⟨o, es, ep, ho, r⟩ := hm
       exact ⟨o, es, ep, keep _ o (aeW fz.2.1) (aeW fO.2.1) (aeW f1.2.1) (aeW f2.2.1) ho, r⟩
     . by_cases hb : b = s.heap.objs.size
       . subst hb
         rw [aX] at q
         cases q
         exact ⟨aeB (bz (adQ rfl)), [u, u2], .cons ru (.cons ZN .nil), ⟨_, hT2, rfl, _, rfl⟩⟩
       . rw [aA hb] at q
         refine (I.dR b o q).zP (fun c v hc w => ?_) (fun c w => by rw [aA (nH c _ w).2]; exact w) (fun c ys w => by rw [aA (nH c _ w).2]; exact w) fun c ys w => by rw [aA (nH c _ w).2]; exact w
         have nc : c ≠ z /\ c ≠ TO /\ c ≠ i1 /\ c ≠ i2 := by
           rcases hc with e | e
           . rw [e]; exact (nH b _ q).1
           . exact (nH c _ e).1
         exact keep c v nc.1 nc.2.1 nc.2.2.1 nc.2.2.2 w
   refine ⟨.ref s.heap.objs.size, _, I', rfl, ⟨_, x, y, UM, rfl, fun ys hy => by rw [I.rO hy hq]; exact hx, fun zs hz => by rw [I.rO hz Cg]; exact hy, rfl⟩, ⟨he2, (tP.2 TI D.TIz).trans (hk TI _ D.TIz D.TITO D.TIi1 D.TIi2 Xz), ⟨u, u2, (tP.2 TO D.TOz).trans hO⟩, aaj.at fun o q => (tP.2 i1 D.i1z).trans q, aak.at fun o q => (tP.2 i2 D.i2z).trans q⟩, fun b hb => ?_⟩
   have yx : b < s.heap.objs.size := by
     rcases adN.mp hb with rfl | hb
     . exact lt sz
     rcases adN.mp hb with rfl | hb
     . exact lt Xz
     rcases adN.mp hb with rfl | hb
     . exact lt YN
     rcases adN.mp hb with rfl | hb
     . obtain ⟨o, q, _⟩ := s1
       exact lt q
     . cases adY.mp hb
       obtain ⟨o, q, _⟩ := s2
       exact lt q
   rw [aA (aeE yx)]
   exact (hf b hb).1
 done := by
   intro X hP hw hK hc i pins s σ H E I hf st hg
   subst hP hw hK
   obtain ⟨xs, ys, hq, Cg, hx⟩ := hg
   obtain ⟨its, rv, p, hz⟩ := I.list hq
   obtain ⟨tT, YM, p2, hz2⟩ := I.list Cg
   obtain ⟨sz, Xz, ⟨x0, y0, YN⟩, s1, s2⟩ := st
   have l1 := rv.length
   have l2 := YM.length
   have fz := hf z (by simp)
   have fO := hf TO (by simp)
   have f1 := hf i1 (by simp)
   have f2 := hf i2 (by simp)
   refine PySem.wpAny_pyNext_zip_end (I.ok.hd hc) D sz Xz YN s1 s2 p.isList p2.isList ?_ fun h' eb => ⟨rfl, ?_⟩
   . rcases hx with h | h
     . exact .inl (by simp; omega)
     . exact .inr (by simp; omega)
   . have nH : ∀ b o, H b = some o -> b ≠ z /\ b ≠ TO /\ b ≠ i1 /\ b ≠ i2 := fun b o q => ⟨fun w => (by rw [w, fz.1] at q; cases q), fun w => (by rw [w, fO.1] at q; cases q), fun w => (by rw [w, f1.1] at q; cases q), fun w => (by rw [w, f2.1] at q; cases q)⟩
     have UT : ∀ b o, ¬ b ∈ [z, TO, i1, i2] -> s.heap.get? b = some o -> h'.get? b = some o := fun b o hc q => eb b o (fun w => hc (by simp [w])) (fun w => hc (by simp [w])) (fun w => hc (by simp [w])) (fun w => hc (by simp [w])) q
     refine I.step (g' := s.gens) (d' := s.drawn) (t' := s.toks) (ch := [z, TO, i1, i2]) (fun b hb => ?_) (fun b o _ _ hc q _ => ?_) (fun b o _ _ hc q _ => ⟨o.slots, ?_⟩) (fun b o hc q n => ?_) (fun b o hc q => ⟨o, ?_⟩) (fun b ys q => ?_) (fun b o u q => ?_) (fun b ps q => ⟨#[], ?_⟩) (fun m hm => ?_) (fun b o q => ?_) I.bare
     . rcases adN.mp hb with rfl | hb
       . exact ⟨fz.2.2.2.1, fz.2.1, fz.2.2.2.2.1, fz.2.2.2.2.2⟩
       rcases adN.mp hb with rfl | hb
       . exact ⟨fO.2.2.2.1, fO.2.1, fO.2.2.2.2.1, fO.2.2.2.2.2⟩
       rcases adN.mp hb with rfl | hb
       . exact ⟨f1.2.2.2.1, f1.2.1, f1.2.2.2.2.1, f1.2.2.2.2.2⟩
       . cases adY.mp hb
         exact ⟨f2.2.2.2.1, f2.2.1, f2.2.2.2.2.1, f2.2.2.2.2.2⟩
     . exact UT b o hc q
     . exact UT b o hc q
     . exact n
     . exact UT b o hc q
     . exact q
     . exact q
     . rw [q]; simp
     . obtain ⟨o, es, ep, ho, r⟩ := hm
       exact ⟨o, es, ep, eb _ o (aeW fz.2.1) (aeW fO.2.1) (aeW f1.2.1) (aeW f2.2.1) ho, r⟩
     . refine (I.dR b o q).zP (fun c v hc w => ?_) (fun c w => w) (fun c ys w => w) fun c ys w => w
       have nc : c ≠ z /\ c ≠ TO /\ c ≠ i1 /\ c ≠ i2 := by
         rcases hc with e | e
         . rw [e]; exact nH b _ q
         . exact nH c _ e
       exact eb c v nc.1 nc.2.1 nc.2.2.1 nc.2.2.2 w
 self := fun _ _ _ _ _ st h => PySem.wpAny_pyIter_zip st.hz h
theorem boot_zip : bootBuiltins "zip" = some (.type "zip") := by decide +kernel
section
variable {X : Cx} {elts : List Expr} {kk : Nat} {pt : Pos}
noncomputable def aal (K : PySem.W.Frag) (ta : TA) : TI := fun σ H R => ta σ H fun vs H1 => ∃ a c xs ys, vs = [.ref a, .ref c] /\ jY K H1 a xs /\ jY K H1 c ys /\ R (Itz K a c) H1
theorem UU {a c : Expr} {ta : TA} {p pos : Pos} (hg : Gl X "zip") (hm : X.mg "zip" = none) (ha : PA X [a, c] ta) (hs : starEach [a, c] X.env = [(false, eval a X.env), (false, eval c X.env)] := by rfl) (tP : starEach [c] X.env = [(false, eval c X.env)] := by rfl) : PI X (.Tuple elts kk pt) (.Call (.Name "zip" p) [a, c] [] pos) (aal X.K ta) := by
 intro pins s σ H R I h
 refine Call_ (qB I hg hm boot_zip (aeR (eL (ha pos pins s σ H _ I h) fun us s1 zz => ?_) (by rw [hs, tP]) (by rw [tP]; rfl)))
 obtain ⟨vs, H1, I1, r1, q1⟩ := zz
 obtain ⟨l, m, xs, ys, e, hq, Cg, q⟩ := q1
 subst e
 cases r1 with
 | cons r rr =>
   cases rr with
   | cons r' rr =>
     cases rr
     cases r
     cases r'
     obtain ⟨its, rv, p, hz⟩ := I1.list hq
     obtain ⟨tT, YM, p2, hz2⟩ := I1.list Cg
     have a1 : l < s1.heap.objs.size := by obtain ⟨_, e, _⟩ := p.isList; exact aec e
     have a2 : m < s1.heap.objs.size := by obtain ⟨_, e, _⟩ := p2.isList; exact aec e
     refine PySem.call_zip_2 p.isList p2.isList fun h' hz YK YL ZQ hi2 K8 hk => ?_
     have I2 : L2.Inv X pins σ H1 { s1 with heap := h' } := I1.kept (t' := s1.toks) fun b o e => hk b o e
     refine PySem.wpAny_pyIter_zip hz ?_
     refine ⟨s1.heap.objs.size + 4, [s1.heap.objs.size + 4, s1.heap.objs.size + 2, s1.heap.objs.size + 3, s1.heap.objs.size, s1.heap.objs.size + 1], _, _, H1, rfl, I2, Mm (PyProof.Rows.zipApart_new a1 a2), ⟨hz, YK, ⟨_, _, YL⟩, ZQ, hi2⟩, fun b hb => ?_, q⟩
     have ge : s1.heap.objs.size <= b := by
       rcases adN.mp hb with rfl | hb
       . exact Nat.le_add_right _ _
       rcases adN.mp hb with rfl | hb
       . exact Nat.le_add_right _ _
       rcases adN.mp hb with rfl | hb
       . exact Nat.le_add_right _ _
       rcases adN.mp hb with rfl | hb
       . exact adV _
       . cases adY.mp hb
         exact Nat.le_add_right _ _
     exact I1.yz ge (I1.dR.fresh ge)
end
noncomputable def Am (ds es : List D) : List D := (ds.zip es).map fun p => .tup [p.1, p.2]
theorem Mp {ds es : List D} {i : Nat} {d e : D} (h : ds[i]? = some d) (h2 : es[i]? = some e) : (Am ds es)[i]? = some (.tup [d, e]) := by
 unfold Am
 rw [ad8, List.getElem?_zip_eq_some (z := (d, e)).mpr ⟨h, h2⟩]
 rfl
section
variable {X : Cx} {CL : Str -> Addr} {b : Bx} {δ δ1 δ2 : List (Option T)} {e e1 e2 : Expr} {ds es : List D} {elts : List Expr} {kk : Nat} {pt pr pc pos apos : Pos}
theorem UW (hm : X.mg "zip" = none) (h1 : bQ X CL b e1 δ (.sh (.lst ds)) δ1) (h2 : bQ X CL b e2 δ1 (.sh (.lst es)) δ2) (hg : Gl X "zip") (hl : ds.length = es.length)
   (hs : starEach [e1, e2] X.env = [(false, eval e1 X.env), (false, eval e2 X.env)] := by rfl) (tP : starEach [e2] X.env = [(false, eval e2 X.env)] := by rfl) (ZY : starEach [e1, e2] X.env = (false, eval e1 X.env) :: starEach [e2] X.env := by rfl) (hs4 : starEach [e2] X.env = (false, eval e2 X.env) :: starEach [] X.env := by rfl) :
   P7 X CL b (.Tuple elts kk pt) (.Call (.Name "zip" pr) [e1, e2] [] pc) δ (Am ds es) δ2 := by
 have XA : (Am ds es).length = ds.length := by rw [Am, adM, List.length_zip, hl, Nat.min_self]
 refine ⟨_, UU hg hm (b7 dG (b7 dG eo hs4) ZY) hs tP, fun H Z σ ts vs R S k => h1 H Z σ ts vs _ S fun v H1 Z1 z1 k1 S1 => h2 H1 Z1 σ _ _ _ S1 fun v2 H2 Z2 z2 k2 S2 => ?_⟩
 have r2 := S2.EY
 have r1 := S2.pop.EY
 cases r1 with
 | @lst a us _ KL Jh =>
   cases r2 with
   | @lst c EX _ Cg Ji =>
     have l1 := Jh.length
     have l2 := Ji.length
     refine ⟨a, c, us, EX, rfl, S2.zh.seq KL, S2.zh.seq Cg, k _ _ ⟨Z2, z1.trans z2, k1.trans k2, S2.pop.pop, fun i H2 s hi => ?_, fun i Z3 H3 x H' s1 s2 tp hi hy => ?_, fun H2 s => ?_⟩⟩
     . rw [XA] at hi
       exact ⟨us, EX, us[i]'(by omega), EX[i]'(by omega), s.seq KL, s.seq Cg, ad3 (by omega), ad3 (by omega)⟩
     . rw [XA] at hi
       obtain ⟨T, x1, y1, hT, rfl, hx, hy, rfl⟩ := hy
       obtain ⟨d, hd, rd⟩ := Jh.Jb (hx us ((s1.trans s2).seq KL))
       obtain ⟨d2, hd2, rd2⟩ := Ji.Jb (hy EX ((s1.trans s2).seq Cg))
       have gr : wL Z3 H3 _ _ := wL.tup (xs := [x1, y1]) s2 tp hT
       exact ⟨_, _, Mp hd hd2, gr, .tup (rM.of aX) (.cons ((rd.mono s1).mono gr.z) (.cons ((rd2.mono s1).mono gr.z) .nil))⟩
     . rw [XA]
       exact ⟨us, EX, s.seq KL, s.seq Cg, .inl (by omega)⟩
theorem Qk : tN X (binaryOp .Mult) (fun x y H Q => ∃ i n, x = .str i /\ y = .int n /\ MulOk i n /\ Q (.str (Txt.mul i n)) H) := by
 intro pins s σ H x y v u Q I rx ry h
 obtain ⟨i, n, rfl, rfl, hz, q⟩ := h
 obtain ⟨t, rfl⟩ := rx
 obtain ⟨t', rfl⟩ := ry
 exact SB.mul hz fun t' k => ⟨.str (Txt.mul i n), H, I.tok _, ⟨_, rfl⟩, q⟩
theorem HP {x : Str} {n : Int} (h1 : cN X CL b e1 δ (.str x) δ1) (h2 : cN X CL b e2 δ1 (.int n) δ2) (c : MulOk x n) : bQ X CL b (.BinOp e1 .Mult e2 pos) δ (.sh (.str (Txt.mul x n))) δ2 := nP Qk h1 h2 rfl rfl rfl fun _ _ q => ⟨x, n, rfl, rfl, c, q⟩
noncomputable def aam (te : TE) : TE := fun σ H Q => te σ H fun v H1 => (∃ x, v = .str x /\ x.length <= sizeLine /\ Q (.str x) H1) \/ (∃ i : Int, v = .int i /\ i.natAbs.log2 < 1920 /\ Q (.str (Str.ofString (toString i))) H1)
theorem Mq {te : TE} (he : PE X e te) : PE X (.FormattedValue e (-1) none pos) (aam te) := by
 intro pins s σ H Q I h
 refine FormattedValue_plain (eL (he pins s σ H _ I h) fun v s1 zz => ?_)
 obtain ⟨x, H1, I1, r1, q1⟩ := zz
 rcases q1 with ⟨y, rfl, hz, q⟩ | ⟨i, rfl, hz, q⟩
 . obtain ⟨t, rfl⟩ := r1
   exact formatField_str (fun t' tk => ⟨.str y, H1, I1.tok _, ⟨_, rfl⟩, q⟩) hz
 . obtain ⟨t, rfl⟩ := r1
   exact formatField_int_small hz ⟨.str _, H1, I1.tok _, ⟨_, rfl⟩, q⟩
theorem Ql {x : Str} (h : cN X CL b e δ (.str x) δ1) (hz : x.length <= sizeLine) : bQ X CL b (.FormattedValue e (-1) none pos) δ (.sh (.str x)) δ1 := fun H Z σ ts vs Q S k =>
 cH (Mq dG) (h H Z σ ts vs _ S fun v H1 Z1 z1 k1 S1 r => .inl ⟨x, r.sc rfl, hz, k _ H1 Z1 z1 k1 (S1.push (.str _))⟩)
theorem Qm {i : Int} (h : cN X CL b e δ (.int i) δ1) (hz : i.natAbs.log2 < 1920) : bQ X CL b (.FormattedValue e (-1) none pos) δ (.sh (.str (Str.ofString (toString i)))) δ1 := fun H Z σ ts vs Q S k =>
 cH (Mq dG) (h H Z σ ts vs _ S fun v H1 Z1 z1 k1 S1 r => .inr ⟨i, r.sc rfl, hz, k _ H1 Z1 z1 k1 (S1.push (.str _))⟩)
noncomputable def XC (X : Cx) (out : Str) (es : List Expr) : TE := fun σ H Q => ∀ (pins : List (Addr × Obj)) (s : Shared), Inv X pins σ H s -> wpAny (model X.prog X.w) X.A (joinParts out (evalEach es X.env)) (EP X pins σ Q) X.xe s
noncomputable def YQ (X : Cx) (CL : Str -> Addr) (b : Bx) (out : Str) (es : List Expr) (δ : List (Option T)) (res : Str) (δ' : List (Option T)) : Prop :=
 ∀ (H Z : Hp) (σ : L2.St) (ts : List T) (vs : List V) (Q : VK), bR X.K CL b H Z δ σ ts vs -> (∀ v H' Z', aG Z Z' -> aG H H' -> bR X.K CL b H' Z' δ' σ (.sh (.str res) :: ts) (v :: vs) -> Q v H') -> XC X out es σ H Q
theorem UX {out : Str} (hz : out.length <= sizeLine) : YQ X CL b out [] δ out δ := fun H Z σ ts vs Q S k pins s I =>
 joinParts_nil ⟨.str out, H, I.tok _, ⟨_, rfl⟩, k _ H Z (.refl _) (.refl _) (S.push (.str _))⟩ hz
theorem vU {out x res : Str} {es : List Expr} (h1 : cN X CL b e δ (.str x) δ1) (h2 : YQ X CL b (out ++ x) es δ1 res δ2) (hz : (out ++ x).length <= sizeLine) (hs : evalEach (e :: es) X.env = eval e X.env :: evalEach es X.env := by rfl) : YQ X CL b out (e :: es) δ res δ2 := fun H Z σ ts vs Q S k pins s I => by
 rw [hs]
 refine joinParts_cons (eL (h1 H Z σ ts vs (fun v H1 => v = .str x /\ XC X (out ++ x) es σ H1 Q) S (fun v H1 Z1 z1 k1 S1 r => ⟨r.sc rfl, h2 H1 Z1 σ ts vs Q S1 fun v' H' Z' z k' S' => k v' H' Z' (z1.trans z) (k1.trans k') S'⟩) pins s I) fun u s1 zz => ?_)
 obtain ⟨v, H1, I1, r1, rfl, q⟩ := zz
 obtain ⟨t, rfl⟩ := r1
 exact ⟨hz, q pins s1 I1⟩
theorem Jw {v1 v2 : Expr} {es : List Expr} {res : Str} (h : YQ X CL b Str.empty (v1 :: v2 :: es) δ res δ1) (hs : evalEach (v1 :: v2 :: es) X.env = eval v1 X.env :: eval v2 X.env :: evalEach es X.env := by rfl) : bQ X CL b (.JoinedStr (v1 :: v2 :: es) pos) δ (.sh (.str res)) δ1 := fun H Z σ ts vs Q S k pins s I =>
 JoinedStr_many (by
   have := h H Z σ ts vs Q S k pins s I
   rwa [hs] at this)
end
section
variable {X : Cx} {CL : Str -> Addr} {b : Bx} {δ δ1 δ2 : List (Option T)} {e e2 : Expr} {t : T} {tl KH tt Xf : List T} {DD : cO} {fU : List Stmt} {x : Str} {i : Nat} {pos pp pa pb ps : Pos}
theorem Mr (j : Nat) (n : Vn X i x) (h2 : cN X CL b e2 δ (.int j) δ) (h0 : δ[i]? = some (some (.lst Xf))) (h0j : Xf[j]? = some (.lst KH)) (h : bQ X CL b e δ t δ1) (h1 : δ1[i]? = some (some (.lst tt))) (h1j : tt[j]? = some (.lst tl)) (hl : tl.length <= 1000000) (k : fD X CL b fU (δ1.set i (some (.lst (tt.set j (.lst (tl ++ [t])))))) DD)
   (hp : lY e2 := by exact fun _ _ => rfl)
   (jE : attributeBase (.Subscript (.Name x pp) e2 ps) "append" X.env (eval (.Subscript (.Name x pp) e2 ps) X.env) = eval (.Subscript (.Name x pp) e2 ps) X.env := by rfl)
   (qC : ((backTo pb (starEach [e] X.env)).all (fun x => !x.1) && (backToKw pb (keywordEach [] X.env)).all (fun x => x.1.isSome) && decide ([e].length + ([] : List Keyword).length + (if ([] : List Keyword).isEmpty then 0 else 1) < 30)) = true := by rfl)
   (hline : (pa.endLine == pb.line) = true := by rfl) (hs : starEach [e] X.env = (false, eval e X.env) :: starEach [] X.env := by exact bD rfl) (B3 : swapsWith (.Call (.Attribute (.Subscript (.Name x pp) e2 ps) "append" pa) [e] [] pb) none pos.line X.env = pure false := by rfl) :
   fD X CL b (.Expr (.Call (.Attribute (.Subscript (.Name x pp) e2 ps) "append" pa) [e] [] pb) pos :: fU) δ DD :=
 di fun H Z σ ts vs E S M =>
 wF (zW (zx afr PySem.F.slot_list_append PySem.F.type_list_append tU (zu z6 (lV n.hi n.hv n.hd n.nI) dG hp) (b7 dG eo hs) jE qC hline hs rfl) B3) (by
   obtain ⟨v0, hv0, _⟩ := S.look h0
   refine ⟨v0, hv0, h2 H Z σ ts vs _ S fun v2 H2 Z2 z2 k2 S2 r2 => ?_⟩
   obtain ⟨fp, gp, e0, r0, nd0, k0⟩ := S2.rep
   obtain ⟨w0, f1, f2, f3, OJ, rY, rt, _, _⟩ := e0.get h0
   rw [hv0] at OJ
   cases OJ
   cases rt with
   | @lst a0 Sg _ _ hq rs =>
     obtain ⟨vj, gj, Xr, rj, _⟩ := rs.get h0j
     refine ⟨a0, Sg, j, vj, rfl, r2.sc rfl, jY.of hq, lX Xr, ?_, ?_⟩
     . cases rj with
       | lst ha _ => exact .inl ⟨rfl, _, jY.of ha⟩
     . refine h H2 Z2 σ ts vs _ S2 fun v H1 Z1 z1 k1 S1 => ?_
       obtain ⟨b0, ws0, a, us, eb, KL, hw, KD, ha, hu', S3⟩ := S1.Jq h1 h1j
       rw [hv0] at eb
       cases eb
       have aao : ws0[j]? = Sg[j]? := by
         have h2 := k1 _ _ hq
         rw [KL] at h2
         injection h2 with h2
         injection h2 with h2
         rw [h2]
       rw [aao, Xr] at hw
       cases hw
       exact ⟨a, us, v, rfl, rfl, ha, by rw [hu']; exact afn hl (by rw [aek]; decide), M.nx _ σ _ Z1 (z2.trans z1) S3 k⟩)
theorem UY {ds : List L3.D} (h : cN X CL b e δ (.lst ds) δ1) (he : ∀ whole, isTrue e X.env whole = (do let v ← whole; standAt e.pos; holding [v] (truthy v)) := by intro _; rfl) : qD X CL b e δ (!ds.isEmpty) δ1 := fun H Z σ ts vs Q S k =>
 EG (K6 dG he) (h H Z σ ts vs _ S fun v H1 Z1 z1 k1 S1 r => by
   cases r with
   | @lst a us _ hq rr =>
     refine ⟨_, .inl ⟨us, hq, rfl⟩, ?_⟩
     have e : us.isEmpty = ds.isEmpty := by
       have := rr.length
       cases us <;> cases ds <;> simp at this ⊢
     rw [e]
     exact k H1 Z1 z1 k1 S1)
end
noncomputable def aap (y : Str) : Value -> Bool
 | .str i _ => i == y
 | _ => false
section
variable {X : Cx}
theorem Jx : Yw X "list.index" (fun x xs H Q => ∃ (p : Addr) (l : List Str) (y : Str) (j : Nat), x = .ref p /\ xs = [.str y] /\ jY X.K H p (l.map .str) /\ l[j]? = some y /\ (∀ i, i < j -> l[i]? ≠ some y) /\ Q (.int (j : Int)) H) := by
 intro pins s σ H x xs v us Q I rx rs h
 obtain ⟨p, l, y, j, rfl, rfl, hq, hj, EC, q⟩ := h
 cases rx
 obtain ⟨u, rfl, ru⟩ := rs.one
 obtain ⟨t, rfl⟩ := ru
 obtain ⟨its, r, ⟨⟨oc, od, oda, Lc⟩, n, e, hc, hd, hs⟩, hz⟩ := I.list hq
 dsimp only at hc hd hs
 subst hc hd hs
 have at' : ∀ {i : Nat} (hi : i < its.toArray.size), ∃ k t, its.toArray[i] = .str k t /\ l[i]? = some k := fun {i} yx => by
   have aaq : i < its.length := by simpa using yx
   have hl : i < l.length := by have := r.length; rw [adM] at this; omega
   obtain ⟨u, e1, e2⟩ := r.get (i := i) (x := .str l[i]) (by rw [ad8, ad3 hl]; rfl)
   obtain ⟨t, rfl⟩ := e2
   refine ⟨l[i], t, ?_, ad3 hl⟩
   rw [ad3 aaq] at e1
   simpa using Option.some.inj e1
 have t7 : j < its.toArray.size := by
   have h1 := (aev.mp hj).1
   have := r.length
   rw [adM] at this
   simp; omega
 have K8 : its.toArray.size <= sizeLine := by
   have := r.length
   rw [aeh, ← this]; exact hz
 refine call_meets F.slot_list_index ⟨_, e, rfl⟩ F.entry_list_index (F.args_list_index_2 _ _) (SeqAt.list_indexAt p its.toArray n none Lc (.str y t) (aap y) j t7 (by rw [aek] at K8; omega) ?hit fun m hm hmj => ?no) ⟨e, fun w hw => ?eqs, ?_⟩
 case hit =>
   obtain ⟨k, t', e1, e2⟩ := at' t7
   rw [e1]
   rw [hj] at e2
   cases e2
   exact afg y
 case no =>
   obtain ⟨k, t', e1, e2⟩ := at' hm
   rw [e1]
   exact ae4.mpr fun z => EC m hmj (by rw [e2, z])
 case eqs =>
   obtain ⟨i, yx, rfl⟩ := Array.mem_iff_getElem.mp hw
   obtain ⟨k, t', e1, e2⟩ := at' yx
   rw [e1]
   exact SeqAt.EqAt.str_str k t' y t
 exact ⟨.int (j : Int), H, I.tok _, ⟨_, rfl⟩, q⟩
end
section
variable {X : Cx} {CL : Str -> Addr} {b : Bx} {δ δ1 δ2 : List (Option T)} {o e : Expr} {apos pos : Pos}
theorem Jy {l : List Str} {y : Str} {j : Nat} (h1 : cN X CL b o δ (.lst (l.map .str)) δ1) (h2 : cN X CL b e δ1 (.str y) δ2) (hj : l[j]? = some y) (EC : ∀ i, i < j -> l[i]? ≠ some y)
   (jE : attributeBase o "index" X.env (eval o X.env) = eval o X.env := by rfl) (qC : ((backTo pos (starEach [e] X.env)).all (fun x => !x.1) && (backToKw pos (keywordEach [] X.env)).all (fun x => x.1.isSome)
     && decide (([e] : List Expr).length + ([] : List Keyword).length + (if ([] : List Keyword).isEmpty then 0 else 1) < 30)) = true := by rfl)
   (hline : (apos.endLine == pos.line) = true := by rfl) (hs : starEach [e] X.env = (false, eval e X.env) :: starEach [] X.env := by exact bD rfl) (EF : (backTo pos (starEach [] X.env)).any (·.1) = false := by rfl) :
   bQ X CL b (.Call (.Attribute o "index" apos) [e] [] pos) δ (.sh (.int (j : Int))) δ2 := fun H Z σ ts vs Q S k =>
 cH (zx (T := "list") (id := "list.index") F.plainAttrs_list F.slot_list_index F.type_list_index Jx dG (b7 dG eo hs) jE qC hline hs EF) (h1 H Z σ ts vs _ S fun v1 H1 Z1 z1 k1 S1 r1 => by
   cases r1 with
   | @lst a us _ hq rr =>
     have := rr.strs
     subst this
     refine ⟨?_, h2 H1 Z1 σ ts vs _ S1 fun v2 H2 Z2 z2 k2 S2 r2 => ?_⟩
     . exact .inl ⟨rfl, _, hq⟩
     . cases r2
       exact ⟨a, l, y, j, rfl, rfl, k2.seq hq, hj, EC, k _ H2 Z2 (z1.trans z2) (k1.trans k2) (S2.push (.int _))⟩)
end
end L3
namespace Law
open PySem L2 L3
noncomputable def top (i : Nat) : Stmt := PySem.Challenge.pw_moodtree_k20_whole_chart_written.main.body.getD i (.Pass ⟨0, 0, 0, 0⟩)
noncomputable def EZ : Nat -> List Int -> Int -> List Int
 | 0, _, _ => []
 | n + 1, es, k => if k = -1 then [] else k :: EZ n es (es.getD k.toNat 0)
noncomputable def rN (es : List Int) (m : Int) : List Int := EZ (es.length + 1) es (es.getD m.toNat 0)
noncomputable def mq (es : List Int) : Prop := ∀ k : Nat, k < es.length -> -1 <= es.getD k 0 /\ es.getD k 0 < k
theorem mq.at {es : List Int} (h : mq es) {k : Int} (h0 : 0 <= k) (h1 : k < es.length) : -1 <= es.getD k.toNat 0 /\ es.getD k.toNat 0 < k := by
 have := h k.toNat (by omega)
 omega
noncomputable def zE (ks : List Str) (es ss : List Int) : L3.D := .ins "Tree" [("kinds", .lst (ks.map .str)), ("elders", .lst (es.map .int)), ("starts", .lst (ss.map .int))]
theorem wU {ks : List Str} {es ss : List Int} : List.lookup ("kinds" : Str) [(("kinds" : Str), L3.D.lst (ks.map .str)), ("elders", .lst (es.map .int)), ("starts", .lst (ss.map .int))] = some (.lst (ks.map .str)) := jc
theorem nU {ks : List Str} {es ss : List Int} : List.lookup ("elders" : Str) [(("kinds" : Str), L3.D.lst (ks.map .str)), ("elders", .lst (es.map .int)), ("starts", .lst (ss.map .int))] = some (.lst (es.map .int)) := by
 rw [cS (by decide +kernel), jc]
theorem uW {ks : List Str} {es ss : List Int} : List.lookup ("starts" : Str) [(("kinds" : Str), L3.D.lst (ks.map .str)), ("elders", .lst (es.map .int)), ("starts", .lst (ss.map .int))] = some (.lst (ss.map .int)) := by
 rw [cS (by decide +kernel), cS (by decide +kernel), jc]
theorem eB (ds : List L3.D) : T.d7 (.lst (ds.map T.sh)) = .lst ds := by rw [T.d7, iy]
theorem g5 (l : List Int) : (T.lst ((l.map L3.D.int).map T.sh)).clean = true := by rw [gk]; exact uS _
theorem gb (l : List Str) : (T.lst ((l.map L3.D.str).map T.sh)).clean = true := by
 rw [gk]
 induction l with
 | nil => rfl
 | cons x l ih => exact ih
noncomputable def uX (ks : List Str) (es ss : List Int) : List (Str × T) := [("kinds", .lst ((ks.map .str).map T.sh)), ("elders", .lst ((es.map .int).map T.sh)), ("starts", .lst ((ss.map .int).map T.sh))]
theorem Jz (ks : List Str) (es ss : List Int) : T.d7 (.ins "Tree" (uX ks es ss)) = zE ks es ss := by
 unfold uX
 rw [T.d7, T.qp, T.qp, T.qp, T.qp, eB, eB, eB]
 rfl
theorem uY (ks : List Str) (es ss : List Int) : T.bB (uX ks es ss) = true := by
 unfold uX
 rw [T.bB, T.bB, T.bB, T.bB, gb, g5, g5]
 rfl
theorem HQ {es : List Int} (h : mq es) : ∀ (n : Nat) {k x : Int}, -1 <= k -> k < es.length -> x ∈ EZ n es k -> 0 <= x /\ x <= k
 | 0, k, x, _, _, hx => by rw [EZ] at hx; cases hx
 | n + 1, k, x, h0, h1, hx => by
   rw [EZ] at hx
   split at hx
   . cases hx
   . rename_i hk
     have ha := h.at (k := k) (by omega) h1
     rcases adN.mp hx with rfl | hx
     . omega
     . have := HQ h n (by omega) (by omega) hx
       omega
theorem Ms {es : List Int} {x : Int} {k : Nat} (h : k < es.length) : (es ++ [x]).getD k 0 = es.getD k 0 := by
 rw [adS, List.getElem?_append_left h, ← adS]
theorem mq.snoc {es : List Int} (h : mq es) {x : Int} (h0 : -1 <= x) (h1 : x < es.length) : mq (es ++ [x]) := fun k hk => by
 rw [adR] at hk
 simp only [aeo, List.length_nil] at hk
 by_cases e : k < es.length
 . rw [Ms e]
   exact h k e
 . have : k = es.length := by omega
   subst this
   rw [adS, afk (adV _)]
   simp
   omega
theorem pS : ∀ (n : Nat) (es : List Int) (k : Int), (EZ n es k).length <= n
 | 0, _, _ => adV _
 | n + 1, es, k => by
   rw [EZ]
   split
   . exact ael _
   . exact Nat.succ_le_succ (pS n es _)
noncomputable def vv (es : List Int) (m : Int) : List Int := ((List.range es.length).filter (fun (i : Nat) => decide (es.getD i 0 = m))).map (fun (i : Nat) => (i : Int))
theorem Qn (es : List Int) (m : Int) : (vv es m).length <= es.length := by
 unfold vv
 rw [adM]
 exact aeA (List.length_filter_le _ _) (by simp)
theorem Qo {es : List Int} {m x : Int} (h : x ∈ vv es m) : 0 <= x /\ x < es.length /\ es.getD x.toNat 0 = m := by
 unfold vv at h
 obtain ⟨i, hi, rfl⟩ := aed.mp h
 obtain ⟨h1, h2⟩ := ae7.mp hi
 have h1 := aeQ.mp h1
 have h2 := ad4 h2
 exact ⟨by omega, by omega, by rw [aeD]; exact h2⟩
noncomputable def E1 (bs nm : List L3.D) (tr : L3.D) (is os ws : List L3.D) : L3.D := .ins "Chart" [("boxes", .lst bs), ("names", .lst nm), ("tree", tr), ("ins", .lst is), ("outs", .lst os), ("ways", .lst ws)]
section
variable {bs nm is os ws : List L3.D} {tr : L3.D}
theorem j3 : List.lookup ("boxes" : Str) [(("boxes" : Str), L3.D.lst bs), ("names", .lst nm), ("tree", tr), ("ins", .lst is), ("outs", .lst os), ("ways", .lst ws)] = some (.lst bs) := jc
theorem iO : List.lookup ("names" : Str) [(("boxes" : Str), L3.D.lst bs), ("names", .lst nm), ("tree", tr), ("ins", .lst is), ("outs", .lst os), ("ways", .lst ws)] = some (.lst nm) := by
 rw [cS (by decide +kernel), jc]
theorem mw : List.lookup ("tree" : Str) [(("boxes" : Str), L3.D.lst bs), ("names", .lst nm), ("tree", tr), ("ins", .lst is), ("outs", .lst os), ("ways", .lst ws)] = some tr := by
 rw [cS (by decide +kernel), cS (by decide +kernel), jc]
theorem zF : List.lookup ("ins" : Str) [(("boxes" : Str), L3.D.lst bs), ("names", .lst nm), ("tree", tr), ("ins", .lst is), ("outs", .lst os), ("ways", .lst ws)] = some (.lst is) := by
 rw [cS (by decide +kernel), cS (by decide +kernel), cS (by decide +kernel), jc]
theorem wV : List.lookup ("outs" : Str) [(("boxes" : Str), L3.D.lst bs), ("names", .lst nm), ("tree", tr), ("ins", .lst is), ("outs", .lst os), ("ways", .lst ws)] = some (.lst os) := by
 rw [cS (by decide +kernel), cS (by decide +kernel), cS (by decide +kernel), cS (by decide +kernel), jc]
theorem wW : List.lookup ("ways" : Str) [(("boxes" : Str), L3.D.lst bs), ("names", .lst nm), ("tree", tr), ("ins", .lst is), ("outs", .lst os), ("ways", .lst ws)] = some (.lst ws) := by
 rw [cS (by decide +kernel), cS (by decide +kernel), cS (by decide +kernel), cS (by decide +kernel), cS (by decide +kernel), jc]
end
noncomputable def t8 (bs nm : List L3.D) : List (Str × T) := [("boxes", .lst (bs.map T.sh)), ("names", .lst (nm.map T.sh))]
noncomputable def t9 (is os ws : List L3.D) : List (Str × T) := [("ins", .lst (is.map T.sh)), ("outs", .lst (os.map T.sh)), ("ways", .lst (ws.map T.sh))]
noncomputable def mz (bs nm : List L3.D) (t : T) (is os ws : List L3.D) : List (Str × T) := t8 bs nm ++ (("tree" : Str), t) :: t9 is os ws
theorem E2 (bs nm : List L3.D) (t : T) (is os ws : List L3.D) : T.d7 (.ins "Chart" (mz bs nm t is os ws)) = E1 bs nm t.d7 is os ws := by
 unfold mz t8 t9
 rw [aej, aej, List.nil_append, T.d7, T.qp, T.qp, T.qp, T.qp, T.qp, T.qp, T.qp, eB, eB, eB, eB, eB]
 rfl
theorem b9 {ds : List L3.D} (h : D.bK ds = true) : (T.lst (ds.map T.sh)).clean = true := by
 rw [gk]
 induction ds with
 | nil => rfl
 | cons d ds ih =>
   rw [D.bK, aey] at h
   rw [aen, T.dg, ih h.2, T.clean, h.1]; rfl
theorem An {bs nm : List L3.D} (h1 : D.bK bs = true) (h2 : D.bK nm = true) : T.bB (t8 bs nm) = true := by
 unfold t8
 rw [T.bB, T.bB, T.bB, b9 h1, b9 h2]; rfl
theorem Ao {is os ws : List L3.D} (h1 : D.bK is = true) (h2 : D.bK os = true) (h3 : D.bK ws = true) : T.bB (t9 is os ws) = true := by
 unfold t9
 rw [T.bB, T.bB, T.bB, T.bB, b9 h1, b9 h2, b9 h3]; rfl
noncomputable def ua (p : Str × Int) : L3.D := .tup [.str p.1, .int p.2]
noncomputable def eO (ns : List Int) (k : Int) : Int := if k < ns.length then ns.getD k.toNat 0 else 0
noncomputable def JA : List Nat := (List.range 26).map (· + 97) ++ (List.range 10).map (· + 48)
theorem Mt : ("abcdefghijklmnopqrstuvwxyz0123456789" : Str).cps.toList = JA := by decide +kernel
noncomputable def vz (k : Int) : Str := ⟨#[JA.getD k.toNat 0]⟩
theorem UZ : ∀ n ∈ JA, n < 1114112 := by decide +kernel
theorem Mu (k : Int) : PyData.strOk (vz k) = true := by
 unfold PyData.strOk vz
 have : JA.getD k.toNat 0 < 1114112 := by
   rw [adS]
   cases e : JA[k.toNat]? with
   | none => decide
   | some n => exact UZ n (ad7 e)
 simpa [List.getD_eq_getElem?_getD] using this
noncomputable def XD (m : Int) : Int := (m * 48271 + 11) % 2147483647
noncomputable def E3 (p : Int × Str) : Nat -> Int × Str
 | 0 => p
 | n + 1 => (XD (E3 p n).1, (E3 p n).2 ++ vz (XD (E3 p n).1 % 36))
theorem wX (l : List Int) : pN 60 (.lst (l.map .int)) := .lst fun d hd => by
 obtain ⟨i, _, rfl⟩ := aed.mp hd
 exact .int _ _
noncomputable def Mv (p : Int × Int) : L3.D := .tup [.int p.1, .int p.2]
theorem HR {l : List (Int × Int)} {j : Nat} {d : L3.D} (h : (l.map Mv)[j]? = some d) : ∃ p, l[j]? = some p /\ d = Mv p := by
 rw [ad8] at h
 cases e : l[j]? with
 | none => rw [e] at h; cases h
 | some p => rw [e] at h; exact ⟨p, rfl, (aeb h).symm⟩
theorem fc {α : Type} {l : List α} {j : Nat} {p : α} (h : l[j]? = some p) : l.take (j + 1) = l.take j ++ [p] := by
 rw [List.take_add_one, h]
 rfl
noncomputable def OL : Nat -> Int -> Str -> Str
 | 0, _, x => x
 | n + 1, r, x => if 0 < r then OL n (r / 36) (x ++ vz (r % 36)) else x
theorem HS : ∀ (n : Nat) (r : Int) (x : Str), (OL n r x).length <= x.length + n
 | 0, r, x => adV _
 | n + 1, r, x => by
   rw [OL]
   split
   . have := HS n (r / 36) (x ++ vz (r % 36))
     rw [str_len] at this
     have e : (vz (r % 36)).length = 1 := rfl
     omega
   . omega
theorem Mw : ∀ (n : Nat) (r : Int) (x : Str), PyData.strOk x = true -> PyData.strOk (OL n r x) = true
 | 0, r, x, h => h
 | n + 1, r, x, h => by
   rw [OL]
   split
   . exact Mw n _ _ (UC _ _ h (Mu _))
   . exact h
theorem Qp (n : Nat) {r : Int} (x : Str) (h : ¬ 0 < r) : OL n r x = x := by
 cases n with
 | zero => rfl
 | succ n => rw [OL, adT h]
noncomputable def E4 (m : Int) : Str := OL 20 (m / 26) (vz (m % 26))
theorem Mx (m : Int) : (E4 m).length <= 21 := by
 have := HS 20 (m / 26) (vz (m % 26))
 have e : (vz (m % 26)).length = 1 := rfl
 unfold E4
 omega
noncomputable def w19 : List Str := ["all", "and", "box", "call", "do", "far", "if", "in", "leaf", "near", "on", "one", "open", "out", "put", "say", "shut", "then", "to"]
noncomputable def U0 (m : Int) (us : List Str) (j : Nat) : Bool := !decide (E4 (m + j) ∈ us) && !decide (E4 (m + j) ∈ w19)
noncomputable def j4 (m : Int) (us : List Str) : Str := match (List.range (us.length + 20)).find? (U0 m us) with
 | some j => E4 (m + j)
 | none => ""
theorem JB (m : Int) (us : List Str) : (j4 m us).length <= 21 := by
 unfold j4
 split
 . exact Mx _
 . exact ael _
theorem My (m : Int) (us : List Str) : PyData.strOk (j4 m us) = true := by
 unfold j4
 split
 . exact Mw _ _ _ (Mu _)
 . decide +kernel
theorem Mz {m : Int} {us : List Str} {j : Nat} (hj : j < us.length + 20) (EC : ∀ i, i < j -> U0 m us i = false) (h : U0 m us j = true) : j4 m us = E4 (m + j) := by
 have e : (List.range (us.length + 20)).find? (U0 m us) = some j := by
   rw [List.find?_range_eq_some]
   exact ⟨h, aeQ.mpr hj, fun i hi => by rw [EC i hi]; rfl⟩
 unfold j4
 rw [e]
theorem MA {m : Int} {us : List Str} (EC : ∀ i, i < us.length + 20 -> U0 m us i = false) : j4 m us = "" := by
 have e : (List.range (us.length + 20)).find? (U0 m us) = none := by
   rw [List.find?_eq_none]
   intro i hi
   rw [EC i (aeQ.mp hi)]
   exact ad5
 unfold j4
 rw [e]
noncomputable def sj (c st : Int) : Nat -> List Str
 | 0 => []
 | n + 1 => sj c st n ++ [j4 (c + n * st) (sj c st n)]
theorem wY (c st : Int) : ∀ n, (sj c st n).length = n
 | 0 => rfl
 | n + 1 => by rw [sj, adR, wY c st n]; rfl
theorem HV (c st : Int) : ∀ n, ∀ x ∈ sj c st n, x.length <= 21 /\ PyData.strOk x = true
 | 0, x, h => by cases h
 | n + 1, x, h => by
   rw [sj] at h
   rcases adZ.mp h with h | h
   . exact HV c st n x h
   . cases adY.mp h
     exact ⟨JB _ _, My _ _⟩
noncomputable def zG (s : List Int) : Int := ([1, 26, 936, 33696, 1213056] : List Int).getD (eO s 1 % 5).toNat 0
noncomputable def U1 (s : List Int) (n : Nat) : List Str := sj (eO s 0 % (26 * 36 ^ (10 : Int).toNat)) (zG s) n
theorem MB (s : List Int) : 0 <= zG s /\ zG s <= 1213056 := by
 unfold zG
 have a := aep (eO s 1) (show (5 : Int) ≠ 0 by decide)
 have c := aeg (eO s 1) (show (0 : Int) < 5 by decide)
 have : (eO s 1 % 5).toNat = 0 \/ (eO s 1 % 5).toNat = 1 \/ (eO s 1 % 5).toNat = 2 \/ (eO s 1 % 5).toNat = 3 \/ (eO s 1 % 5).toNat = 4 := by omega
 rcases this with e | e | e | e | e <;> rw [e] <;> decide
noncomputable def cG (es : List Int) (k : Nat) : List Int := if (12 : Int) < (([(k : Int)] ++ rN es k).length : Nat) then cutD ([(k : Int)] ++ rN es k) (some 1) none else [(k : Int)] ++ rN es k
theorem uZ {es : List Int} {k : Nat} (h : mq es) (hk : k + 1 = es.length) : 0 < (cG es k).length /\ (cG es k).length <= es.length + 2 /\ ∀ x ∈ cG es k, 0 <= x /\ x < es.length := by
 have hm : ∀ x ∈ [(k : Int)] ++ rN es k, 0 <= x /\ x < es.length := fun x hx => by
   rcases adZ.mp hx with h1 | h1
   . have : x = k := adY.mp h1
     omega
   . have ha := h.at (k := (k : Int)) (by omega) (by omega)
     have := HQ h _ ha.1 (by omega) h1
     omega
 have hl : ([(k : Int)] ++ rN es k).length <= es.length + 2 := by
   have := pS (es.length + 1) es (es.getD (k : Int).toNat 0)
   rw [adR]
   unfold rN
   rw [ad9]
   omega
 unfold cG
 split
 . rename_i h12
   have e : cutD ([(k : Int)] ++ rN es k) (some 1) none = rN es k := by
     generalize rN es k = l at h12
     unfold cutD
     have h1 : HT.fq ([(k : Int)] ++ l).length 0 (some 1) = 1 := by
       rw [adR] at h12 ⊢
       rw [ad9] at h12 ⊢
       unfold HT.fq
       simp
     have h2 : HT.fq ([(k : Int)] ++ l).length ([(k : Int)] ++ l).length none = ([(k : Int)] ++ l).length := rfl
     rw [h1, h2]
     simp
   rw [e]
   have hl2 := adR (as := [(k : Int)]) (bs := rN es k)
   rw [ad9] at hl2
   exact ⟨by omega, by omega, fun x hx => hm x (adP _ hx)⟩
 . exact ⟨by rw [adR, ad9]; omega, hl, hm⟩
theorem getD_mem {l : List Int} {n : Nat} (h : n < l.length) : l.getD n 0 ∈ l := by
 rw [adS, ad3 h]
 exact List.getElem_mem h
noncomputable def sq (es : List Int) (p : Int × Int) : List Int := if p.1 % 8 < 3 then es ++ [(cG es (es.length - 1)).getD (p.1 / 8 % ((cG es (es.length - 1)).length : Nat)).toNat 0] else es
noncomputable def MC (l : List (Int × Int)) : List Int := l.foldl sq [-1]
theorem Qq {es : List Int} (p : Int × Int) (h : mq es) (h0 : 0 < es.length) : mq (sq es p) /\ (sq es p).length = es.length + (if p.1 % 8 < 3 then 1 else 0) := by
 unfold sq
 split
 . obtain ⟨r1, r2, r3⟩ := uZ (k := es.length - 1) h (by omega)
   have b1 := aep (p.1 / 8) (b := ((cG es (es.length - 1)).length : Nat)) (by omega)
   have b2 := aeg (p.1 / 8) (b := ((cG es (es.length - 1)).length : Nat)) (by omega)
   have hx := r3 _ (getD_mem (l := cG es (es.length - 1)) (n := (p.1 / 8 % ((cG es (es.length - 1)).length : Nat)).toNat) (by omega))
   refine ⟨h.snoc (by omega) hx.2, ?_⟩
   rw [adR, ad9]
 . exact ⟨h, rfl⟩
noncomputable def kN : List (Int × Int) -> Nat
 | [] => 0
 | p :: r => (if p.1 % 8 < 3 then 1 else 0) + kN r
theorem Aq : ∀ (l : List (Int × Int)) (es : List Int), mq es -> 0 < es.length -> mq (l.foldl sq es) /\ (l.foldl sq es).length = es.length + kN l
 | [], es, h, h0 => ⟨h, rfl⟩
 | p :: r, es, h, h0 => by
   obtain ⟨a, c⟩ := Qq p h h0
   obtain ⟨a2, c2⟩ := Aq r (sq es p) a (by omega)
   refine ⟨a2, ?_⟩
   rw [List.foldl_cons, c2, c, kN]
   omega
theorem Cr : mq [-1] := fun k hk => by
 have : k = 0 := by
   rw [ad9] at hk
   omega
 subst this
 exact ⟨Int.le_refl _, show (-1 : Int) < ((0 : Nat) : Int) by decide⟩
theorem pT : ∀ l : List (Int × Int), kN l <= l.length
 | [] => adV _
 | p :: r => by
   have := pT r
   rw [kN, aeo]
   split <;> omega
theorem As (l : List (Int × Int)) : mq (MC l) /\ (MC l).length = 1 + kN l := Aq l [-1] Cr (aeX 0)
noncomputable def uc (l : List (Int × Int)) : List Int := (l.filter fun p => decide (p.1 % 8 < 3)).map (·.2)
theorem qH : ∀ l : List (Int × Int), (uc l).length = kN l
 | [] => rfl
 | p :: r => by
   have := qH r
   unfold uc at this ⊢
   rw [kN, List.filter_cons]
   split
   . rename_i h
     rw [ad0 (ad4 h), aen, aeo, this]
     omega
   . rename_i h
     rw [adT (fun z => h (afo z)), this]
     omega
noncomputable def kindB (es cs : List Int) (k : Nat) : Str := if vv es k = [] then "leaf" else if cs.getD k 0 % 2 = 1 then "all" else "one"
noncomputable def nu (es cs : List Int) (k : Nat) : Int := if vv es k = [] then -1 else if cs.getD k 0 % 2 = 1 then -1 else (vv es k).getD (cs.getD k 0 / 2 % ((vv es k).length : Nat)).toNat 0
noncomputable def eS (es cs : List Int) (n : Nat) : List Str := (List.range n).map (kindB es cs)
noncomputable def ez (es cs : List Int) (n : Nat) : List Int := (List.range n).map (nu es cs)
theorem qI (es cs : List Int) (n : Nat) : (eS es cs n).length = n := by rw [eS, adM, aem]
theorem qJ (es cs : List Int) (n : Nat) : (ez es cs n).length = n := by rw [ez, adM, aem]
theorem nV (es cs : List Int) (n : Nat) {x : Str} (h : x = kindB es cs n) : ((eS es cs n).map L3.D.str).map T.sh ++ [T.sh (.str x)] = ((eS es cs (n + 1)).map L3.D.str).map T.sh := by
 subst h
 rw [eS, eS, List.range_succ, adU, adU, adU]
 rfl
theorem Ct (es cs : List Int) (n : Nat) {x : Int} (h : x = nu es cs n) : ((ez es cs n).map L3.D.int).map T.sh ++ [T.sh (.int x)] = ((ez es cs (n + 1)).map L3.D.int).map T.sh := by
 subst h
 rw [ez, ez, List.range_succ, adU, adU, adU]
 rfl
noncomputable def Sm : Nat -> L3.D -> Prop
 | _, .int _ => True
 | _, .str _ => True
 | n + 1, .lst ds => ds.length <= 1000 /\ ∀ d ∈ ds, Sm n d
 | n + 1, .tup ds => ds.length <= 1000 /\ ∀ d ∈ ds, Sm n d
 | _, _ => False
theorem Au {ds : List L3.D} {j : Nat} (h : j < ds.length) : vq ds (j : Int) = some ds[j] := lX (ad3 h)
noncomputable def qK (bs : List L3.D) (ns ks : List Str) (es ss : List Int) (is os ws : List L3.D) : L3.D := .lst [.lst bs, .lst (ns.map .str), .lst (ks.map .str), .lst (es.map .int), .lst (ss.map .int), .lst is, .lst os, .lst ws]
theorem HW (n : Nat) (l : List Str) (h : l.length <= 1000) : Sm (n + 1) (.lst (l.map .str)) := by
 refine ⟨by rw [adM]; exact h, fun d hd => ?_⟩
 obtain ⟨x, _, rfl⟩ := aed.mp hd
 cases n <;> trivial
theorem HX (n : Nat) (l : List Int) (h : l.length <= 1000) : Sm (n + 1) (.lst (l.map .int)) := by
 refine ⟨by rw [adM]; exact h, fun d hd => ?_⟩
 obtain ⟨x, _, rfl⟩ := aed.mp hd
 cases n <;> trivial
structure su (P : L3.D -> Prop) (d : L3.D) : Prop where
 im : d.lD = true
 sm : ∀ n, Sm (n + 2) d
 dp : ∀ n, pN (n + 2) d
 pr : P d
noncomputable def nW (nb : Nat) (d : L3.D) : Prop := ∃ a c : Int, d = .tup [.int a, .int c] /\ (a = -1 \/ (0 <= a /\ a < nb)) /\ c.natAbs < 10 ^ 30
noncomputable def mC (nb : Nat) (d : L3.D) : Prop := (∃ n : Str, d = .tup [.str "call", .str n] /\ n.length <= 21) \/ (∃ (k : Int) (t : L3.D), d = .tup [.str "put", .int k, t] /\ (0 <= k /\ k < nb) /\ nW nb t) \/ (∃ (n : Str) (t : L3.D), d = .tup [.str "say", .str n, t] /\ n.length <= 21 /\ nW nb t)
noncomputable def Cu (nb nm : Nat) (d : L3.D) : Prop := (∃ (w : Str) (k : Int), d = .tup [.str w, .int k] /\ (w = "open" \/ w = "shut") /\ 0 <= k /\ k < nm) \/ (∃ (w : Str) (s t : L3.D), d = .tup [.str w, s, t] /\ w ∈ (["<", "<=", "=", "!="] : List Str) /\ nW nb s /\ nW nb t)
theorem join_eq (l : List Str) : Txt.join " " l = Str.join " " l := StrLaws.glued_eq_join _ _
theorem sy {l : List Str} (h : (l.map (·.length)).sum + l.length <= 100000) : JoinOk " " l = true := by
 unfold JoinOk
 rw [StrLaws.joinTotal, aeN]
 have e : (" " : Str).length = 1 := rfl
 rw [e, Nat.mul_one]
 refine aeC ?_
 rw [aek]
 omega
theorem MD (a c d : Str) : Txt.join " " [a, c, d] = a ++ " " ++ c ++ " " ++ d := by
 rw [join_eq]
 show a ++ " " ++ (c ++ " " ++ d) = _
 rw [aeI (a ++ " ") c " ", aeI (a ++ " ") (c ++ " ") d]
noncomputable def Av (c : Int) : Int := if c % 2 = 1 then 0 - c / 2 % 10 ^ (30 : Int).toNat else c / 2 % 10 ^ (30 : Int).toNat
noncomputable def U3 (p c : Int) (n : Nat) : L3.D := .tup [.int (p % ((n : Int) + 1) - 1), .int (Av c)]
noncomputable def Qs (c : Int) (n : Nat) : Int := c % ((n : Int) + 1) - 1
noncomputable def MF (a c : Int) (n : Nat) : Str := if Qs c n = -1 then "new" else (["new", "near", "far"] : List Str).getD (a / 8 % 3).toNat Str.empty
noncomputable def MG (a c src : Int) (n : Nat) (ns : List Str) : L3.D := .tup [.int src, .str (ns.getD (a / 24 % (ns.length : Int)).toNat Str.empty), .tup [], .tup [], .int (Qs c n), .str (MF a c n)]
noncomputable def Aw (a c : Int) (n m : Nat) : L3.D := if a / 8 % 6 > 3 then .tup [.str ((["open", "shut"] : List Str).getD (a / 8 % 6 - 4).toNat Str.empty), .int (c % (m : Int))]
 else .tup [.str ((["<", "<=", "=", "!="] : List Str).getD (a / 8 % 6).toNat Str.empty), U3 (a / 8 / 6) c n, U3 (a / 8 / 24) (c * 48271 % 2147483647) n]
noncomputable def j5 (a c : Int) (n : Nat) (ns : List Str) : L3.D := if a / 8 % 3 = 0 then .tup [.str "call", .str (ns.getD (c % (ns.length : Int)).toNat Str.empty)]
 else if a / 8 % 3 = 1 /\ 0 < n then .tup [.str "put", .int (a / 24 / 4 % (n : Int)), U3 (a / 24) (c / 3) n] else .tup [.str "say", .str (ns.getD (c % (ns.length : Int)).toNat Str.empty), U3 (a / 24) (c / 3) n]
structure WY where
 src : Int
 sg : Str
 qs : List L3.D
 ds : List L3.D
 tg : Int
 md : Str
noncomputable def WY.d (w : WY) : L3.D := .tup [.int w.src, .str w.sg, .tup w.qs, .tup w.ds, .int w.tg, .str w.md]
structure OW where
 is : List (List L3.D)
 os : List (List L3.D)
 ws : List WY
noncomputable def V8 : WY := ⟨0, Str.empty, [], [], 0, Str.empty⟩
noncomputable def wyB (a c src : Int) (n : Nat) (ns : List Str) : WY := ⟨src, ns.getD (a / 24 % (ns.length : Int)).toNat Str.empty, [], [], Qs c n, MF a c n⟩
noncomputable def iP (l : List WY) : WY := l.getD (l.length - 1) V8
noncomputable def jI (l : List (List L3.D)) (d : L3.D) : List (List L3.D) := l.set (l.length - 1) (l.getD (l.length - 1) [] ++ [d])
noncomputable def jJ (nb nm : Nat) (ns : List Str) (o : OW) (p : Int × Int) : OW :=
 if p.1 % 8 < 3 then ⟨o.is ++ [[]], o.os ++ [[]], o.ws⟩
 else if p.1 % 8 = 3 then ⟨jI o.is (j5 p.1 p.2 nb ns), o.os, o.ws⟩
 else if p.1 % 8 = 4 then ⟨o.is, jI o.os (j5 p.1 p.2 nb ns), o.ws⟩
 else if p.1 % 8 = 5 \/ o.ws = [] \/ (iP o.ws).src ≠ (o.is.length : Int) - 1 then ⟨o.is, o.os, o.ws ++ [wyB p.1 p.2 ((o.is.length : Int) - 1) nm ns]⟩
 else if p.1 % 8 = 6 then ⟨o.is, o.os, o.ws.set (o.ws.length - 1) { iP o.ws with qs := (iP o.ws).qs ++ [Aw p.1 p.2 nb nm] }⟩
 else ⟨o.is, o.os, o.ws.set (o.ws.length - 1) { iP o.ws with ds := (iP o.ws).ds ++ [j5 p.1 p.2 nb ns] }⟩
noncomputable def KP : OW := ⟨[[]], [[]], []⟩
structure Si (nm : Nat) (w : WY) : Prop where
 s1 : PyData.strOk w.sg = true
 s2 : PyData.strOk w.md = true
 s3 : w.sg.length <= 21
 tg : w.tg = -1 /\ w.md = "new" \/ (0 <= w.tg /\ w.tg < nm) /\ w.md ∈ (["new", "near", "far"] : List Str)
structure kO (nb nm m k : Nat) (w : WY) : Prop where
 l3 : w.qs.length + w.ds.length <= k
 g1 : ∀ d ∈ w.qs, su (Cu nb nm) d
 g2 : ∀ d ∈ w.ds, su (mC nb) d
 fin : Si nm w
 sr : 0 <= w.src /\ w.src < m
structure iZ (P : L3.D -> Prop) (k : Nat) (l : List L3.D) : Prop where
 l1 : l.length <= k
 g1 : ∀ d ∈ l, su P d
structure Ax (nb nm k : Nat) (o : OW) : Prop where
 n0 : 0 < o.is.length
 n1 : o.is.length <= k + 1
 n2 : o.os.length = o.is.length
 ii : ∀ l ∈ o.is, iZ (mC nb) k l
 oo : ∀ l ∈ o.os, iZ (mC nb) k l
 wl : o.ws.length <= k
 ww : ∀ w ∈ o.ws, kO nb nm o.is.length k w
theorem kO.up {nb nm m m2 k : Nat} {w : WY} (h : kO nb nm m k w) (hm : m <= m2) : kO nb nm m2 (k + 1) w := ⟨aeK h.l3, h.g1, h.g2, h.fin, h.sr.1, by have := h.sr.2; omega⟩
theorem kO.l1 {nb nm m k : Nat} {w : WY} (h : kO nb nm m k w) : w.qs.length <= k := by have := h.l3; omega
theorem kO.l2 {nb nm m k : Nat} {w : WY} (h : kO nb nm m k w) : w.ds.length <= k := by have := h.l3; omega
theorem iZ.up {P : L3.D -> Prop} {k : Nat} {l : List L3.D} (h : iZ P k l) : iZ P (k + 1) l := ⟨aeK h.l1, h.g1⟩
theorem iZ.add {P : L3.D -> Prop} {k : Nat} {l : List L3.D} {d : L3.D} (h : iZ P k l) (g : su P d) : iZ P (k + 1) (l ++ [d]) := by
 refine ⟨?_, fun x hx => ?_⟩
 . have := h.l1
   rw [adR, ad9]
   omega
 . rcases adZ.mp hx with hx | hx
   . exact h.g1 x hx
   . cases adY.mp hx
     exact g
theorem iZ.nil (P : L3.D -> Prop) (k : Nat) : iZ P k [] := ⟨ael _, fun x hx => by cases hx⟩
theorem sA {α : Type} {l : List α} (z : α) (h : 0 < l.length) : l.getD (l.length - 1) z ∈ l := by
 rw [adS, ad3 (by omega)]
 exact List.getElem_mem _
theorem Cv {P : L3.D -> Prop} {k : Nat} {l : List (List L3.D)} {d : L3.D} (h0 : 0 < l.length) (h : ∀ x ∈ l, iZ P k x) (g : su P d) : ∀ x ∈ jI l d, iZ P (k + 1) x := fun x hx => by
 rcases List.mem_or_eq_of_mem_set hx with hx | rfl
 . exact (h x hx).up
 . exact (h _ (sA [] h0)).add g
theorem vV (n : Nat) (p c : Int) (nb : Nat) : Sm (n + 1) (U3 p c nb) := by
 refine ⟨by show (2 : Nat) <= 1000; decide, fun d hd => ?_⟩
 rcases adN.mp hd with rfl | hd
 . cases n <;> trivial
 . cases adY.mp hd
   cases n <;> trivial
theorem vW (n : Nat) (p c : Int) (nb : Nat) : pN (n + 1) (U3 p c nb) := by
 refine .tup fun d hd => ?_
 rcases adN.mp hd with rfl | hd
 . exact .int _ _
 . cases adY.mp hd
   exact .int _ _
theorem good2 {P : L3.D -> Prop} {x y : L3.D} (hP : P (.tup [x, y])) (a : x.lD = true) (a2 : y.lD = true) (c : ∀ n, Sm (n + 1) x) (c2 : ∀ n, Sm (n + 1) y) (e : ∀ n, pN (n + 1) x) (e2 : ∀ n, pN (n + 1) y) : su P (.tup [x, y]) := by
 refine ⟨?_, fun n => ⟨by show (2 : Nat) <= 1000; decide, fun d hd => ?_⟩, fun n => .tup fun d hd => ?_, hP⟩
 . rw [L3.D.lD, D.bK, D.bK, D.bK, a, a2]; rfl
 . rcases adN.mp hd with rfl | hd
   . exact c n
   . cases adY.mp hd
     exact c2 n
 . rcases adN.mp hd with rfl | hd
   . exact e n
   . cases adY.mp hd
     exact e2 n
theorem good3 {P : L3.D -> Prop} {x y z : L3.D} (hP : P (.tup [x, y, z])) (a : x.lD = true) (a2 : y.lD = true) (a3 : z.lD = true) (c : ∀ n, Sm (n + 1) x) (c2 : ∀ n, Sm (n + 1) y) (c3 : ∀ n, Sm (n + 1) z) (e : ∀ n, pN (n + 1) x) (e2 : ∀ n, pN (n + 1) y) (e3 : ∀ n, pN (n + 1) z) : su P (.tup [x, y, z]) := by
 refine ⟨?_, fun n => ⟨by show (3 : Nat) <= 1000; decide, fun d hd => ?_⟩, fun n => .tup fun d hd => ?_, hP⟩
 . rw [L3.D.lD, D.bK, D.bK, D.bK, D.bK, a, a2, a3]; rfl
 . rcases adN.mp hd with rfl | hd
   . exact c n
   rcases adN.mp hd with rfl | hd
   . exact c2 n
   . cases adY.mp hd
     exact c3 n
 . rcases adN.mp hd with rfl | hd
   . exact e n
   rcases adN.mp hd with rfl | hd
   . exact e2 n
   . cases adY.mp hd
     exact e3 n
theorem qL (n : Nat) (x : Str) : Sm (n + 1) (.str x) := trivial
theorem MH (n : Nat) (x : Int) : Sm (n + 1) (.int x) := trivial
theorem pU {l : List Str} (h : ∀ x ∈ l, PyData.strOk x = true) (k : Nat) : PyData.strOk (l.getD k Str.empty) = true := by
 rw [adS]
 cases e : l[k]? with
 | none => decide +kernel
 | some x => exact h x (ad7 e)
theorem wZ {l : List Str} (h : ∀ x ∈ l, x.length <= 21) (k : Nat) : (l.getD k Str.empty).length <= 21 := by
 rw [adS]
 cases e : l[k]? with
 | none => exact ael _
 | some x => exact h x (ad7 e)
theorem MJ (c : Int) : (Av c).natAbs < 10 ^ 30 := by
 have a := aep (c / 2) (show (10 ^ (30 : Int).toNat : Int) ≠ 0 by decide +kernel)
 have d := aeg (c / 2) (show (0 : Int) < 10 ^ (30 : Int).toNat by decide +kernel)
 have e : (10 ^ (30 : Int).toNat : Int) = ((10 ^ 30 : Nat) : Int) := by decide +kernel
 unfold Av
 generalize (10 ^ (30 : Int).toNat : Int) = z at a d e ⊢
 generalize (10 ^ 30 : Nat) = y at e ⊢
 split <;> omega
theorem vX (p c : Int) (nb : Nat) : nW nb (U3 p c nb) := by
 have a := aep p (show ((nb : Int) + 1) ≠ 0 by omega)
 have d := aeg p (show (0 : Int) < (nb : Int) + 1 by omega)
 exact ⟨_, _, rfl, by omega, MJ c⟩
structure JC (ns : List Str) : Prop where
 ln : ∀ x ∈ ns, x.length <= 21
 ok : ∀ x ∈ ns, PyData.strOk x = true
theorem jB (a c : Int) (nb : Nat) {ns : List Str} (h : JC ns) : su (mC nb) (j5 a c nb ns) := by
 unfold j5
 split
 . exact good2 (.inl ⟨_, rfl, wZ h.ln _⟩) rfl rfl (fun n => qL n _) (fun n => qL n _) (fun n => .str _ _ (by decide +kernel)) (fun n => .str _ _ (pU h.ok _))
 split
 . rename_i hb
   exact good3 (.inr (.inl ⟨_, _, rfl, ⟨aep _ (by omega), aeg _ (by omega)⟩, vX _ _ _⟩)) rfl rfl rfl (fun n => qL n _) (fun n => MH n _) (fun n => vV n _ _ _) (fun n => .str _ _ (by decide +kernel)) (fun n => .int _ _) (fun n => vW n _ _ _)
 . exact good3 (.inr (.inr ⟨_, _, rfl, wZ h.ln _, vX _ _ _⟩)) rfl rfl rfl (fun n => qL n _) (fun n => qL n _) (fun n => vV n _ _ _) (fun n => .str _ _ (by decide +kernel)) (fun n => .str _ _ (pU h.ok _)) (fun n => vW n _ _ _)
theorem E5 {l : List Str} {k : Nat} (h : k < l.length) : l.getD k Str.empty ∈ l := by
 rw [adS, ad3 h]
 exact List.getElem_mem h
theorem Cw (a c : Int) (nb : Nat) {nm : Nat} (h : 0 < nm) : su (Cu nb nm) (Aw a c nb nm) := by
 have q1 := aep (a / 8) (show (6 : Int) ≠ 0 by decide)
 have q2 := aeg (a / 8) (show 0 < (6 : Int) by decide)
 unfold Aw
 split
 . refine good2 (.inl ⟨_, _, rfl, ?_, aep _ (by omega), aeg _ (by omega)⟩) rfl rfl (fun n => qL n _) (fun n => MH n _) (fun n => .str _ _ (pU (by decide +kernel) _)) (fun n => .int _ _)
   have := E5 (l := ["open", "shut"]) (k := (a / 8 % 6 - 4).toNat) (by show _ < 2; omega)
   rcases adN.mp this with e | e
   . exact .inl e
   . exact .inr (adY.mp e)
 . exact good3 (.inr ⟨_, _, _, rfl, E5 (l := ["<", "<=", "=", "!="]) (by show _ < 4; omega), vX _ _ _, vX _ _ _⟩) rfl rfl rfl (fun n => qL n _) (fun n => vV n _ _ _) (fun n => vV n _ _ _) (fun n => .str _ _ (pU (by decide +kernel) _)) (fun n => vW n _ _ _) (fun n => vW n _ _ _)
theorem U4 (a c : Int) (n : Nat) : PyData.strOk (MF a c n) = true := by
 unfold MF
 split
 . decide +kernel
 . exact pU (by decide +kernel) _
theorem Qt (a c src : Int) {nm : Nat} {ns : List Str} (h : JC ns) : Si nm (wyB a c src nm ns) := by
 have m0 := aep c (show ((nm : Int) + 1) ≠ 0 by omega)
 have m1 := aeg c (show (0 : Int) < (nm : Int) + 1 by omega)
 have q1 := aep (a / 8) (show (3 : Int) ≠ 0 by decide)
 have q2 := aeg (a / 8) (show 0 < (3 : Int) by decide)
 refine ⟨pU h.ok _, U4 _ _ _, wZ h.ln _, ?_⟩
 show Qs c nm = -1 /\ MF a c nm = "new" \/ (0 <= Qs c nm /\ Qs c nm < nm) /\ MF a c nm ∈ (["new", "near", "far"] : List Str)
 unfold MF
 split
 . rename_i e
   exact .inl ⟨e, rfl⟩
 . rename_i e
   refine .inr ⟨?_, E5 (l := ["new", "near", "far"]) (by show _ < 3; omega)⟩
   unfold Qs at e ⊢
   omega
theorem MK {nb nm m k j : Nat} {l : List WY} {w : WY} (h : ∀ x ∈ l, kO nb nm m k x) (hw : kO nb nm m (k + 1) w) : ∀ x ∈ l.set j w, kO nb nm m (k + 1) x := fun x hx => by
 rcases List.mem_or_eq_of_mem_set hx with hx | rfl
 . exact (h x hx).up (adV _)
 . exact hw
theorem Ay {α : Type} {P : α -> Prop} {l : List α} {y : α} (h : ∀ x ∈ l, P x) (hy : P y) : ∀ x ∈ l ++ [y], P x := fun x hx => by
 rcases adZ.mp hx with hx | hx
 . exact h x hx
 . cases adY.mp hx
   exact hy
theorem Qu {k nb nm : Nat} {ns : List Str} {o : OW} (p : Int × Int) (hn : JC ns) (hm : 0 < nm) (h : Ax nb nm k o) : Ax nb nm (k + 1) (jJ nb nm ns o p) := by
 obtain ⟨n0, n1, n2, ii, oo, wl, ww⟩ := h
 have iu : ∀ l ∈ o.is, iZ (mC nb) (k + 1) l := fun l hl => (ii l hl).up
 have ou : ∀ l ∈ o.os, iZ (mC nb) (k + 1) l := fun l hl => (oo l hl).up
 have wu : ∀ w ∈ o.ws, kO nb nm o.is.length (k + 1) w := fun w hw => (ww w hw).up (adV _)
 unfold jJ
 split
 . have e1 : (o.is ++ [[]]).length = o.is.length + 1 := by rw [adR, ad9]
   refine ⟨?_, ?_, ?_, Ay iu (iZ.nil _ _), Ay ou (iZ.nil _ _), aeK wl, fun w hw => (ww w hw).up ?_⟩
   . show 0 < (o.is ++ [[]]).length
     omega
   . show (o.is ++ [[]]).length <= _
     omega
   . show (o.os ++ [[]]).length = (o.is ++ [[]]).length
     rw [adR, adR, n2]
   . show o.is.length <= (o.is ++ [[]]).length
     omega
 split
 . have e1 : (jI o.is (j5 p.1 p.2 nb ns)).length = o.is.length := by rw [jI, ae8]
   refine ⟨?_, ?_, ?_, Cv n0 ii (jB _ _ _ hn), ou, aeK wl, fun w hw => (ww w hw).up ?_⟩
   . show 0 < (jI o.is _).length
     omega
   . show (jI o.is _).length <= _
     omega
   . show o.os.length = (jI o.is _).length
     omega
   . show o.is.length <= (jI o.is _).length
     omega
 split
 . refine ⟨n0, aeK n1, ?_, iu, Cv (by omega) oo (jB _ _ _ hn), aeK wl, wu⟩
   show (jI o.os _).length = _
   rw [jI, ae8, n2]
 split
 . refine ⟨n0, aeK n1, n2, iu, ou, ?_, Ay wu ⟨ael _, (fun d hd => by cases hd), (fun d hd => by cases hd), Qt _ _ _ hn, ?_⟩⟩
   . show (o.ws ++ [_]).length <= _
     rw [adR, ad9]; omega
   . show 0 <= (o.is.length : Int) - 1 /\ (o.is.length : Int) - 1 < o.is.length
     omega
 rename_i hz
 have OJ : o.ws ≠ [] := fun z => hz (.inr (.inl z))
 have hl : kO nb nm o.is.length k (iP o.ws) := ww _ (sA V8 (ae5.mpr OJ))
 have hlen : ∀ w, (o.ws.set (o.ws.length - 1) w).length <= k + 1 := fun w => by
   rw [ae8]; omega
 split
 . have := (iZ.mk hl.l1 hl.g1).add (Cw p.1 p.2 nb hm)
   have h3 := hl.l3
   exact ⟨n0, aeK n1, n2, iu, ou, hlen _, MK ww ⟨by show ((iP o.ws).qs ++ [_]).length + (iP o.ws).ds.length <= _; rw [adR, ad9]; omega, this.g1, hl.g2, ⟨hl.fin.1, hl.fin.2, hl.fin.3, hl.fin.4⟩, hl.sr⟩⟩
 . have := (iZ.mk hl.l2 hl.g2).add (jB p.1 p.2 nb hn)
   have h3 := hl.l3
   exact ⟨n0, aeK n1, n2, iu, ou, hlen _, MK ww ⟨by show (iP o.ws).qs.length + ((iP o.ws).ds ++ [_]).length <= _; rw [adR, ad9]; omega, hl.g1, this.g1, ⟨hl.fin.1, hl.fin.2, hl.fin.3, hl.fin.4⟩, hl.sr⟩⟩
theorem E6 {nb nm : Nat} {ns : List Str} (hn : JC ns) (hm : 0 < nm) : ∀ (l : List (Int × Int)) (k : Nat) (o : OW), Ax nb nm k o -> Ax nb nm (k + l.length) (l.foldl (jJ nb nm ns) o)
 | [], k, o, h => h
 | p :: r, k, o, h => by
   have := E6 hn hm r (k + 1) _ (Qu (nb := nb) (nm := nm) p hn hm h)
   rw [List.foldl_cons, aeo]
   rwa [show k + (r.length + 1) = k + 1 + r.length by omega]
theorem ML (nb nm : Nat) : Ax nb nm 0 KP := ⟨adV _, adV _, rfl, fun l hl => by cases adY.mp hl; exact iZ.nil _ _, fun l hl => by cases adY.mp hl; exact iZ.nil _ _, adV _, fun w hw => by cases hw⟩
noncomputable def Qv (nb nm : Nat) (ns : List Str) (l : List (Int × Int)) : OW := l.foldl (jJ nb nm ns) KP
theorem w4 {P : L3.D -> Prop} {k : Nat} {l : List L3.D} (h : iZ P k l) : (L3.D.tup l).lD = true := by
 rw [L3.D.lD]
 exact r9 fun d hd => (h.g1 d hd).im
section
variable {nb nm m k : Nat}
theorem E7 {w : WY} (h : kO nb nm m k w) : w.d.lD = true := by
 have a := w4 ⟨h.l1, h.g1⟩
 have c := w4 ⟨h.l2, h.g2⟩
 show (L3.D.tup _).lD = true
 rw [L3.D.lD, D.bK, D.bK, D.bK, D.bK, D.bK, D.bK, D.bK, a, c]
 rfl
theorem vY {P : L3.D -> Prop} {l : List (List L3.D)} (h : ∀ x ∈ l, iZ P k x) : D.bK (l.map L3.D.tup) = true := r9 fun d hd => by
 obtain ⟨x, hx, rfl⟩ := aed.mp hd
 exact w4 (h x hx)
theorem HY {l : List WY} (h : ∀ x ∈ l, kO nb nm m k x) : D.bK (l.map WY.d) = true := r9 fun d hd => by
 obtain ⟨x, hx, rfl⟩ := aed.mp hd
 exact E7 (h x hx)
theorem MN {P : L3.D -> Prop} {n : Nat} {l : List (List L3.D)} (h : ∀ x ∈ l, iZ P k x) (hk : k <= 1000) (hl : l.length <= 1000) : Sm (n + 4) (.lst (l.map L3.D.tup)) := by
 refine ⟨by rw [adM]; exact hl, fun d hd => ?_⟩
 obtain ⟨x, hx, rfl⟩ := aed.mp hd
 have hx := h x hx
 exact ⟨aeA hx.l1 hk, fun d hd => (hx.g1 d hd).sm n⟩
theorem U5 {n : Nat} {l : List WY} (h : ∀ x ∈ l, kO nb nm m k x) (hk : k <= 1000) (hl : l.length <= 1000) : Sm (n + 5) (.lst (l.map WY.d)) := by
 refine ⟨by rw [adM]; exact hl, fun d hd => ?_⟩
 obtain ⟨x, hx, rfl⟩ := aed.mp hd
 have hx := h x hx
 refine ⟨by show (6 : Nat) <= 1000; decide, fun d hd => ?_⟩
 rcases adN.mp hd with rfl | hd
 . trivial
 rcases adN.mp hd with rfl | hd
 . trivial
 rcases adN.mp hd with rfl | hd
 . exact ⟨aeA hx.l1 hk, fun d hd => (hx.g1 d hd).sm n⟩
 rcases adN.mp hd with rfl | hd
 . exact ⟨aeA hx.l2 hk, fun d hd => (hx.g2 d hd).sm n⟩
 rcases adN.mp hd with rfl | hd
 . trivial
 . cases adY.mp hd
   trivial
theorem U6 {l : List WY} (h : ∀ x ∈ l, kO nb nm m k x) : pN 60 (.lst (l.map WY.d)) := by
 refine .lst fun d hd => ?_
 obtain ⟨x, hx, rfl⟩ := aed.mp hd
 have hx := h x hx
 refine .tup fun d hd => ?_
 rcases adN.mp hd with rfl | hd
 . exact .int _ _
 rcases adN.mp hd with rfl | hd
 . exact .str _ _ hx.fin.s1
 rcases adN.mp hd with rfl | hd
 . exact .tup fun d hd => (hx.g1 d hd).dp 55
 rcases adN.mp hd with rfl | hd
 . exact .tup fun d hd => (hx.g2 d hd).dp 55
 rcases adN.mp hd with rfl | hd
 . exact .int _ _
 . cases adY.mp hd
   exact .str _ _ hx.fin.s2
end
theorem Az (ds : List L3.D) : KJ (.lst ds) (.lst []) = decide (ds = []) := by
 unfold KJ
 cases ds with
 | nil => decide +kernel
 | cons d ds =>
   rw [D.toPy, D.toPy, PyData.eqv, D.fu, D.fu, PyData.eqvAll]
   exact (aeC (fun z => by cases z)).symm
theorem AA {n : Nat} (h : 0 < n) : IW n (-1) = some (n - 1) := by
 unfold IW
 rw [adT (by decide), ad0 (by omega)]
 congr 1
 omega
theorem w6 {α : Type} {f : α -> L3.D} {l : List α} (z : α) (h : 0 < l.length) : vq (l.map f) (-1) = some (f (l.getD (l.length - 1) z)) := by
 unfold vq
 rw [adM, AA h]
 show (l.map f)[l.length - 1]? = _
 rw [ad8, ad3 (by omega), adS, ad3 (by omega)]
 rfl
theorem MP {α : Type} {f : α -> L3.D} {l : List α} (z : α) (h : 0 < l.length) : vq (l.map f) ((l.length : Int) - 1) = some (f (l.getD (l.length - 1) z)) := by
 have := cW (f := f) (l := l) (k := (l.length : Int) - 1) z (by omega) (by omega)
 rwa [show ((l.length : Int) - 1).toNat = l.length - 1 by omega] at this
theorem MQ {n : Nat} (h : 0 < n) : IW n ((n : Int) - 1) = some (n - 1) := by
 unfold IW
 rw [ad0 (by omega), ad0 (by omega)]
 congr 1
 omega
noncomputable def zH (l : List (List L3.D)) : T := .lst ((l.map L3.D.tup).map T.sh)
noncomputable def KQ (l : List WY) : T := .lst ((l.map WY.d).map T.sh)
theorem Cy (l : List (List L3.D)) : T.lst ((l.map L3.D.tup).map T.sh ++ [T.sh (.tup [])]) = zH (l ++ [[]]) := by
 rw [zH, adU, adU]
 rfl
theorem MR (l : List WY) (w : WY) : T.lst ((l.map WY.d).map T.sh ++ [T.sh w.d]) = KQ (l ++ [w]) := by
 rw [KQ, adU, adU]
 rfl
theorem HZ (l : List (List L3.D)) (d : L3.D) : T.lst (((l.map L3.D.tup).map T.sh).set (l.length - 1) (T.sh (.tup (l.getD (l.length - 1) [] ++ [d])))) = zH (jI l d) := by
 rw [zH, jI, List.map_set, List.map_set]
theorem Ic (l : List WY) (j : Nat) (w : WY) : T.lst (((l.map WY.d).map T.sh).set j (T.sh w.d)) = KQ (l.set j w) := by
 rw [KQ, List.map_set, List.map_set]
theorem AF {bs nm is os ws : List L3.D} {t : T} (h1 : D.bK bs = true) (h2 : D.bK nm = true) (h3 : t.clean = true) (h4 : D.bK is = true) (h5 : D.bK os = true) (h6 : D.bK ws = true) : T.bB (mz bs nm t is os ws) = true := by
 unfold mz t8 t9
 rw [aej, aej, List.nil_append, T.bB, T.bB, T.bB, T.bB, T.bB, T.bB, T.bB, b9 h1, b9 h2, h3, b9 h4, b9 h5, b9 h6]
 rfl
theorem aat : ¬ (HT.fq 6 0 none = 0 /\ HT.fq 6 6 (some 2) = 6) := by decide
theorem aau : ¬ (HT.fq 6 0 (some 3) = 0 /\ HT.fq 6 6 none = 6) := by decide
theorem aav : ¬ (HT.fq 6 0 none = 0 /\ HT.fq 6 6 (some 3) = 6) := by decide
theorem aaw : ¬ (HT.fq 6 0 (some 4) = 0 /\ HT.fq 6 6 none = 6) := by decide
noncomputable def mD : L3.D -> Nat -> L3.D
 | .tup ds, k => ds.getD k .non
 | _, _ => .non
noncomputable def sI (i : Int) : Str := Str.ofString (toString i)
theorem qM {i : Int} (h : i.natAbs < 10 ^ 30) : (sI i).length <= 31 := by
 have := int_text_length_le10 (k := 30) (by decide) h
 unfold sI
 rw [ofString_length]
 exact this
theorem w9 {i : Int} (h : i.natAbs < 10 ^ 30) : i.natAbs.log2 < 1920 := by
 by_cases z : i.natAbs = 0
 . rw [z]; decide
 . exact (Nat.log2_lt z).mpr (Nat.lt_trans h (by decide +kernel))
theorem Qw (a c : String) : Str.ofString (a ++ c) = Str.ofString a ++ Str.ofString c := by
 rw [Str.ofString_eq_toList, Str.ofString_eq_toList, Str.ofString_eq_toList]
 refine Str.ext' ?_
 show ((a ++ c).toList.map Char.toNat).toArray = (a.toList.map Char.toNat).toArray ++ (c.toList.map Char.toNat).toArray
 rw [String.toList_append, adU]
 simp
theorem U7 {i : Int} (h : i < 0) : sI i = "-" ++ sI (i.natAbs : Int) := by
 obtain ⟨n, rfl⟩ := Int.eq_negSucc_of_lt_zero h
 exact Qw "-" _
noncomputable def Ie (k : Int) : Str := if 0 < k then "+" else "-"
theorem Ig (k : Int) : (Ie k).length = 1 := by
 unfold Ie
 split <;> rfl
noncomputable def c9 (bn : List Str) (d : L3.D) : Str := if (mD d 0).yy = -1 then sI (mD d 1).yy else if (mD d 1).yy = 0 then bn.getD (mD d 0).yy.toNat Str.empty
 else bn.getD (mD d 0).yy.toNat Str.empty ++ Ie (mD d 1).yy ++ sI ((mD d 1).yy.natAbs : Int)
noncomputable def aV (bn : List Str) (d : L3.D) : Str := if (mD d 0).toS = "call" then "call " ++ (mD d 1).toS
 else (mD d 0).toS ++ " " ++ (if (mD d 0).toS = "put" then bn.getD (mD d 1).yy.toNat Str.empty else (mD d 1).toS) ++ " " ++ c9 bn (mD d 2)
noncomputable def eK (bn ns : List Str) (d : L3.D) : Str := if d.cnt = 2 then (mD d 0).toS ++ " " ++ ns.getD (mD d 1).yy.toNat Str.empty
 else c9 bn (mD d 1) ++ " " ++ (mD d 0).toS ++ " " ++ c9 bn (mD d 2)
theorem mE (bn : List Str) (a k : Int) : c9 bn (.tup [.int a, .int k]) = if a = -1 then sI k else if k = 0 then bn.getD a.toNat Str.empty else bn.getD a.toNat Str.empty ++ Ie k ++ sI (k.natAbs : Int) := rfl
theorem xg (bn : List Str) (n : Str) : aV bn (.tup [.str "call", .str n]) = "call " ++ n := ad0 rfl
theorem zI (bn : List Str) (k : Int) (t : L3.D) : aV bn (.tup [.str "put", .int k, t]) = "put" ++ " " ++ bn.getD k.toNat Str.empty ++ " " ++ c9 bn t := by
 show (if ("put" : Str) = "call" then _ else "put" ++ " " ++ (if ("put" : Str) = "put" then bn.getD k.toNat Str.empty else _) ++ " " ++ c9 bn t) = _
 rw [adT (by decide +kernel), ad0 rfl]
theorem zJ (bn : List Str) (n : Str) (t : L3.D) : aV bn (.tup [.str "say", .str n, t]) = "say" ++ " " ++ n ++ " " ++ c9 bn t := by
 show (if ("say" : Str) = "call" then _ else "say" ++ " " ++ (if ("say" : Str) = "put" then _ else n) ++ " " ++ c9 bn t) = _
 rw [adT (by decide +kernel), adT (by decide +kernel)]
theorem Cz (bn ns : List Str) (w : Str) (k : Int) : eK bn ns (.tup [.str w, .int k]) = w ++ " " ++ ns.getD k.toNat Str.empty := rfl
theorem xh (bn ns : List Str) (w : Str) (s t : L3.D) : eK bn ns (.tup [.str w, s, t]) = c9 bn s ++ " " ++ w ++ " " ++ c9 bn t := rfl
theorem dO {l : List Str} (h : ∀ x ∈ l, x.length <= 21) (k : Nat) : (l.getD k Str.empty).length <= 21 := by
 rw [adS]
 cases e : l[k]? with
 | none => exact ael _
 | some x => exact h x (ad7 e)
theorem fV {bn : List Str} {nb : Nat} {d : L3.D} (h : ∀ x ∈ bn, x.length <= 21) (hd : nW nb d) : (c9 bn d).length <= 53 := by
 obtain ⟨a, c, rfl, _, hc⟩ := hd
 have e := dO h a.toNat
 have e2 := qM hc
 have e3 := qM (i := (c.natAbs : Int)) (by rw [Int.natAbs_natCast]; exact hc)
 show (if a = -1 then sI c else if c = 0 then bn.getD a.toNat Str.empty else bn.getD a.toNat Str.empty ++ Ie c ++ sI (c.natAbs : Int)).length <= 53
 split
 . omega
 split
 . omega
 . rw [str_len, str_len]
   have := Ig c
   omega
theorem fF {bn : List Str} {nb : Nat} {d : L3.D} (h : ∀ x ∈ bn, x.length <= 21) (hd : mC nb d) : (aV bn d).length <= 110 := by
 rcases hd with ⟨n, rfl, hn⟩ | ⟨k, t, rfl, _, ht⟩ | ⟨n, t, rfl, hn, ht⟩
 . show (("call " : Str) ++ n).length <= 110
   rw [str_len]
   have : ("call " : Str).length = 5 := rfl
   omega
 . have := fV h ht
   have e := dO h k.toNat
   show (("put" : Str) ++ " " ++ bn.getD k.toNat Str.empty ++ " " ++ c9 bn t).length <= 110
   rw [str_len, str_len, str_len, str_len]
   have : ("put" : Str).length = 3 := rfl
   have : (" " : Str).length = 1 := rfl
   omega
 . have := fV h ht
   show (("say" : Str) ++ " " ++ n ++ " " ++ c9 bn t).length <= 110
   rw [str_len, str_len, str_len, str_len]
   have : ("say" : Str).length = 3 := rfl
   have : (" " : Str).length = 1 := rfl
   omega
theorem vZ {bn ns : List Str} {nb nm : Nat} {d : L3.D} (h : ∀ x ∈ bn, x.length <= 21) (h2 : ∀ x ∈ ns, x.length <= 21) (hd : Cu nb nm d) : (eK bn ns d).length <= 110 := by
 have e1 : (" " : Str).length = 1 := rfl
 rcases hd with ⟨w, k, rfl, hw, _⟩ | ⟨w, s, t, rfl, hw, hs, ht⟩
 . have e := dO h2 k.toNat
   have : w.length <= 4 := by rcases hw with rfl | rfl <;> decide +kernel
   show (w ++ " " ++ ns.getD k.toNat Str.empty).length <= 110
   rw [str_len, str_len]
   omega
 . have a1 := fV h hs
   have a2 := fV h ht
   have : w.length <= 2 := by
     have : ∀ x ∈ (["<", "<=", "=", "!="] : List Str), x.length <= 2 := by decide +kernel
     exact this w hw
   show (c9 bn s ++ " " ++ w ++ " " ++ c9 bn t).length <= 110
   rw [str_len, str_len, str_len, str_len]
   omega
noncomputable def jn (a : Str) (l : List Str) : Str := l.foldl (fun x w => x ++ " " ++ w) a
theorem sC (a : Str) (l m : List Str) : jn a (l ++ m) = jn (jn a l) m := List.foldl_append
theorem MS (z : Str) : ∀ (l : List Str) (a : Str), z ++ jn a l = jn (z ++ a) l
 | [], a => rfl
 | w :: l, a => by
   show z ++ jn (a ++ " " ++ w) l = jn (z ++ a ++ " " ++ w) l
   rw [MS z l, aeI z a " ", aeI z (a ++ " ") w]
theorem v5 : ∀ (l : List Str) (a : Str), Txt.join " " (a :: l) = jn a l
 | [], a => by rw [join_eq]; rfl
 | w :: l, a => by
   have ih := v5 l w
   rw [join_eq] at ih ⊢
   show a ++ " " ++ Str.join " " (w :: l) = jn (a ++ " " ++ w) l
   rw [ih, MS]
theorem ud {B : Nat} : ∀ (l : List Str) (a : Str), (∀ x ∈ l, x.length <= B) -> (jn a l).length <= a.length + l.length * (B + 1)
 | [], a, _ => by show a.length <= _; omega
 | w :: l, a, h => by
   have h1 := h w adW
   have h2 := ud l (a ++ " " ++ w) fun x hx => h x (adX _ hx)
   rw [str_len, str_len] at h2
   have e1 : (" " : Str).length = 1 := rfl
   show (jn (a ++ " " ++ w) l).length <= _
   rw [aeo, Nat.succ_mul]
   omega
theorem U8 (a f x lit : Str) (h : lit = " " ++ f ++ " ") : a ++ lit ++ x = jn a [f, x] := by
 subst h
 show a ++ (" " ++ f ++ " ") ++ x = a ++ " " ++ f ++ " " ++ x
 rw [aeI " " f " ", ← aeI a " " (f ++ " "), ← aeI (a ++ " ") f " "]
noncomputable def lF (f g : Str) : List Str -> List Str
 | [] => []
 | t :: r => f :: t :: r.flatMap fun x => [g, x]
theorem CB (f g : Str) (l : List Str) (t : Str) : lF f g (l ++ [t]) = lF f g l ++ [if l = [] then f else g, t] := by
 cases l with
 | nil => rfl
 | cons x r =>
   show f :: x :: (r ++ [t]).flatMap _ = _
   rw [List.flatMap_append, adT (by intro z; cases z)]
   rfl
theorem fW (f g : Str) (l : List Str) : (lF f g l).length = 2 * l.length := by
 cases l with
 | nil => rfl
 | cons x r =>
   show (f :: x :: r.flatMap fun y => [g, y]).length = _
   have : ∀ r : List Str, (r.flatMap fun y => [g, y]).length = 2 * r.length := fun r => by
     induction r with
     | nil => rfl
     | cons y r ih =>
       rw [List.flatMap_cons, adR, ih]
       show 2 + 2 * r.length = 2 * (r.length + 1)
       omega
   rw [aeo, aeo, this, aeo]
   omega
theorem pV {f g : Str} {l : List Str} {P : Str -> Prop} (hf : P f) (hg : P g) (h : ∀ x ∈ l, P x) : ∀ x ∈ lF f g l, P x := by
 cases l with
 | nil => intro x hx; cases hx
 | cons y r =>
   intro x hx
   rcases adN.mp hx with rfl | hx
   . exact hf
   rcases adN.mp hx with rfl | hx
   . exact h _ adW
   . obtain ⟨z, hz, hx⟩ := List.mem_flatMap.mp hx
     rcases adN.mp hx with rfl | hx
     . exact hg
     . cases adY.mp hx
       exact h _ (adX _ hz)
theorem MT {l : List Str} {B : Nat} {z : Str} (hz : z.length = 1) (h : ∀ x ∈ l, x.length <= B) (hb : l.length * (B + 1) <= 16000000) : JoinOk z l = true := by
 unfold JoinOk
 rw [StrLaws.joinTotal, aeN, hz, Nat.mul_one]
 have : ∀ (l : List Str), (∀ x ∈ l, x.length <= B) -> (l.map (·.length)).sum + l.length <= l.length * (B + 1) := fun l => by
   induction l with
   | nil => intro _; exact ael _
   | cons x l ih =>
     intro h
     have a := h x adW
     have c := ih fun y hy => h y (adX _ hy)
     rw [aen, List.sum_cons, aeo, Nat.succ_mul]
     omega
 have := this l h
 refine aeC ?_
 rw [aek]
 omega
structure CH where
 bs : List (Str × Int)
 ns : List Str
 ks : List Str
 es : List Int
 ss : List Int
 is : List (List L3.D)
 os : List (List L3.D)
 ws : List WY
noncomputable def CH.d (c : CH) : L3.D := E1 (c.bs.map ua) (c.ns.map .str) (zE c.ks c.es c.ss) (c.is.map .tup) (c.os.map .tup) (c.ws.map WY.d)
noncomputable def CH.p (c : CH) : L3.D := qK (c.bs.map ua) c.ns c.ks c.es c.ss (c.is.map .tup) (c.os.map .tup) (c.ws.map WY.d)
noncomputable def CH.bn (c : CH) : List Str := c.bs.map (·.1)
structure g6 (c : CH) : Prop where
 nl : c.ns.length = c.es.length
 kl : c.ks.length = c.es.length
 sl : c.ss.length = c.es.length
 il : c.is.length = c.es.length
 e0 : 0 < c.es.length
 e1 : c.es.length <= 41
 tr : mq c.es
 nk : ∀ x ∈ c.ns, x.length <= 21
 b3 : c.bs.length <= 3
 bk : ∀ p ∈ c.bs, p.1.length <= 21 /\ p.2.natAbs < 10 ^ 30
 kk : ∀ x ∈ c.ks, x.length <= 4
 one : ∀ m, m < c.es.length -> (c.ks.getD m Str.empty = "one" -> 0 <= c.ss.getD m 0 /\ c.ss.getD m 0 < c.es.length) /\ (c.ks.getD m Str.empty ≠ "one" -> c.ss.getD m 0 = -1)
 ow : Ax c.bs.length c.es.length 40 ⟨c.is, c.os, c.ws⟩
theorem g6.bn {c : CH} (h : g6 c) : ∀ x ∈ c.bn, x.length <= 21 := fun x hx => by
 obtain ⟨p, hp, rfl⟩ := aed.mp hx
 exact (h.bk p hp).1
theorem Sj {c : CH} {k : Int} (h0 : 0 <= k) (h1 : k < c.bs.length) : vq (c.bs.map ua) k = some (.tup [.str (c.bn.getD k.toNat Str.empty), .int (c.bs.getD k.toNat (Str.empty, 0)).2]) := by
 rw [cW (f := ua) (Str.empty, 0) h0 h1]
 have hk : k.toNat < c.bs.length := by omega
 unfold CH.bn
 rw [adS, adS, ad8, ad3 hk]
 rfl
noncomputable def CD (ns : List Str) (w : WY) : List Str := if w.tg = -1 then [] else ["to", ns.getD w.tg.toNat Str.empty]
noncomputable def JD (w : WY) : List Str := if w.md = "new" then [] else [w.md]
noncomputable def Sl (bn ns : List Str) (w : WY) : List Str := w.sg :: (lF "if" "and" (w.qs.map (eK bn ns)) ++ lF "do" "then" (w.ds.map (aV bn)) ++ (CD ns w ++ JD w))
noncomputable def xj (bn ns : List Str) (w : WY) : Str := jn "on" (Sl bn ns w)
noncomputable def xm (c : CH) (m : Nat) : Str := jn (c.ks.getD m Str.empty) (c.ns.getD m Str.empty :: if c.ks.getD m Str.empty = "one" then [c.ns.getD (c.ss.getD m 0).toNat Str.empty] else [])
noncomputable def ja (c : CH) (m : Nat) : Str := Txt.mul " " ((rN c.es m).length : Nat)
noncomputable def v7 (c : CH) (m : Nat) : List Str := (c.is.getD m []).map (fun d => "in " ++ aV c.bn d) ++ (c.os.getD m []).map fun d => "out " ++ aV c.bn d
noncomputable def dI (c : CH) (l : List WY) (m : Nat) : List Str := (l.filter fun w => decide (w.src = (m : Int))).map (xj c.bn c.ns)
noncomputable def qN (c : CH) (m : Nat) : List Str := v7 c m ++ dI c c.ws m
noncomputable def u0 (c : CH) (m : Nat) : List Str := (ja c m ++ xm c m) :: (qN c m).map fun t => ja c m ++ " " ++ t
noncomputable def E8 (p : Str × Int) : Str := "box " ++ p.1 ++ " " ++ sI p.2
noncomputable def gU (c : CH) (n : Nat) : List Str := c.bs.map E8 ++ (List.range n).flatMap (u0 c)
theorem pW (c : CH) (n : Nat) : gU c (n + 1) = gU c n ++ u0 c n := by
 unfold gU
 rw [List.range_succ, List.flatMap_append, adO]
 simp
section
variable {c : CH}
theorem MV (h : g6 c) {w : WY} (hw : kO c.bs.length c.es.length c.is.length 40 w) : (∀ x ∈ Sl c.bn c.ns w, x.length <= 110) /\ (Sl c.bn c.ns w).length <= 84 := by
 have hb := h.bn
 have hn := h.nk
 constructor
 . intro x hx
   rcases adN.mp hx with rfl | hx
   . exact aeA hw.fin.s3 (by decide)
   rcases adZ.mp hx with hx | hx
   . rcases adZ.mp hx with hx | hx
     . exact pV (P := fun x => x.length <= 110) (by decide +kernel) (by decide +kernel) (fun y hy => by
         obtain ⟨d, hd, rfl⟩ := aed.mp hy
         exact vZ hb hn (hw.g1 d hd).pr) x hx
     . exact pV (P := fun x => x.length <= 110) (by decide +kernel) (by decide +kernel) (fun y hy => by
         obtain ⟨d, hd, rfl⟩ := aed.mp hy
         exact fF hb (hw.g2 d hd).pr) x hx
   rcases adZ.mp hx with hx | hx
   . unfold CD at hx
     split at hx
     . cases hx
     . rcases adN.mp hx with rfl | hx
       . decide +kernel
       . cases adY.mp hx
         exact aeA (dO hn _) (by decide)
   . unfold JD at hx
     split at hx
     . cases hx
     . cases adY.mp hx
       have : ∀ x ∈ (["new", "near", "far"] : List Str), x.length <= 110 := by decide +kernel
       rcases hw.fin.tg with ⟨_, e⟩ | ⟨_, e⟩
       . rw [e]; decide +kernel
       . exact this _ e
 . have a := hw.l3
   unfold Sl
   rw [aeo, adR, adR, adR, fW, fW, adM, adM]
   have e1 : (CD c.ns w).length <= 2 := by unfold CD; split <;> exact adQ rfl
   have e2 : (JD w).length <= 1 := by unfold JD; split <;> exact adQ rfl
   omega
theorem AG (h : g6 c) {w : WY} (hw : kO c.bs.length c.es.length c.is.length 40 w) : (xj c.bn c.ns w).length <= 9326 := by
 obtain ⟨a, d⟩ := MV h hw
 have := ud _ "on" a
 have e : ("on" : Str).length = 2 := rfl
 unfold xj
 have : (Sl c.bn c.ns w).length * (110 + 1) <= 84 * 111 := Nat.mul_le_mul_right _ d
 omega
theorem E9 (h : g6 c) (m : Nat) : (xm c m).length <= 100 := by
 have hk : (c.ks.getD m Str.empty).length <= 4 := by
   rw [adS]
   cases e : c.ks[m]? with
   | none => exact ael _
   | some x => exact h.kk x (ad7 e)
 have e1 := dO h.nk m
 have e2 := dO h.nk (c.ss.getD m 0).toNat
 have e3 : (" " : Str).length = 1 := rfl
 unfold xm
 split
 . show (c.ks.getD m Str.empty ++ " " ++ c.ns.getD m Str.empty ++ " " ++ c.ns.getD (c.ss.getD m 0).toNat Str.empty).length <= 100
   rw [str_len, str_len, str_len, str_len]
   omega
 . show (c.ks.getD m Str.empty ++ " " ++ c.ns.getD m Str.empty).length <= 100
   rw [str_len, str_len]
   omega
theorem Qx (n : Nat) : (Txt.mul " " (n : Int)).length <= n + 1 := by
 unfold Txt.mul
 split
 . exact ael _
 split
 . show (1 : Nat) <= n + 1
   omega
 . have : ∀ (k : Nat) (a : Array Nat), ((List.replicate k (" " : Str).cps).foldl (· ++ ·) a).size = a.size + k := fun k => by
     induction k with
     | zero => intro a; rfl
     | succ k ih =>
       intro a
       rw [List.replicate_succ, List.foldl_cons, ih, Array.size_append]
       show a.size + 1 + k = _
       omega
   show ((List.replicate (n : Int).toNat (" " : Str).cps).foldl (· ++ ·) #[]).size <= n + 1
   rw [this, aeD]
   show 0 + n <= n + 1
   omega
theorem MX {n : Nat} (h : n <= 1000) : MulOk " " (n : Int) := by
 have e : (" " : Str).length = 1 := rfl
 refine ⟨by simp; omega, fun h1 _ => ?_, fun _ _ => ?_⟩
 . rw [e]
   have : (1 : Int) <= (2 ^ 63 - 1) / (n : Int) := Int.le_ediv_of_mul_le (by omega) (by omega)
   omega
 . rw [e, aeD, Nat.one_mul]
   refine aeC ?_
   rw [aek]
   omega
theorem AH (h : g6 c) (m : Nat) : (ja c m).length <= 50 := by
 have a := Qx (rN c.es m).length
 have d := pS (c.es.length + 1) c.es (c.es.getD (m : Int).toNat 0)
 have e := h.e1
 have : (rN c.es m).length <= c.es.length + 1 := d
 unfold ja
 omega
theorem MY (h : g6 c) {m : Nat} : ∀ x ∈ v7 c m, x.length <= 200 := fun x hx => by
 have gi : ∀ {l : List (List L3.D)} {P : L3.D -> Prop}, (∀ x ∈ l, iZ P 40 x) -> ∀ d ∈ l.getD m [], P d := fun {l P} hl d hd => by
   rw [adS] at hd
   cases e : l[m]? with
   | none => rw [e] at hd; cases hd
   | some y => rw [e] at hd; exact ((hl y (ad7 e)).g1 d hd).pr
 rcases adZ.mp hx with hx | hx
 . obtain ⟨d, hd, rfl⟩ := aed.mp hx
   have := fF h.bn (gi h.ow.ii d hd)
   rw [str_len]
   show 3 + _ <= 200
   omega
 . obtain ⟨d, hd, rfl⟩ := aed.mp hx
   have := fF h.bn (gi h.ow.oo d hd)
   rw [str_len]
   show 4 + _ <= 200
   omega
theorem Qy (h : g6 c) : ∀ x ∈ c.bs.map E8, x.length <= 100 := fun x hx => by
 obtain ⟨p, hp, rfl⟩ := aed.mp hx
 have a := h.bk p hp
 have d := qM a.2
 have e3 : (" " : Str).length = 1 := rfl
 unfold E8
 rw [str_len, str_len, str_len]
 show 4 + _ + _ + _ <= 100
 omega
theorem AI (h : g6 c) (m : Nat) : (v7 c m).length <= 80 := by
 have gi : ∀ {l : List (List L3.D)} {P : L3.D -> Prop}, (∀ x ∈ l, iZ P 40 x) -> (l.getD m []).length <= 40 := fun {l P} hl => by
   rw [adS]
   cases e : l[m]? with
   | none => exact ael _
   | some y => exact (hl y (ad7 e)).l1
 have a := gi h.ow.ii
 have d := gi h.ow.oo
 unfold v7
 rw [adR, adM, adM]
 dsimp only at a d
 omega
theorem nX (h : g6 c) (l : List WY) (hl : l.length <= 40) (m : Nat) : (dI c l m).length <= 40 := by
 unfold dI
 rw [adM]
 exact aeA (List.length_filter_le _ _) hl
noncomputable def OO (l : List Str) : Nat := (l.map (·.length)).sum + l.length
theorem AJ (l r : List Str) : OO (l ++ r) = OO l + OO r := by
 unfold OO
 rw [adU, List.sum_append, adR]
 omega
theorem AK {B : Nat} : ∀ (l : List Str), (∀ x ∈ l, x.length <= B) -> OO l <= l.length * (B + 1)
 | [], _ => ael _
 | x :: l, h => by
   have a := h x adW
   have d := AK l fun y hy => h y (adX _ hy)
   unfold OO at d ⊢
   rw [aen, List.sum_cons, aeo, Nat.succ_mul]
   omega
theorem MZ (h : g6 c) (m : Nat) : OO (u0 c m) <= 400000 := by
 have b := AH h m
 have md := E9 h m
 have e3 : (" " : Str).length = 1 := rfl
 have V9 : ∀ x ∈ (v7 c m).map (fun t => ja c m ++ " " ++ t), x.length <= 251 := fun x hx => by
   obtain ⟨t, ht, rfl⟩ := aed.mp hx
   have := MY h t ht
   rw [str_len, str_len]
   omega
 have hwy : ∀ x ∈ (dI c c.ws m).map (fun t => ja c m ++ " " ++ t), x.length <= 9377 := fun x hx => by
   obtain ⟨t, ht, rfl⟩ := aed.mp hx
   obtain ⟨w, hw, rfl⟩ := aed.mp ht
   have := AG h (h.ow.ww w (ae7.mp hw).1)
   rw [str_len, str_len]
   omega
 have t1 := AK _ V9
 have t2 := AK _ hwy
 have l1 := AI h m
 have l2 := nX h c.ws h.ow.wl m
 rw [adM] at t1 t2
 have t3 : OO [ja c m ++ xm c m] <= 151 := by
   show (ja c m ++ xm c m).length + 0 + 1 <= 151
   rw [str_len]
   omega
 have : u0 c m = [ja c m ++ xm c m] ++ ((v7 c m).map (fun t => ja c m ++ " " ++ t) ++ (dI c c.ws m).map (fun t => ja c m ++ " " ++ t)) := by
   rw [u0, qN, adU]
   rfl
 rw [this, AJ, AJ]
 have m1 : (v7 c m).length * (251 + 1) <= 80 * 252 := Nat.mul_le_mul_right _ l1
 have m2 : (dI c c.ws m).length * (9377 + 1) <= 40 * 9378 := Nat.mul_le_mul_right _ l2
 omega
theorem Ih (h : g6 c) : ∀ n, OO (gU c n) <= 400 + n * 400000
 | 0 => by
   have a := AK _ (Qy h)
   have d := h.b3
   rw [adM] at a
   unfold gU
   rw [List.range_zero, List.flatMap_nil, aef]
   omega
 | n + 1 => by
   have a := Ih h n
   have d := MZ h n
   rw [pW, AJ]
   omega
theorem all_join (h : g6 c) : JoinOk "\n" (gU c c.es.length) = true := by
 have a := Ih h c.es.length
 have d := h.e1
 unfold JoinOk
 rw [StrLaws.joinTotal, aeN]
 have e : ("\n" : Str).length = 1 := rfl
 rw [e, Nat.mul_one]
 refine aeC ?_
 rw [aek]
 unfold OO at a
 omega
end
noncomputable abbrev pX : Stmt := top 22
noncomputable abbrev uf : Type := List Int × Int
noncomputable def iQ : uf -> List L3.D := fun (ns, j) => [.lst (ns.map .int), .int j]
noncomputable def iR : uf -> Prop := fun (ns, j) => 0 <= j
noncomputable def iS : uf -> T := fun (ns, j) => (.sh (.int (eO ns j)) : T)
structure JF (X : Cx) (CL : Str -> Addr) : Prop extends cE X where
 dm : Ln X 0 "script"
 KR : Ln X 1 "k"
 b4 : Gl X "len"
 b5 : X.mg "len" = none
theorem JG {X : Cx} {CL : Str -> Addr} {b : Bx} (E : JF X CL) (ns j) (h : iR (ns, j)) :
   aD X CL b pX ["script", "k"] (iQ (ns, j)) (iS (ns, j)) := by
 dsimp only [aD, iR, iQ, iS] at h ⊢
 refine c7 (Hy (aC E.KR) (ah (rZ E.b5 (aC E.dm) E.b4))).1 (fun hp => ?_) (fun hp => ?_)
 . have e : j < ns.length := by simpa using of_decide_eq_true hp
   refine bw (bq (aK (aC E.dm) (aC E.KR) (f9 h e)) rfl) ?_
   show T.sh _ = T.sh (.int (eO ns j))
   rw [eO, ad0 e]
 . have e : ¬ j < ns.length := by simpa using of_decide_eq_false hp
   refine ao (bw ai ?_)
   show T.sh _ = T.sh (.int (eO ns j))
   rw [eO, adT e]
theorem qO : nq (aq pX) ([("script", au), ("k", au), ("len", aF)]) = true := by decide +kernel
theorem xo : aT ["script", "k"] ["script", "k"] (aq pX) := aZ
noncomputable abbrev v8 : Stmt := top 23
noncomputable abbrev AO : Type := List Int × Int
noncomputable def lN : AO -> List L3.D := fun (es, m) => [.lst (es.map .int), .int m]
noncomputable def lO : AO -> Prop := fun (es, m) => mq es /\ 0 <= m /\ m < es.length /\ es.length <= 1000
noncomputable def lP : AO -> T := fun (es, m) => (.lst (((rN es m).map .int).map T.sh) : T)
structure Qz (X : Cx) (CL : Str -> Addr) : Prop extends cE X where
 bP : Ln X 0 "elders"
 bE : Ln X 1 "mood"
 aU : Ln X 2 "found"
 M0 : Ln X 3 "at"
theorem QB {X : Cx} {CL : Str -> Addr} {b : Bx} (E : Qz X CL) (es m) (h : lO (es, m)) :
   aD X CL b v8 ["elders", "mood", "found", "at"] (lN (es, m)) (lP (es, m)) := by
 dsimp only [aD, lO, lN, lP] at h ⊢
 obtain ⟨ht, h0, h1, hlen⟩ := h
 refine aJ E.g E.aU (dM dh (ael _)) ?_
 refine aJ E.g E.M0 (bq (aK (aC E.bP) (aC E.bE) (f9 h0 h1)) rfl) ?_
 have hm := ht.at h0 h1
 refine Ai E.g (fun n δ => ∃ (k : Int) (l : List Int), δ = [some (.sh (.lst (es.map .int))), some (.sh (.int m)), some (.lst ((l.map .int).map T.sh)), some (.sh (.int k))] /\ -1 <= k /\ k < n /\ k < es.length /\ l ++ EZ n es k = rN es m /\ l.length + n <= es.length + 1) (es.length + 1)
   ⟨es.getD m.toNat 0, [], rfl, hm.1, by omega, by omega, rfl, by simp⟩ ?_
 rintro n δ ⟨k, l, rfl, k0, k1, k2, k3, k4⟩
 refine ⟨_, _, (nR (aC E.M0) (ah (fC (ah ai)))).1, fun hp => ?_, fun hp => ?_⟩
 . have hk : ¬ k = -1 := by simpa using hp
   have ha := ht.at (k := k) (by omega) k2
   cases n with
   | zero => omega
   | succ n =>
     refine fE E.aU.1 rfl (v_ E.M0.1) rfl (by simp; omega) ?_
     refine aJ E.g E.M0 (bq (aK (aC E.bP) (aC E.M0) (f9 (by omega) k2)) rfl) ?_
     refine ao ⟨n, aeX _, es.getD k.toNat 0, l ++ [k], ?_, ha.1, by omega, by omega, ?_, by simp; omega⟩
     . show [_, _, some (T.lst (((l.map D.int).map T.sh) ++ [T.sh (.int k)])), _] = _
       simp
     . rw [← k3, EZ, adT hk, adO]
       rfl
 . have hk : k = -1 := by simpa using hp
   subst hk
   have e : l = rN es m := by
     rw [← k3]
     cases n with
     | zero => rw [EZ, aef]
     | succ n => rw [EZ, ad0 rfl, aef]
   subst e
   exact bw (vM E.aU.1) rfl
theorem sE : nq (aq v8) ([("elders", au), ("mood", au), ("found", au), ("at", au)]) = true := by decide +kernel
theorem CF : aT ["elders", "mood", "found", "at"] ["elders", "mood"] (aq v8) := aZ
noncomputable abbrev j6 : Stmt := top 27
noncomputable abbrev nY : Type := (List (Int × Int))
noncomputable def iA : nY -> List L3.D := fun l => [.lst (l.map Mv)]
noncomputable def iB : nY -> Prop := fun l => l.length <= 100
noncomputable def iC : nY -> T := fun l => (.lst (((MC l).map .int).map T.sh) : T)
structure CG (X : Cx) (CL : Str -> Addr) : Prop extends cE X where
 j7 : Ln X 0 "items"
 bP : Ln X 1 "elders"
 cg : Ln X 2 "item"
 Fb : Ln X 3 "last"
 pY : Ln X 4 "roads"
 b4 : Gl X "len"
 mF : Gl X "_law_chain"
 b5 : X.mg "len" = none
 AQ : Fc X CL "_law_chain" 1 2 lN lO lP
theorem CJ {X : Cx} {CL : Str -> Addr} {b : Bx} (E : CG X CL) (l) (h : iB l) :
   aD X CL b j6 ["items", "elders", "item", "last", "roads"] (iA l) (iC l) := by
 dsimp only [aD, iB, iA, iC] at h ⊢
 refine aJ E.g E.bP (dM (e7 (fC (ah ai)) dh) (az rfl)) ?_
 refine jG E.g E.cg (fun j δ => ∃ o4 o5 o6, δ = [some (.sh (.lst (l.map Mv))), some (.lst ((((l.take j).foldl sq [-1]).map .int).map T.sh)), o4, o5, o6])
   (kM (v_ E.j7.1)) ⟨_, _, _, rfl⟩ (fun j δ ⟨_, _, _, e⟩ => by subst e; exact adQ rfl) ?turn ?fin
 case turn =>
   rintro j d δ hj ⟨o4, o5, o6, rfl⟩
   obtain ⟨p, hp, rfl⟩ := HR hj
   obtain ⟨ht, hl⟩ := Aq (l.take j) [-1] Cr (aeX 0)
   have hm := pT (l.take j)
   have Fd := List.length_take_le j l
   have acY : (l.take j).length <= l.length := by rw [aeH]; omega
   rw [ad9] at hl
   show fD X CL b _ _ { nx := fun δ => ∃ o4 o5 o6, δ = [_, some (.lst ((((l.take (j + 1)).foldl sq [-1]).map .int).map T.sh)), o4, o5, o6], rt := _, bk := _, ct := _ }
   rw [fc hp, List.foldl_append]
   generalize (l.take j).foldl sq [-1] = es at ht hl ⊢
   show fD X CL b _ _ { nx := fun δ => ∃ o4 o5 o6, δ = [_, some (.lst (((sq es p).map .int).map T.sh)), o4, o5, o6], rt := _, bk := _, ct := _ }
   refine c7 (Hy (ah (bZ (aE (aC E.cg) (ah ai) rfl) (ah ai) (by decide))) (ah ai)).1 (fun hq => ?_) (fun hq => ?_)
   . have hq : p.1 % 8 < 3 := ad4 hq
     obtain ⟨k, hk⟩ : ∃ k : Nat, es.length = k + 1 := ⟨es.length - 1, by omega⟩
     obtain ⟨r1, r2, r3⟩ := uZ (k := k) ht hk.symm
     refine aJ E.g E.Fb (cA (nQ (ah (cI (adM ..) E.b5 (vL E.bP.1) E.b4)) (ah ai)) (t2 := .sh (.int (k : Int))) (by rw [hk]; congr 2; omega)) ?_
     have hcl : (rN es (k : Int)).length <= es.length + 1 := pS _ _ _
     refine aJ E.g E.pY (HJ (ds := [.int (k : Int)]) (Ah := (rN es (k : Int)).map .int) (bS (ds := [.int (k : Int)]) (dM (e7 (v_ E.Fb.1) dh) (az rfl)))
       (bS (c_ (es, (k : Int)) E.AQ E.mF (aj (vL E.bP.1) (aj (aC E.Fb) aL)) (show mq es /\ (0 : Int) <= k /\ (k : Int) < es.length /\ es.length <= 1000 from ⟨ht, by omega, by omega, by omega⟩) (g5 _))) rfl (iL _) (aeB (bz (by rw [adM, ad9]; omega)))) ?_
     have er : ([L3.D.int (k : Int)] ++ (rN es (k : Int)).map L3.D.int) = ([(k : Int)] ++ rN es k).map L3.D.int := rfl
     rw [er]
     refine zA (fun δ => δ = [some (.sh (.lst (l.map Mv))), some (.lst ((es.map .int).map T.sh)), some (.sh (Mv p)), some (.sh (.int k)), some (.lst (((cG es k).map .int).map T.sh))])
       (wH (ah (cI (adM ..) E.b5 (vL E.pY.1) E.b4)) (ah ai)).1 (fun hp => ?_) (fun hp => ?_) ?_
     . have e : (12 : Int) < (([(k : Int)] ++ rN es k).length : Nat) := ad4 hp
       refine aJ E.g E.pY (Cb (vL E.pY.1) (iL _) (pP (ah ai)) pO) (ao ?_)
       rw [Cd]
       unfold cG
       rw [ad0 e]
       rfl
     . have e : ¬ (12 : Int) < (([(k : Int)] ++ rN es k).length : Nat) := ad6 hp
       refine ao ?_
       unfold cG
       rw [adT e]
       rfl
     rintro δ rfl
     have est : ((es.map L3.D.int).map T.sh) ++ [T.sh (.int ((cG es k).getD (p.1 / 8 % ((cG es k).length : Nat)).toNat 0))] = ((sq es p).map L3.D.int).map T.sh := by
       unfold sq
       rw [ad0 hq, hk, Nat.add_sub_cancel, adU, adU]
       rfl
     generalize cG es k = rs at r1 r2 est ⊢
     have b1 := aep (p.1 / 8) (b := (rs.length : Nat)) (by omega)
     have b2 := aeg (p.1 / 8) (b := (rs.length : Nat)) (by omega)
     refine fE E.bP.1 rfl (bq (aK (vL E.pY.1) (ah (bZ (ah (cR (aE (aC E.cg) (ah ai) rfl) (ah ai) ⟨by decide, by decide⟩)) (ah (cI (adM ..) E.b5 (vL E.pY.1) E.b4)) (by omega))) (f9 b1 b2)) rfl) rfl (by rw [adM, adM]; omega) (ao (ao ?_))
     rw [est]
     exact ⟨_, _, _, rfl⟩
   . have hq : ¬ p.1 % 8 < 3 := ad6 hq
     rw [sq, adT hq]
     exact ao (ao ⟨_, _, _, rfl⟩)
 case fin =>
   rintro δ ⟨o4, o5, o6, rfl⟩
   refine bw (vM E.bP.1) ?_
   rw [adM, aeM]
   rfl
theorem dP : nq (aq j6) ([("items", au), ("elders", au), ("item", au), ("last", au), ("roads", au), ("len", aF), ("_law_chain", aF)]) = true := by decide +kernel
theorem sF : aT ["items", "elders", "item", "last", "roads"] ["items"] (aq j6) := aZ
noncomputable abbrev pZ : Stmt := top 24
noncomputable abbrev ug : Type := Int × List Str
noncomputable def j8 : ug -> List L3.D := fun (m, us) => [.int m, .lst (us.map .str)]
noncomputable def iT : ug -> Prop := fun (m, us) => 0 <= m /\ m < 100000000000000000000 /\ us.length <= 100
noncomputable def j9 : ug -> T := fun (m, us) => (.sh (.str (j4 m us)) : T)
structure JH (X : Cx) (CL : Str -> Addr) : Prop extends cE X where
 CK : Ln X 0 "number"
 M3 : Ln X 1 "used"
 uh : Ln X 2 "letters"
 cC : Ln X 3 "words"
 jK : Ln X 4 "more"
 bW : Ln X 5 "name"
 xq : Ln X 6 "rest"
 eF : Gl X "range"
 b4 : Gl X "len"
 eG : X.mg "range" = none
 b5 : X.mg "len" = none
theorem JK {X : Cx} {CL : Str -> Addr} {b : Bx} (E : JH X CL) (m us) (h : iT (m, us)) :
   aD X CL b pZ ["number", "used", "letters", "words", "more", "name", "rest"] (j8 (m, us)) (j9 (m, us)) := by
 dsimp only [aD, iT, j8, j9] at h ⊢
 obtain ⟨h0, h1, h2⟩ := h
 have XE : JA.length = 36 := by decide +kernel
 refine aJ E.g E.uh aB ?_
 refine aJ E.g E.cC (Mh (l := w19) (ah aB) (ah aB) (by decide +kernel) (by rw [aek]; decide +kernel) (by decide +kernel) (az rfl)) ?_
 refine jG E.g E.jK (fun j δ => (∃ o5 o6 o7, δ = [some (.sh (.int m)), some (.sh (.lst (us.map .str))), some (.sh (.str "abcdefghijklmnopqrstuvwxyz0123456789")), some (.lst ((w19.map .str).map T.sh)), o5, o6, o7]) /\ ∀ i, i < j -> U0 m us i = false)
   (iK E.eG (ah (jF (ah (cI (adM ..) E.b5 (aC E.M3) E.b4)) (ah ai))) (by omega) E.eF) ⟨⟨_, _, _, rfl⟩, fun i hi => absurd hi (Nat.not_lt_zero _)⟩ (fun j δ ⟨⟨_, _, _, e⟩, _⟩ => by subst e; exact adQ rfl) ?turn ?fin
 case turn =>
   rintro j d δ hj ⟨⟨o5, o6, o7, rfl⟩, EC⟩
   obtain ⟨rfl, t7⟩ := lK hj
   rw [ae3]
   have t7 : j < us.length + 20 := by omega
   have b1 := aep (m + j) (show (26 : Int) ≠ 0 by decide)
   have b2 := aeg (m + j) (show (0 : Int) < 26 by decide)
   refine aJ E.g E.bW (cA (Lx (aC E.uh) (ah (bZ (ah (jF (aC E.CK) (aC E.jK))) (ah ai) (by decide))) (by rw [aek]; decide +kernel) (by rw [Mt]; exact LW 0 b1 (by rw [XE]; omega))) (t2 := .sh (.str (vz ((m + j) % 26)))) rfl) ?_
   refine aJ E.g E.xq (cR (ah (jF (aC E.CK) (aC E.jK))) (ah ai) ⟨by decide, by decide⟩) ?_
   refine Ai E.g (fun n δ => ∃ (r : Int) (x : Str), δ = [some (.sh (.int m)), some (.sh (.lst (us.map .str))), some (.sh (.str "abcdefghijklmnopqrstuvwxyz0123456789")), some (.lst ((w19.map .str).map T.sh)), some (.sh (.int j)), some (.sh (.str x)), some (.sh (.int r))] /\ 0 <= r /\ r < 36 ^ n /\ x.length + n <= 21 /\ OL n r x = E4 (m + j)) 20
     ⟨_, _, rfl, by omega, by have e : (36 : Int) ^ 20 = 13367494538843734067838845976576 := by decide +kernel
                              omega, adV _, rfl⟩ ?_
   rintro n δ ⟨r, x, rfl, r0, r1, x1, hx⟩
   refine ⟨_, _, (wH (aC E.xq) (ah ai)).1, fun hp => ?_, fun hp => ?_⟩
   . have hp : 0 < r := ad4 hp
     cases n with
     | zero =>
       have : r < 1 := r1
       omega
     | succ n =>
       have c1 := aep r (show (36 : Int) ≠ 0 by decide)
       have c2 := aeg r (show (0 : Int) < 36 by decide)
       refine aJ E.g E.bW (aM (aC E.bW) (ah (cA (Lx (aC E.uh) (ah (bZ (aC E.xq) (ah ai) (by decide))) (by rw [aek]; decide +kernel) (by rw [Mt]; exact LW 0 c1 (by rw [XE]; omega))) (t2 := .sh (.str (vz (r % 36)))) rfl)) (by rw [aek]; show x.length + 1 <= _; omega)) ?_
       refine aJ E.g E.xq (cR (aC E.xq) (ah ai) ⟨by decide, by decide⟩) ?_
       refine ao ⟨n, aeX _, r / 36, x ++ vz (r % 36), rfl, Int.ediv_nonneg r0 (by decide), Int.ediv_lt_of_lt_mul (by decide) (by rw [← Int.pow_succ]; exact r1), ?_, ?_⟩
       . rw [str_len]
         show x.length + 1 + n <= 21
         omega
       . rw [← hx, OL, ad0 hp]
   . have hp : ¬ 0 < r := ad6 hp
     rw [Qp n x hp] at hx
     subst hx
     refine c7 (Ab (Lv (HK (aC E.bW) (aC E.M3) rfl rfl).1 (fun hb => (Hz (HK (aC E.bW) (vL E.cC.1) rfl rfl).1)))) (fun hq => ?_) (fun hq => ao (ao ⟨⟨_, _, _, rfl⟩, fun i hi => ?_⟩))
     . refine bw (v_ E.bW.1) ?_
       show T.sh _ = T.sh (.str (j4 m us))
       rw [Mz t7 EC hq]
     . rcases Nat.lt_succ_iff_lt_or_eq.mp hi with h | rfl
       . exact EC i h
       . exact hq
 case fin =>
   rintro δ ⟨⟨o5, o6, o7, rfl⟩, EC⟩
   refine bw aB ?_
   have e : (dU 0 ((us.length : Int) + 20).toNat).length = us.length + 20 := by
     rw [dU, adM, aem]
     omega
   rw [e] at EC
   show T.sh _ = T.sh (.str (j4 m us))
   rw [MA EC]
theorem dQ : nq (aq pZ) ([("number", au), ("used", au), ("letters", au), ("words", au), ("more", au), ("name", au), ("rest", au), ("range", aF), ("len", aF)]) = true := by decide +kernel
theorem xr : aT ["number", "used", "letters", "words", "more", "name", "rest"] ["number", "used"] (aq pZ) := aZ
noncomputable abbrev mG : Stmt := top 25
noncomputable abbrev qP : Type := List Int × Nat
noncomputable def jd : qP -> List L3.D := fun (s, n) => [.lst (s.map .int), .int n]
noncomputable def je : qP -> Prop := fun (s, n) => n <= 100
noncomputable def jf : qP -> T := fun (s, n) => (.lst (((U1 s n).map .str).map T.sh) : T)
structure Fe (X : Cx) (CL : Str -> Addr) : Prop extends cE X where
 dm : Ln X 0 "script"
 n5 : Ln X 1 "many"
 M4 : Ln X 2 "base"
 M5 : Ln X 3 "step"
 aU : Ln X 4 "found"
 KR : Ln X 5 "k"
 gA : Gl X "_law_cell_at"
 eF : Gl X "range"
 xu : Gl X "_law_name_by"
 jC : Fc X CL "_law_cell_at" 1 2 iQ iR iS
 eG : X.mg "range" = none
 JL : Fc X CL "_law_name_by" 1 2 j8 iT j9
theorem Ff {X : Cx} {CL : Str -> Addr} {b : Bx} (E : Fe X CL) (s n) (h : je (s, n)) :
   aD X CL b mG ["script", "many", "base", "step", "found", "k"] (jd (s, n)) (jf (s, n)) := by
 dsimp only [aD, je, jd, jf] at h ⊢
 have e0 := aep (eO s 1) (show (5 : Int) ≠ 0 by decide)
 have e1 := aeg (eO s 1) (show (0 : Int) < 5 by decide)
 have b0 := aep (eO s 0) (show (26 * 36 ^ (10 : Int).toNat : Int) ≠ 0 by decide +kernel)
 have b1 := aeg (eO s 0) (show (0 : Int) < 26 * 36 ^ (10 : Int).toNat by decide +kernel)
 have b2 : (26 * 36 ^ (10 : Int).toNat : Int) <= 100000000000000000 := by decide +kernel
 have st := MB s
 refine aJ E.g E.M4 (bZ (ah (c_ ((s, 0)) E.jC E.gA (aj (aC E.dm) (aj (ah ai) aL)) (show (0 : Int) <= 0 by omega) rfl)) (ah (Aa (ah ai) (ah (Lr (ah ai) (ah ai) ⟨by decide, by decide, by decide⟩)) (.inl ⟨by decide, by decide⟩))) (by decide +kernel)) ?_
 refine aJ E.g E.M5 (cA (bq (aK (ds := ([1, 26, 936, 33696, 1213056] : List Int).map .int) (bS (e9 (HN rfl) (az rfl))) (ah (bZ (ah (c_ ((s, 1)) E.jC E.gA (aj (aC E.dm) (aj (ah ai) aL)) (show (0 : Int) <= 1 by omega) rfl)) (ah ai) (by decide))) (f9 e0 e1)) rfl) (t2 := .sh (.int (zG s))) rfl) ?_
 unfold U1
 generalize eO s 0 % (26 * 36 ^ (10 : Int).toNat) = c at b0 b1 ⊢
 generalize zG s = sp at st ⊢
 refine aJ E.g E.aU (dM dh (ael _)) ?_
 refine jG E.g E.KR (fun j δ => ∃ o, δ = [some (.sh (.lst (s.map .int))), some (.sh (.int n)), some (.sh (.int c)), some (.sh (.int sp)), some (.lst (((sj c sp j).map .str).map T.sh)), o])
   (iK E.eG (aC E.n5) (by omega) E.eF) ⟨_, rfl⟩ (fun j δ ⟨_, e⟩ => by subst e; exact adQ rfl) ?turn ?fin
 case turn =>
   rintro j d δ hj ⟨o, rfl⟩
   obtain ⟨rfl, t7⟩ := lK hj
   rw [ae3]
   have hnl := wY c sp j
   have hk : 0 <= (j : Int) * sp /\ (j : Int) * sp <= 1000 * 1213056 := ⟨Int.mul_nonneg (by omega) st.1, Int.mul_le_mul (by omega) st.2 st.1 (by decide)⟩
   have en : ((sj c sp j).map L3.D.str).map T.sh ++ [T.sh (.str (j4 (c + j * sp) (sj c sp j)))] = ((sj c sp (j + 1)).map L3.D.str).map T.sh := by
     rw [sj, adU, adU]
     rfl
   refine fE E.aU.1 rfl (cA (c_ ((c + j * sp, sj c sp j)) E.JL E.xu (aj (ah (jF (aC E.M4) (ah (Aa (aC E.KR) (aC E.M5) (.inl ⟨by omega, by omega⟩))))) (aj (vL E.aU.1) aL)) (by dsimp only [iT]; exact (⟨by omega, by omega, by omega⟩)) rfl) (t2 := .sh (.str (j4 (c + j * sp) (sj c sp j)))) rfl) rfl (by rw [List.length_map, List.length_map]; omega) (ao ?_)
   rw [en]
   exact ⟨_, rfl⟩
 case fin =>
   rintro δ ⟨o, rfl⟩
   have e : (dU 0 (n : Int).toNat).length = n := by
     rw [dU, adM, aem]
     omega
   rw [e]
   exact bw (vM E.aU.1) rfl
theorem c5 : nq (aq mG) ([("script", au), ("many", au), ("base", au), ("step", au), ("found", au), ("k", au), ("_law_cell_at", aF), ("range", aF), ("_law_name_by", aF)]) = true := by decide +kernel
theorem u5 : aT ["script", "many", "base", "step", "found", "k"] ["script", "many"] (aq mG) := aZ
noncomputable abbrev mH : Stmt := top 32
noncomputable abbrev qQ : Type := List Int × List Int
noncomputable def jg : qQ -> List L3.D := fun (es, cs) => [.lst (es.map .int), .lst (cs.map .int)]
noncomputable def gB : qQ -> Prop := fun (es, cs) => es.length <= 100 /\ cs.length = es.length
noncomputable def jh : qQ -> T := fun (es, cs) => (.lst [.lst (((eS es cs es.length).map .str).map T.sh), .lst (((ez es cs es.length).map .int).map T.sh)] : T)
structure Fg (X : Cx) (CL : Str -> Addr) : Prop extends cE X where
 bP : Ln X 0 "elders"
 M6 : X.env.kindOf "elders" = some .cell
 Ii : Ln X 1 "cells"
 mJ : Ln X 2 "kinds"
 n6 : Ln X 3 "starts"
 bE : Ln X 4 "mood"
 U9 : X.env.kindOf "mood" = some .cell
 AU : Ln X 5 "near"
 AV : Ln X 6 "start"
 eF : Gl X "range"
 b4 : Gl X "len"
 eG : X.mg "range" = none
 b5 : X.mg "len" = none
theorem Fi {X : Cx} {CL : Str -> Addr} {b : Bx} (E : Fg X CL) (es cs) (h : gB (es, cs)) :
   aD X CL b mH ["elders", "cells", "kinds", "starts", "mood", "near", "start"] (jg (es, cs)) (jh (es, cs)) := by
 dsimp only [aD, gB, jg, jh] at h ⊢
 obtain ⟨hl, hc⟩ := h
 refine aJ E.g E.mJ (dM dh (ael _)) ?_
 refine aJ E.g E.n6 (dM dh (ael _)) ?_
 refine jG E.g E.bE (fun j δ => ∃ o4 o5 o6, δ = [some (.sh (.lst (es.map .int))), some (.sh (.lst (cs.map .int))), some (.lst (((eS es cs j).map .str).map T.sh)), some (.lst (((ez es cs j).map .int).map T.sh)), o4, o5, o6])
   (iK E.eG (ah (cI (adM ..) E.b5 (aC E.bP) E.b4)) (by omega) E.eF) ⟨_, _, _, rfl⟩ (fun j δ ⟨_, _, _, e⟩ => by subst e; exact adQ rfl) ?turn ?fin
 case turn =>
   rintro j d δ hj ⟨o4, o5, o6, rfl⟩
   obtain ⟨rfl, t7⟩ := lK hj
   have t7 : j < es.length := by omega
   rw [ae3]
   have kl := qI es cs j
   have sl := qJ es cs j
   refine wR (p := fun d => decide (es.getD d.yy.toNat 0 = (j : Int))) (gg := fun d => T.sh d) E.g E.AU (cP (.cons E.bP.1 (.inl E.M6) (.cons E.bE.1 (.inl E.U9) .nil)) (by decide +kernel))
     (iK E.eG (ah (cI (adM ..) E.b5 (aC E.bP) E.b4)) (by omega) E.eF) (.inr rfl) (fun C s0 H0 f0 b' d hd => ?ja) (aeB (bz (by simp [dU]; omega))) ?rest (by exact adQ rfl) (lJ ⟨_, rfl⟩)
   case ja =>
     obtain ⟨i, hi, rfl⟩ := aed.mp hd
     have R9 : i < es.length := by simpa using hi
     exact ⟨(eu (aK (ah (v_ (jH (i := 1) rfl (by decide +kernel)))) (ah (v_ (dN (i := 0) rfl (by decide +kernel)))) (f9 (show (0 : Int) <= 0 + (i : Int) by omega) (show 0 + (i : Int) < es.length by omega))) (ah (v_ (jH (i := 2) rfl (by decide +kernel))))).1, fun _ => v_ (dN (i := 0) rfl (by decide +kernel))⟩
   case rest =>
   have eq : ((dU 0 ((es.length : Nat) : Int).toNat).filter fun d => decide (es.getD d.yy.toNat 0 = (j : Int))).map (fun d => T.sh d) = ((vv es j).map .int).map T.sh := by
     unfold dU vv
     rw [List.filter_map, aei, aei, aei, aeD]
     have e1 : ((fun d : L3.D => decide (es.getD d.yy.toNat 0 = (j : Int))) ∘ fun i : Nat => L3.D.int (0 + (i : Int))) = fun i : Nat => decide (es.getD i 0 = (j : Int)) := by
       funext i
       show decide (es.getD (0 + (i : Int)).toNat 0 = (j : Int)) = _
       rw [ae3, aeD]
     rw [e1]
     congr 1
     funext i
     show T.sh (.int (0 + (i : Int))) = T.sh (.int i)
     rw [ae3]
   rw [eq]
   have hin := Qn es j
   refine aJ E.g E.AV (fC (ah ai)) ?_
   refine zA (fun δ => δ = [some (.sh (.lst (es.map .int))), some (.sh (.lst (cs.map .int))), some (.lst (((eS es cs (j + 1)).map .str).map T.sh)), some (.lst (((ez es cs j).map .int).map T.sh)), some (.sh (.int j)), some (.lst (((vv es j).map .int).map T.sh)), some (.sh (.int (nu es cs j)))])
     (LR E.u (vL E.AU.1) (bS (dM dh (ael _))) (wX _) (wX [])).1 (fun hp => ?_) (fun hp => ?_) ?_
   . have hz : vv es j = [] := ad4 ((Mb (vv es j) []).symm.trans hp)
     refine fE E.mJ.1 rfl aB rfl (by rw [adM, adM]; omega) (ao ?_)
     rw [nV es cs j (by rw [kindB, ad0 hz])]
     rw [show nu es cs j = -1 by rw [nu, ad0 hz]]
     rfl
   . have hz : ¬ vv es j = [] := fun z => by
       rw [z] at hp
       exact absurd hp (by decide)
     have Va : 0 < (vv es j).length := ae5.mpr hz
     refine zA (fun δ => δ = [some (.sh (.lst (es.map .int))), some (.sh (.lst (cs.map .int))), some (.lst (((eS es cs (j + 1)).map .str).map T.sh)), some (.lst (((ez es cs j).map .int).map T.sh)), some (.sh (.int j)), some (.lst (((vv es j).map .int).map T.sh)), some (.sh (.int (nu es cs j)))])
       (eu (ah (bZ (aK (aC E.Ii) (aC E.bE) (f9 (by omega) (by omega))) (ah ai) (by decide))) (ah ai)).1 (fun hq => ?_) (fun hq => ?_) (fun δ e => ao e)
     . have hq : cs.getD (j : Int).toNat 0 % 2 = 1 := ad4 hq
       rw [aeD] at hq
       refine fE E.mJ.1 rfl aB rfl (by rw [adM, adM]; omega) (ao ?_)
       rw [nV es cs j (by rw [kindB, adT hz, ad0 hq])]
       rw [show nu es cs j = -1 by rw [nu, adT hz, ad0 hq]]
       rfl
     . have hq : ¬ cs.getD (j : Int).toNat 0 % 2 = 1 := ad6 hq
       rw [aeD] at hq
       have b1 := aep (cs.getD (j : Int).toNat 0 / 2) (b := ((vv es j).length : Nat)) (by omega)
       have b2 := aeg (cs.getD (j : Int).toNat 0 / 2) (b := ((vv es j).length : Nat)) (by omega)
       refine fE E.mJ.1 rfl aB rfl (by rw [adM, adM]; omega) ?_
       refine aJ E.g E.AV (bq (aK (vL E.AU.1) (ah (bZ (ah (cR (aK (aC E.Ii) (aC E.bE) (f9 (by omega) (by omega))) (ah ai) ⟨by decide, by decide⟩)) (ah (cI (adM ..) E.b5 (vL E.AU.1) E.b4)) (by omega))) (f9 b1 b2)) rfl) (ao ?_)
       rw [nV es cs j (by rw [kindB, adT hz, adT hq])]
       rw [show nu es cs j = (vv es j).getD (cs.getD (j : Int).toNat 0 / 2 % ((vv es j).length : Nat)).toNat 0 by rw [nu, adT hz, adT hq, aeD]]
       rfl
   rintro δ rfl
   refine fE E.n6.1 rfl (v_ E.AV.1) rfl (by rw [adM, adM]; omega) (ao ?_)
   rw [Ct es cs j rfl]
   exact ⟨_, _, _, rfl⟩
 case fin =>
   rintro δ ⟨o4, o5, o6, rfl⟩
   have e : (dU 0 (es.length : Int).toNat).length = es.length := by
     rw [dU, adM, aem]
     omega
   rw [e]
   exact bw (dM (e7 (vM E.mJ.1) (e7 (vM E.n6.1) dh)) (az rfl)) rfl
theorem cB : nq (aq mH) ([("elders", .cell), ("cells", au), ("kinds", au), ("starts", au), ("mood", .cell), ("near", au), ("start", au), ("range", aF), ("len", aF)]) = true := by decide +kernel
theorem u6 : aT ["elders", "cells", "kinds", "starts", "mood", "near", "start"] ["elders", "cells"] (aq mH) := aZ
noncomputable abbrev kg : Stmt := top 26
noncomputable abbrev n8 : Type := Int
noncomputable def d8 : n8 -> List L3.D := fun c => [.int c]
noncomputable def d9 : n8 -> Prop := fun c => True
noncomputable def ef : n8 -> T := fun c => (.sh (.int (Av c)) : T)
structure CM (X : Cx) (CL : Str -> Addr) : Prop extends cE X where
 M7 : Ln X 0 "cell"
 Fj : Ln X 1 "size"
theorem CN {X : Cx} {CL : Str -> Addr} {b : Bx} (E : CM X CL) (c) (h : d9 c) :
   aD X CL b kg ["cell", "size"] (d8 c) (ef c) := by
 dsimp only [aD, d9, d8, ef] at h ⊢
 refine aJ E.g E.Fj (bZ (ah (cR (aC E.M7) (ah ai) ⟨by decide, by decide⟩)) (ah (Lr (ah ai) (ah ai) ⟨by decide, by decide, by decide⟩)) (by decide)) ?_
 refine c7 (eu (ah (bZ (aC E.M7) (ah ai) (by decide))) (ah ai)).1 (fun hp => ?_) (fun hp => ao ?_)
 . refine bw (nQ (ah ai) (aC E.Fj)) ?_
   show T.sh _ = T.sh (.int (Av c))
   unfold Av
   rw [ad0 (ad4 hp)]
 . refine bw (v_ E.Fj.1) ?_
   show T.sh _ = T.sh (.int (Av c))
   unfold Av
   rw [adT (ad6 hp)]
theorem sG : nq (aq kg) ([("cell", au), ("size", au)]) = true := by decide +kernel
theorem sH : aT ["cell", "size"] ["cell"] (aq kg) := aZ
noncomputable abbrev p8 : Stmt := top 28
noncomputable abbrev um : Type := Int × Int × Nat × List Str
noncomputable def kh : um -> List L3.D := fun (a, c, n, ns) => [.tup [.int a, .int c], .int n, .lst (ns.map .str)]
noncomputable def eU : um -> Prop := fun (a, c, n, ns) => n <= 1000 /\ 0 < ns.length /\ ns.length <= 1000
noncomputable def ki : um -> T := fun (a, c, n, ns) => (.sh (j5 a c n ns) : T)
structure JM (X : Cx) (CL : Str -> Addr) : Prop extends cE X where
 cg : Ln X 0 "item"
 bf : Ln X 1 "boxes"
 bC : Ln X 2 "names"
 kP : Ln X 3 "pick"
 bW : Ln X 4 "name"
 gC : Ln X 5 "term"
 b4 : Gl X "len"
 fh : Gl X "_law_number_by"
 b5 : X.mg "len" = none
 gn : Fc X CL "_law_number_by" 1 1 d8 d9 ef
theorem JN {X : Cx} {CL : Str -> Addr} {b : Bx} (E : JM X CL) (a c n ns) (h : eU (a, c, n, ns)) :
   aD X CL b p8 ["item", "boxes", "names", "pick", "name", "term"] (kh (a, c, n, ns)) (ki (a, c, n, ns)) := by
 dsimp only [aD, eU, kh, ki] at h ⊢
 obtain ⟨h1, h2, h3⟩ := h
 have e1 := aep c (show (ns.length : Int) ≠ 0 by omega)
 have e2 := aeg c (show 0 < (ns.length : Int) by omega)
 refine aJ E.g E.kP (cR (aE (aC E.cg) (ah ai) rfl) (ah ai) ⟨by decide, by decide⟩) ?_
 refine aJ E.g E.bW (bq (aK (aC E.bC) (ah (bZ (aE (aC E.cg) (ah ai) rfl) (ah (cI (adM _) E.b5 (aC E.bC) E.b4)) (by omega))) (cW Str.empty e1 e2)) rfl) ?_
 refine aJ E.g E.gC (bH (ay (nQ (ah (bZ (aC E.kP) (ah (jF (aC E.bf) (ah ai))) (by omega))) (ah ai)) (ay (c_ (c / 3) E.gn E.fh (aj (ah (cR (aE (aC E.cg) (ah ai) rfl) (ah ai) ⟨by decide, by decide⟩)) aL) (trivial) rfl) bu)) (az rfl)) ?_
 refine c7 (eu (ah (bZ (ah (cR (aE (aC E.cg) (ah ai) rfl) (ah ai) ⟨by decide, by decide⟩)) (ah ai) (by decide))) (ah ai)).1 (fun hp => ?_) (fun hp => ao ?_)
 . have Sn : a / 8 % 3 = 0 := ad4 hp
   refine bw (bH (ay aB (ay (v_ E.bW.1) bu)) (az rfl)) ?_
   show T.sh _ = T.sh (j5 a c n ns)
   rw [j5, ad0 Sn]
 have Sn : ¬ a / 8 % 3 = 0 := ad6 hp
 refine c7 (Ab (Lv (eu (ah (bZ (ah (cR (aE (aC E.cg) (ah ai) rfl) (ah ai) ⟨by decide, by decide⟩)) (ah ai) (by decide))) (ah ai)).1 (fun _ => Hz (wH (aC E.bf) (ah ai)).1))) (fun hq => ?_) (fun hq => ao ?_)
 . have Ph : a / 8 % 3 = 1 /\ 0 < n := by
     simp at hq
     omega
   refine bw (bH (ay aB (ay (bZ (ah (cR (aC E.kP) (ah ai) ⟨by decide, by decide⟩)) (aC E.bf) (by omega)) (ay (v_ E.gC.1) bu))) (az rfl)) ?_
   show T.sh _ = T.sh (j5 a c n ns)
   rw [j5, adT Sn, ad0 Ph]
   rfl
 . have Ph : ¬ (a / 8 % 3 = 1 /\ 0 < n) := by
     simp at hq
     omega
   refine bw (bH (ay aB (ay (v_ E.bW.1) (ay (v_ E.gC.1) bu))) (az rfl)) ?_
   show T.sh _ = T.sh (j5 a c n ns)
   rw [j5, adT Sn, adT Ph]
   rfl
theorem eV : nq (aq p8) ([("item", au), ("boxes", au), ("names", au), ("pick", au), ("name", au), ("term", au), ("len", aF), ("_law_number_by", aF)]) = true := by decide +kernel
theorem xx : aT ["item", "boxes", "names", "pick", "name", "term"] ["item", "boxes", "names"] (aq p8) := aZ
noncomputable abbrev sJ : Stmt := top 29
noncomputable abbrev xA : Type := Int × Int × Int × Nat × List Str
noncomputable def mK : xA -> List L3.D := fun (a, c, src, n, ns) => [.tup [.int a, .int c], .int src, .int n, .lst (ns.map .str)]
noncomputable def jL : xA -> Prop := fun (a, c, src, n, ns) => n <= 1000 /\ 0 < ns.length /\ ns.length <= 1000
noncomputable def mL : xA -> T := fun (a, c, src, n, ns) => (.sh (MG a c src n ns) : T)
structure M8 (X : Cx) (CL : Str -> Addr) : Prop extends cE X where
 cg : Ln X 0 "item"
 CP : Ln X 1 "source"
 n5 : Ln X 2 "many"
 bC : Ln X 3 "names"
 sL : Ln X 4 "target"
 AW : Ln X 5 "mode"
 b4 : Gl X "len"
 b5 : X.mg "len" = none
theorem M9 {X : Cx} {CL : Str -> Addr} {b : Bx} (E : M8 X CL) (a c src n ns) (h : jL (a, c, src, n, ns)) :
   aD X CL b sJ ["item", "source", "many", "names", "target", "mode"] (mK (a, c, src, n, ns)) (mL (a, c, src, n, ns)) := by
 dsimp only [aD, jL, mK, mL] at h ⊢
 obtain ⟨h1, h2, h3⟩ := h
 have e1 := aep (a / 24) (show (ns.length : Int) ≠ 0 by omega)
 have e2 := aeg (a / 24) (show 0 < (ns.length : Int) by omega)
 refine aJ E.g E.sL (nQ (ah (bZ (aE (aC E.cg) (ah ai) rfl) (ah (jF (aC E.n5) (ah ai))) (by omega))) (ah ai)) ?_
 refine aJ E.g E.AW aB ?_
 refine c7 (nR (aC E.sL) (ah (fC (ah ai)))).1 (fun hp => ?_) (fun hp => ao ?_)
 . refine aJ E.g E.AW (bq (aK (bS (e9 (ay aB (ay aB (ay aB bu))) (az rfl))) (ah (bZ (ah (cR (aE (aC E.cg) (ah ai) rfl) (ah ai) ⟨by decide, by decide⟩)) (ah ai) (by decide))) (cW (f := L3.D.str) (l := ["new", "near", "far"]) Str.empty (aep _ (by decide)) (aeg _ (by decide)))) rfl) (ao ?_)
   have hm : MF a c n = (["new", "near", "far"] : List Str).getD (a / 8 % 3).toNat Str.empty := by
     unfold MF
     rw [if_neg (by simpa [Qs] using hp)]
   refine bw (bH (ay (v_ E.CP.1) (ay (bq (aK (aC E.bC) (ah (bZ (ah (cR (aE (aC E.cg) (ah ai) rfl) (ah ai) ⟨by decide, by decide⟩)) (ah (cI (adM _) E.b5 (aC E.bC) E.b4)) (by omega))) (cW Str.empty e1 e2)) rfl) (ay (bH bu (az rfl)) (ay (bH bu (az rfl)) (ay (v_ E.sL.1) (ay (v_ E.AW.1) bu)))))) (az rfl)) ?_
   show T.sh _ = T.sh (MG a c src n ns)
   rw [MG, hm]
   rfl
 . have hm : MF a c n = "new" := by
     unfold MF
     rw [if_pos (by simpa [Qs] using hp)]
   refine bw (bH (ay (v_ E.CP.1) (ay (bq (aK (aC E.bC) (ah (bZ (ah (cR (aE (aC E.cg) (ah ai) rfl) (ah ai) ⟨by decide, by decide⟩)) (ah (cI (adM _) E.b5 (aC E.bC) E.b4)) (by omega))) (cW Str.empty e1 e2)) rfl) (ay (bH bu (az rfl)) (ay (bH bu (az rfl)) (ay (v_ E.sL.1) (ay (v_ E.AW.1) bu)))))) (az rfl)) ?_
   show T.sh _ = T.sh (MG a c src n ns)
   rw [MG, hm]
   rfl
theorem g7 : nq (aq sJ) ([("item", au), ("source", au), ("many", au), ("names", au), ("target", au), ("mode", au), ("len", aF)]) = true := by decide +kernel
theorem zK : aT ["item", "source", "many", "names", "target", "mode"] ["item", "source", "many", "names"] (aq sJ) := aZ
noncomputable abbrev sM : Stmt := top 30
noncomputable abbrev xB : Type := Int × Int × Nat × Nat
noncomputable def mO : xB -> List L3.D := fun (a, c, n, m) => [.tup [.int a, .int c], .int n, .int m]
noncomputable def jM : xB -> Prop := fun (a, c, n, m) => n <= 1000 /\ 0 < m /\ m <= 1000
noncomputable def mP : xB -> T := fun (a, c, n, m) => (.sh (Aw a c n m) : T)
structure Nb (X : Cx) (CL : Str -> Addr) : Prop extends cE X where
 cg : Ln X 0 "item"
 bf : Ln X 1 "boxes"
 n5 : Ln X 2 "many"
 kP : Ln X 3 "pick"
 Sq : Ln X 4 "one"
 Ij : Ln X 5 "other"
 fh : Gl X "_law_number_by"
 gn : Fc X CL "_law_number_by" 1 1 d8 d9 ef
theorem Nf {X : Cx} {CL : Str -> Addr} {b : Bx} (E : Nb X CL) (a c n m) (h : jM (a, c, n, m)) :
   aD X CL b sM ["item", "boxes", "many", "pick", "one", "other"] (mO (a, c, n, m)) (mP (a, c, n, m)) := by
 dsimp only [aD, jM, mO, mP] at h ⊢
 obtain ⟨h1, h2, h3⟩ := h
 have q1 := aep (a / 8) (show (6 : Int) ≠ 0 by decide)
 have q2 := aeg (a / 8) (show 0 < (6 : Int) by decide)
 refine aJ E.g E.kP (cR (aE (aC E.cg) (ah ai) rfl) (ah ai) ⟨by decide, by decide⟩) ?_
 refine c7 (wH (ah (bZ (aC E.kP) (ah ai) (by decide))) (ah ai)).1 (fun hp => ?_) (fun hp => ao ?_)
 . have Sn : a / 8 % 6 > 3 := ad4 hp
   refine bw (bH (ay (bq (aK (bS (e9 (ay aB (ay aB bu)) (az rfl))) (ah (nQ (ah (bZ (aC E.kP) (ah ai) (by decide))) (ah ai))) (cW (f := L3.D.str) (l := ["open", "shut"]) Str.empty (by omega) (by show a / 8 % 6 - 4 < 2; omega))) rfl) (ay (bZ (aE (aC E.cg) (ah ai) rfl) (aC E.n5) (by omega)) bu)) (az rfl)) ?_
   show T.sh _ = T.sh (Aw a c n m)
   rw [Aw, ad0 Sn]
 . have Sn : ¬ a / 8 % 6 > 3 := ad6 hp
   refine aJ E.g E.Sq (bH (ay (nQ (ah (bZ (ah (cR (aC E.kP) (ah ai) ⟨by decide, by decide⟩)) (ah (jF (aC E.bf) (ah ai))) (by omega))) (ah ai)) (ay (c_ (c) E.gn E.fh (aj (aE (aC E.cg) (ah ai) rfl) aL) (trivial) rfl) bu)) (az rfl)) ?_
   refine aJ E.g E.Ij (bH (ay (nQ (ah (bZ (ah (cR (aC E.kP) (ah ai) ⟨by decide, by decide⟩)) (ah (jF (aC E.bf) (ah ai))) (by omega))) (ah ai)) (ay (c_ (c * 48271 % 2147483647) E.gn E.fh (aj (ah (bZ (ah (Aa (aE (aC E.cg) (ah ai) rfl) (ah ai) (.inr ⟨by decide, by decide⟩))) (ah ai) (by decide))) aL) (trivial) rfl) bu)) (az rfl)) ?_
   refine bw (bH (ay (bq (aK (bS (e9 (ay aB (ay aB (ay aB (ay aB bu)))) (az rfl))) (ah (bZ (aC E.kP) (ah ai) (by decide))) (cW (f := L3.D.str) (l := ["<", "<=", "=", "!="]) Str.empty q1 (by show a / 8 % 6 < 4; omega))) rfl) (ay (v_ E.Sq.1) (ay (v_ E.Ij.1) bu))) (az rfl)) ?_
   show T.sh _ = T.sh (Aw a c n m)
   rw [Aw, adT Sn]
   rfl
theorem g8 : nq (aq sM) ([("item", au), ("boxes", au), ("many", au), ("pick", au), ("one", au), ("other", au), ("_law_number_by", aF)]) = true := by decide +kernel
theorem zL : aT ["item", "boxes", "many", "pick", "one", "other"] ["item", "boxes", "many"] (aq sM) := aZ
noncomputable abbrev p9 : Stmt := top 31
noncomputable abbrev uo : Type := (List (Int × Int)) × Nat × Nat × List Str
noncomputable def ko : uo -> List L3.D := fun (l, nb, nm, ns) => [.lst (l.map Mv), .int nb, .int nm, .lst (ns.map .str)]
noncomputable def iU : uo -> Prop := fun (l, nb, nm, ns) => l.length <= 100 /\ nb <= 1000 /\ (0 < nm /\ nm <= 1000) /\ (0 < ns.length /\ ns.length <= 1000) /\ JC ns
noncomputable def kr : uo -> T := fun (l, nb, nm, ns) => (.lst [zH (Qv nb nm ns l).is, zH (Qv nb nm ns l).os, KQ (Qv nb nm ns l).ws] : T)
structure JQ (X : Cx) (CL : Str -> Addr) : Prop extends cE X where
 j7 : Ln X 0 "items"
 bf : Ln X 1 "boxes"
 n5 : Ln X 2 "many"
 bC : Ln X 3 "names"
 n9 : Ln X 4 "ins"
 kQ : Ln X 5 "outs"
 jN : Ln X 6 "ways"
 cg : Ln X 7 "item"
 kR : Ln X 8 "kind"
 bE : Ln X 9 "mood"
 cQ : Ln X 10 "way"
 b4 : Gl X "len"
 jO : Gl X "_law_deed_by"
 yI : Gl X "_law_way_by"
 yJ : Gl X "_law_ask_by"
 b5 : X.mg "len" = none
 uq : Fc X CL "_law_deed_by" 2 3 kh eU ki
 Ng : Fc X CL "_law_way_by" 1 4 mK jL mL
 Nh : Fc X CL "_law_ask_by" 2 3 mO jM mP
theorem JR {X : Cx} {CL : Str -> Addr} {b : Bx} (E : JQ X CL) (l nb nm ns) (h : iU (l, nb, nm, ns)) :
   aD X CL b p9 ["items", "boxes", "many", "names", "ins", "outs", "ways", "item", "kind", "mood", "way"] (ko (l, nb, nm, ns)) (kr (l, nb, nm, ns)) := by
 dsimp only [aD, iU, ko, kr] at h ⊢
 obtain ⟨hl, hb, ⟨hm0, hm⟩, ⟨YR, hs⟩, hn⟩ := h
 refine aJ E.g E.n9 (dM (e7 (bH bu (az rfl)) dh) (az rfl)) ?_
 refine aJ E.g E.kQ (dM (e7 (bH bu (az rfl)) dh) (az rfl)) ?_
 refine aJ E.g E.jN (dM dh (ael _)) ?_
 refine jG E.g E.cg (fun j δ => ∃ o8 o9 Vb Vc, δ = [some (.sh (.lst (l.map Mv))), some (.sh (.int nb)), some (.sh (.int nm)), some (.sh (.lst (ns.map .str))), some (zH ((l.take j).foldl (jJ nb nm ns) KP).is), some (zH ((l.take j).foldl (jJ nb nm ns) KP).os), some (KQ ((l.take j).foldl (jJ nb nm ns) KP).ws), o8, o9, Vb, Vc])
   (kM (v_ E.j7.1)) ⟨_, _, _, _, rfl⟩ (fun j δ ⟨_, _, _, _, e⟩ => by subst e; exact adQ rfl) ?turn ?fin
 case turn =>
   rintro j d δ hj ⟨o8, o9, Vb, Vc, rfl⟩
   obtain ⟨p, hp, rfl⟩ := HR hj
   have ok := E6 (nb := nb) (nm := nm) hn hm0 (l.take j) 0 KP (ML _ _)
   rw [Nat.zero_add] at ok
   have Fd : (l.take j).length <= 100 := by rw [aeH]; omega
   generalize (l.take j).length = k at ok Fd
   show fD X CL b _ _ { nx := fun δ => ∃ o8 o9 Vb Vc, δ = [_, _, _, _, some (zH ((l.take (j + 1)).foldl (jJ nb nm ns) KP).is), some (zH ((l.take (j + 1)).foldl (jJ nb nm ns) KP).os), some (KQ ((l.take (j + 1)).foldl (jJ nb nm ns) KP).ws), o8, o9, Vb, Vc], rt := _, bk := _, ct := _ }
   rw [fc hp, List.foldl_append]
   generalize (l.take j).foldl (jJ nb nm ns) KP = o at ok ⊢
   show fD X CL b _ _ { nx := fun δ => ∃ o8 o9 Vb Vc, δ = [_, _, _, _, some (zH (jJ nb nm ns o p).is), some (zH (jJ nb nm ns o p).os), some (KQ (jJ nb nm ns o p).ws), o8, o9, Vb, Vc], rt := _, bk := _, ct := _ }
   obtain ⟨is, os, ws⟩ := o
   obtain ⟨n0, n1, n2, ii, oo, wl, ww⟩ := ok
   dsimp only at n0 n1 n2 ii oo wl ww
   refine aJ E.g E.kR (bZ (aE (aC E.cg) (ah ai) rfl) (ah ai) (by decide)) ?_
   refine aJ E.g E.bE (nQ (ah (cI (adM ..) E.b5 (vL E.n9.1) E.b4)) (ah ai)) ?_
   have hli : ((is.map L3.D.tup).map T.sh).length = is.length := by rw [adM, adM]
   have ZF : ((os.map L3.D.tup).map T.sh).length = os.length := by rw [adM, adM]
   have hlw : ((ws.map WY.d).map T.sh).length = ws.length := by rw [adM, adM]
   refine c7 (Hy (aC E.kR) (ah ai)).1 (fun h3 => ?_) (fun h3 => ?_)
   . have h3 : p.1 % 8 < 3 := ad4 h3
     refine fE E.n9.1 rfl (bH bu (az rfl)) rfl (by rw [hli]; omega) ?_
     refine fE E.kQ.1 rfl (bH bu (az rfl)) rfl (by rw [ZF]; omega) (ao (ao ?_))
     rw [jJ, ad0 h3, ← Cy, ← Cy]
     exact ⟨_, _, _, _, rfl⟩
   have h3 : ¬ p.1 % 8 < 3 := ad6 h3
   refine c7 (eu (aC E.kR) (ah ai)).1 (fun h4 => ?_) (fun h4 => ?_)
   . have h4 : p.1 % 8 = 3 := ad4 h4
     have hg := (ii _ (sA [] n0))
     have hgl := hg.l1
     refine HC E.n9.1 (iN (bq (aK (vL E.n9.1) (aC E.bE) (MP [] n0)) (w4 hg)) (bH (ay (c_ ((p.1, p.2, nb, ns)) E.uq E.jO (aj (aC E.cg) (aj (aC E.bf) (aj (aC E.bC) aL))) (by dsimp only [eU]; exact (⟨hb, YR, hs⟩)) (by exact (jB p.1 p.2 nb hn).im)) bu) (az rfl)) (by intro z; cases z) (Nat.le_of_lt (bz (by rw [List.length_singleton]; omega)))) (aC E.bE) rfl (by rw [hli]; exact MQ n0) (ao (ao (ao ?_)))
     rw [jJ, adT h3, ad0 h4, ← HZ]
     exact ⟨_, _, _, _, rfl⟩
   have h4 : ¬ p.1 % 8 = 3 := ad6 h4
   refine c7 (eu (aC E.kR) (ah ai)).1 (fun h5 => ?_) (fun h5 => ?_)
   . have h5 : p.1 % 8 = 4 := ad4 h5
     have m0 : 0 < os.length := by omega
     have hg := (oo _ (sA [] m0))
     have hgl := hg.l1
     rw [← n2]
     refine HC E.kQ.1 (iN (bq (aK (vL E.kQ.1) (aC E.bE) (MP [] m0)) (w4 hg)) (bH (ay (c_ ((p.1, p.2, nb, ns)) E.uq E.jO (aj (aC E.cg) (aj (aC E.bf) (aj (aC E.bC) aL))) (by dsimp only [eU]; exact (⟨hb, YR, hs⟩)) (by exact (jB p.1 p.2 nb hn).im)) bu) (az rfl)) (by intro z; cases z) (Nat.le_of_lt (bz (by rw [List.length_singleton]; omega)))) (aC E.bE) rfl (by rw [ZF]; exact MQ m0) (ao (ao (ao (ao ?_))))
     rw [jJ, adT h3, adT h4, ad0 h5, ← HZ]
     exact ⟨_, _, _, _, rfl⟩
   have h5 : ¬ p.1 % 8 = 4 := ad6 h5
   have Va : ∀ {z : Bool}, KJ (.lst (ws.map WY.d)) (.lst []) = z -> z = false -> 0 < ws.length := fun e z => by
     subst z
     rw [Az] at e
     have := ad6 e
     exact ae5.mpr fun w => this (by rw [w]; rfl)
   refine c7 (p := decide (p.1 % 8 = 5) || (KJ (.lst (ws.map WY.d)) (.lst []) || !decide ((iP ws).src = (is.length : Int) - 1))) (Ab (uP (eu (aC E.kR) (ah ai)).1 (fun _ => uP (LR E.u (vL E.jN.1) (bS (dM dh (ael _))) (U6 ww) (wX [])).1 (fun hz => qE (nR (aE (aK (vL E.jN.1) (ah (fC (ah ai))) (w6 V8 (Va rfl hz))) (ah ai) rfl) (aC E.bE)).1)))) (fun h6 => ?_) (fun h6 => ?_)
   . have h6 : p.1 % 8 = 5 \/ ws = [] \/ (iP ws).src ≠ (is.length : Int) - 1 := by
       rw [Az, Bool.or_eq_true, Bool.or_eq_true, aeN] at h6
       rcases h6 with h | h | h
       . exact .inl (ad4 h)
       . exact .inr (.inl (List.map_eq_nil_iff.mp (ad4 h)))
       . exact .inr (.inr (ad6 h))
     refine fE E.jN.1 rfl (cA (c_ ((p.1, p.2, (is.length : Int) - 1, nm, ns)) E.Ng E.yI (aj (aC E.cg) (aj (aC E.bE) (aj (aC E.n5) (aj (aC E.bC) aL)))) (by dsimp only [jL]; exact (⟨hm, YR, hs⟩)) rfl) (t2 := .sh (wyB p.1 p.2 ((is.length : Int) - 1) nm ns).d) rfl) rfl (by rw [hlw]; omega) (ao (ao (ao (ao (ao ?_)))))
     rw [jJ, adT h3, adT h4, adT h5, ad0 h6, ← MR]
     exact ⟨_, _, _, _, rfl⟩
   have h6 : ¬ (p.1 % 8 = 5 \/ ws = [] \/ (iP ws).src ≠ (is.length : Int) - 1) := by
     rw [Az, Bool.or_eq_false_iff, Bool.or_eq_false_iff, afa] at h6
     obtain ⟨a1, a2, a3⟩ := h6
     rintro (h | h | h)
     . exact ad6 a1 h
     . exact ad6 a2 (by rw [h]; rfl)
     . exact h (ad4 a3)
   have OJ : 0 < ws.length := ae5.mpr fun z => h6 (.inr (.inl z))
   have hg := ww _ (sA V8 OJ)
   have e1 := hg.l1
   have e2 := hg.l2
   refine c7 (eu (aC E.kR) (ah ai)).1 (fun h7 => ?_) (fun h7 => ?_)
   . have h7 : p.1 % 8 = 6 := ad4 h7
     refine aJ E.g E.cQ (bq (aK (vL E.jN.1) (ah (fC (ah ai))) (w6 V8 OJ)) (E7 hg)) ?_
     refine HC E.jN.1 (cA (iN (iN (mj (v_ E.cQ.1) (by exact aat) pO (pP (ah ai))) (bH (ay (iN (tW (v_ E.cQ.1) (ah ai) rfl) (bH (ay (c_ ((p.1, p.2, nb, nm)) E.Nh E.yJ (aj (aC E.cg) (aj (aC E.bf) (aj (aC E.n5) aL))) (by dsimp only [jM]; exact (⟨hb, hm0, hm⟩)) (by exact (Cw p.1 p.2 nb hm0).im)) bu) (az rfl)) (by intro z; cases z) (Nat.le_of_lt (bz (by rw [List.length_singleton]; omega)))) bu) (az rfl)) (by intro z; cases z) (az rfl)) (mj (v_ E.cQ.1) (by exact aau) (pP (ah ai)) pO) (by intro z; cases z) (az rfl)) (t2 := .sh (WY.d { iP ws with qs := (iP ws).qs ++ [Aw p.1 p.2 nb nm] })) rfl) (ah (fC (ah ai))) rfl (by rw [hlw]; exact AA OJ) (ao (ao (ao (ao (ao (ao ?_))))))
     rw [jJ, adT h3, adT h4, adT h5, adT h6, ad0 h7, ← Ic]
     exact ⟨_, _, _, _, rfl⟩
   . have h7 : ¬ p.1 % 8 = 6 := ad6 h7
     refine aJ E.g E.cQ (bq (aK (vL E.jN.1) (ah (fC (ah ai))) (w6 V8 OJ)) (E7 hg)) ?_
     refine HC E.jN.1 (cA (iN (iN (mj (v_ E.cQ.1) (by exact aav) pO (pP (ah ai))) (bH (ay (iN (tW (v_ E.cQ.1) (ah ai) rfl) (bH (ay (c_ ((p.1, p.2, nb, ns)) E.uq E.jO (aj (aC E.cg) (aj (aC E.bf) (aj (aC E.bC) aL))) (by dsimp only [eU]; exact (⟨hb, YR, hs⟩)) (by exact (jB p.1 p.2 nb hn).im)) bu) (az rfl)) (by intro z; cases z) (Nat.le_of_lt (bz (by rw [List.length_singleton]; omega)))) bu) (az rfl)) (by intro z; cases z) (az rfl)) (mj (v_ E.cQ.1) (by exact aaw) (pP (ah ai)) pO) (by intro z; cases z) (az rfl)) (t2 := .sh (WY.d { iP ws with ds := (iP ws).ds ++ [j5 p.1 p.2 nb ns] })) rfl) (ah (fC (ah ai))) rfl (by rw [hlw]; exact AA OJ) (ao (ao (ao (ao (ao (ao ?_))))))
     rw [jJ, adT h3, adT h4, adT h5, adT h6, adT h7, ← Ic]
     exact ⟨_, _, _, _, rfl⟩
 case fin =>
   rintro δ ⟨o8, o9, Vb, Vc, rfl⟩
   rw [adM, aeM]
   exact bw (dM (e7 (vM E.n9.1) (e7 (vM E.kQ.1) (e7 (vM E.jN.1) dh))) (az rfl)) rfl
theorem bT : nq (aq p9) ([("items", au), ("boxes", au), ("many", au), ("names", au), ("ins", au), ("outs", au), ("ways", au), ("item", au), ("kind", au), ("mood", au), ("way", au), ("len", aF), ("_law_deed_by", aF), ("_law_way_by", aF), ("_law_ask_by", aF)]) = true := by decide +kernel
theorem xC : aT ["items", "boxes", "many", "names", "ins", "outs", "ways", "item", "kind", "mood", "way"] ["items", "boxes", "many", "names"] (aq p9) := aZ
noncomputable def Vd (s : List Int) : Int := if 82 < (s.length : Int) then 82 else s.length
theorem Ni (s : List Int) : 0 <= Vd s /\ Vd s <= 82 /\ Vd s <= s.length := by
 unfold Vd
 split <;> omega
noncomputable def Ve (s : List Int) (k : Int) : Int × Int := (s.getD k.toNat 0, eO s (k + 1))
noncomputable def ji (s : List Int) : List (Int × Int) := (List.range (nG 2 (Vd s))).map fun (i : Nat) => Ve s (2 + (i : Int) * 2)
theorem xD (s : List Int) : (ji s).length <= 40 := by
 have := Ni s
 unfold ji nG
 rw [adM, aem]
 omega
noncomputable def OQ (s : List Int) : Int := eO s 1 / 5
noncomputable def cT (s : List Int) : List Int := MC (ji s)
noncomputable def ur (s : List Int) : List Str := U1 s ((cT s).length + 4)
noncomputable def bxF (s : List Int) (ns : List Str) (k : Int) : Str × Int := (ns.getD k.toNat Str.empty, Av (eO s (3 + 2 * k)))
noncomputable def uv (s : List Int) : List (Str × Int) := (List.range (OQ s % 4).toNat).map fun (k : Nat) => bxF s (ur s) (0 + (k : Int))
noncomputable def Em (s : List Int) : List Int := [OQ s / 4] ++ uc (ji s)
noncomputable def CQ (s : List Int) : OW := Qv (uv s).length (cT s).length (ur s) (ji s)
noncomputable def Wa (s : List Int) : List Str := (ur s).take (cT s).length
noncomputable def Nj (s : List Int) : L3.D := qK ((uv s).map ua) (Wa s) (eS (cT s) (Em s) (cT s).length) (cT s) (ez (cT s) (Em s) (cT s).length) ((CQ s).is.map .tup) ((CQ s).os.map .tup) ((CQ s).ws.map WY.d)
theorem sN (s : List Int) : 0 < (cT s).length /\ (cT s).length <= 41 /\ (Em s).length = (cT s).length := by
 have a := (As (ji s)).2
 have c := pT (ji s)
 have d := xD s
 have e := qH (ji s)
 unfold cT Em
 rw [adR, ad9]
 omega
theorem CT (s : List Int) : (ur s).length = (cT s).length + 4 := wY _ _ _
theorem v9 (s : List Int) : ∀ x ∈ ur s, x.length <= 21 /\ PyData.strOk x = true := HV _ _ _
theorem Ik (s : List Int) : (Wa s).length = (cT s).length := by
 have := CT s
 unfold Wa
 rw [aeH]
 omega
theorem Vf (s : List Int) : ∀ x ∈ Wa s, x.length <= 21 := fun x hx => (v9 s x (afi hx)).1
theorem xE (s : List Int) : (uv s).length <= 3 := by
 have a := aep (OQ s) (show (4 : Int) ≠ 0 by decide)
 have c := aeg (OQ s) (show (0 : Int) < 4 by decide)
 unfold uv
 rw [adM, aem]
 omega
theorem QC (s : List Int) : ∀ p ∈ uv s, p.1.length <= 21 := fun p hp => by
 obtain ⟨k, _, rfl⟩ := aed.mp hp
 show ((ur s).getD _ Str.empty).length <= 21
 rw [adS]
 cases e : (ur s)[(0 + (k : Int)).toNat]? with
 | none => exact ael _
 | some x => exact (v9 s x (ad7 e)).1
theorem Nk (s : List Int) : JC (ur s) := ⟨fun x hx => (v9 s x hx).1, fun x hx => (v9 s x hx).2⟩
theorem Fl (s : List Int) : Ax (uv s).length (cT s).length 40 (CQ s) := by
 have a := E6 (nb := (uv s).length) (nm := (cT s).length) (Nk s) (sN s).1 (ji s) 0 KP (ML _ _)
 have c := xD s
 rw [Nat.zero_add] at a
 have up : ∀ (n k : Nat) (o : OW), Ax (uv s).length (cT s).length k o -> Ax (uv s).length (cT s).length (k + n) o := by
   intro n
   induction n with
   | zero =>
     intro k o h
     exact h
   | succ n ih =>
     intro k o h
     obtain ⟨n0, n1, n2, ii, oo, wl, ww⟩ := ih k o h
     exact ⟨n0, aeK n1, n2, fun l hl => (ii l hl).up, fun l hl => (oo l hl).up, aeK wl, fun w hw => (ww w hw).up (adV _)⟩
 have := up (40 - (ji s).length) _ _ a
 rwa [show (ji s).length + (40 - (ji s).length) = 40 by omega] at this
theorem Nm (l : List (Str × Int)) : D.bK (l.map ua) = true := sd (fun _ => rfl) _
theorem Nn (s : List Int) : Sm 8 (Nj s) := by
 have o := Fl s
 have e := sN s
 have b := xE s
 have n := Ik s
 have o0 := o.n1
 have o1 := o.n2
 have o2 := o.wl
 refine ⟨by show (8 : Nat) <= 1000; decide, fun d hd => ?_⟩
 rcases adN.mp hd with rfl | hd
 . refine ⟨by rw [adM]; omega, fun d hd => ?_⟩
   obtain ⟨p, _, rfl⟩ := aed.mp hd
   refine ⟨by show (2 : Nat) <= 1000; decide, fun d hd => ?_⟩
   rcases adN.mp hd with rfl | hd
   . trivial
   . cases adY.mp hd
     trivial
 rcases adN.mp hd with rfl | hd
 . exact HW 6 _ (by omega)
 rcases adN.mp hd with rfl | hd
 . exact HW 6 _ (by rw [qI]; omega)
 rcases adN.mp hd with rfl | hd
 . exact HX 6 _ (by omega)
 rcases adN.mp hd with rfl | hd
 . exact HX 6 _ (by rw [qJ]; omega)
 rcases adN.mp hd with rfl | hd
 . exact MN (n := 3) o.ii (by decide) (by omega)
 rcases adN.mp hd with rfl | hd
 . exact MN (n := 3) o.oo (by decide) (by omega)
 . cases adY.mp hd
   exact U5 (n := 2) o.ww (by decide) (by omega)
theorem Np {α : Type} (l : List α) (n : Nat) : cutD l none (some (n : Int)) = l.take n := by
 unfold cutD
 rw [HT.Pn]
 show (l.drop 0).take (min n l.length - 0) = _
 rw [List.drop_zero, Nat.sub_zero, ← List.take_eq_take_min]
noncomputable abbrev mQ : Stmt := top 33
noncomputable abbrev qR : Type := List Int
noncomputable def jj : qR -> List L3.D := fun s => [.lst (s.map .int)]
noncomputable def jk : qR -> Prop := fun s => s.length <= 1000
noncomputable def jl : qR -> T := fun s => (.sh (Nj s) : T)
structure Fo (X : Cx) (CL : Str -> Addr) : Prop extends cE X where
 dm : Ln X 0 "script"
 CV : X.env.kindOf "script" = some .cell
 Fp : Ln X 1 "head"
 j7 : Ln X 2 "items"
 bP : Ln X 3 "elders"
 bC : Ln X 4 "names"
 QD : X.env.kindOf "names" = some .cell
 bf : Ln X 5 "boxes"
 xF : Ln X 6 "shapes"
 Nq : Ln X 7 "owns"
 gA : Gl X "_law_cell_at"
 eF : Gl X "range"
 XF : Gl X "min"
 b4 : Gl X "len"
 uw : Gl X "_law_elders_by"
 vA : Gl X "_law_names_by"
 vC : Gl X "_law_kinds_by"
 xG : Gl X "_law_owns_by"
 jC : Fc X CL "_law_cell_at" 1 2 iQ iR iS
 eG : X.mg "range" = none
 XG : X.mg "min" = none
 b5 : X.mg "len" = none
 CW : Fc X CL "_law_elders_by" 2 1 iA iB iC
 Fq : Fc X CL "_law_names_by" 2 2 jd je jf
 Ft : Fc X CL "_law_kinds_by" 1 2 jg gB jh
 JS : Fc X CL "_law_owns_by" 3 4 ko iU kr
 gn : Fc X CL "_law_number_by" 1 1 d8 d9 ef
theorem Fv {X : Cx} {CL : Str -> Addr} {b : Bx} (E : Fo X CL) (s) (h : jk s) :
   aD X CL b mQ ["script", "head", "items", "elders", "names", "boxes", "shapes", "owns"] (jj s) (jl s) := by
 dsimp only [aD, jk, jj, jl] at h ⊢
 have hm := Ni s
 have hi := xD s
 obtain ⟨e0, e1, e2⟩ := sN s
 have n1 := CT s
 refine aJ E.g E.Fp (cA (cR (ah (c_ ((s, 1)) E.jC E.gA (aj (aC E.dm) (aj (ah ai) aL)) (show (0 : Int) <= 1 by omega) rfl)) (ah ai) ⟨by decide, by decide⟩) (t2 := .sh (.int (OQ s))) rfl) ?_
 refine wR (p := fun _ => true) (gg := fun d => .sh (Mv (Ve s d.yy))) E.g E.j7 (cP (.cons E.dm.1 (.inl E.CV) .nil) (by decide +kernel))
   (Jv E.eG (aj (ah ai) (aj (uT (ah (P6 E.g E.XG E.XF (aj (ah (cI (adM ..) E.b5 (aC E.dm) E.b4)) (aj (ah ai) aL)))) (d2 := .int (Vd s)) rfl) (aj (ah ai) aL))) (by omega) E.eF) (.inr rfl) (fun C s0 H0 f0 b' d hd => ?Nr) (aeB (bz (by rw [qv, adM, aem]; unfold nG; omega))) ?xH (by exact adQ rfl) (lJ ⟨_, rfl⟩)
 case Nr =>
   obtain ⟨i, hi, rfl⟩ := aed.mp hd
   have hi := aeQ.mp hi
   unfold nG at hi
   exact ⟨rfl, fun _ => bH (ay (bq (aK (ah (v_ (jH (i := 1) rfl (by decide +kernel)))) (ah (v_ (dN (i := 0) rfl (by decide +kernel)))) (f9 (show (0 : Int) <= 2 + (i : Int) * 2 by omega) (show 2 + (i : Int) * 2 < s.length by omega))) rfl)
     (ay (c_ (s, 2 + (i : Int) * 2 + 1) (l0 E.jC) (jZ (by decide +kernel)) (aj (ah (v_ (jH (i := 1) rfl (by decide +kernel)))) (aj (ah (jF (ah (v_ (dN (i := 0) rfl (by decide +kernel)))) (ah ai))) aL)) (show (0 : Int) <= 2 + (i : Int) * 2 + 1 by omega) rfl) bu)) (az rfl)⟩
 case xH =>
 have eq1 : ((qv 2 (nG 2 (Vd s))).filter fun _ => true).map (fun d => T.sh (Mv (Ve s d.yy))) = ((ji s).map Mv).map T.sh := by
   rw [dH, qv, aei, ji, aei, aei]
   rfl
 rw [eq1]
 refine aJ E.g E.bP (vR (ds := (cT s).map .int) (c_ (ji s) E.CW E.uw (aj (vL E.j7.1) aL) (show (ji s).length <= 100 by omega) (g5 _))) ?_
 refine aJ E.g E.bC (vR (ds := (ur s).map .str) (c_ (s, (cT s).length + 4) E.Fq E.vA (aj (aC E.dm) (aj (uT (ah (jF (ah (cI (adM ..) E.b5 (aC E.bP) E.b4)) (ah ai))) (d2 := .int (((cT s).length + 4 : Nat) : Int)) rfl) aL)) (show (cT s).length + 4 <= 100 by omega) (gb _))) ?_
 have hb0 := aep (OQ s) (show (4 : Int) ≠ 0 by decide)
 have hb1 := aeg (OQ s) (show (0 : Int) < 4 by decide)
 refine wR (p := fun _ => true) (gg := fun d => .sh (ua (bxF s (ur s) d.yy))) E.g E.bf (cP (.cons E.bC.1 (.inl E.QD) (.cons E.dm.1 (.inl E.CV) .nil)) (by decide +kernel))
   (iK E.eG (ah (bZ (aC E.Fp) (ah ai) (by decide))) (by omega) E.eF) (.inr rfl) (fun C s0 H0 f0 b' d hd => ?Vg) (aeB (bz (by rw [dU, adM, aem]; omega))) ?Nt (by exact adQ rfl) (lJ ⟨_, rfl⟩)
 case Vg =>
   obtain ⟨i, hi, rfl⟩ := aed.mp hd
   have hi := aeQ.mp hi
   exact ⟨rfl, fun _ => bH (ay (bq (aK (ah (v_ (jH (i := 1) rfl (by decide +kernel)))) (ah (v_ (dN (i := 0) rfl (by decide +kernel)))) (cW Str.empty (show (0 : Int) <= 0 + (i : Int) by omega) (show 0 + (i : Int) < (ur s).length by omega))) rfl)
     (ay (c_ (eO s (3 + 2 * (0 + (i : Int)))) (l0 E.gn) (jZ (by decide +kernel)) (aj (ah (c_ (s, 3 + 2 * (0 + (i : Int))) (l0 E.jC) (jZ (by decide +kernel)) (aj (ah (v_ (jH (i := 2) rfl (by decide +kernel)))) (aj (ah (jF (ah ai) (ah (Aa (ah ai) (ah (v_ (dN (i := 0) rfl (by decide +kernel)))) (.inl ⟨by decide, by decide⟩))))) aL)) (show (0 : Int) <= 3 + 2 * (0 + (i : Int)) by omega) rfl)) aL) trivial rfl) bu)) (az rfl)⟩
 case Nt =>
 have eq2 : ((dU 0 (OQ s % 4).toNat).filter fun _ => true).map (fun d => T.sh (ua (bxF s (ur s) d.yy))) = ((uv s).map ua).map T.sh := by
   rw [dH, dU, aei, uv, aei, aei]
   rfl
 rw [eq2]
 refine aJ E.g E.xF (vS (d := .lst [.lst ((eS (cT s) (Em s) (cT s).length).map .str), .lst ((ez (cT s) (Em s) (cT s).length).map .int)]) (c_ (cT s, Em s) E.Ft E.vC (aj (aC E.bP) (aj (uT (bS (HJ (ds := [.int (OQ s / 4)]) (Ah := (uc (ji s)).map .int) (bS (ds := [.int (OQ s / 4)]) (dM (e7 (cR (aC E.Fp) (ah ai) ⟨by decide, by decide⟩) dh) (az rfl)))
     (bS (cA (pR (p := fun d => decide (d.V7.yy % 8 < 3)) (g := fun d => .sh (.int d.at2.yy)) (cP .nil (by decide +kernel)) E.g.calm (kM (vFL E.j7.1 rfl)) (.inr rfl) (fun C s0 H0 f0 b' d hd => ?aaA) (aeB (bz (by rw [adM]; omega)))) (t2 := .lst (((uc (ji s)).map .int).map T.sh)) ?eq3)) rfl (iL _) (aeB (bz (by rw [adM, ad9, qH]; have := pT (ji s); omega))))) (d2 := .lst ((Em s).map .int)) rfl) aL)) ?aaB ?cl3) ?Yp) ?XH
 case aaA =>
   obtain ⟨p, _, rfl⟩ := aed.mp hd
   exact ⟨(Hy (ah (bZ (aE (ah (v_ (dN (i := 0) rfl (by decide +kernel)))) (ah ai) rfl) (ah ai) (by decide))) (ah ai)).1, fun _ => (bq (aE (ah (v_ (dN (i := 0) rfl (by decide +kernel)))) (ah ai) rfl) rfl)⟩
 case eq3 =>
   rw [List.filter_map, aei, uc, aei, aei]
   rfl
 case aaB =>
   dsimp only [gB]
   exact ⟨by omega, e2⟩
 case cl3 =>
   show T.clean (.lst [_, _]) = true
   rw [gk, T.dg, T.dg, T.dg, gb, g5]
   rfl
 case Yp =>
   show T.d7 (.lst [_, _]) = _
   rw [T.d7, T.gW, T.gW, T.gW, eB, eB]
 case XH =>
 have ow := Fl s
 refine aJ E.g E.Nq (vS (d := .lst [.lst ((CQ s).is.map .tup), .lst ((CQ s).os.map .tup), .lst ((CQ s).ws.map WY.d)]) (c_ (ji s, (uv s).length, (cT s).length, ur s) E.JS E.xG (aj (aC E.j7) (aj (ah (cI (adM ..) E.b5 (vL E.bf.1) E.b4)) (aj (ah (cI (adM ..) E.b5 (aC E.bP) E.b4)) (aj (aC E.bC) aL)))) ?aaC ?cl4) ?fr4) ?XI
 case aaC =>
   dsimp only [iU]
   have := xE s
   exact ⟨by omega, by omega, ⟨e0, by omega⟩, ⟨by omega, by omega⟩, Nk s⟩
 case cl4 =>
   show T.clean (.lst [zH (CQ s).is, zH (CQ s).os, KQ (CQ s).ws]) = true
   rw [gk, T.dg, T.dg, T.dg, T.dg, zH, zH, KQ, b9 (vY ow.ii), b9 (vY ow.oo), b9 (HY ow.ww)]
   rfl
 case fr4 =>
   show T.d7 (.lst [zH (CQ s).is, zH (CQ s).os, KQ (CQ s).ws]) = _
   rw [T.d7, T.gW, T.gW, T.gW, T.gW, zH, zH, KQ, eB, eB, eB]
 case XI =>
 refine bw (vR (Ml (HB (ay (vFL E.bf.1 rfl) (ay (vR (cA (Cb (aC E.bC) (lM _) pO (pP (ah (cI (adM ..) E.b5 (aC E.bP) E.b4)))) (t2 := .lst (((Wa s).map .str).map T.sh)) (by rw [Cd, Np]; rfl))) (ay (kL (v_ E.xF.1) (ah ai) rfl) (ay (v_ E.bP.1) (ay (kL (v_ E.xF.1) (ah ai) rfl) bu)))))) (v_ E.Nq.1) (az rfl))) ?_
 rfl
theorem aY : nq (aq mQ) ([("script", .cell), ("head", au), ("items", au), ("elders", au), ("names", .cell), ("boxes", au), ("shapes", au), ("owns", au), ("_law_cell_at", aF), ("range", aF), ("min", aF), ("len", aF), ("_law_elders_by", aF), ("_law_names_by", aF), ("_law_kinds_by", aF), ("_law_owns_by", aF)]) = true := by decide +kernel
theorem u9 : aT ["script", "head", "items", "elders", "names", "boxes", "shapes", "owns"] ["script"] (aq mQ) := aZ
noncomputable abbrev ku : Stmt := inClass (top 9) 0
noncomputable abbrev oh : Type := List Str × List Int × List Int
noncomputable def qw : oh -> List L3.D := fun (ks, es, ss) => [.lst (ks.map .str), .lst (es.map .int), .lst (ss.map .int)]
noncomputable def qx : oh -> Prop := fun (ks, es, ss) => True
noncomputable def qy : oh -> List (Str × T) := fun (ks, es, ss) => (uX ks es ss : List (Str × T))
structure CY (X : Cx) (CL : Str -> Addr) : Prop extends cE X where
 kT : Ln X 0 "self"
 mJ : Ln X 1 "kinds"
 bP : Ln X 2 "elders"
 n6 : Ln X 3 "starts"
 cj : Gl X "list"
 ck : X.mg "list" = none
 gf : uN X.K (CL "Tree")
 gD : aS X.K (CL "Tree") "kinds"
 ek : aS X.K (CL "Tree") "elders"
 fG : aS X.K (CL "Tree") "starts"
theorem CZ {X : Cx} {CL : Str -> Addr} {b : Bx} (E : CY X CL) (ks : List Str) (es ss : List Int) (y : Addr) (h : True) :
   fD X CL b (ig ku) (LX ["self", "kinds", "elders", "starts"] y "Tree" [.lst (ks.map .str), .lst (es.map .int), .lst (ss.map .int)]) { nx := fun δ => δ[0]? = some (some (.pin y (.ins "Tree" (uX ks es ss)))), rt := fun _ _ => False } := by
 have hi : D.bK (ks.map L3.D.str) = true := sd (fun _ => rfl) _
 refine sf E.gf E.gD E.kT.1 (cD E.ck (aC E.mJ) hi E.cj bG) rfl (adQ rfl) ?_
 rw [gy]
 refine sf E.gf E.ek E.kT.1 (cD E.ck (aC E.bP) (iL _) E.cj bG) rfl (adQ rfl) ?_
 rw [bN (by decide +kernel), gy]
 refine sf E.gf E.fG E.kT.1 (cD E.ck (aC E.n6) (iL _) E.cj bG) rfl (adQ rfl) ?_
 rw [bN (by decide +kernel), bN (by decide +kernel), gy]
 exact ao rfl
theorem gE : nq (aq ku) ([("self", au), ("kinds", au), ("elders", au), ("starts", au), ("list", aF)]) = true := by decide +kernel
theorem sO : aT ["self", "kinds", "elders", "starts"] ["self", "kinds", "elders", "starts"] (aq ku) := aZ
noncomputable abbrev jm : Stmt := inClass (top 7) 0
noncomputable abbrev mR : Type := List L3.D × List L3.D × V × List L3.D × List L3.D × List L3.D
noncomputable def oi : mR -> List L3.D := fun (bs, nm, tv, is, os, ws) => [.lst bs, .lst nm, .val tv, .lst is, .lst os, .lst ws]
noncomputable def oj : mR -> Prop := fun (bs, nm, tv, is, os, ws) => D.bK bs = true /\ D.bK nm = true /\ D.bK is = true /\ D.bK os = true /\ D.bK ws = true
noncomputable def om : mR -> List (Str × T) := fun (bs, nm, tv, is, os, ws) => (mz bs nm (.sh (.val tv)) is os ws : List (Str × T))
structure AX (X : Cx) (CL : Str -> Addr) : Prop extends cE X where
 kT : Ln X 0 "self"
 bf : Ln X 1 "boxes"
 bC : Ln X 2 "names"
 gF : Ln X 3 "tree"
 n9 : Ln X 4 "ins"
 kQ : Ln X 5 "outs"
 jN : Ln X 6 "ways"
 cj : Gl X "list"
 ck : X.mg "list" = none
 aW : uN X.K (CL "Chart")
 cu : aS X.K (CL "Chart") "boxes"
 bY : aS X.K (CL "Chart") "names"
 c6 : aS X.K (CL "Chart") "tree"
 iV : aS X.K (CL "Chart") "ins"
 gG : aS X.K (CL "Chart") "outs"
 gH : aS X.K (CL "Chart") "ways"
theorem AY {X : Cx} {CL : Str -> Addr} {b : Bx} (E : AX X CL) (bs nm : List L3.D) (tv : V) (is os ws : List L3.D) (y : Addr) (h : D.bK bs = true /\ D.bK nm = true /\ D.bK is = true /\ D.bK os = true /\ D.bK ws = true) :
   fD X CL b (ig jm) (LX ["self", "boxes", "names", "tree", "ins", "outs", "ways"] y "Chart" [.lst bs, .lst nm, .val tv, .lst is, .lst os, .lst ws]) { nx := fun δ => δ[0]? = some (some (.pin y (.ins "Chart" (mz bs nm (.sh (.val tv)) is os ws)))), rt := fun _ _ => False } := by
 obtain ⟨h1, h2, h3, h4, h5⟩ := h
 refine sf E.aW E.cu E.kT.1 (cD E.ck (aC E.bf) h1 E.cj bG) rfl (adQ rfl) ?_
 rw [gy]
 refine sf E.aW E.bY E.kT.1 (cD E.ck (aC E.bC) h2 E.cj bG) rfl (adQ rfl) ?_
 rw [bN (by decide +kernel), gy]
 refine sf E.aW E.c6 E.kT.1 (v_ E.gF.1) rfl (adQ rfl) ?_
 rw [bN (by decide +kernel), bN (by decide +kernel), gy]
 refine sf E.aW E.iV E.kT.1 (cD E.ck (aC E.n9) h3 E.cj bG) rfl (adQ rfl) ?_
 rw [bN (by decide +kernel), bN (by decide +kernel), bN (by decide +kernel), gy]
 refine sf E.aW E.gG E.kT.1 (cD E.ck (aC E.kQ) h4 E.cj bG) rfl (adQ rfl) ?_
 rw [bN (by decide +kernel), bN (by decide +kernel), bN (by decide +kernel), bN (by decide +kernel), gy]
 refine sf E.aW E.gH E.kT.1 (cD E.ck (aC E.jN) h5 E.cj bG) rfl (adQ rfl) ?_
 rw [bN (by decide +kernel), bN (by decide +kernel), bN (by decide +kernel), bN (by decide +kernel), bN (by decide +kernel), gy]
 exact ao rfl
theorem cJ : nq (aq jm) ([("self", au), ("boxes", au), ("names", au), ("tree", au), ("ins", au), ("outs", au), ("ways", au), ("list", aF)]) = true := by decide +kernel
theorem qz : aT ["self", "boxes", "names", "tree", "ins", "outs", "ways"] ["self", "boxes", "names", "tree", "ins", "outs", "ways"] (aq jm) := aZ
noncomputable abbrev mS : Stmt := top 34
noncomputable abbrev qS : Type := List L3.D × List Str × List Str × List Int × List Int × List L3.D × List L3.D × List L3.D
noncomputable def jo : qS -> List L3.D := fun (bs, ns, ks, es, ss, is, os, ws) => [qK bs ns ks es ss is os ws]
noncomputable def gI : qS -> Prop := fun (bs, ns, ks, es, ss, is, os, ws) => D.bK bs = true /\ D.bK is = true /\ D.bK os = true /\ D.bK ws = true
noncomputable def jq : qS -> T := fun (bs, ns, ks, es, ss, is, os, ws) => (.ins "Chart" (mz bs (ns.map .str) (.ins "Tree" (uX ks es ss)) is os ws) : T)
structure Fw (X : Cx) (CL : Str -> Addr) : Prop extends cE X where
 bI : Ln X 0 "parts"
 gF : Ln X 1 "tree"
 Vh : Gl X "Tree"
 cj : Gl X "list"
 QF : Gl X "Chart"
 Vi : Fm X CL "Tree" 1 4 qw qx qy
 ck : X.mg "list" = none
 QG : Fm X CL "Chart" 1 7 oi oj om
theorem Fx {X : Cx} {CL : Str -> Addr} {b : Bx} (E : Fw X CL) (bs ns ks es ss is os ws) (h : gI (bs, ns, ks, es, ss, is, os, ws)) :
   aD X CL b mS ["parts", "tree"] (jo (bs, ns, ks, es, ss, is, os, ws)) (jq (bs, ns, ks, es, ss, is, os, ws)) := by
 dsimp only [aD, gI, jo, jq] at h ⊢
 obtain ⟨ib, ii, io, iw⟩ := h
 refine aJ E.g E.gF (cA (mk_ (ks, es, ss) E.Vi E.Vh (aj (bS (cD E.ck (aK (aC E.bI) (ah ai) rfl) (lM _) E.cj bG)) (aj (bS (cD E.ck (aK (aC E.bI) (ah ai) rfl) (iL _) E.cj bG)) (aj (bS (cD E.ck (aK (aC E.bI) (ah ai) rfl) (iL _) E.cj bG)) aL))) trivial (uY ks es ss)) (t2 := .ins "Tree" (uX ks es ss)) rfl) ?_
 exact bw (mkP (f := "tree") (Cm := t8 bs (ns.map .str)) (KN := t9 is os ws) (fun v => (bs, ns.map .str, v, is, os, ws)) E.QG E.QF
   (Cp (bS (cD E.ck (aK (aC E.bI) (ah ai) rfl) ib E.cj bG)) (Cp (bS (cD E.ck (aK (aC E.bI) (ah ai) rfl) (lM _) E.cj bG))
     (Mi (vM E.gF.1)
       (aj (bS (cD E.ck (aK (aC E.bI) (ah ai) rfl) ii E.cj bG)) (aj (bS (cD E.ck (aK (aC E.bI) (ah ai) rfl) io E.cj bG)) (aj (bS (cD E.ck (aK (aC E.bI) (ah ai) rfl) iw E.cj bG)) aL))))))
   (fun v => rfl) (fun v => ⟨ib, lM _, ii, io, iw⟩) (fun v => rfl) (An ib (lM _)) (Ao ii io iw)) rfl
theorem iW : nq (aq mS) ([("parts", au), ("tree", au), ("Tree", aF), ("list", aF), ("Chart", aF)]) = true := by decide +kernel
theorem vd : aT ["parts", "tree"] ["parts"] (aq mS) := aZ
noncomputable abbrev sP : Stmt := top 17
noncomputable abbrev xJ : Type := Str × Str × List Str
noncomputable def mU : xJ -> List L3.D := fun (f, g, ts) => [.str f, .str g, .lst (ts.map .str)]
noncomputable def g9 : xJ -> Prop := fun (f, g, ts) => ts.length <= 100
noncomputable def mV : xJ -> T := fun (f, g, ts) => (.lst (((lF f g ts).map .str).map T.sh) : T)
structure Nu (X : Cx) (CL : Str -> Addr) : Prop extends cE X where
 QH : Ln X 0 "first"
 JT : Ln X 1 "further"
 kB : Ln X 2 "texts"
 cC : Ln X 3 "words"
 Nv : Ln X 4 "text"
theorem Nx {X : Cx} {CL : Str -> Addr} {b : Bx} (E : Nu X CL) (f g ts) (h : g9 (f, g, ts)) :
   aD X CL b sP ["first", "further", "texts", "words", "text"] (mU (f, g, ts)) (mV (f, g, ts)) := by
 dsimp only [aD, g9, mU, mV] at h ⊢
 refine aJ E.g E.cC (dM dh (ael _)) ?_
 refine jG E.g E.Nv (fun j δ => ∃ o, δ = [some (.sh (.str f)), some (.sh (.str g)), some (.sh (.lst (ts.map .str))), some (.lst (((lF f g (ts.take j)).map .str).map T.sh)), o])
   (kM (v_ E.kB.1)) ⟨_, rfl⟩ (fun j δ ⟨_, e⟩ => by subst e; exact adQ rfl) ?turn ?fin
 case turn =>
   rintro j d δ hj ⟨o, rfl⟩
   rw [ad8] at hj
   cases e : ts[j]? with
   | none => rw [e] at hj; cases hj
   | some t =>
     rw [e] at hj
     cases (aeb hj)
     have Fd : (ts.take j).length <= 100 := by rw [aeH]; omega
     show fD X CL b _ _ { nx := fun δ => ∃ o, δ = [_, _, _, some (.lst (((lF f g (ts.take (j + 1))).map .str).map T.sh)), o], rt := _, bk := _, ct := _ }
     rw [fc e, CB]
     generalize ts.take j = l at Fd ⊢
     have hll := fW f g l
     have hem : ((lF f g l).map L3.D.str).isEmpty = decide (l = []) := by cases l <;> rfl
     refine fE E.cC.1 rfl (wI (t := .sh (.str (if l = [] then f else g))) (UY (vL E.cC.1)) (fun hp => cA (v_ E.JT.1) (by
       rw [hem, aeN, decide_eq_false_iff_not] at hp
       rw [adT hp])) (fun hp => cA (v_ E.QH.1) (by
       rw [hem, afa, decide_eq_true_iff] at hp
       rw [ad0 hp]))) rfl (by rw [adM, adM]; omega) ?_
     refine fE E.cC.1 rfl (v_ E.Nv.1) rfl (by rw [adR, adM, adM, ad9]; omega) (ao ?_)
     rw [adU, adU, adO]
     exact ⟨_, rfl⟩
 case fin =>
   rintro δ ⟨o, rfl⟩
   refine bw (vM E.cC.1) ?_
   rw [adM, aeM]
theorem lQ : nq (aq sP) ([("first", au), ("further", au), ("texts", au), ("words", au), ("text", au)]) = true := by decide +kernel
theorem zM : aT ["first", "further", "texts", "words", "text"] ["first", "further", "texts"] (aq sP) := aZ
noncomputable abbrev kC : Stmt := top 20
noncomputable abbrev oq : Type := CH × L3.D
noncomputable def fH : oq -> List L3.D := fun (c, d) => [c.d, d]
noncomputable def cy : oq -> Prop := fun (c, d) => g6 c /\ nW c.bs.length d
noncomputable def fJ : oq -> T := fun (c, d) => (.sh (.str (c9 c.bn d)) : T)
structure C1 (X : Cx) (CL : Str -> Addr) : Prop extends cE X where
 aN : Ln X 0 "chart"
 gC : Ln X 1 "term"
 jK : Ln X 2 "more"
 bW : Ln X 3 "name"
 ve : Gl X "str"
 qA : X.mg "str" = none
 aW : uN X.K (CL "Chart")
 cu : aS X.K (CL "Chart") "boxes"
theorem C2 {X : Cx} {CL : Str -> Addr} {b : Bx} (E : C1 X CL) (c d) (h : cy (c, d)) :
   aD X CL b kC ["chart", "term", "more", "name"] (fH (c, d)) (fJ (c, d)) := by
 dsimp only [aD, cy, fH, fJ] at h ⊢
 obtain ⟨hc, a, k, rfl, ha, hk⟩ := h
 have hl := w9 hk
 have hkl := qM hk
 have hn := dO hc.bn a.toNat
 refine aJ E.g E.jK (bq (aE (aC E.gC) (ah ai) rfl) rfl) ?_
 refine c7 (eu (aE (aC E.gC) (ah ai) rfl) (ah (fC (ah ai)))).1 (fun hp => ?_) (fun hp => ao ?_)
 . refine bw (pQ E.qA E.ve (aC E.jK) hl) ?_
   show T.sh _ = T.sh (.str (c9 c.bn (.tup [.int a, .int k])))
   rw [mE, ad0 (ad4 hp)]
   try rfl
 have hp : ¬ a = -1 := ad6 hp
 have ha : 0 <= a /\ a < c.bs.length := by
   rcases ha with e | e
   . exact absurd e hp
   . exact e
 refine aJ E.g E.bW (bq (aE (aK (gY E.aW E.cu (aC E.aN) j3) (aE (aC E.gC) (ah ai) rfl) (Sj ha.1 ha.2)) (ah ai) rfl) rfl) ?_
 refine c7 (eu (aC E.jK) (ah ai)).1 (fun hq => ?_) (fun hq => ao ?_)
 . refine bw (v_ E.bW.1) ?_
   show T.sh _ = T.sh (.str (c9 c.bn (.tup [.int a, .int k])))
   rw [mE, adT (show ¬ a = -1 from hp), ad0 (show k = 0 from ad4 hq)]
   try rfl
 have hq : ¬ k = 0 := ad6 hq
 have e1 : ("+" : Str).length = 1 := rfl
 have e0 : ("" : Str).length = 0 := rfl
 by_cases h0 : 0 < k
 . refine bw (aM (ah (aM (aC E.bW) (ah (wI (t := .sh (.str "+")) (wH (aC E.jK) (ah ai)).1 (fun _ => aB) (fun z => absurd h0 (ad6 z)))) (by rw [aek, e1]; omega))) (ah (pQ E.qA E.ve (aC E.jK) hl)) (by rw [aek, str_len, e1]; show _ + (sI k).length <= _; omega)) ?_
   show T.sh _ = T.sh (.str (c9 c.bn (.tup [.int a, .int k])))
   rw [mE, adT (show ¬ a = -1 from hp), adT (show ¬ k = 0 from hq)]
   have ep : Ie k = "+" := by rw [Ie, ad0 h0]
   have : ((k.natAbs : Nat) : Int) = k := by omega
   show _ = T.sh (.str (_ ++ Ie k ++ sI ((k.natAbs : Nat) : Int)))
   rw [this, ep]
   try rfl
 . refine bw (aM (ah (aM (aC E.bW) (ah (wI (t := .sh (.str "")) (wH (aC E.jK) (ah ai)).1 (fun z => absurd (ad4 z) h0) (fun _ => aB))) (by rw [aek, e0]; omega))) (ah (pQ E.qA E.ve (aC E.jK) hl)) (by rw [aek, str_len, e0]; show _ + (sI k).length <= _; omega)) ?_
   show T.sh (.str (c.bn.getD a.toNat Str.empty ++ Str.empty ++ sI k)) = T.sh (.str (c9 c.bn (.tup [.int a, .int k])))
   rw [mE, adT (show ¬ a = -1 from hp), adT (show ¬ k = 0 from hq), Str.append_empty, U7 (show k < 0 by omega), ← aeI]
   have ep : Ie k = "-" := by rw [Ie, adT h0]
   show _ = T.sh (.str (_ ++ Ie k ++ _))
   rw [ep]
   try rfl
theorem gJ : nq (aq kC) ([("chart", au), ("term", au), ("more", au), ("name", au), ("str", aF)]) = true := by decide +kernel
theorem sQ : aT ["chart", "term", "more", "name"] ["chart", "term"] (aq kC) := aZ
noncomputable abbrev mW : Stmt := top 18
noncomputable abbrev qT : Type := CH × L3.D
noncomputable def jr : qT -> List L3.D := fun (c, d) => [c.d, d]
noncomputable def gK : qT -> Prop := fun (c, d) => g6 c /\ Cu c.bs.length c.es.length d
noncomputable def jt : qT -> T := fun (c, d) => (.sh (.str (eK c.bn c.ns d)) : T)
structure Fy (X : Cx) (CL : Str -> Addr) : Prop extends cE X where
 aN : Ln X 0 "chart"
 jb : Ln X 1 "ask"
 ux : Ln X 2 "mark"
 eW : Gl X "term_text"
 iX : Fc X CL "term_text" 1 2 fH cy fJ
 aW : uN X.K (CL "Chart")
 bY : aS X.K (CL "Chart") "names"
theorem Fz {X : Cx} {CL : Str -> Addr} {b : Bx} (E : Fy X CL) (c d) (h : gK (c, d)) :
   aD X CL b mW ["chart", "ask", "mark"] (jr (c, d)) (jt (c, d)) := by
 dsimp only [aD, gK, jr, jt] at h ⊢
 obtain ⟨hc, hd⟩ := h
 have e1 : (" " : Str).length = 1 := rfl
 rcases hd with ⟨w, k, rfl, hw, k0, k1⟩ | ⟨w, s, t, rfl, hw, hs, ht⟩
 . have OS := dO hc.nk k.toNat
   have KD : w.length <= 4 := by rcases hw with rfl | rfl <;> decide +kernel
   refine aJ E.g E.ux (bq (aE (aC E.jb) (ah ai) rfl) rfl) ?_
   refine c7 (LV (l := ["open", "shut"]) (aC E.ux) (Ag rfl)).1 (fun hp => ?_) (fun hp => absurd hp (by rcases hw with rfl | rfl <;> decide +kernel))
   refine bw (aM (ah (aM (aC E.ux) (ah aB) (by rw [aek, e1]; omega))) (aK (gY E.aW E.bY (aC E.aN) iO) (aE (aC E.jb) (ah ai) rfl) (cW Str.empty k0 (by rw [hc.nl]; exact k1))) (by rw [aek, str_len, e1]; omega)) ?_
   show T.sh _ = T.sh (.str (eK c.bn c.ns _))
   rw [Cz]
 . have h1 := fV hc.bn hs
   have h2 := fV hc.bn ht
   have KD : w.length <= 2 := by
     have : ∀ x ∈ (["<", "<=", "=", "!="] : List Str), x.length <= 2 := by decide +kernel
     exact this w hw
   refine aJ E.g E.ux (bq (aE (aC E.jb) (ah ai) rfl) rfl) ?_
   refine c7 (LV (l := ["open", "shut"]) (aC E.ux) (Ag rfl)).1 (fun hp => absurd hp (by
     have : ∀ x ∈ (["<", "<=", "=", "!="] : List Str), ¬ decide (x ∈ (["open", "shut"] : List Str)) = true := by decide +kernel
     exact this w hw)) (fun hp => ao ?_)
   refine bw (j0 (l := [c9 c.bn s, w, c9 c.bn t]) (ah aB) (bS (ds := ([c9 c.bn s, w, c9 c.bn t] : List Str).map L3.D.str) (e9 (ay (c_ (c, s) E.iX E.eW (aj (aC E.aN) (aj (aE (aC E.jb) (ah ai) rfl) aL)) (by dsimp only [cy]; exact ⟨hc, hs⟩) rfl) (ay (v_ E.ux.1) (ay (c_ (c, t) E.iX E.eW (aj (aC E.aN) (aj (aE (aC E.jb) (ah ai) rfl) aL)) (by dsimp only [cy]; exact ⟨hc, ht⟩) rfl) bu))) (az rfl))) (sy (by
     show (c9 c.bn s).length + (w.length + ((c9 c.bn t).length + 0)) + 3 <= _
     omega))) ?_
   show T.sh _ = T.sh (.str (eK c.bn c.ns _))
   rw [xh, MD]
theorem kD : nq (aq mW) ([("chart", au), ("ask", au), ("mark", au), ("term_text", aF)]) = true := by decide +kernel
theorem vf : aT ["chart", "ask", "mark"] ["chart", "ask"] (aq mW) := aZ
noncomputable abbrev kE : Stmt := top 19
noncomputable abbrev oz : Type := CH × L3.D
noncomputable def fK : oz -> List L3.D := fun (c, d) => [c.d, d]
noncomputable def cK : oz -> Prop := fun (c, d) => g6 c /\ mC c.bs.length d
noncomputable def fL : oz -> T := fun (c, d) => (.sh (.str (aV c.bn d)) : T)
structure C3 (X : Cx) (CL : Str -> Addr) : Prop extends cE X where
 aN : Ln X 0 "chart"
 bX : Ln X 1 "deed"
 kU : Ln X 2 "word"
 bW : Ln X 3 "name"
 eW : Gl X "term_text"
 iX : Fc X CL "term_text" 1 2 fH cy fJ
 aW : uN X.K (CL "Chart")
 cu : aS X.K (CL "Chart") "boxes"
theorem C4 {X : Cx} {CL : Str -> Addr} {b : Bx} (E : C3 X CL) (c d) (h : cK (c, d)) :
   aD X CL b kE ["chart", "deed", "word", "name"] (fK (c, d)) (fL (c, d)) := by
 dsimp only [aD, cK, fK, fL] at h ⊢
 obtain ⟨hc, hd⟩ := h
 have e1 : (" " : Str).length = 1 := rfl
 rcases hd with ⟨n, rfl, hn⟩ | ⟨k, t, rfl, hk, ht⟩ | ⟨n, t, rfl, hn, ht⟩
 . refine aJ E.g E.kU (bq (aE (aC E.bX) (ah ai) rfl) rfl) ?_
   refine c7 (gX (aC E.kU) (ah aB)).1 (fun hp => ?_) (fun hp => absurd hp (by decide +kernel))
   refine bw (aM (ah aB) (aE (aC E.bX) (ah ai) rfl) (by rw [aek]; show 5 + n.length <= _; omega)) ?_
   show T.sh _ = T.sh (.str (aV c.bn _))
   rw [xg]
 . have Fd := fV hc.bn ht
   have OS := dO hc.bn k.toNat
   refine aJ E.g E.kU (bq (aE (aC E.bX) (ah ai) rfl) rfl) ?_
   refine c7 (gX (aC E.kU) (ah aB)).1 (fun hp => absurd hp (by decide +kernel)) (fun hp => ao ?_)
   refine aJ E.g E.bW (wI (gX (aC E.kU) (ah aB)).1 (fun _ => bq (aE (aK (gY E.aW E.cu (aC E.aN) j3) (aE (aC E.bX) (ah ai) rfl) (Sj hk.1 hk.2)) (ah ai) rfl) rfl) (fun z => absurd z (by decide +kernel))) ?_
   refine bw (j0 (l := ["put", c.bn.getD k.toNat Str.empty, c9 c.bn t]) (ah aB) (bS (ds := (["put", c.bn.getD k.toNat Str.empty, c9 c.bn t] : List Str).map L3.D.str) (e9 (ay (v_ E.kU.1) (ay (v_ E.bW.1) (ay (c_ (c, t) E.iX E.eW (aj (aC E.aN) (aj (aE (aC E.bX) (ah ai) rfl) aL)) (by dsimp only [cy]; exact ⟨hc, ht⟩) rfl) bu))) (az rfl))) (sy (by
     show 3 + ((c.bn.getD k.toNat Str.empty).length + ((c9 c.bn t).length + 0)) + 3 <= _
     omega))) ?_
   show T.sh _ = T.sh (.str (aV c.bn _))
   rw [zI, MD]
 . have Fd := fV hc.bn ht
   refine aJ E.g E.kU (bq (aE (aC E.bX) (ah ai) rfl) rfl) ?_
   refine c7 (gX (aC E.kU) (ah aB)).1 (fun hp => absurd hp (by decide +kernel)) (fun hp => ao ?_)
   refine aJ E.g E.bW (wI (t := .sh (.str n)) (gX (aC E.kU) (ah aB)).1 (fun z => absurd z (by decide +kernel)) (fun _ => bq (aE (aC E.bX) (ah ai) rfl) rfl)) ?_
   refine bw (j0 (l := ["say", n, c9 c.bn t]) (ah aB) (bS (ds := (["say", n, c9 c.bn t] : List Str).map L3.D.str) (e9 (ay (v_ E.kU.1) (ay (v_ E.bW.1) (ay (c_ (c, t) E.iX E.eW (aj (aC E.aN) (aj (aE (aC E.bX) (ah ai) rfl) aL)) (by dsimp only [cy]; exact ⟨hc, ht⟩) rfl) bu))) (az rfl))) (sy (by
     show 3 + (n.length + ((c9 c.bn t).length + 0)) + 3 <= _
     omega))) ?_
   show T.sh _ = T.sh (.str (aV c.bn _))
   rw [zJ, MD]
theorem gM : nq (aq kE) ([("chart", au), ("deed", au), ("word", au), ("name", au), ("term_text", aF)]) = true := by decide +kernel
theorem sR : aT ["chart", "deed", "word", "name"] ["chart", "deed"] (aq kE) := aZ
noncomputable abbrev mX : Stmt := top 16
noncomputable abbrev qU : Type := CH × WY
noncomputable def ju : qU -> List L3.D := fun (c, w) => [c.d, w.d]
noncomputable def gO : qU -> Prop := fun (c, w) => g6 c /\ kO c.bs.length c.es.length c.is.length 40 w
noncomputable def jv : qU -> T := fun (c, w) => (.sh (.str (xj c.bn c.ns w)) : T)
structure FD (X : Cx) (CL : Str -> Addr) : Prop extends cE X where
 aN : Ln X 0 "chart"
 sS : X.env.kindOf "chart" = some .cell
 cQ : Ln X 1 "way"
 cC : Ln X 2 "words"
 Vj : Gl X "SIGN"
 sU : Gl X "linked"
 Vk : Gl X "ASKS"
 QI : Gl X "DEEDS"
 C5 : Gl X "TARGET"
 Ny : Gl X "MODE"
 Vl : ∃ u, X.mg "SIGN" = some (.int 1 u)
 C6 : Fc X CL "linked" 1 3 mU g9 mV
 Vm : ∃ u, X.mg "ASKS" = some (.int 2 u)
 QJ : ∃ u, X.mg "DEEDS" = some (.int 3 u)
 C7 : ∃ u, X.mg "TARGET" = some (.int 4 u)
 Nz : ∃ u, X.mg "MODE" = some (.int 5 u)
 FE : Fc X CL "ask_text" 2 2 jr gK jt
 kF : Fc X CL "deed_text" 2 2 fK cK fL
 aW : uN X.K (CL "Chart")
 bY : aS X.K (CL "Chart") "names"
theorem FG {X : Cx} {CL : Str -> Addr} {b : Bx} (E : FD X CL) (c w) (h : gO (c, w)) :
   aD X CL b mX ["chart", "way", "words"] (ju (c, w)) (jv (c, w)) := by
 dsimp only [aD, gO, ju, jv] at h ⊢
 obtain ⟨hc, hw⟩ := h
 obtain ⟨wl1, wl2⟩ := MV hc hw
 have q1 := hw.l1
 have q2 := hw.l2
 have hle : ∀ l : List Str, ((l.map L3.D.str).map T.sh).length = l.length := fun l => by rw [adM, adM]
 refine aJ E.g E.cC (cA (e9 (ay aB (ay (bq (aE (aC E.cQ) (ah (iM E.Vl E.Vj)) rfl) rfl) bu)) (az rfl)) (t2 := .lst ((([("on" : Str), w.sg] : List Str).map .str).map T.sh)) rfl) ?_
 have hA : ∀ {l : List L3.D} {f : L3.D -> Str}, T.lst ((l.filter fun _ => true).map fun d => T.sh (.str (f d))) = T.lst (((l.map f).map .str).map T.sh) := fun {l f} => by
   rw [dH, aei, aei]
   rfl
 refine Ck (δ1 := [some (.sh c.d), some (.sh w.d), some (.lst (((([("on" : Str), w.sg] : List Str)).map L3.D.str).map T.sh))]) (Mf := ((lF "if" "and" (w.qs.map (eK c.bn c.ns))).map L3.D.str).map T.sh) (tl := ((([("on" : Str), w.sg] : List Str)).map L3.D.str).map T.sh) E.cC.1 rfl ?XJ rfl (by rw [hle, hle, fW, adM]; show 2 + _ <= _; omega) ?XM
 case XJ =>
   refine c_ (("if" : Str), ("and" : Str), w.qs.map (eK c.bn c.ns)) E.C6 E.sU (aj (ah aB) (aj (ah aB) (aj ?ac6 aL))) (by dsimp only [g9]; rw [List.length_map]; omega) (gb _)
   refine bS (cA (pR (p := fun _ => true) (g := fun d => .sh (.str (eK c.bn c.ns d))) (cP (.cons E.aN.1 (.inl E.sS) .nil) (by decide +kernel)) E.g.calm (nS (tW (v_ E.cQ.1) (ah (iM E.Vm E.Vk)) rfl)) (.inr rfl) (fun C s0 H0 f0 b' d hd => ?_) (aeB (bz (by omega)))) (t2 := .lst (((w.qs.map (eK c.bn c.ns)).map .str).map T.sh)) hA)
   exact ⟨rfl, fun _ => c_ (c, d) (l0 E.FE) (jZ (by decide +kernel)) (aj (ah (v_ (jH (i := 1) rfl (by decide +kernel)))) (aj (ah (v_ (dN (i := 0) rfl (by decide +kernel)))) aL)) (by dsimp only [gK]; exact ⟨hc, (hw.g1 d hd).pr⟩) rfl⟩
 case XM =>
 rw [← adU, ← adU]
 refine Ck (δ1 := [some (.sh c.d), some (.sh w.d), some (.lst (((([("on" : Str), w.sg] ++ lF "if" "and" (w.qs.map (eK c.bn c.ns)) : List Str)).map L3.D.str).map T.sh))]) (Mf := ((lF "do" "then" (w.ds.map (aV c.bn))).map L3.D.str).map T.sh) (tl := ((([("on" : Str), w.sg] ++ lF "if" "and" (w.qs.map (eK c.bn c.ns)) : List Str)).map L3.D.str).map T.sh) E.cC.1 rfl ?XO rfl (by rw [hle, hle, adR, fW, fW, adM, adM]; show 2 + _ + _ <= _; omega) ?xH
 case XO =>
   refine c_ (("do" : Str), ("then" : Str), w.ds.map (aV c.bn)) E.C6 E.sU (aj (ah aB) (aj (ah aB) (aj ?ac7 aL))) (by dsimp only [g9]; rw [List.length_map]; omega) (gb _)
   refine bS (cA (pR (p := fun _ => true) (g := fun d => .sh (.str (aV c.bn d))) (cP (.cons E.aN.1 (.inl E.sS) .nil) (by decide +kernel)) E.g.calm (nS (tW (v_ E.cQ.1) (ah (iM E.QJ E.QI)) rfl)) (.inr rfl) (fun C s0 H0 f0 b' d hd => ?_) (aeB (bz (by omega)))) (t2 := .lst (((w.ds.map (aV c.bn)).map .str).map T.sh)) hA)
   exact ⟨rfl, fun _ => c_ (c, d) (l0 E.kF) (jZ (by decide +kernel)) (aj (ah (v_ (jH (i := 1) rfl (by decide +kernel)))) (aj (ah (v_ (dN (i := 0) rfl (by decide +kernel)))) aL)) (by dsimp only [cK]; exact ⟨hc, (hw.g2 d hd).pr⟩) rfl⟩
 case xH =>
 rw [← adU, ← adU]
 have hj : JoinOk " " ([("on" : Str), w.sg] ++ lF "if" "and" (w.qs.map (eK c.bn c.ns)) ++ lF "do" "then" (w.ds.map (aV c.bn)) ++ CD c.ns w ++ JD w) = true /\ Txt.join " " ([("on" : Str), w.sg] ++ lF "if" "and" (w.qs.map (eK c.bn c.ns)) ++ lF "do" "then" (w.ds.map (aV c.bn)) ++ CD c.ns w ++ JD w) = xj c.bn c.ns w := by
   have e : [("on" : Str), w.sg] ++ lF "if" "and" (w.qs.map (eK c.bn c.ns)) ++ lF "do" "then" (w.ds.map (aV c.bn)) ++ CD c.ns w ++ JD w = ("on" : Str) :: Sl c.bn c.ns w := by
     unfold Sl
     rw [adO, adO [("on" : Str), w.sg]]
     rfl
   rw [e]
   refine ⟨MT (B := 110) rfl (fun x hx => ?_) (by rw [aeo]; omega), v5 _ _⟩
   rcases adN.mp hx with rfl | hx
   . decide +kernel
   . exact wl1 x hx
 have hlen : ([("on" : Str), w.sg] ++ lF "if" "and" (w.qs.map (eK c.bn c.ns)) ++ lF "do" "then" (w.ds.map (aV c.bn))).length <= 200 := by
   rw [adR, adR, fW, fW, adM, adM]
   show 2 + _ + _ <= _
   omega
 generalize [("on" : Str), w.sg] ++ lF "if" "and" (w.qs.map (eK c.bn c.ns)) ++ lF "do" "then" (w.ds.map (aV c.bn)) = W at hj hlen ⊢
 have htg := hw.fin.tg
 refine zA (fun δ => δ = [some (.sh c.d), some (.sh w.d), some (.lst (((W ++ CD c.ns w).map .str).map T.sh))])
   (nR (aE (aC E.cQ) (ah (iM E.C7 E.C5)) rfl) (ah (fC (ah ai)))).1 (fun hp => ?_) (fun hp => ?_) ?_
 . have hp : ¬ w.tg = -1 := by
     rw [aeN] at hp
     exact ad6 hp
   have ht : 0 <= w.tg /\ w.tg < c.es.length := by
     rcases htg with ⟨e, _⟩ | ⟨e, _⟩
     . exact absurd e hp
     . exact e
   refine Ck E.cC.1 rfl (cA (e9 (ay aB (ay (bq (aK (gY E.aW E.bY (aC E.aN) iO) (aE (aC E.cQ) (ah (iM E.C7 E.C5)) rfl) (cW Str.empty ht.1 (by rw [hc.nl]; exact ht.2))) rfl) bu)) (az rfl)) (t2 := .lst (((["to", c.ns.getD w.tg.toNat Str.empty] : List Str).map .str).map T.sh)) rfl) rfl (by rw [hle, hle]; show _ + 2 <= _; omega) (ao ?_)
   rw [← adU, ← adU, CD, adT hp]
   try rfl
 . have hp : w.tg = -1 := by
     rw [afa] at hp
     exact ad4 hp
   refine ao ?_
   rw [CD, ad0 hp, aef]
   try rfl
 rintro δ rfl
 have XQ : (W ++ CD c.ns w).length <= 202 := by
   rw [adR]
   have e1 : (CD c.ns w).length <= 2 := by unfold CD; split <;> exact adQ rfl
   omega
 generalize W ++ CD c.ns w = W2 at hj XQ ⊢
 refine zA (fun δ => δ = [some (.sh c.d), some (.sh w.d), some (.lst (((W2 ++ JD w).map .str).map T.sh))])
   (Uo (aE (aC E.cQ) (ah (iM E.Nz E.Ny)) rfl) (ah aB)).1 (fun hp => ?_) (fun hp => ?_) ?_
 . have hp : ¬ w.md = "new" := by
     rw [aeN] at hp
     exact ad6 hp
   refine fE E.cC.1 rfl (bq (aE (aC E.cQ) (ah (iM E.Nz E.Ny)) rfl) rfl) rfl (by rw [hle]; omega) (ao ?_)
   rw [JD, adT hp, adU, adU]
   try rfl
 . have hp : w.md = "new" := by
     rw [afa] at hp
     exact ad4 hp
   refine ao ?_
   rw [JD, ad0 hp, aef]
   try rfl
 rintro δ rfl
 refine bw (j0 (ah aB) (vL E.cC.1) hj.1) ?_
 rw [hj.2]
theorem cL : nq (aq mX) ([("chart", .cell), ("way", au), ("words", au), ("SIGN", aF), ("linked", aF), ("ASKS", aF), ("DEEDS", aF), ("TARGET", aF), ("MODE", aF)]) = true := by decide +kernel
theorem vg : aT ["chart", "way", "words"] ["chart", "way"] (aq mX) := aZ
noncomputable def dJ (l : List Str) : T := .lst ((l.map L3.D.str).map T.sh)
theorem JV (l : List Str) : T.d7 (dJ l) = .lst (l.map .str) := eB _
theorem QK {α : Type} {n s : Nat} {f : Nat -> α} {x : α} : ((List.range n).map f).set s x = (List.range n).map fun m => if m = s then x else f m := by
 refine afs fun i => ?_
 rw [aft, ad8, ad8]
 by_cases hi : i < n
 . rw [aeO hi]
   by_cases e : s = i
   . subst e
     rw [ad0 rfl, adM, aem, ad0 hi]
     simp
   . rw [adT e]
     have : ¬ i = s := fun z => e z.symm
     simp [this]
 . rw [afd (by rw [aem]; omega)]
   by_cases e : s = i
   . subst e
     rw [ad0 rfl, adM, aem, adT hi]
     rfl
   . rw [adT e]
     rfl
theorem xK (c : CH) (l : List WY) (w : WY) (m : Nat) : dI c (l ++ [w]) m = dI c l m ++ if w.src = (m : Int) then [xj c.bn c.ns w] else [] := by
 unfold dI
 rw [List.filter_append, adU]
 congr 1
 by_cases e : w.src = (m : Int)
 . rw [ad0 e, List.filter_cons, ad0 (afo e)]; rfl
 . rw [if_neg e, List.filter_cons, if_neg (by simpa using e)]; rfl
theorem zip_get {ds es : List L3.D} {j : Nat} {d : L3.D} (h : (Am ds es)[j]? = some d) : ∃ x y, ds[j]? = some x /\ es[j]? = some y /\ d = .tup [x, y] := by
 unfold Am at h
 rw [ad8] at h
 cases e : (ds.zip es)[j]? with
 | none => rw [e] at h; cases h
 | some p =>
   rw [e] at h
   obtain ⟨h1, h2⟩ := List.getElem?_zip_eq_some.mp e
   exact ⟨p.1, p.2, h1, h2, (aeb h).symm⟩
noncomputable abbrev kG : Stmt := top 15
noncomputable abbrev oA : Type := CH
noncomputable def iD : oA -> List L3.D := fun c => [c.d]
noncomputable def iE : oA -> Prop := fun c => g6 c
noncomputable def iF : oA -> T := fun c => (.lst ((List.range c.es.length).map fun m => dJ (qN c m)) : T)
structure C8 (X : Cx) (CL : Str -> Addr) : Prop extends cE X where
 aN : Ln X 0 "chart"
 sS : X.env.kindOf "chart" = some .cell
 aU : Ln X 1 "found"
 n9 : Ln X 2 "ins"
 kQ : Ln X 3 "outs"
 kB : Ln X 4 "texts"
 cQ : Ln X 5 "way"
 XR : Gl X "zip"
 NB : Gl X "SOURCE"
 qV : Gl X "way_text"
 XS : X.mg "zip" = none
 NC : ∃ u, X.mg "SOURCE" = some (.int 0 u)
 FH : Fc X CL "way_text" 3 2 ju gO jv
 kF : Fc X CL "deed_text" 2 2 fK cK fL
 aW : uN X.K (CL "Chart")
 gH : aS X.K (CL "Chart") "ways"
 iV : aS X.K (CL "Chart") "ins"
 gG : aS X.K (CL "Chart") "outs"
theorem C9 {X : Cx} {CL : Str -> Addr} {b : Bx} (E : C8 X CL) (c) (h : iE c) :
   aD X CL b kG ["chart", "found", "ins", "outs", "texts", "way"] (iD c) (iF c) := by
 dsimp only [aD, iE, iD, iF] at h ⊢
 have hc : g6 c := h
 have hle : ∀ l : List Str, ((l.map L3.D.str).map T.sh).length = l.length := fun l => by rw [adM, adM]
 have e1 := hc.e1
 have il := hc.il
 have ol : c.os.length = c.es.length := by rw [← il]; exact hc.ow.n2
 have hA : ∀ {l : List L3.D} {f : L3.D -> Str}, T.lst ((l.filter fun _ => true).map fun d => T.sh (.str (f d))) = dJ (l.map f) := fun {l f} => by
   rw [dH, dJ, aei, aei]
   rfl
 refine aJ E.g E.aU (dM dh (ael _)) ?_
 refine L1 E.g (Ak E.g.nd E.g.calm E.n9 E.kQ) (fun j δ => ∃ o3 o4 o5 o6, δ = [some (.sh c.d), some (.lst ((List.range j).map fun m => dJ (v7 c m))), o3, o4, o5, o6])
   (UW E.XS (gZ E.aW E.iV (v_ E.aN.1) zF) (gZ E.aW E.gG (v_ E.aN.1) wV) E.XR (by rw [adM, adM, il, ol])) ⟨_, _, _, _, rfl⟩
   (fun j δ ⟨_, _, _, _, e⟩ => by subst e; intro i hi; simp only [adN, aeL, or_false] at hi; rcases hi with rfl | rfl <;> exact adQ rfl) ?turn ?fin
 case turn =>
   rintro j d δ hj ⟨o3, o4, o5, o6, rfl⟩
   obtain ⟨x, y, hx, hy, rfl⟩ := zip_get hj
   rw [ad8] at hx hy
   cases ex : c.is[j]? with
   | none => rw [ex] at hx; cases hx
   | some p =>
     cases ey : c.os[j]? with
     | none => rw [ey] at hy; cases hy
     | some q =>
       rw [ex] at hx
       rw [ey] at hy
       cases aeb hx
       cases aeb hy
       have t7 : j < c.es.length := by have := (aev.mp ex).1; omega
       have hp := hc.ow.ii p (ad7 ex)
       have hq := hc.ow.oo q (ad7 ey)
       have lp := hp.l1
       have lq := hq.l1
       have V9 : v7 c j = p.map (fun d => "in " ++ aV c.bn d) ++ q.map fun d => "out " ++ aV c.bn d := by
         unfold v7
         rw [adS, adS, ex, ey]
         rfl
       refine ⟨_, rfl, ?_⟩
       refine wR (p := fun _ => true) (gg := fun d => .sh (.str ("in " ++ aV c.bn d))) E.g E.kB (cP (.cons E.aN.1 (.inl E.sS) .nil) (by decide +kernel)) (nS (v_ E.n9.1)) (.inr rfl) (fun C s0 H0 f0 b' d hd => ⟨rfl, fun _ => aM (ah aB) (ah (c_ (c, d) (l0 E.kF) (jZ (by decide +kernel)) (aj (ah (v_ (jH (i := 1) rfl (by decide +kernel)))) (aj (ah (v_ (dN (i := 0) rfl (by decide +kernel)))) aL)) (by dsimp only [cK]; exact ⟨hc, (hp.g1 d hd).pr⟩) rfl)) (by rw [sizeLine_eq]; have := fF hc.bn (hp.g1 d hd).pr; show 3 + (aV c.bn d).length <= _; omega)⟩) (Nat.le_of_lt (bz (by omega))) ?rst (by exact Nat.le_of_ble_eq_true rfl) (lJ ⟨_, rfl⟩)
       case rst =>
       rw [hA]
       refine Ck E.kB.1 rfl (cA (pR (p := fun _ => true) (g := fun d => .sh (.str ("out " ++ aV c.bn d))) (cP (.cons E.aN.1 (.inl E.sS) .nil) (by decide +kernel)) E.g.calm (nS (v_ E.kQ.1)) (.inr rfl) (fun C s0 H0 f0 b' d hd => ⟨rfl, fun _ => aM (ah aB) (ah (c_ (c, d) (l0 E.kF) (jZ (by decide +kernel)) (aj (ah (v_ (jH (i := 1) rfl (by decide +kernel)))) (aj (ah (v_ (dN (i := 0) rfl (by decide +kernel)))) aL)) (by dsimp only [cK]; exact ⟨hc, (hq.g1 d hd).pr⟩) rfl)) (by rw [sizeLine_eq]; have := fF hc.bn (hq.g1 d hd).pr; show 4 + (aV c.bn d).length <= _; omega)⟩) (Nat.le_of_lt (bz (by omega)))) (t2 := dJ (q.map fun d => "out " ++ aV c.bn d)) hA) rfl (by rw [hle, hle, List.length_map, List.length_map]; omega) ?_
       rw [← adU, ← adU, ← V9]
       refine fE E.aU.1 rfl (cA (vM E.kB.1) (t2 := dJ (v7 c j)) rfl) rfl (by rw [adM, aem]; omega) (ao ?_)
       show ∃ o3 o4 o5 o6, _ = [_, some (T.lst ((List.range (j + 1)).map fun m => dJ (v7 c m))), o3, o4, o5, o6]
       rw [List.range_succ, adU]
       exact ⟨_, _, _, _, rfl⟩
 case fin =>
 rintro δ ⟨o3, o4, o5, o6, rfl⟩
 have XA : (Am (c.is.map L3.D.tup) (c.os.map L3.D.tup)).length = c.es.length := by
   rw [Am, adM, List.length_zip, adM, adM, il, ol, Nat.min_self]
 rw [XA]
 have KD := hc.ow.wl
 dsimp only at KD
 refine jG E.g E.cQ (fun j δ => ∃ o3 o4 o5 o6, δ = [some (.sh c.d), some (.lst ((List.range c.es.length).map fun m => dJ (v7 c m ++ dI c (c.ws.take j) m))), o3, o4, o5, o6])
   (kM (gZ E.aW E.gH (v_ E.aN.1) wW)) ?base (fun j δ ⟨_, _, _, _, e⟩ => by subst e; exact adQ rfl) ?NF ?fin2
 case base =>
   show ∃ o3 o4 o5 o6, _ = [_, some (T.lst ((List.range c.es.length).map fun m => dJ (v7 c m ++ dI c (c.ws.take 0) m))), o3, o4, o5, o6]
   rw [show (fun m => dJ (v7 c m ++ dI c (c.ws.take 0) m)) = fun m => dJ (v7 c m) from funext fun m => by rw [show dI c (c.ws.take 0) m = [] from rfl, aef]]
   exact ⟨_, _, _, _, rfl⟩
 case NF =>
   rintro j d δ hj ⟨o3, o4, o5, o6, rfl⟩
   rw [ad8] at hj
   cases ew : c.ws[j]? with
   | none => rw [ew] at hj; cases hj
   | some w =>
     rw [ew] at hj
     cases aeb hj
     have hw := hc.ow.ww w (ad7 ew)
     dsimp only at hw
     obtain ⟨s0, s1⟩ := hw.sr
     obtain ⟨s, hs⟩ : ∃ s : Nat, w.src = (s : Int) := ⟨w.src.toNat, by omega⟩
     have hsl : s < c.es.length := by omega
     have ac9 : (dI c (c.ws.take j) s).length <= 40 := nX hc _ (by rw [aeH]; omega) s
     have ada := AI hc s
     have hat : ((List.range c.es.length).map fun m => dJ (v7 c m ++ dI c (c.ws.take j) m))[s]? = some (dJ (v7 c s ++ dI c (c.ws.take j) s)) := by
       rw [ad8, aeO hsl]
       rfl
     refine Mr s E.aU.1 (uT (aE (aC E.cQ) (ah (iM E.NC E.NB)) (d := .int w.src) rfl) (by rw [hs])) rfl hat (c_ (c, w) E.FH E.qV (aj (aC E.aN) (aj (aC E.cQ) aL)) (by dsimp only [gO]; exact ⟨hc, hw⟩) rfl) rfl hat (by rw [hle, List.length_append]; omega) (ao ?_)
     show ∃ o3 o4 o5 o6, _ = [_, some (T.lst ((List.range c.es.length).map fun m => dJ (v7 c m ++ dI c (c.ws.take (j + 1)) m))), o3, o4, o5, o6]
     rw [fc ew, QK]
     have aaD : (fun m => dJ (v7 c m ++ dI c (c.ws.take j ++ [w]) m)) = fun m => if m = s then T.lst (((v7 c s ++ dI c (c.ws.take j) s).map L3.D.str).map T.sh ++ [T.sh (.str (xj c.bn c.ns w))]) else dJ (v7 c m ++ dI c (c.ws.take j) m) := funext fun m => by
       rw [xK, hs]
       by_cases e : m = s
       . subst e
         rw [ad0 rfl, ad0 rfl, ← adO, dJ, adU, adU]
         rfl
       . rw [adT e, adT (fun z => e (by omega)), aef]
     rw [aaD]
     exact ⟨_, _, _, _, rfl⟩
 case fin2 =>
 rintro δ ⟨o3, o4, o5, o6, rfl⟩
 refine bw (vM E.aU.1) ?_
 rw [adM, aeM]
 rfl
theorem cz : nq (aq kG) ([("chart", .cell), ("found", au), ("ins", au), ("outs", au), ("texts", au), ("way", au), ("zip", aF), ("SOURCE", aF), ("way_text", aF)]) = true := by decide +kernel
theorem sV : aT ["chart", "found", "ins", "outs", "texts", "way"] ["chart"] (aq kG) := aZ
noncomputable abbrev wc : Stmt := top 10
noncomputable abbrev AZ : Type := List Str × List Int × List Int × Int
noncomputable def qa : AZ -> List L3.D := fun (ks, es, ss, m) => [zE ks es ss, .int m]
noncomputable def qb : AZ -> Prop := fun (ks, es, ss, m) => mq es /\ 0 <= m /\ m < es.length /\ es.length <= 1000
noncomputable def qc : AZ -> T := fun (ks, es, ss, m) => (.lst (((rN es m).map .int).map T.sh) : T)
structure QL (X : Cx) (CL : Str -> Addr) : Prop extends cE X where
 gF : Ln X 0 "tree"
 bE : Ln X 1 "mood"
 aU : Ln X 2 "found"
 sW : Ln X 3 "elder"
 gf : uN X.K (CL "Tree")
 ek : aS X.K (CL "Tree") "elders"
theorem QM {X : Cx} {CL : Str -> Addr} {b : Bx} (E : QL X CL) (ks es ss m) (h : qb (ks, es, ss, m)) :
   aD X CL b wc ["tree", "mood", "found", "elder"] (qa (ks, es, ss, m)) (qc (ks, es, ss, m)) := by
 dsimp only [aD, qb, qa, qc] at h ⊢
 obtain ⟨ht, h0, h1, hlen⟩ := h
 refine aJ E.g E.aU (dM dh (ael _)) ?_
 refine aJ E.g E.sW (bq (aK (gY E.gf E.ek (aC E.gF) nU) (aC E.bE) (f9 h0 h1)) rfl) ?_
 have hm := ht.at h0 h1
 refine Ai E.g (fun n δ => ∃ (k : Int) (l : List Int), δ = [some (.sh (zE ks es ss)), some (.sh (.int m)), some (.lst ((l.map .int).map T.sh)), some (.sh (.int k))] /\ -1 <= k /\ k < n /\ k < es.length /\ l ++ EZ n es k = rN es m /\ l.length + n <= es.length + 1) (es.length + 1)
   ⟨es.getD m.toNat 0, [], rfl, hm.1, by omega, by omega, rfl, by simp⟩ ?_
 rintro n δ ⟨k, l, rfl, k0, k1, k2, k3, k4⟩
 refine ⟨_, _, (nR (aC E.sW) (ah (fC (ah ai)))).1, fun hp => ?_, fun hp => ?_⟩
 . have hk : ¬ k = -1 := by simpa using hp
   have ha := ht.at (k := k) (by omega) k2
   cases n with
   | zero => omega
   | succ n =>
     refine fE E.aU.1 rfl (v_ E.sW.1) rfl (by simp; omega) ?_
     refine aJ E.g E.sW (bq (aK (gY E.gf E.ek (aC E.gF) nU) (aC E.sW) (f9 (by omega) k2)) rfl) ?_
     refine ao ⟨n, aeX _, es.getD k.toNat 0, l ++ [k], ?_, ha.1, by omega, by omega, ?_, by simp; omega⟩
     . show [_, _, some (T.lst (((l.map D.int).map T.sh) ++ [T.sh (.int k)])), _] = _
       simp
     . rw [← k3, EZ, adT hk, adO]
       rfl
 . have hk : k = -1 := by simpa using hp
   subst hk
   have e : l = rN es m := by
     rw [← k3]
     cases n with
     | zero => rw [EZ, aef]
     | succ n => rw [EZ, ad0 rfl, aef]
   subst e
   exact bw (vM E.aU.1) rfl
theorem sX : nq (aq wc) ([("tree", au), ("mood", au), ("found", au), ("elder", au)]) = true := by decide +kernel
theorem Dc : aT ["tree", "mood", "found", "elder"] ["tree", "mood"] (aq wc) := aZ
noncomputable abbrev wg : Stmt := top 11
noncomputable abbrev A0 : Type := List Str × List Int × List Int × Int
noncomputable def qd : A0 -> List L3.D := fun (ks, es, ss, m) => [zE ks es ss, .int m]
noncomputable def lR : A0 -> Prop := fun (ks, es, ss, m) => mq es /\ 0 <= m /\ m < es.length /\ es.length <= 1000
noncomputable def qe : A0 -> T := fun (ks, es, ss, m) => (.sh (.int ((rN es m).length : Nat)) : T)
structure QN (X : Cx) (CL : Str -> Addr) : Prop extends cE X where
 gF : Ln X 0 "tree"
 bE : Ln X 1 "mood"
 b4 : Gl X "len"
 A1 : Gl X "above"
 b5 : X.mg "len" = none
 QO : Fc X CL "above" 1 2 qa qb qc
theorem QS {X : Cx} {CL : Str -> Addr} {b : Bx} (E : QN X CL) (ks es ss m) (h : lR (ks, es, ss, m)) :
   aD X CL b wg ["tree", "mood"] (qd (ks, es, ss, m)) (qe (ks, es, ss, m)) := by
 dsimp only [aD, lR, qd, qe] at h ⊢
 have hl : ((rN es m).map L3.D.int).length = (rN es m).length := by simp
 exact bw (cI hl E.b5 (bS (c_ (ks, es, ss, m) E.QO E.A1 (aj (aC E.gF) (aj (aC E.bE) aL)) h (by show (T.lst _).clean = true; rw [gk]; exact uS _))) E.b4) rfl
theorem sY : nq (aq wg) ([("tree", au), ("mood", au), ("len", aF), ("above", aF)]) = true := by decide +kernel
theorem Dd : aT ["tree", "mood"] ["tree", "mood"] (aq wg) := aZ
noncomputable abbrev kH : Stmt := top 14
noncomputable abbrev oB : Type := CH × Nat
noncomputable def iG : oB -> List L3.D := fun (c, m) => [c.d, .int m]
noncomputable def fM : oB -> Prop := fun (c, m) => g6 c /\ m < c.es.length
noncomputable def iH : oB -> T := fun (c, m) => (.sh (.str (xm c m)) : T)
structure De (X : Cx) (CL : Str -> Addr) : Prop extends cE X where
 aN : Ln X 0 "chart"
 bE : Ln X 1 "mood"
 kR : Ln X 2 "kind"
 cC : Ln X 3 "words"
 aW : uN X.K (CL "Chart")
 gf : uN X.K (CL "Tree")
 gD : aS X.K (CL "Tree") "kinds"
 c6 : aS X.K (CL "Chart") "tree"
 bY : aS X.K (CL "Chart") "names"
 fG : aS X.K (CL "Tree") "starts"
theorem Df {X : Cx} {CL : Str -> Addr} {b : Bx} (E : De X CL) (c m) (h : fM (c, m)) :
   aD X CL b kH ["chart", "mood", "kind", "words"] (iG (c, m)) (iH (c, m)) := by
 dsimp only [aD, fM, iG, iH] at h ⊢
 obtain ⟨hc, hm⟩ := h
 have m0 : (0 : Int) <= m := by omega
 have mk : (m : Int) < c.ks.length := by rw [hc.kl]; omega
 have mn : (m : Int) < c.ns.length := by rw [hc.nl]; omega
 have ms : (m : Int) < c.ss.length := by rw [hc.sl]; omega
 have em : (m : Int).toNat = m := aeD m
 have hk : (c.ks.getD m Str.empty).length <= 21 := dO (fun x hx => aeA (hc.kk x hx) (by decide)) m
 have hn := dO hc.nk m
 refine aJ E.g E.kR (cA (bq (aK (gY E.gf E.gD (gY E.aW E.c6 (aC E.aN) mw) wU) (aC E.bE) (cW Str.empty m0 mk)) rfl) (t2 := .sh (.str (c.ks.getD m Str.empty))) (by rw [em])) ?_
 refine aJ E.g E.cC (cA (e9 (ay (v_ E.kR.1) (ay (bq (aK (gY E.aW E.bY (aC E.aN) iO) (aC E.bE) (cW Str.empty m0 mn)) rfl) bu)) (az rfl)) (t2 := .lst ((([c.ks.getD m Str.empty, c.ns.getD m Str.empty] : List Str).map .str).map T.sh)) (by rw [em]; rfl)) ?_
 refine c7 (gX (aC E.kR) (ah aB)).1 (fun hp => ?_) (fun hp => ao ?_)
 . have hp : c.ks.getD m Str.empty = "one" := ad4 hp
   obtain ⟨s0, s1⟩ := (hc.one m hm).1 hp
   have hs := dO hc.nk (c.ss.getD m 0).toNat
   refine fE E.cC.1 rfl (bq (aK (gY E.aW E.bY (aC E.aN) iO) (uT (aK (gY E.gf E.fG (gY E.aW E.c6 (aC E.aN) mw) uW) (aC E.bE) (f9 m0 ms)) (d2 := .int (c.ss.getD m 0)) (by rw [em])) (cW Str.empty s0 (by rw [hc.nl]; exact s1))) rfl) rfl (adQ rfl) (ao ?_)
   refine bw (j0 (l := [c.ks.getD m Str.empty, c.ns.getD m Str.empty, c.ns.getD (c.ss.getD m 0).toNat Str.empty]) (ah aB) (vL E.cC.1) (sy (by
     show (c.ks.getD m Str.empty).length + ((c.ns.getD m Str.empty).length + ((c.ns.getD (c.ss.getD m 0).toNat Str.empty).length + 0)) + 3 <= _
     omega))) ?_
   show T.sh _ = T.sh (.str (xm c m))
   rw [v5, xm, ad0 hp]
 . have hp : ¬ c.ks.getD m Str.empty = "one" := ad6 hp
   refine bw (j0 (l := [c.ks.getD m Str.empty, c.ns.getD m Str.empty]) (ah aB) (vL E.cC.1) (sy (by
     show (c.ks.getD m Str.empty).length + ((c.ns.getD m Str.empty).length + 0) + 2 <= _
     omega))) ?_
   show T.sh _ = T.sh (.str (xm c m))
   rw [v5, xm, adT hp]
theorem jw : nq (aq kH) ([("chart", au), ("mood", au), ("kind", au), ("words", au)]) = true := by decide +kernel
theorem sZ : aT ["chart", "mood", "kind", "words"] ["chart", "mood"] (aq kH) := aZ
theorem NK (c : CH) (n : Nat) : T.d7 (.lst ((List.range n).map fun m => dJ (qN c m))) = .lst ((List.range n).map fun m => L3.D.lst ((qN c m).map .str)) := by
 rw [T.d7]
 congr 1
 generalize List.range n = l
 induction l with
 | nil => rfl
 | cons m l ih => rw [aen, T.gW, ih, JV, aen]
theorem FI (c : CH) (n : Nat) : T.clean (.lst ((List.range n).map fun m => dJ (qN c m))) = true := by
 rw [gk]
 generalize List.range n = l
 induction l with
 | nil => rfl
 | cons m l ih =>
   rw [aen, T.dg, ih]
   have : (dJ (qN c m)).clean = true := gb _
   rw [this]
   rfl
theorem FJ (c : CH) (m : Nat) : (((gU c m).map L3.D.str).map T.sh ++ [T.sh (.str (ja c m ++ xm c m))]) ++ (((qN c m).map fun t => ja c m ++ " " ++ t).map L3.D.str).map T.sh = ((gU c (m + 1)).map L3.D.str).map T.sh := by
 rw [pW, u0, adU, adU, adO]
 rfl
theorem qW {c : CH} (h : g6 c) : ∀ n, (gU c n).length <= 3 + n * 121
 | 0 => by
   have := h.b3
   unfold gU
   rw [List.range_zero, List.flatMap_nil, aef, adM]
   omega
 | n + 1 => by
   have a := qW h n
   have d := AI h n
   have e := nX h c.ws h.ow.wl n
   rw [pW, adR, u0, aeo, adM, qN, adR]
   omega
noncomputable abbrev wj : Stmt := top 13
noncomputable abbrev A2 : Type := CH
noncomputable def qf : A2 -> List L3.D := fun c => [c.d]
noncomputable def qg : A2 -> Prop := fun c => g6 c
noncomputable def qh : A2 -> T := fun c => (.sh (.str (Txt.join "\n" (gU c c.es.length))) : T)
structure QT (X : Cx) (CL : Str -> Addr) : Prop extends cE X where
 aN : Ln X 0 "chart"
 ia : Ln X 1 "rows"
 bE : Ln X 2 "mood"
 kB : Ln X 3 "texts"
 gP : Ln X 4 "blanks"
 NP : X.env.kindOf "blanks" = some .cell
 Dg : Gl X "enumerate"
 oE : Gl X "own_texts"
 A3 : Gl X "depth"
 oF : Gl X "mood_text"
 Dh : X.mg "enumerate" = none
 Di : Fc X CL "own_texts" 4 1 iD iE iF
 QV : Fc X CL "depth" 2 2 qd lR qe
 Dj : Fc X CL "mood_text" 1 2 iG fM iH
 aW : uN X.K (CL "Chart")
 cu : aS X.K (CL "Chart") "boxes"
 c6 : aS X.K (CL "Chart") "tree"
theorem QW {X : Cx} {CL : Str -> Addr} {b : Bx} (E : QT X CL) (c) (h : qg c) :
   aD X CL b wj ["chart", "rows", "mood", "texts", "blanks"] (qf c) (qh c) := by
 dsimp only [aD, qg, qf, qh] at h ⊢
 have hc : g6 c := h
 have e1 := hc.e1
 have hle : ∀ l : List Str, ((l.map L3.D.str).map T.sh).length = l.length := fun l => by rw [adM, adM]
 refine L8 (parts := part2) (p := fun _ => true) (g := fun d => .sh (.str (E8 (d.V7.toS, d.at2.yy)))) E.g E.ia (Qd (xs := ["name", "first"]) .nil (by decide +kernel))
   (LZ (kM (gZ E.aW E.cu (v_ E.aN.1) j3))) (.inr rfl) (fun C s0 H0 f0 b' => ⟨Ak (by show List.Nodup (["name", "first"] : List Str); decide +kernel) E.g.calm (EW rfl (by decide +kernel)) (EW rfl (by decide +kernel)), fun d hd => ?Nr⟩) (aeB (bz (by rw [adM]; have := hc.b3; omega))) ?xH (by exact adQ rfl) (lJ ⟨_, rfl⟩)
 case Nr =>
   obtain ⟨p, hp, rfl⟩ := aed.mp hd
   obtain ⟨b1, b2⟩ := hc.bk p hp
   have b3 := qM b2
   have e4 : ("box " : Str).length = 4 := rfl
   have es : (" " : Str).length = 1 := rfl
   have hz : ∀ {x : Str}, x.length <= 1000 -> x.length <= sizeLine := fun h => by rw [aek]; omega
   refine ⟨_, rfl, rfl, rfl, fun _ => cA (Jw (vU (ah aB) (vU (ah (Ql (ah (v_ (dN (i := 0) rfl (by decide +kernel)))) (hz (by omega)))) (vU (ah aB) (vU (ah (Qm (ah (v_ (dN (i := 1) rfl (by decide +kernel)))) (w9 b2))) (UX (hz ?_)) (hz ?_)) (hz ?_)) (hz ?_)) (hz ?_))) ?_⟩
   all_goals try (rw [Str.empty_append])
   . rw [str_len, str_len, str_len, e4, es]; show 4 + _ + 1 + (sI p.2).length <= _; omega
   . rw [str_len, str_len, str_len, e4, es]; show 4 + _ + 1 + (sI p.2).length <= _; omega
   . rw [str_len, str_len, e4, es]; omega
   . rw [str_len, e4]; omega
   . rw [e4]; decide
   . rfl
 case xH =>
 have eq1 : T.lst (((c.bs.map ua).filter fun _ => true).map fun d => T.sh (.str (E8 (d.V7.toS, d.at2.yy)))) = dJ (gU c 0) := by
   rw [dH, aei]
   unfold dJ gU
   rw [List.range_zero, List.flatMap_nil, aef, aei, aei]
   rfl
 rw [eq1]
 have hoz : (List.range c.es.length).length = c.es.length := aem
 refine L1 E.g (Ak E.g.nd E.g.calm E.bE E.kB) (fun j δ => ∃ o3 o4 o5, δ = [some (.sh c.d), some (dJ (gU c j)), o3, o4, o5])
   (Ma (f := fun m => L3.D.lst ((qN c m).map .str)) (l := List.range c.es.length) 0 E.Dh (vS (c_ c E.Di E.oE (aj (aC E.aN) aL) hc (FI c _)) (NK c _)) E.Dg) ⟨_, _, _, rfl⟩
   (fun j δ ⟨_, _, _, e⟩ => by subst e; intro i hi; simp only [adN, aeL, or_false] at hi; rcases hi with rfl | rfl <;> exact adQ rfl) ?turn ?fin
 case turn =>
   rintro j d δ hj ⟨o3, o4, o5, rfl⟩
   obtain ⟨i, rfl, hi, him, hil, _, _⟩ := UN hj
   have ei : i = j := by
     rw [List.getElem?_range (by simpa using (List.getElem?_eq_some_iff.mp hi).1)] at hi
     exact (aeb hi).symm
   subst ei
   have hil : i < c.es.length := by
     have := aeQ.mp him
     rwa [hoz] at this
   have eg : (List.range c.es.length).getD i 0 = i := by
     rw [adS, aeO hil]
     rfl
   refine ⟨_, rfl, ?_⟩
   rw [eg]
   have hrc := qW hc i
   have V9 := AI hc i
   have hwy := nX hc c.ws hc.ow.wl i
   have adg : (qN c i).length <= 120 := by rw [qN, adR]; omega
   have OS := AH hc i
   have Ss := E9 hc i
   have aaF : (rN c.es i).length <= c.es.length + 1 := pS _ _ _
   refine aJ E.g E.gP (cA (HP (ah aB) (ah (c_ (c.ks, c.es, c.ss, (i : Int)) E.QV E.A3 (aj (gY E.aW E.c6 (aC E.aN) mw) (aj (aC E.bE) aL)) (by dsimp only [lR]; exact ⟨hc.tr, by omega, by omega, by omega⟩) rfl)) (MX (by omega))) (t2 := .sh (.str (ja c i))) rfl) ?_
   refine fE E.ia.1 rfl (aM (aC E.gP) (ah (c_ (c, i) E.Dj E.oF (aj (aC E.aN) (aj (aC E.bE) aL)) (by dsimp only [fM]; exact ⟨hc, hil⟩) rfl)) (by rw [sizeLine_eq]; show (ja c i).length + (xm c i).length <= _; omega)) rfl (by rw [hle]; omega) ?_
   refine Ck E.ia.1 rfl (cA (pR (p := fun _ => true) (g := fun d => .sh (.str (ja c i ++ " " ++ d.toS))) (cP (.cons E.gP.1 (.inl E.NP) .nil) (by decide +kernel)) E.g.calm (kM (v_ E.kB.1)) (.inr rfl) (fun C s0 H0 f0 b' d hd => ?Vg) (aeB (bz (by rw [adM]; omega)))) (t2 := dJ ((qN c i).map fun t => ja c i ++ " " ++ t)) ?eq2) rfl (by rw [adR, hle, hle, adM, ad9]; omega) ?Nt
   case Vg =>
     obtain ⟨t, ht, rfl⟩ := aed.mp hd
     have Fd : t.length <= 9326 := by
       rcases adZ.mp ht with ht | ht
       . exact aeA (MY hc t ht) (by decide)
       . obtain ⟨w, hw, rfl⟩ := aed.mp ht
         exact AG hc (hc.ow.ww w (ae7.mp hw).1)
     have es : (" " : Str).length = 1 := rfl
     exact ⟨rfl, fun _ => cA (aM (ah (aM (ah (v_ (jH (i := 1) rfl (by decide +kernel)))) (ah aB) (by rw [aek, es]; omega))) (ah (v_ (dN (i := 0) rfl (by decide +kernel)))) (by rw [aek, str_len, es]; omega)) (by rfl)⟩
   case eq2 =>
     rw [dH, dJ, aei, aei, aei]
     rfl
   case Nt =>
   refine ao ?_
   show ∃ o3 o4 o5, _ = [_, some (T.lst (((gU c (i + 1)).map L3.D.str).map T.sh)), o3, o4, o5]
   rw [← FJ c i]
   exact ⟨_, _, _, rfl⟩
 case fin =>
   rintro δ ⟨o3, o4, o5, rfl⟩
   have e : ((List.range (List.range c.es.length).length).map fun (i : Nat) => L3.D.tup [.int i, (fun m => L3.D.lst ((qN c m).map .str)) ((List.range c.es.length).getD i 0)]).length = c.es.length := by
     rw [adM, aem, aem]
   rw [e]
   exact bw (j0 (l := gU c c.es.length) (ah aB) (vL E.ia.1) (all_join hc)) rfl
theorem fN : nq (aq wj) ([("chart", au), ("rows", au), ("mood", au), ("texts", au), ("blanks", .cell), ("enumerate", aF), ("own_texts", aF), ("depth", aF), ("mood_text", aF)]) = true := by decide +kernel
theorem Dk : aT ["chart", "rows", "mood", "texts", "blanks"] ["chart"] (aq wj) := aZ
noncomputable abbrev gQ : Stmt := top 37
noncomputable abbrev jP : Type := List Str × L3.D
noncomputable def dw : jP -> List L3.D := fun (bn, d) => [.lst (bn.map .str), d]
noncomputable def bJ : jP -> Prop := fun (bn, d) => (∀ x ∈ bn, x.length <= 21) /\ nW bn.length d
noncomputable def dz : jP -> T := fun (bn, d) => (.sh (.str (c9 bn d)) : T)
structure xM (X : Cx) (CL : Str -> Addr) : Prop extends cE X where
 bf : Ln X 0 "boxes"
 gC : Ln X 1 "term"
 bW : Ln X 2 "name"
 ve : Gl X "str"
 XT : Gl X "int"
 XU : Gl X "abs"
 qA : X.mg "str" = none
 XW : X.mg "int" = none
 XY : X.mg "abs" = none
theorem xN {X : Cx} {CL : Str -> Addr} {b : Bx} (E : xM X CL) (bn d) (h : bJ (bn, d)) :
   aD X CL b gQ ["boxes", "term", "name"] (dw (bn, d)) (dz (bn, d)) := by
 dsimp only [aD, bJ, dw, dz] at h ⊢
 obtain ⟨hc, a, k, rfl, ha, hk⟩ := h
 have hl := w9 hk
 have hk2 : ((k.natAbs : Nat) : Int).natAbs < 10 ^ 30 := by rw [Int.natAbs_natCast]; exact hk
 have hkl := qM hk2
 have hn := dO hc a.toNat
 refine c7 (eu (aE (aC E.gC) (ah ai) rfl) (ah (fC (ah ai)))).1 (fun hp => ?_) (fun hp => ao ?_)
 . refine bw (pQ E.qA E.ve (aE (aC E.gC) (ah ai) rfl) hl) ?_
   show T.sh _ = T.sh (.str (c9 bn (.tup [.int a, .int k])))
   rw [mE, ad0 (ad4 hp)]
   try rfl
 have hp : ¬ a = -1 := ad6 hp
 have ha : 0 <= a /\ a < bn.length := by
   rcases ha with e | e
   . exact absurd e hp
   . exact e
 refine aJ E.g E.bW (bq (aK (aC E.bf) (aE (aC E.gC) (ah ai) rfl) (cW Str.empty ha.1 ha.2)) rfl) ?_
 refine c7 (eu (aE (aC E.gC) (ah ai) rfl) (ah ai)).1 (fun hq => ?_) (fun hq => ao ?_)
 . refine bw (v_ E.bW.1) ?_
   show T.sh _ = T.sh (.str (c9 bn (.tup [.int a, .int k])))
   rw [mE, adT (show ¬ a = -1 from hp), ad0 (show k = 0 from ad4 hq)]
   try rfl
 have hq : ¬ k = 0 := ad6 hq
 have e1 := Ig k
 refine bw (aM (ah (aM (aC E.bW) (aK (ds := [.str "-", .str "+"]) (d := .str (Ie k)) (bS (e9 (ay aB (ay aB bu)) (az rfl))) (ah (P4 E.XW (ah (wH (aE (aC E.gC) (ah ai) rfl) (ah ai)).2) E.XT)) (by
   by_cases h0 : 0 < k
   . rw [afo h0, Ie, ad0 h0]; rfl
   . rw [aeC h0, Ie, adT h0]; rfl)) (by rw [aek, e1]; omega))) (ah (pQ E.qA E.ve (uT (ah (UO E.XY E.XU (aE (aC E.gC) (ah ai) rfl))) (d2 := .int ((k.natAbs : Nat) : Int)) (by congr 1; split <;> omega)) (w9 hk2))) (by rw [aek, str_len, e1]; show _ + (sI ((k.natAbs : Nat) : Int)).length <= _; omega)) ?_
 show T.sh _ = T.sh (.str (c9 bn (.tup [.int a, .int k])))
 rw [mE, adT (show ¬ a = -1 from hp), adT (show ¬ k = 0 from hq)]
 try rfl
theorem cX : nq (aq gQ) ([("boxes", au), ("term", au), ("name", au), ("str", aF), ("int", aF), ("abs", aF)]) = true := by decide +kernel
theorem ny : aT ["boxes", "term", "name"] ["boxes", "term"] (aq gQ) := aZ
noncomputable abbrev gR : Stmt := top 38
noncomputable abbrev jQ : Type := List Str × L3.D
noncomputable def dB : jQ -> List L3.D := fun (bn, d) => [.lst (bn.map .str), d]
noncomputable def bU : jQ -> Prop := fun (bn, d) => (∀ x ∈ bn, x.length <= 21) /\ mC bn.length d
noncomputable def dD : jQ -> T := fun (bn, d) => (.sh (.str (aV bn d)) : T)
structure xO (X : Cx) (CL : Str -> Addr) : Prop extends cE X where
 bf : Ln X 0 "boxes"
 bX : Ln X 1 "deed"
 bW : Ln X 2 "name"
 dF : Gl X "_law_term_text"
 eX : Fc X CL "_law_term_text" 1 2 dw bJ dz
theorem xP {X : Cx} {CL : Str -> Addr} {b : Bx} (E : xO X CL) (bn d) (h : bU (bn, d)) :
   aD X CL b gR ["boxes", "deed", "name"] (dB (bn, d)) (dD (bn, d)) := by
 dsimp only [aD, bU, dB, dD] at h ⊢
 obtain ⟨hc, hd⟩ := h
 have e1 : (" " : Str).length = 1 := rfl
 rcases hd with ⟨n, rfl, hn⟩ | ⟨k, t, rfl, hk, ht⟩ | ⟨n, t, rfl, hn, ht⟩
 . refine c7 (gX (aE (aC E.bX) (ah ai) rfl) (ah aB)).1 (fun hp => ?_) (fun hp => absurd hp (by decide +kernel))
   refine bw (aM (ah aB) (aE (aC E.bX) (ah ai) rfl) (by rw [aek]; show 5 + n.length <= _; omega)) ?_
   show T.sh _ = T.sh (.str (aV bn _))
   rw [xg]
 . have Fd := fV hc ht
   have OS := dO hc k.toNat
   have e3 : ("put" : Str).length = 3 := rfl
   refine c7 (gX (aE (aC E.bX) (ah ai) rfl) (ah aB)).1 (fun hp => absurd hp (by decide +kernel)) (fun hp => ao ?_)
   refine aJ E.g E.bW (bq (aE (aC E.bX) (ah ai) rfl) rfl) ?_
   refine c7 (gX (aE (aC E.bX) (ah ai) rfl) (ah aB)).1 (fun hp => ?_) (fun hp => absurd hp (by decide +kernel))
   refine aJ E.g E.bW (bq (aK (aC E.bf) (aE (aC E.bX) (ah ai) rfl) (cW Str.empty hk.1 hk.2)) rfl) (ao ?_)
   refine bw (aM (ah (aM (ah (aM (ah (aM (aE (aC E.bX) (ah ai) rfl) (ah aB) (by rw [sizeLine_eq, e3, e1]; decide))) (aC E.bW) (by rw [sizeLine_eq, str_len, e3, e1]; omega))) (ah aB) (by rw [sizeLine_eq, str_len, str_len, e3, e1]; omega))) (ah (c_ (bn, t) E.eX E.dF (aj (aC E.bf) (aj (aE (aC E.bX) (ah ai) rfl) aL)) (by dsimp only [bJ]; exact ⟨hc, ht⟩) rfl)) (by rw [sizeLine_eq, str_len, str_len, str_len, e3, e1]; show _ + (c9 bn t).length <= _; omega)) ?_
   show T.sh _ = T.sh (.str (aV bn _))
   rw [zI]
   try rfl
 . have Fd := fV hc ht
   have e3 : ("say" : Str).length = 3 := rfl
   refine c7 (gX (aE (aC E.bX) (ah ai) rfl) (ah aB)).1 (fun hp => absurd hp (by decide +kernel)) (fun hp => ao ?_)
   refine aJ E.g E.bW (bq (aE (aC E.bX) (ah ai) rfl) rfl) ?_
   refine c7 (gX (aE (aC E.bX) (ah ai) rfl) (ah aB)).1 (fun hp => absurd hp (by decide +kernel)) (fun hp => ao ?_)
   refine bw (aM (ah (aM (ah (aM (ah (aM (aE (aC E.bX) (ah ai) rfl) (ah aB) (by rw [sizeLine_eq, e3, e1]; decide))) (aC E.bW) (by rw [sizeLine_eq, str_len, e3, e1]; omega))) (ah aB) (by rw [sizeLine_eq, str_len, str_len, e3, e1]; omega))) (ah (c_ (bn, t) E.eX E.dF (aj (aC E.bf) (aj (aE (aC E.bX) (ah ai) rfl) aL)) (by dsimp only [bJ]; exact ⟨hc, ht⟩) rfl)) (by rw [sizeLine_eq, str_len, str_len, str_len, e3, e1]; show _ + (c9 bn t).length <= _; omega)) ?_
   show T.sh _ = T.sh (.str (aV bn _))
   rw [zJ]
   try rfl
theorem fX : nq (aq gR) ([("boxes", au), ("deed", au), ("name", au), ("_law_term_text", aF)]) = true := by decide +kernel
theorem nA : aT ["boxes", "deed", "name"] ["boxes", "deed"] (aq gR) := aZ
noncomputable abbrev iI : Stmt := top 39
noncomputable abbrev kW : Type := List Str × List Str × L3.D
noncomputable def fY : kW -> List L3.D := fun (bn, ns, d) => [.lst (bn.map .str), .lst (ns.map .str), d]
noncomputable def dY : kW -> Prop := fun (bn, ns, d) => (∀ x ∈ bn, x.length <= 21) /\ (∀ x ∈ ns, x.length <= 21) /\ Cu bn.length ns.length d
noncomputable def fZ : kW -> T := fun (bn, ns, d) => (.sh (.str (eK bn ns d)) : T)
structure yK (X : Cx) (CL : Str -> Addr) : Prop extends cE X where
 bf : Ln X 0 "boxes"
 bC : Ln X 1 "names"
 jb : Ln X 2 "ask"
 b4 : Gl X "len"
 dF : Gl X "_law_term_text"
 b5 : X.mg "len" = none
 eX : Fc X CL "_law_term_text" 1 2 dw bJ dz
theorem yL {X : Cx} {CL : Str -> Addr} {b : Bx} (E : yK X CL) (bn ns d) (h : dY (bn, ns, d)) :
   aD X CL b iI ["boxes", "names", "ask"] (fY (bn, ns, d)) (fZ (bn, ns, d)) := by
 dsimp only [aD, dY, fY, fZ] at h ⊢
 obtain ⟨hc, hn, hd⟩ := h
 have e1 : (" " : Str).length = 1 := rfl
 rcases hd with ⟨w, k, rfl, hw, k0, k1⟩ | ⟨w, s, t, rfl, hw, hs, ht⟩
 . have OS := dO hn k.toNat
   have KD : w.length <= 4 := by rcases hw with rfl | rfl <;> decide +kernel
   refine c7 (p := true) (HM (eu (ah (r6 E.b5 (aC E.jb) E.b4)) (ah ai)).1 rfl) (fun hp => ?_) (fun hp => by cases hp)
   refine bw (aM (ah (aM (aE (aC E.jb) (ah ai) rfl) (ah aB) (by rw [aek, e1]; omega))) (aK (aC E.bC) (aE (aC E.jb) (ah ai) rfl) (cW Str.empty k0 k1)) (by rw [aek, str_len, e1]; omega)) ?_
   show T.sh _ = T.sh (.str (eK bn ns _))
   rw [Cz]
 . have h1 := fV hc hs
   have h2 := fV hc ht
   have KD : w.length <= 2 := by
     have : ∀ x ∈ (["<", "<=", "=", "!="] : List Str), x.length <= 2 := by decide +kernel
     exact this w hw
   refine c7 (p := false) (HM (eu (ah (r6 E.b5 (aC E.jb) E.b4)) (ah ai)).1 rfl) (fun hp => by cases hp) (fun hp => ao ?_)
   refine bw (aM (ah (aM (ah (aM (ah (aM (ah (c_ (bn, s) E.eX E.dF (aj (aC E.bf) (aj (aE (aC E.jb) (ah ai) rfl) aL)) (by dsimp only [bJ]; exact ⟨hc, hs⟩) rfl)) (ah aB) (by rw [sizeLine_eq, e1]; show (c9 bn s).length + 1 <= _; omega))) (aE (aC E.jb) (ah ai) rfl) (by rw [sizeLine_eq, str_len, e1]; show (c9 bn s).length + 1 + _ <= _; omega))) (ah aB) (by rw [sizeLine_eq, str_len, str_len, e1]; show (c9 bn s).length + 1 + _ + 1 <= _; omega))) (ah (c_ (bn, t) E.eX E.dF (aj (aC E.bf) (aj (aE (aC E.jb) (ah ai) rfl) aL)) (by dsimp only [bJ]; exact ⟨hc, ht⟩) rfl)) (by rw [sizeLine_eq, str_len, str_len, str_len, e1]; show (c9 bn s).length + 1 + _ + 1 + (c9 bn t).length <= _; omega)) ?_
   show T.sh _ = T.sh (.str (eK bn ns _))
   rw [xh]
   try rfl
theorem eY : nq (aq iI) ([("boxes", au), ("names", au), ("ask", au), ("len", aF), ("_law_term_text", aF)]) = true := by decide +kernel
theorem oG : aT ["boxes", "names", "ask"] ["boxes", "names", "ask"] (aq iI) := aZ
noncomputable abbrev iJ : Stmt := top 40
noncomputable abbrev kX : Type := CH × WY
noncomputable def f6 : kX -> List L3.D := fun (c, w) => [.lst (c.bn.map .str), .lst (c.ns.map .str), w.d]
noncomputable def dZ : kX -> Prop := fun (c, w) => g6 c /\ kO c.bs.length c.es.length c.is.length 40 w
noncomputable def f7 : kX -> T := fun (c, w) => (.sh (.str (xj c.bn c.ns w)) : T)
structure yM (X : Cx) (CL : Str -> Addr) : Prop extends cE X where
 bf : Ln X 0 "boxes"
 bC : Ln X 1 "names"
 cQ : Ln X 2 "way"
 nB : Ln X 3 "row"
 qi : Ln X 4 "joint"
 jb : Ln X 5 "ask"
 bX : Ln X 6 "deed"
 vD : Gl X "_law_ask_text"
 fj : Gl X "_law_deed_text"
 yN : Fc X CL "_law_ask_text" 2 3 fY dY fZ
 gS : Fc X CL "_law_deed_text" 2 2 dB bU dD
theorem yO {X : Cx} {CL : Str -> Addr} {b : Bx} (E : yM X CL) (c w) (h : dZ (c, w)) :
   aD X CL b iJ ["boxes", "names", "way", "row", "joint", "ask", "deed"] (f6 (c, w)) (f7 (c, w)) := by
 dsimp only [aD, dZ, f6, f7] at h ⊢
 obtain ⟨hc, hw⟩ := h
 have q1 := hw.l1
 have q2 := hw.l2
 have q3 := hw.fin.s3
 have hb := hc.bn
 have OS : c.bn.length = c.bs.length := adM ..
 have e5 : (" and " : Str).length = 5 := rfl
 have hz : ∀ {x y : Str}, x.length <= 100000 -> y.length <= 100000 -> x.length + y.length <= sizeLine := fun h1 h2 => by rw [aek]; omega
 refine aJ E.g E.nB (cA (aM (ah aB) (aE (aC E.cQ) (ah ai) rfl) (hz (by decide +kernel) (by omega))) (t2 := .sh (.str (jn "on" [w.sg]))) rfl) ?_
 have h0 : (jn "on" [w.sg]).length <= 30 := by
   show ("on" ++ " " ++ w.sg : Str).length <= 30
   rw [str_len]
   show 3 + _ <= 30
   omega
 refine aJ E.g E.qi aB ?_
 have step : ∀ (f g lf lg : Str), lf = " " ++ f ++ " " -> lg = " " ++ g ++ " " -> ∀ (a : Str) (l : List Str) (x : Str), jn a (lF f g l) ++ (if l = [] then lf else lg) ++ x = jn a (lF f g (l ++ [x])) := fun f g lf lg h1 h2 a l x => by
   rw [CB, sC]
   by_cases e : l = []
   . rw [ad0 e, ad0 e]
     exact U8 _ _ _ _ h1
   . rw [adT e, adT e]
     exact U8 _ _ _ _ h2
 refine jG E.g E.jb (fun j δ => ∃ o6 o7, δ = [some (.sh (.lst (c.bn.map .str))), some (.sh (.lst (c.ns.map .str))), some (.sh w.d), some (.sh (.str (jn (jn "on" [w.sg]) (lF "if" "and" ((w.qs.take j).map (eK c.bn c.ns)))))), some (.sh (.str (if (w.qs.take j).map (eK c.bn c.ns) = [] then " if " else " and "))), o6, o7])
   (nS (tW (v_ E.cQ.1) (ah ai) rfl)) ⟨_, _, rfl⟩ (fun j δ ⟨_, _, e⟩ => by subst e; exact adQ rfl) ?turn ?fin
 case turn =>
   rintro j d δ hj ⟨o6, o7, rfl⟩
   have hd := (hw.g1 d (ad7 hj)).pr
   have hdl := vZ hb hc.nk hd
   have Fd : (w.qs.take j).length <= 40 := by rw [aeH]; omega
   have Ss : ∀ x ∈ (w.qs.take j).map (eK c.bn c.ns), x.length <= 110 := fun x hx => by
     obtain ⟨y, hy, rfl⟩ := aed.mp hx
     exact vZ hb hc.nk (hw.g1 y (afi hy)).pr
   show fD X CL b _ _ { nx := fun δ => ∃ o6 o7, δ = [_, _, _, some (.sh (.str (jn (jn "on" [w.sg]) (lF "if" "and" ((w.qs.take (j + 1)).map (eK c.bn c.ns)))))), some (.sh (.str (if (w.qs.take (j + 1)).map (eK c.bn c.ns) = [] then " if " else " and "))), o6, o7], rt := _, bk := _, ct := _ }
   rw [fc hj, adU, List.map_singleton]
   have NQ : ((w.qs.take j).map (eK c.bn c.ns)).length <= 40 := by rw [adM]; exact Fd
   generalize (w.qs.take j).map (eK c.bn c.ns) = l at Ss NQ ⊢
   have hrl := ud (B := 110) (lF "if" "and" l) (jn "on" [w.sg]) (pV (P := fun x => x.length <= 110) (by decide +kernel) (by decide +kernel) Ss)
   rw [fW] at hrl
   have t7 : (if l = [] then " if " else " and " : Str).length <= 5 := by split <;> decide +kernel
   refine aJ E.g E.nB (cA (aM (ah (aM (aC E.nB) (aC E.qi) (hz (by omega) (by omega)))) (ah (c_ (c.bn, c.ns, d) E.yN E.vD (aj (aC E.bf) (aj (aC E.bC) (aj (aC E.jb) aL))) (by dsimp only [dY]; exact ⟨hb, hc.nk, by rw [OS, hc.nl]; exact hd⟩) rfl)) (hz (by rw [str_len]; omega) (by show (eK c.bn c.ns d).length <= _; omega))) (t2 := .sh (.str (jn (jn "on" [w.sg]) (lF "if" "and" (l ++ [eK c.bn c.ns d]))))) (by rw [← step "if" "and" " if " " and " rfl rfl])) ?_
   refine aJ E.g E.qi aB (ao ?_)
   rw [adT (show ¬ l ++ [eK c.bn c.ns d] = [] from fun z => by cases l <;> cases z)]
   exact ⟨_, _, rfl⟩
 case fin =>
 rintro δ ⟨o6, o7, rfl⟩
 rw [aeM]
 have Ss : ∀ x ∈ w.qs.map (eK c.bn c.ns), x.length <= 110 := fun x hx => by
   obtain ⟨y, hy, rfl⟩ := aed.mp hx
   exact vZ hb hc.nk (hw.g1 y hy).pr
 have hR : (jn (jn "on" [w.sg]) (lF "if" "and" (w.qs.map (eK c.bn c.ns)))).length <= 10000 := by
   have := ud (B := 110) (lF "if" "and" (w.qs.map (eK c.bn c.ns))) (jn "on" [w.sg]) (pV (P := fun x => x.length <= 110) (by decide +kernel) (by decide +kernel) Ss)
   rw [fW, adM] at this
   omega
 have aaI : xj c.bn c.ns w = jn (jn (jn (jn "on" [w.sg]) (lF "if" "and" (w.qs.map (eK c.bn c.ns)))) (lF "do" "then" (w.ds.map (aV c.bn)))) (CD c.ns w ++ JD w) := by
   rw [← sC, ← sC, ← sC]
   unfold xj Sl
   rw [adO]
   rfl
 rw [aaI]
 generalize jn (jn "on" [w.sg]) (lF "if" "and" (w.qs.map (eK c.bn c.ns))) = R at hR ⊢
 refine aJ E.g E.qi aB ?_
 refine jG E.g E.bX (fun j δ => ∃ o6 o7, δ = [some (.sh (.lst (c.bn.map .str))), some (.sh (.lst (c.ns.map .str))), some (.sh w.d), some (.sh (.str (jn R (lF "do" "then" ((w.ds.take j).map (aV c.bn)))))), some (.sh (.str (if (w.ds.take j).map (aV c.bn) = [] then " do " else " then "))), o6, o7])
   (nS (tW (v_ E.cQ.1) (ah ai) rfl)) ⟨_, _, rfl⟩ (fun j δ ⟨_, _, e⟩ => by subst e; exact adQ rfl) ?NF ?fin2
 case NF =>
   rintro j d δ hj ⟨o6, o7, rfl⟩
   have hd := (hw.g2 d (ad7 hj)).pr
   have hdl := fF hb hd
   have Fd : (w.ds.take j).length <= 40 := by rw [aeH]; omega
   have Ss : ∀ x ∈ (w.ds.take j).map (aV c.bn), x.length <= 110 := fun x hx => by
     obtain ⟨y, hy, rfl⟩ := aed.mp hx
     exact fF hb (hw.g2 y (afi hy)).pr
   show fD X CL b _ _ { nx := fun δ => ∃ o6 o7, δ = [_, _, _, some (.sh (.str (jn R (lF "do" "then" ((w.ds.take (j + 1)).map (aV c.bn)))))), some (.sh (.str (if (w.ds.take (j + 1)).map (aV c.bn) = [] then " do " else " then "))), o6, o7], rt := _, bk := _, ct := _ }
   rw [fc hj, adU, List.map_singleton]
   have NQ : ((w.ds.take j).map (aV c.bn)).length <= 40 := by rw [adM]; exact Fd
   generalize (w.ds.take j).map (aV c.bn) = l at Ss NQ ⊢
   have hrl := ud (B := 110) (lF "do" "then" l) R (pV (P := fun x => x.length <= 110) (by decide +kernel) (by decide +kernel) Ss)
   rw [fW] at hrl
   have t7 : (if l = [] then " do " else " then " : Str).length <= 6 := by split <;> decide +kernel
   refine aJ E.g E.nB (cA (aM (ah (aM (aC E.nB) (aC E.qi) (hz (by omega) (by omega)))) (ah (c_ (c.bn, d) E.gS E.fj (aj (aC E.bf) (aj (aC E.bX) aL)) (by dsimp only [bU]; exact ⟨hb, by rw [OS]; exact hd⟩) rfl)) (hz (by rw [str_len]; omega) (by show (aV c.bn d).length <= _; omega))) (t2 := .sh (.str (jn R (lF "do" "then" (l ++ [aV c.bn d]))))) (by rw [← step "do" "then" " do " " then " rfl rfl])) ?_
   refine aJ E.g E.qi aB (ao ?_)
   rw [adT (show ¬ l ++ [aV c.bn d] = [] from fun z => by cases l <;> cases z)]
   exact ⟨_, _, rfl⟩
 case fin2 =>
 rintro δ ⟨o6, o7, rfl⟩
 rw [aeM]
 have NQ : ∀ x ∈ w.ds.map (aV c.bn), x.length <= 110 := fun x hx => by
   obtain ⟨y, hy, rfl⟩ := aed.mp hx
   exact fF hb (hw.g2 y hy).pr
 have hR2 : (jn R (lF "do" "then" (w.ds.map (aV c.bn)))).length <= 20000 := by
   have := ud (B := 110) (lF "do" "then" (w.ds.map (aV c.bn))) R (pV (P := fun x => x.length <= 110) (by decide +kernel) (by decide +kernel) NQ)
   rw [fW, adM] at this
   omega
 generalize jn R (lF "do" "then" (w.ds.map (aV c.bn))) = R2 at hR2 ⊢
 refine c7 (eu (aE (aC E.cQ) (ah ai) rfl) (ah (fC (ah ai)))).1 (fun hp => ?_) (fun hp => ao ?_)
 . have hp : w.tg = -1 := ad4 hp
   have hm : w.md = "new" := by
     rcases hw.fin.tg with ⟨_, e⟩ | ⟨e, _⟩
     . exact e
     . omega
   refine bw (v_ E.nB.1) ?_
   rw [CD, JD, ad0 hp, ad0 hm]
   rfl
 have hp : ¬ w.tg = -1 := ad6 hp
 obtain ⟨ht, hm⟩ : (0 <= w.tg /\ w.tg < c.es.length) /\ w.md ∈ (["new", "near", "far"] : List Str) := by
   rcases hw.fin.tg with ⟨e, _⟩ | e
   . exact absurd e hp
   . exact e
 have hnl := dO hc.nk w.tg.toNat
 have e4 : (" to " : Str).length = 4 := rfl
 obtain ⟨j, hj, hjn⟩ : ∃ j : Nat, (["new", "near", "far"] : List Str)[j]? = some w.md /\ ∀ i, i < j -> (["new", "near", "far"] : List Str)[i]? ≠ some w.md := by
   have : ∀ x ∈ (["new", "near", "far"] : List Str), ∃ j ∈ [0, 1, 2], (["new", "near", "far"] : List Str)[j]? = some x /\ ∀ i ∈ List.range j, (["new", "near", "far"] : List Str)[i]? ≠ some x := by decide +kernel
   obtain ⟨j, _, h1, h2⟩ := this _ hm
   exact ⟨j, h1, fun i hi => h2 i (aeQ.mpr hi)⟩
 have hj3 : j < 3 := (aev.mp hj).1
 have hsl : ((["", " near", " far"] : List Str).getD j Str.empty).length <= 5 := by
   have : ∀ j ∈ List.range 3, ((["", " near", " far"] : List Str).getD j Str.empty).length <= 5 := by decide +kernel
   exact this j (aeQ.mpr hj3)
 refine bw (aM (ah (aM (ah (aM (aC E.nB) (ah aB) (hz (by omega) (by rw [e4]; omega)))) (aK (aC E.bC) (aE (aC E.cQ) (ah ai) rfl) (cW Str.empty ht.1 (by rw [hc.nl]; exact ht.2))) (hz (by rw [str_len, e4]; omega) (by omega)))) (aK (ds := (["", " near", " far"] : List Str).map .str) (bS (e9 (ay aB (ay aB (ay aB bu))) (az rfl))) (ah (Jy (l := ["new", "near", "far"]) (bS (e9 (ay aB (ay aB (ay aB bu))) (az rfl))) (aE (aC E.cQ) (ah ai) rfl) hj hjn)) (cW (f := L3.D.str) Str.empty (Int.natCast_nonneg j) (show ((j : Nat) : Int) < 3 by omega))) (hz (by rw [str_len, str_len, e4]; omega) (by rw [aeD]; omega))) ?_
 rw [CD, JD, adT hp]
 show T.sh (.str (R2 ++ " to " ++ _ ++ (["", " near", " far"] : List Str).getD ((j : Nat) : Int).toNat Str.empty)) = T.sh (.str _)
 rw [aeD, sC, U8 R2 "to" _ " to " rfl]
 generalize jn R2 ["to", c.ns.getD w.tg.toNat Str.empty] = R3
 have : j = 0 \/ j = 1 \/ j = 2 := by omega
 rcases this with rfl | rfl | rfl
 . have e : w.md = "new" := (aeb hj).symm
   rw [ad0 e]
   show T.sh (.str (R3 ++ Str.empty)) = T.sh (.str R3)
   rw [Str.append_empty]
 . have e : w.md = "near" := (aeb hj).symm
   rw [e, adT (by decide +kernel)]
   show T.sh (.str (R3 ++ (" " ++ "near"))) = T.sh (.str (R3 ++ " " ++ "near"))
   rw [aeI]
 . have e : w.md = "far" := (aeb hj).symm
   rw [e, adT (by decide +kernel)]
   show T.sh (.str (R3 ++ (" " ++ "far"))) = T.sh (.str (R3 ++ " " ++ "far"))
   rw [aeI]
theorem b6 : nq (aq iJ) ([("boxes", au), ("names", au), ("way", au), ("row", au), ("joint", au), ("ask", au), ("deed", au), ("_law_ask_text", aF), ("_law_deed_text", aF)]) = true := by decide +kernel
theorem oH : aT ["boxes", "names", "way", "row", "joint", "ask", "deed"] ["boxes", "names", "way"] (aq iJ) := aZ
noncomputable abbrev A4 : Stmt := top 41
noncomputable abbrev FL : Type := CH
noncomputable def tu : FL -> List L3.D := fun c => [c.p, .lst (c.bn.map .str)]
noncomputable def tD : FL -> Prop := fun c => g6 c
noncomputable def tE : FL -> T := fun c => (.lst (((gU c c.es.length).map .str).map T.sh) : T)
structure Vo (X : Cx) (CL : Str -> Addr) : Prop extends cE X where
 bI : Ln X 0 "parts"
 bf : Ln X 1 "boxes"
 bC : Ln X 2 "names"
 ia : Ln X 3 "rows"
 bE : Ln X 4 "mood"
 gP : Ln X 5 "blanks"
 nB : Ln X 6 "row"
 bX : Ln X 7 "deed"
 cQ : Ln X 8 "way"
 eF : Gl X "range"
 b4 : Gl X "len"
 mF : Gl X "_law_chain"
 fj : Gl X "_law_deed_text"
 vE : Gl X "_law_way_text"
 eG : X.mg "range" = none
 b5 : X.mg "len" = none
 AQ : Fc X CL "_law_chain" 1 2 lN lO lP
 gS : Fc X CL "_law_deed_text" 2 2 dB bU dD
 yP : Fc X CL "_law_way_text" 3 3 f6 dZ f7
 qA : X.mg "str" = none
theorem Vp {X : Cx} {CL : Str -> Addr} {b : Bx} (E : Vo X CL) (c) (h : tD c) :
   aD X CL b A4 ["parts", "boxes", "names", "rows", "mood", "blanks", "row", "deed", "way"] (tu c) (tE c) := by
 dsimp only [aD, tD, tu, tE] at h ⊢
 have hc : g6 c := h
 have e1 := hc.e1
 have hb := hc.bn
 have OS : c.bn.length = c.bs.length := adM ..
 have ol : c.os.length = c.es.length := by rw [← hc.il]; exact hc.ow.n2
 have hle : ∀ l : List Str, ((l.map L3.D.str).map T.sh).length = l.length := fun l => by rw [adM, adM]
 have hz : ∀ {x y : Str}, x.length <= 100000 -> y.length <= 100000 -> x.length + y.length <= sizeLine := fun h1 h2 => by rw [aek]; omega
 have es : (" " : Str).length = 1 := rfl
 refine aJ E.g E.bC (kL (v_ E.bI.1) (ah ai) rfl) ?_
 refine wR (p := fun _ => true) (gg := fun d => .sh (.str (E8 (d.V7.toS, d.at2.yy)))) E.g E.ia (cP .nil (by decide +kernel)) (kM (kL (v_ E.bI.1) (ah ai) rfl)) (.inr rfl) (fun C s0 H0 f0 b' d hd => ?Nr) (aeB (bz (by rw [adM]; have := hc.b3; omega))) ?xH (by exact adQ rfl) (lJ ⟨_, rfl⟩)
 case Nr =>
   obtain ⟨p, hp, rfl⟩ := aed.mp hd
   obtain ⟨b1, b2⟩ := hc.bk p hp
   have b3 := qM b2
   have e4 : ("box " : Str).length = 4 := rfl
   exact ⟨rfl, fun _ => cA (aM (ah (aM (ah (aM (ah aB) (aE (ah (v_ (dN (i := 0) rfl (by decide +kernel)))) (ah ai) rfl) (hz (by rw [e4]; omega) (by omega)))) (ah aB) (hz (by rw [str_len, e4]; omega) (by rw [es]; omega)))) (ah (pQ E.qA (jZ (by decide +kernel)) (aE (ah (v_ (dN (i := 0) rfl (by decide +kernel)))) (ah ai) rfl) (w9 b2))) (hz (by rw [str_len, str_len, e4, es]; omega) (by show (sI p.2).length <= _; omega))) (by rfl)⟩
 case xH =>
 have eq1 : ((c.bs.map ua).filter fun _ => true).map (fun d => T.sh (.str (E8 (d.V7.toS, d.at2.yy)))) = ((gU c 0).map .str).map T.sh := by
   rw [dH, aei]
   unfold gU
   rw [List.range_zero, List.flatMap_nil, aef, aei, aei]
   rfl
 rw [eq1]
 refine jG E.g E.bE (fun j δ => ∃ o5 o6 o7 o8 o9, δ = [some (.sh c.p), some (.sh (.lst (c.bn.map .str))), some (.sh (.lst (c.ns.map .str))), some (.lst (((gU c j).map .str).map T.sh)), o5, o6, o7, o8, o9])
   (iK E.eG (ah (cI (adM ..) E.b5 (aK (aC E.bI) (ah ai) rfl) E.b4)) (by rw [hc.kl]; omega) E.eF) ⟨_, _, _, _, _, rfl⟩ (fun j δ ⟨_, _, _, _, _, e⟩ => by subst e; exact adQ rfl) ?turn ?fin
 case turn =>
   rintro j d δ hj ⟨o5, o6, o7, o8, o9, rfl⟩
   obtain ⟨rfl, t7⟩ := lK hj
   rw [ae3]
   have t7 : j < c.es.length := by rw [hc.kl] at t7; omega
   have m0 : (0 : Int) <= j := by omega
   have mk : (j : Int) < c.ks.length := by rw [hc.kl]; omega
   have mn : (j : Int) < c.ns.length := by rw [hc.nl]; omega
   have ms : (j : Int) < c.ss.length := by rw [hc.sl]; omega
   have em : (j : Int).toNat = j := aeD j
   have hrc := qW hc j
   have adj := AH hc j
   have hmd := E9 hc j
   have aaF : (rN c.es j).length <= c.es.length + 1 := pS _ _ _
   have hk : (c.ks.getD j Str.empty).length <= 21 := dO (fun x hx => aeA (hc.kk x hx) (by decide)) j
   have hn := dO hc.nk j
   refine aJ E.g E.gP (cA (HP (ah aB) (ah (cI (adM ..) E.b5 (bS (c_ (c.es, (j : Int)) E.AQ E.mF (aj (aK (aC E.bI) (ah ai) rfl) (aj (aC E.bE) aL)) (show mq c.es /\ (0 : Int) <= j /\ (j : Int) < c.es.length /\ c.es.length <= 1000 from ⟨hc.tr, by omega, by omega, by omega⟩) (g5 _))) E.b4)) (MX (by omega))) (t2 := .sh (.str (ja c j))) rfl) ?_
   refine aJ E.g E.nB (cA (aM (ah (aM (aK (aK (aC E.bI) (ah ai) rfl) (aC E.bE) (cW Str.empty m0 mk)) (ah aB) (hz (by rw [em]; omega) (by rw [es]; omega)))) (aK (aC E.bC) (aC E.bE) (cW Str.empty m0 mn)) (hz (by rw [em, str_len, es]; omega) (by rw [em]; omega))) (t2 := .sh (.str (c.ks.getD j Str.empty ++ " " ++ c.ns.getD j Str.empty))) (by rw [em])) ?_
   refine zA (fun δ => δ = [some (.sh c.p), some (.sh (.lst (c.bn.map .str))), some (.sh (.lst (c.ns.map .str))), some (.lst (((gU c j).map .str).map T.sh)), some (.sh (.int j)), some (.sh (.str (ja c j))), some (.sh (.str (xm c j))), o8, o9])
     (nR (uT (aK (aK (aC E.bI) (ah ai) rfl) (aC E.bE) (f9 m0 ms)) (d2 := .int (c.ss.getD j 0)) (by rw [em])) (ah (fC (ah ai)))).1 (fun hp => ?_) (fun hp => ?_) ?_
   . have hp : ¬ c.ss.getD j 0 = -1 := by
       rw [aeN] at hp
       exact ad6 hp
     have ho : c.ks.getD j Str.empty = "one" := Decidable.byContradiction fun z => hp ((hc.one j t7).2 z)
     obtain ⟨s0, s1⟩ := (hc.one j t7).1 ho
     have hs := dO hc.nk (c.ss.getD j 0).toNat
     refine aJ E.g E.nB (aM (ah (aM (aC E.nB) (ah aB) (hz (by rw [str_len, str_len, es]; omega) (by rw [es]; omega)))) (aK (aC E.bC) (uT (aK (aK (aC E.bI) (ah ai) rfl) (aC E.bE) (f9 m0 ms)) (d2 := .int (c.ss.getD j 0)) (by rw [em])) (cW Str.empty s0 (by rw [hc.nl]; exact s1))) (hz (by rw [str_len, str_len, str_len, es]; omega) (by omega))) (ao ?_)
     rw [xm, ad0 ho]
     rfl
   . have hp : c.ss.getD j 0 = -1 := by
       rw [afa] at hp
       exact ad4 hp
     have ho : ¬ c.ks.getD j Str.empty = "one" := fun z => by
       have := ((hc.one j t7).1 z).1
       omega
     refine ao ?_
     rw [xm, adT ho]
     rfl
   rintro δ rfl
   refine fE E.ia.1 rfl (aM (aC E.gP) (aC E.nB) (hz (by omega) (by omega))) rfl (by rw [hle]; omega) ?_
   have a1 : ∀ (l : List Str) (x : Str), (l.map L3.D.str).map T.sh ++ [T.sh (.str x)] = ((l ++ [x]).map L3.D.str).map T.sh := fun l x => by rw [adU, adU]; rfl
   rw [a1]
   have hgi : ∃ p, c.is[j]? = some p := ⟨_, ad3 (by rw [hc.il]; exact t7)⟩
   have Z6 : ∃ q, c.os[j]? = some q := ⟨_, ad3 (by rw [ol]; exact t7)⟩
   obtain ⟨p, ex⟩ := hgi
   obtain ⟨q, ey⟩ := Z6
   have hp := hc.ow.ii p (ad7 ex)
   have hq := hc.ow.oo q (ad7 ey)
   have lp := hp.l1
   have lq := hq.l1
   have aI : vq (c.is.map L3.D.tup) (j : Int) = some (.tup p) := lX (by rw [ad8, ex]; rfl)
   have aO : vq (c.os.map L3.D.tup) (j : Int) = some (.tup q) := lX (by rw [ad8, ey]; rfl)
   have V9 : v7 c j = p.map (fun d => "in " ++ aV c.bn d) ++ q.map fun d => "out " ++ aV c.bn d := by
     unfold v7
     rw [adS, adS, ex, ey]
     rfl
   have sn : ∀ {α : Type} (S : List Str) (l : List α) (f : α -> Str) (x : α), S ++ (l ++ [x]).map f = S ++ l.map f ++ [f x] := fun S l f x => by
     rw [adU, ← adO]
     rfl
   have e4 : (" in " : Str).length = 4 := rfl
   have e5 : (" out " : Str).length = 5 := rfl
   have pre : ∀ (lit f x : Str), lit = " " ++ f -> ja c j ++ lit ++ x = ja c j ++ " " ++ (f ++ x) := fun lit f x e => by
     subst e
     rw [← aeI (ja c j) " " f, aeI (ja c j ++ " ") f x]
   have hR : (gU c j ++ [ja c j ++ xm c j]).length <= 5100 := by
     rw [adR, ad9]
     omega
   have hnx : gU c (j + 1) = gU c j ++ [ja c j ++ xm c j] ++ p.map (fun d => ja c j ++ " " ++ ("in " ++ aV c.bn d)) ++ q.map (fun d => ja c j ++ " " ++ ("out " ++ aV c.bn d)) ++ (dI c c.ws j).map fun t => ja c j ++ " " ++ t := by
     rw [pW, u0, qN, V9, adU, adU, aei, aei, adO, adO, adO, adO (gU c j) [ja c j ++ xm c j]]
     rfl
   show fD X CL b _ _ { nx := fun δ => ∃ o5 o6 o7 o8 o9, δ = [_, _, _, some (.lst (((gU c (j + 1)).map .str).map T.sh)), o5, o6, o7, o8, o9], rt := _, bk := _, ct := _ }
   rw [hnx]
   generalize gU c j ++ [ja c j ++ xm c j] = R at hR ⊢
   refine jG E.g E.bX (fun i δ => ∃ o8 o9, δ = [some (.sh c.p), some (.sh (.lst (c.bn.map .str))), some (.sh (.lst (c.ns.map .str))), some (.lst (((R ++ (p.take i).map fun d => ja c j ++ " " ++ ("in " ++ aV c.bn d)).map .str).map T.sh)), some (.sh (.int j)), some (.sh (.str (ja c j))), some (.sh (.str (xm c j))), o8, o9])
     (nS (kL (kL (v_ E.bI.1) (ah ai) rfl) (aC E.bE) aI)) ?b1 (fun j δ ⟨_, _, e⟩ => by subst e; exact adQ rfl) ?t1 ?f1
   case b1 =>
     show ∃ o8 o9, _ = [_, _, _, some (T.lst (((R ++ (p.take 0).map fun d => ja c j ++ " " ++ ("in " ++ aV c.bn d)).map L3.D.str).map T.sh)), _, _, _, o8, o9]
     rw [List.take_zero, ae2, aef]
     exact ⟨_, _, rfl⟩
   case t1 =>
     rintro i d δ hi ⟨o8, o9, rfl⟩
     have hd := (hp.g1 d (ad7 hi)).pr
     have hdl := fF hb hd
     have Fd : (p.take i).length <= 40 := by rw [aeH]; omega
     refine fE E.ia.1 rfl (aM (ah (aM (aC E.gP) (ah aB) (hz (by omega) (by rw [e4]; omega)))) (ah (c_ (c.bn, d) E.gS E.fj (aj (aC E.bf) (aj (aC E.bX) aL)) (by dsimp only [bU]; exact ⟨hb, by rw [OS]; exact hd⟩) rfl)) (hz (by rw [str_len, e4]; omega) (by show (aV c.bn d).length <= _; omega))) rfl (by rw [hle, List.length_append, List.length_map]; omega) (ao ?_)
     show ∃ o8 o9, _ = [_, _, _, some (T.lst (((R ++ (p.take (i + 1)).map fun d => ja c j ++ " " ++ ("in " ++ aV c.bn d)).map L3.D.str).map T.sh)), _, _, _, o8, o9]
     rw [fc hi, sn, ← pre " in " "in " _ rfl, ← a1]
     exact ⟨_, _, rfl⟩
   case f1 =>
   rintro δ ⟨o8, o9, rfl⟩
   rw [aeM]
   have hR2 : (R ++ p.map fun d => ja c j ++ " " ++ ("in " ++ aV c.bn d)).length <= 5200 := by rw [adR, adM]; omega
   generalize R ++ p.map (fun d => ja c j ++ " " ++ ("in " ++ aV c.bn d)) = R2 at hR2 ⊢
   refine jG E.g E.bX (fun i δ => ∃ o8 o9, δ = [some (.sh c.p), some (.sh (.lst (c.bn.map .str))), some (.sh (.lst (c.ns.map .str))), some (.lst (((R2 ++ (q.take i).map fun d => ja c j ++ " " ++ ("out " ++ aV c.bn d)).map .str).map T.sh)), some (.sh (.int j)), some (.sh (.str (ja c j))), some (.sh (.str (xm c j))), o8, o9])
     (nS (kL (kL (v_ E.bI.1) (ah ai) rfl) (aC E.bE) aO)) ?b2 (fun j δ ⟨_, _, e⟩ => by subst e; exact adQ rfl) ?t2 ?f2
   case b2 =>
     show ∃ o8 o9, _ = [_, _, _, some (T.lst (((R2 ++ (q.take 0).map fun d => ja c j ++ " " ++ ("out " ++ aV c.bn d)).map L3.D.str).map T.sh)), _, _, _, o8, o9]
     rw [List.take_zero, ae2, aef]
     exact ⟨_, _, rfl⟩
   case t2 =>
     rintro i d δ hi ⟨o8, o9, rfl⟩
     have hd := (hq.g1 d (ad7 hi)).pr
     have hdl := fF hb hd
     have Fd : (q.take i).length <= 40 := by rw [aeH]; omega
     refine fE E.ia.1 rfl (aM (ah (aM (aC E.gP) (ah aB) (hz (by omega) (by rw [e5]; omega)))) (ah (c_ (c.bn, d) E.gS E.fj (aj (aC E.bf) (aj (aC E.bX) aL)) (by dsimp only [bU]; exact ⟨hb, by rw [OS]; exact hd⟩) rfl)) (hz (by rw [str_len, e5]; omega) (by show (aV c.bn d).length <= _; omega))) rfl (by rw [hle, List.length_append, List.length_map]; omega) (ao ?_)
     show ∃ o8 o9, _ = [_, _, _, some (T.lst (((R2 ++ (q.take (i + 1)).map fun d => ja c j ++ " " ++ ("out " ++ aV c.bn d)).map L3.D.str).map T.sh)), _, _, _, o8, o9]
     rw [fc hi, sn, ← pre " out " "out " _ rfl, ← a1]
     exact ⟨_, _, rfl⟩
   case f2 =>
   rintro δ ⟨o8, o9, rfl⟩
   rw [aeM]
   have hR3 : (R2 ++ q.map fun d => ja c j ++ " " ++ ("out " ++ aV c.bn d)).length <= 5300 := by rw [adR, adM]; omega
   generalize R2 ++ q.map (fun d => ja c j ++ " " ++ ("out " ++ aV c.bn d)) = R3 at hR3 ⊢
   have KD := hc.ow.wl
   dsimp only at KD
   refine jG E.g E.cQ (fun i δ => ∃ o8 o9, δ = [some (.sh c.p), some (.sh (.lst (c.bn.map .str))), some (.sh (.lst (c.ns.map .str))), some (.lst (((R3 ++ (dI c (c.ws.take i) j).map fun t => ja c j ++ " " ++ t).map .str).map T.sh)), some (.sh (.int j)), some (.sh (.str (ja c j))), some (.sh (.str (xm c j))), o8, o9])
     (kM (kL (v_ E.bI.1) (ah ai) rfl)) ?b3 (fun j δ ⟨_, _, e⟩ => by subst e; exact adQ rfl) ?t3 ?f3
   case b3 =>
     show ∃ o8 o9, _ = [_, _, _, some (T.lst (((R3 ++ (dI c (c.ws.take 0) j).map fun t => ja c j ++ " " ++ t).map L3.D.str).map T.sh)), _, _, _, o8, o9]
     rw [show dI c (c.ws.take 0) j = [] from rfl, ae2, aef]
     exact ⟨_, _, rfl⟩
   case t3 =>
     rintro i d δ hi ⟨o8, o9, rfl⟩
     rw [ad8] at hi
     cases ew : c.ws[i]? with
     | none => rw [ew] at hi; cases hi
     | some w =>
       rw [ew] at hi
       cases aeb hi
       have hw := hc.ow.ww w (ad7 ew)
       dsimp only at hw
       have hwt := AG hc hw
       have hwn : (dI c (c.ws.take i) j).length <= 40 := nX hc _ (by rw [aeH]; omega) j
       show fD X CL b _ _ { nx := fun δ => ∃ o8 o9, δ = [_, _, _, some (.lst (((R3 ++ (dI c (c.ws.take (i + 1)) j).map fun t => ja c j ++ " " ++ t).map .str).map T.sh)), _, _, _, o8, o9], rt := _, bk := _, ct := _ }
       rw [fc ew, xK]
       refine c7 (eu (aE (aC E.cQ) (ah ai) rfl) (aC E.bE)).1 (fun hp => ?_) (fun hp => ?_)
       . have hp : w.src = (j : Int) := ad4 hp
         refine fE E.ia.1 rfl (aM (ah (aM (aC E.gP) (ah aB) (hz (by omega) (by rw [es]; omega)))) (ah (c_ (c, w) E.yP E.vE (aj (aC E.bf) (aj (aC E.bC) (aj (aC E.cQ) aL))) (by dsimp only [dZ]; exact ⟨hc, hw⟩) rfl)) (hz (by rw [str_len, es]; omega) (by show (xj c.bn c.ns w).length <= _; omega))) rfl (by rw [hle, List.length_append, List.length_map]; omega) (ao (ao ?_))
         rw [ad0 hp, sn, ← a1]
         exact ⟨_, _, rfl⟩
       . have hp : ¬ w.src = (j : Int) := ad6 hp
         rw [adT hp, aef]
         exact ao (ao ⟨_, _, rfl⟩)
   case f3 =>
   rintro δ ⟨o8, o9, rfl⟩
   rw [adM, aeM]
   exact ao ⟨_, _, _, _, _, rfl⟩
 case fin =>
   rintro δ ⟨o5, o6, o7, o8, o9, rfl⟩
   have e : (dU 0 (c.ks.length : Int).toNat).length = c.es.length := by
     rw [dU, adM, aem, hc.kl]
     omega
   rw [e]
   exact bw (vM E.ia.1) rfl
theorem eH : nq (aq A4) ([("parts", au), ("boxes", au), ("names", au), ("rows", au), ("mood", au), ("blanks", au), ("row", au), ("deed", au), ("way", au), ("range", aF), ("len", aF), ("_law_chain", aF), ("_law_deed_text", aF), ("_law_way_text", aF)]) = true := by decide +kernel
theorem Il : aT ["parts", "boxes", "names", "rows", "mood", "blanks", "row", "deed", "way"] ["parts", "boxes"] (aq A4) := aZ
noncomputable abbrev wk : Stmt := top 35
noncomputable abbrev A5 : Type := L3.D
noncomputable def lS : A5 -> List L3.D := fun d => [d, d]
noncomputable def ic (dd : Nat) : A5 -> Prop := fun d => Sm dd d
noncomputable def lT : A5 -> T := fun d => (.sh (.bl true) : T)
structure QX (X : Cx) (CL : Str -> Addr) (dd : Nat) : Prop extends cE X where
 aU : Ln X 0 "found"
 eZ : Ln X 1 "due"
 KR : Ln X 2 "k"
 aP : Gl X "isinstance"
 cj : Gl X "list"
 kI : Gl X "tuple"
 b4 : Gl X "len"
 eF : Gl X "range"
 jx : Gl X "_law_alike"
 g_bool : Gl X "bool"
 aQ : X.mg "isinstance" = none
 ck : X.mg "list" = none
 kJ : X.mg "tuple" = none
 b5 : X.mg "len" = none
 eG : X.mg "range" = none
 wm : ∀ d', d' < dd -> Fc X CL "_law_alike" (1 + d') 2 lS (ic d') lT
 NR : X.mg "bool" = none
theorem QY {X : Cx} {CL : Str -> Addr} {b : Bx} {dd : Nat} (E : QX X CL dd) (d) (h : ic dd d) :
   aD X CL b wk ["found", "due", "k"] (lS d) (lT d) := by
 dsimp only [aD, ic, lS, lT] at h ⊢
 cases d with
 | int i =>
   refine c7 (Ab (uP (qu (Sb E.aQ E.ck E.aP E.cj (aC E.eZ))) (fun _ => qE (qu (Sd E.aQ E.kJ E.aP E.kI (aC E.eZ)))))) (fun hp => absurd hp (by decide)) (fun _ => ao ?_)
   refine bw (Ac (Lw (isB E.aQ E.NR E.aP E.g_bool (aC E.aU))) (fun hb => (EJ (eu (aC E.aU) (aC E.eZ)).2))) ?_
   simp
 | str i =>
   refine c7 (Ab (uP (qu (Sb E.aQ E.ck E.aP E.cj (aC E.eZ))) (fun _ => qE (qu (Sd E.aQ E.kJ E.aP E.kI (aC E.eZ)))))) (fun hp => absurd hp (by decide)) (fun _ => ao ?_)
   refine bw (Ac (Lw (isB E.aQ E.NR E.aP E.g_bool (aC E.aU))) (fun hb => (EJ (gX (aC E.aU) (aC E.eZ)).2))) ?_
   simp
 | lst ds =>
   obtain ⟨n, rfl⟩ : ∃ n, dd = n + 1 := by
     cases dd with
     | zero => exact absurd h (by intro z; cases z)
     | succ n => exact ⟨n, rfl⟩
   obtain ⟨hl, hd⟩ : ds.length <= 1000 /\ ∀ d ∈ ds, Sm n d := h
   refine c7 (Ab (uP (qu (Sb E.aQ E.ck E.aP E.cj (aC E.eZ))) (fun _ => qE (qu (Sd E.aQ E.kJ E.aP E.kI (aC E.eZ)))))) (fun hp => ?_) (fun hp => absurd hp (by decide))
   refine c7 (Ab (uP (Af (ah (Sb E.aQ E.ck E.aP E.cj (aC E.aU))) (ah (Sb E.aQ E.ck E.aP E.cj (aC E.eZ)))).1 (fun _ => qE (Af (ah (Sd E.aQ E.kJ E.aP E.kI (aC E.aU))) (ah (Sd E.aQ E.kJ E.aP E.kI (aC E.eZ)))).1))) (fun hp => absurd hp (by decide)) (fun _ => ao ?_)
   refine c7 (nR (ah (rZ E.b5 (aC E.aU) E.b4)) (ah (rZ E.b5 (aC E.eZ) E.b4))).1 (fun hp => by simp at hp) (fun _ => ao ?_)
   refine jG E.g E.KR (fun j δ => ∃ o, δ = [some (.sh (.lst ds)), some (.sh (.lst ds)), o])
     (iK E.eG (ah (rZ E.b5 (aC E.eZ) E.b4)) (by omega) E.eF) ⟨_, rfl⟩ (fun j δ ⟨_, e⟩ => by subst e; exact adQ rfl) ?turn ?fin
   case turn =>
     rintro j d δ hj ⟨o, rfl⟩
     obtain ⟨rfl, t7⟩ := lK hj
     have t7 : j < ds.length := by omega
     rw [ae3]
     refine c7 (Ls (qu (c_ ds[j] (E.wm n (by omega)) E.jx (aj (aK (aC E.aU) (aC E.KR) (Au t7)) (aj (aK (aC E.eZ) (aC E.KR) (Au t7)) aL)) (by dsimp only [ic]; exact hd _ (List.getElem_mem _)) rfl))) (fun hp => by cases hp) (fun _ => ao (ao ⟨_, rfl⟩))
   case fin =>
     rintro δ ⟨o, rfl⟩
     exact bw R6 rfl
 | tup ds =>
   obtain ⟨n, rfl⟩ : ∃ n, dd = n + 1 := by
     cases dd with
     | zero => exact absurd h (by intro z; cases z)
     | succ n => exact ⟨n, rfl⟩
   obtain ⟨hl, hd⟩ : ds.length <= 1000 /\ ∀ d ∈ ds, Sm n d := h
   refine c7 (Ab (uP (qu (Sb E.aQ E.ck E.aP E.cj (aC E.eZ))) (fun _ => qE (qu (Sd E.aQ E.kJ E.aP E.kI (aC E.eZ)))))) (fun hp => ?_) (fun hp => absurd hp (by decide))
   refine c7 (Ab (uP (Af (ah (Sb E.aQ E.ck E.aP E.cj (aC E.aU))) (ah (Sb E.aQ E.ck E.aP E.cj (aC E.eZ)))).1 (fun _ => qE (Af (ah (Sd E.aQ E.kJ E.aP E.kI (aC E.aU))) (ah (Sd E.aQ E.kJ E.aP E.kI (aC E.eZ)))).1))) (fun hp => absurd hp (by decide)) (fun _ => ao ?_)
   refine c7 (nR (ah (r6 E.b5 (aC E.aU) E.b4)) (ah (r6 E.b5 (aC E.eZ) E.b4))).1 (fun hp => by simp at hp) (fun _ => ao ?_)
   refine jG E.g E.KR (fun j δ => ∃ o, δ = [some (.sh (.tup ds)), some (.sh (.tup ds)), o])
     (iK E.eG (ah (r6 E.b5 (aC E.eZ) E.b4)) (by omega) E.eF) ⟨_, rfl⟩ (fun j δ ⟨_, e⟩ => by subst e; exact adQ rfl) ?turn ?fin
   case turn =>
     rintro j d δ hj ⟨o, rfl⟩
     obtain ⟨rfl, t7⟩ := lK hj
     have t7 : j < ds.length := by omega
     rw [ae3]
     refine c7 (Ls (qu (c_ ds[j] (E.wm n (by omega)) E.jx (aj (aE (aC E.aU) (aC E.KR) (Au t7)) (aj (aE (aC E.eZ) (aC E.KR) (Au t7)) aL)) (by dsimp only [ic]; exact hd _ (List.getElem_mem _)) rfl))) (fun hp => by cases hp) (fun _ => ao (ao ⟨_, rfl⟩))
   case fin =>
     rintro δ ⟨o, rfl⟩
     exact bw R6 rfl
 | non => exact absurd h (by intro z; cases dd <;> cases z)
 | bl _ => exact absurd h (by intro z; cases dd <;> cases z)
 | ins _ _ => exact absurd h (by intro z; cases dd <;> cases z)
 | any => exact absurd h (by intro z; cases dd <;> cases z)
 | yF _ => exact absurd h (by intro z; cases dd <;> cases z)
 | val _ => exact absurd h (by intro z; cases dd <;> cases z)
theorem fP : nq (aq wk) ([("found", au), ("due", au), ("k", au), ("isinstance", aF), ("list", aF), ("tuple", aF), ("len", aF), ("range", aF), ("_law_alike", aF), ("bool", aF)]) = true := by decide +kernel
theorem Dl : aT ["found", "due", "k"] ["found", "due"] (aq wk) := aZ
noncomputable abbrev s_same : Stmt := top 36
noncomputable abbrev FN : Type := List L3.D × List Str × List Str × List Int × List Int × List L3.D × List L3.D × List L3.D
noncomputable def tF : FN -> List L3.D := fun (bs, ns, ks, es, ss, is, os, ws) => [E1 bs (ns.map .str) (zE ks es ss) is os ws, qK bs ns ks es ss is os ws]
noncomputable def tG : FN -> Prop := fun (bs, ns, ks, es, ss, is, os, ws) => Sm 8 (qK bs ns ks es ss is os ws)
noncomputable def tH : FN -> T := fun (bs, ns, ks, es, ss, is, os, ws) => (.sh (.bl true) : T)
structure Vq (X : Cx) (CL : Str -> Addr) : Prop extends cE X where
 aN : Ln X 0 "chart"
 bI : Ln X 1 "parts"
 gF : Ln X 2 "tree"
 aU : Ln X 3 "found"
 jx : Gl X "_law_alike"
 wm : Fc X CL "_law_alike" 9 2 lS (ic 8) lT
 aW : uN X.K (CL "Chart")
 gf : uN X.K (CL "Tree")
 c6 : aS X.K (CL "Chart") "tree"
 cu : aS X.K (CL "Chart") "boxes"
 bY : aS X.K (CL "Chart") "names"
 gD : aS X.K (CL "Tree") "kinds"
 ek : aS X.K (CL "Tree") "elders"
 fG : aS X.K (CL "Tree") "starts"
 iV : aS X.K (CL "Chart") "ins"
 gG : aS X.K (CL "Chart") "outs"
 gH : aS X.K (CL "Chart") "ways"
theorem Vr {X : Cx} {CL : Str -> Addr} {b : Bx} (E : Vq X CL) (bs ns ks es ss is os ws) (h : tG (bs, ns, ks, es, ss, is, os, ws)) :
   aD X CL b s_same ["chart", "parts", "tree", "found"] (tF (bs, ns, ks, es, ss, is, os, ws)) (tH (bs, ns, ks, es, ss, is, os, ws)) := by
 dsimp only [aD, tG, tF, tH] at h ⊢
 refine aJ E.g E.gF (gZ E.aW E.c6 (v_ E.aN.1) mw) ?_
 refine aJ E.g E.aU (cA (HB (ay (gZ E.aW E.cu (v_ E.aN.1) j3) (ay (gZ E.aW E.bY (v_ E.aN.1) iO) (ay (gZ E.gf E.gD (v_ E.gF.1) wU) (ay (gZ E.gf E.ek (v_ E.gF.1) nU) (ay (gZ E.gf E.fG (v_ E.gF.1) uW)
   (ay (gZ E.aW E.iV (v_ E.aN.1) zF) (ay (gZ E.aW E.gG (v_ E.aN.1) wV) (ay (gZ E.aW E.gH (v_ E.aN.1) wW) bu))))))))) (t2 := .sh (qK bs ns ks es ss is os ws)) rfl) ?_
 exact bw (c_ (qK bs ns ks es ss is os ws) E.wm E.jx (aj (aC E.aU) (aj (aC E.bI) aL)) h rfl) rfl
theorem tK : nq (aq s_same) ([("chart", au), ("parts", au), ("tree", au), ("found", au), ("_law_alike", aF)]) = true := by decide +kernel
theorem Im : aT ["chart", "parts", "tree", "found"] ["chart", "parts"] (aq s_same) := aZ
noncomputable def YS (s : List Int) : CH := ⟨uv s, Wa s, eS (cT s) (Em s) (cT s).length, cT s, ez (cT s) (Em s) (cT s).length, (CQ s).is, (CQ s).os, (CQ s).ws⟩
theorem Io (nb nm : Nat) (ns : List Str) : ∀ (l : List (Int × Int)) (o : OW), (l.foldl (jJ nb nm ns) o).is.length = o.is.length + kN l
 | [], o => rfl
 | p :: r, o => by
   have e : (jJ nb nm ns o p).is.length = o.is.length + (if p.1 % 8 < 3 then 1 else 0) := by
     unfold jJ
     split
     . show (o.is ++ [[]]).length = _
       rw [adR, ad9]
     split
     . show (jI o.is _).length = _
       rw [jI, ae8]
       rfl
     split
     . rfl
     split
     . rfl
     split <;> rfl
   rw [List.foldl_cons, Io nb nm ns r, e, kN]
   omega
theorem Dm (es cs : List Int) {n m : Nat} (h : m < n) : (eS es cs n).getD m Str.empty = kindB es cs m /\ (ez es cs n).getD m 0 = nu es cs m := by
 unfold eS ez
 rw [adS, adS, ad8, ad8, aeO h]
 exact ⟨rfl, rfl⟩
theorem Vs (s : List Int) : g6 (YS s) := by
 obtain ⟨e0, e1, e2⟩ := sN s
 refine ⟨Ik s, qI _ _ _, qJ _ _ _, ?_, e0, e1, (As (ji s)).1, Vf s, xE s, fun p hp => ⟨QC s p hp, ?_⟩, fun x hx => ?_, fun m hm => ?_, Fl s⟩
 . show (CQ s).is.length = (MC (ji s)).length
   rw [(As (ji s)).2]
   exact Io _ _ _ (ji s) KP
 . obtain ⟨k, _, rfl⟩ := aed.mp hp
   exact MJ _
 . obtain ⟨k, _, rfl⟩ := aed.mp hx
   unfold kindB
   split
   . decide +kernel
   split <;> decide +kernel
 . show ((eS (cT s) (Em s) (cT s).length).getD m Str.empty = "one" -> 0 <= (ez (cT s) (Em s) (cT s).length).getD m 0 /\ (ez (cT s) (Em s) (cT s).length).getD m 0 < (cT s).length) /\ ((eS (cT s) (Em s) (cT s).length).getD m Str.empty ≠ "one" -> (ez (cT s) (Em s) (cT s).length).getD m 0 = -1)
   have hm : m < (cT s).length := hm
   rw [(Dm _ _ hm).1, (Dm _ _ hm).2]
   generalize cT s = es at hm ⊢
   generalize Em s = cs
   unfold kindB nu
   split
   . exact ⟨fun z => absurd z (by decide +kernel), fun _ => rfl⟩
   split
   . exact ⟨fun z => absurd z (by decide +kernel), fun _ => rfl⟩
   . rename_i hz _
     refine ⟨fun _ => ?_, fun z => absurd rfl z⟩
     have Va : 0 < (vv es m).length := ae5.mpr hz
     have b1 := aep (cs.getD m 0 / 2) (b := ((vv es m).length : Nat)) (by omega)
     have b2 := aeg (cs.getD m 0 / 2) (b := ((vv es m).length : Nat)) (by omega)
     have := Qo (getD_mem (l := vv es m) (n := (cs.getD m 0 / 2 % ((vv es m).length : Nat)).toNat) (by omega))
     exact ⟨this.1, this.2.1⟩
noncomputable abbrev Ip : Stmt := top 42
noncomputable abbrev NS : Type := List Int
noncomputable def qj : NS -> List L3.D := fun a => [.lst (a.map .int)]
noncomputable def qk : NS -> Prop := fun a => a.length <= 63
noncomputable def ql : NS -> T := fun a => (.sh (.bl true) : T)
structure XZ (X : Cx) (CL : Str -> Addr) : Prop extends cE X where
 dm : Ln X 0 "script"
 bI : Ln X 1 "parts"
 aN : Ln X 2 "chart"
 aU : Ln X 3 "found"
 eZ : Ln X 4 "due"
 vG : Gl X "_law_parts_by"
 vH : Gl X "_law_chart_by"
 A6 : Gl X "shown"
 Dn : Gl X "_law_rows"
 aP : Gl X "isinstance"
 ve : Gl X "str"
 Dp : Gl X "_law_same"
 FP : Fc X CL "_law_parts_by" 4 1 jj jk jl
 FQ : Fc X CL "_law_chart_by" 3 1 jo gI jq
 QZ : Fc X CL "shown" 5 1 qf qg qh
 Vt : Fc X CL "_law_rows" 4 2 tu tD tE
 aQ : X.mg "isinstance" = none
 qA : X.mg "str" = none
 Vu : Fc X CL "_law_same" 10 2 tF tG tH
theorem X3 {X : Cx} {CL : Str -> Addr} {b : Bx} (E : XZ X CL) (a) (h : qk a) :
   aD X CL b Ip ["script", "parts", "chart", "found", "due"] (qj a) (ql a) := by
 dsimp only [aD, qk, qj, ql] at h ⊢
 have hs : a.length <= 1000 := by omega
 refine aJ E.g E.bI (cA (cF a E.FP E.vG (ay (v_ E.dm.1) bu) hs) (t2 := .sh (YS a).p) rfl) ?_
 have YJ : Sm 8 (YS a).p := Nn a
 have hc := Vs a
 generalize YS a = c at YJ hc ⊢
 have im0 := Nm c.bs
 have im1 := vY hc.ow.ii
 have im2 := vY hc.ow.oo
 have im3 := HY hc.ow.ww
 dsimp only at im1 im2 im3
 refine aJ E.g E.aN (vS (d := c.d) (c_ (c.bs.map ua, c.ns, c.ks, c.es, c.ss, c.is.map L3.D.tup, c.os.map L3.D.tup, c.ws.map WY.d) E.FQ E.vH (aj (aC E.bI) aL) (by dsimp only [gI]; exact ⟨im0, im1, im2, im3⟩) (by
   show T.bB (mz _ _ _ _ _ _) = true
   exact AF im0 (lM _) (uY _ _ _) im1 im2 im3)) (by
   show T.d7 (.ins "Chart" (mz _ _ _ _ _ _)) = _
   rw [E2, Jz]
   rfl)) ?_
 refine aJ E.g E.aU (c_ c E.QZ E.A6 (aj (aC E.aN) aL) hc rfl) ?_
 refine aJ E.g E.eZ (j0 (l := gU c c.es.length) (ah aB) (bS (c_ c E.Vt E.Dn (aj (aC E.bI) (aj (bS (cA (pR (p := fun _ => true) (g := fun d => .sh d.V7) (cP .nil (by decide +kernel)) E.g.calm (kM (kL (v_ E.bI.1) (ah ai) rfl)) (.inr rfl) (fun C s0 H0 f0 b' d hd => ?ja) (aeB (bz (by rw [adM]; have := hc.b3; omega)))) (t2 := .lst ((c.bn.map .str).map T.sh)) ?eq)) aL)) hc (gb _))) (all_join hc)) ?rest
 case ja =>
   obtain ⟨p, hp, rfl⟩ := aed.mp hd
   exact ⟨rfl, fun _ => bq (aE (ah (v_ (dN (i := 0) rfl (by decide +kernel)))) (ah ai) rfl) rfl⟩
 case eq =>
   rw [dH, aei, CH.bn, aei, aei]
   rfl
 case rest =>
 refine bw (Ac (isS E.aQ E.qA E.aP E.ve (aC E.aU)) (fun _ => Ac (gX (aC E.aU) (aC E.eZ)).2 (fun _ => EJ (c_ (c.bs.map ua, c.ns, c.ks, c.es, c.ss, c.is.map L3.D.tup, c.os.map L3.D.tup, c.ws.map WY.d) E.Vu E.Dp (aj (aC E.aN) (aj (aC E.bI) aL)) YJ rfl)))) ?_
 rw [afo rfl]
 rfl
theorem i6 : nq (aq Ip) ([("script", au), ("parts", au), ("chart", au), ("found", au), ("due", au), ("_law_parts_by", aF), ("_law_chart_by", aF), ("shown", aF), ("_law_rows", aF), ("isinstance", aF), ("str", aF), ("_law_same", aF)]) = true := by decide +kernel
theorem NT : aT ["script", "parts", "chart", "found", "due"] ["script"] (aq Ip) := aZ
noncomputable def cl (ak av : Addr) : Str -> Addr := fun c => if c = "Chart" then ak else if c = "Tree" then av else 0
theorem gT {ak av : Addr} : cl ak av "Chart" = ak := by unfold cl; rw [ad0 rfl]
theorem qm {ak av : Addr} : cl ak av "Tree" = av := by unfold cl; rw [adT (by decide +kernel)]; rw [ad0 rfl]
theorem Vv {ak av : Addr} {x : Str} (h : Hw x = true) : cl ak av x = 0 := by unfold cl; rw [adT (fun e => by rw [e] at h; exact absurd h (by decide +kernel))]; rw [adT (fun e => by rw [e] at h; exact absurd h (by decide +kernel))]
noncomputable def X4 {α : Type} : Nat -> (List α -> Prop) -> Prop
 | 0, P => P []
 | n + 1, P => ∀ a, X4 n fun r => P (a :: r)
theorem bM {α : Type} {n : Nat} {P : List α -> Prop} (h : X4 n P) : ∀ us : List α, us.length = n -> P us := by
 intro us hl
 induction us generalizing n P with
 | nil => subst hl; exact h
 | cons a r ih => subst hl; exact ih (P := fun r => P (a :: r)) (h a) rfl
theorem all_mk {l : PySem.W.OpenLaw} {w : World} {K : PySem.W.Frag} {h : Heap} {mg : Str -> Option Value} {fa uy A7 oJ uz qX qY oK uA xQ xR uB qZ kK jy q8 xS oM rg oN rm oO A8 A9 oQ Ba jR jS kY kZ FT Bb FU Sv ak av : Addr} (XX : K.In h) (G : h.Ns mainGlobals mg) (hfa : mg "law" = some (.ref fa))
   {JW Q0 Dq JX FW FY Dr JY NV NW JZ FZ Ds Bc F0 sU eW F2 Dt qV oE A1 A3 oF A6 xT xU yQ yR Vw Iq g_same Sw : FuncData}
   (Bd : PySem.W.nsIn K mainGlobals "Chart" = some (some (.ref ak))) (xV : PySem.W.plainGet K ak Str.empty = true) (xW : PySem.W.hasDictIn K ak = true) (xX : PySem.W.plainOver K ak = true) (xY : PySem.W.findIn K (.ref ak) "__setattr__" = some (some (.builtin "object.__setattr__"))) (xZ : PySem.W.makesIn K ak = true) (x6 : PySem.W.keepIn K (.ref ak) = true)
   (k6 : PySem.W.findIn K (.ref ak) "boxes" = some none)
   (k7 : PySem.W.findIn K (.ref ak) "names" = some none)
   (mY : PySem.W.findIn K (.ref ak) "tree" = some none)
   (oR : PySem.W.findIn K (.ref ak) "ins" = some none)
   (mZ : PySem.W.findIn K (.ref ak) "outs" = some none)
   (m5 : PySem.W.findIn K (.ref ak) "ways" = some none)
   (F3 : PySem.W.nsIn K mainGlobals "Tree" = some (some (.ref av))) (Be : PySem.W.plainGet K av Str.empty = true) (Bf : PySem.W.hasDictIn K av = true) (Bg : PySem.W.plainOver K av = true) (Bh : PySem.W.findIn K (.ref av) "__setattr__" = some (some (.builtin "object.__setattr__"))) (Bj : PySem.W.makesIn K av = true) (Bk : PySem.W.keepIn K (.ref av) = true)
   (m7 : PySem.W.findIn K (.ref av) "kinds" = some none)
   (k8 : PySem.W.findIn K (.ref av) "elders" = some none)
   (k9 : PySem.W.findIn K (.ref av) "starts" = some none)
   (uC : PySem.W.nsIn K mainGlobals "_law_cell_at" = some (some (.ref uy))) (uD : lU K "_law_cell_at" "_law_cell_at" pX uy JW)
   (Bl : PySem.W.nsIn K mainGlobals "_law_chain" = some (some (.ref A7))) (Bm : lU K "_law_chain" "_law_chain" v8 A7 Q0)
   (oS : PySem.W.nsIn K mainGlobals "_law_elders_by" = some (some (.ref oJ))) (oU : lU K "_law_elders_by" "_law_elders_by" j6 oJ Dq)
   (uE : PySem.W.nsIn K mainGlobals "_law_name_by" = some (some (.ref uz))) (uF : lU K "_law_name_by" "_law_name_by" pZ uz JX)
   (rq : PySem.W.nsIn K mainGlobals "_law_names_by" = some (some (.ref qX))) (rz : lU K "_law_names_by" "_law_names_by" mG qX FW)
   (rA : PySem.W.nsIn K mainGlobals "_law_kinds_by" = some (some (.ref qY))) (rB : lU K "_law_kinds_by" "_law_kinds_by" mH qY FY)
   (oV : PySem.W.nsIn K mainGlobals "_law_number_by" = some (some (.ref oK))) (oW : lU K "_law_number_by" "_law_number_by" kg oK Dr)
   (uG : PySem.W.nsIn K mainGlobals "_law_deed_by" = some (some (.ref uA))) (uH : lU K "_law_deed_by" "_law_deed_by" p8 uA JY)
   (x8 : PySem.W.nsIn K mainGlobals "_law_way_by" = some (some (.ref xQ))) (x9 : lU K "_law_way_by" "_law_way_by" sJ xQ NV)
   (yb : PySem.W.nsIn K mainGlobals "_law_ask_by" = some (some (.ref xR))) (yc : lU K "_law_ask_by" "_law_ask_by" sM xR NW)
   (uI : PySem.W.nsIn K mainGlobals "_law_owns_by" = some (some (.ref uB))) (uJ : lU K "_law_owns_by" "_law_owns_by" p9 uB JZ)
   (rC : PySem.W.nsIn K mainGlobals "_law_parts_by" = some (some (.ref qZ))) (rD : lU K "_law_parts_by" "_law_parts_by" mQ qZ FZ)
   (oX : PySem.W.findIn K (.ref av) "__init__" = some (some (.ref kK))) (oY : PySem.W.isFn K (.ref kK) = true) (vh : lU K "__init__" "Tree.__init__" ku kK Ds)
   (m8 : PySem.W.findIn K (.ref ak) "__init__" = some (some (.ref jy))) (m9 : PySem.W.isFn K (.ref jy) = true) (tL : lU K "__init__" "Chart.__init__" jm jy Bc)
   (rE : PySem.W.nsIn K mainGlobals "_law_chart_by" = some (some (.ref q8))) (rG : lU K "_law_chart_by" "_law_chart_by" mS q8 F0)
   (yd : PySem.W.nsIn K mainGlobals "linked" = some (some (.ref xS))) (ye : lU K "linked" "linked" sP xS sU)
   (oZ : PySem.W.nsIn K mainGlobals "term_text" = some (some (.ref oM))) (pe : lU K "term_text" "term_text" kC oM eW)
   (rH : PySem.W.nsIn K mainGlobals "ask_text" = some (some (.ref rg))) (rJ : lU K "ask_text" "ask_text" mW rg F2)
   (pA : PySem.W.nsIn K mainGlobals "deed_text" = some (some (.ref oN))) (pB : lU K "deed_text" "deed_text" kE oN Dt)
   (rK : PySem.W.nsIn K mainGlobals "way_text" = some (some (.ref rm))) (rL : lU K "way_text" "way_text" mX rm qV)
   (pC : PySem.W.nsIn K mainGlobals "own_texts" = some (some (.ref oO))) (pD : lU K "own_texts" "own_texts" kG oO oE)
   (Bo : PySem.W.nsIn K mainGlobals "above" = some (some (.ref A8))) (Bp : lU K "above" "above" wc A8 A1)
   (Bq : PySem.W.nsIn K mainGlobals "depth" = some (some (.ref A9))) (Br : lU K "depth" "depth" wg A9 A3)
   (pF : PySem.W.nsIn K mainGlobals "mood_text" = some (some (.ref oQ))) (pG : lU K "mood_text" "mood_text" kH oQ oF)
   (Bs : PySem.W.nsIn K mainGlobals "shown" = some (some (.ref Ba))) (Bt : lU K "shown" "shown" wj Ba A6)
   (jT : PySem.W.nsIn K mainGlobals "_law_term_text" = some (some (.ref jR))) (jU : lU K "_law_term_text" "_law_term_text" gQ jR xT)
   (jV : PySem.W.nsIn K mainGlobals "_law_deed_text" = some (some (.ref jS))) (jW : lU K "_law_deed_text" "_law_deed_text" gR jS xU)
   (lu : PySem.W.nsIn K mainGlobals "_law_ask_text" = some (some (.ref kY))) (ly : lU K "_law_ask_text" "_law_ask_text" iI kY yQ)
   (lz : PySem.W.nsIn K mainGlobals "_law_way_text" = some (some (.ref kZ))) (lA : lU K "_law_way_text" "_law_way_text" iJ kZ yR)
   (F4 : PySem.W.nsIn K mainGlobals "_law_rows" = some (some (.ref FT))) (F5 : lU K "_law_rows" "_law_rows" A4 FT Vw)
   (Bu : PySem.W.nsIn K mainGlobals "_law_alike" = some (some (.ref Bb))) (wo : lU K "_law_alike" "_law_alike" wk Bb Iq)
   (F6 : PySem.W.nsIn K mainGlobals "_law_same" = some (some (.ref FU))) (F7 : lU K "_law_same" "_law_same" s_same FU g_same)
   (Ir : PySem.W.nsIn K mainGlobals "law" = some (some (.ref Sv))) (NX : lU K "law" "law" Ip Sv Sw)
   (NZ : PySem.W.nsIn K mainGlobals "len" = some none)
   (Bv : PySem.W.nsIn K mainGlobals "range" = some none)
   (N1 : PySem.W.nsIn K mainGlobals "min" = some none)
   (F8 : PySem.W.nsIn K mainGlobals "list" = some none)
   (N2 : PySem.W.nsIn K mainGlobals "str" = some none)
   {Q5 : Tok} (F9 : PySem.W.nsIn K mainGlobals "SIGN" = some (some (.int 1 Q5)))
   {Q6 : Tok} (Ga : PySem.W.nsIn K mainGlobals "ASKS" = some (some (.int 2 Q6)))
   {N3 : Tok} (Bw : PySem.W.nsIn K mainGlobals "DEEDS" = some (some (.int 3 N3)))
   {J1 : Tok} (yf : PySem.W.nsIn K mainGlobals "TARGET" = some (some (.int 4 J1)))
   {Q7 : Tok} (Gb : PySem.W.nsIn K mainGlobals "MODE" = some (some (.int 5 Q7)))
   (N4 : PySem.W.nsIn K mainGlobals "zip" = some none)
   {J2 : Tok} (yg : PySem.W.nsIn K mainGlobals "SOURCE" = some (some (.int 0 J2)))
   (pH : PySem.W.nsIn K mainGlobals "enumerate" = some none)
   (N5 : PySem.W.nsIn K mainGlobals "int" = some none)
   (N6 : PySem.W.nsIn K mainGlobals "abs" = some none)
   (ng : PySem.W.nsIn K mainGlobals "isinstance" = some none)
   (By : PySem.W.nsIn K mainGlobals "tuple" = some none)
   (y_bool : PySem.W.nsIn K mainGlobals "bool" = some none)
   : ∃ fd : FuncData, (∀ (s : Shared) (v : Value), BindsTo s fd ⟨[v], []⟩ [("script", v)]) /\ ∀ base : Heap, K.In base -> base.Ns mainGlobals mg -> b8 l.prog w K mg base iY 11 fa fd ["script"] (lE K (fun _ => 0) 1 qj qk ql) := by
 have e := hfa.symm.trans (ad1 XX G Ir)
 cases e
 have J3 := ad1 XX G uC
 have J4 := uD.binds (ps := ["script", "k"]) fun _ _ _ _ _ _ => by refine bM ?_; exact fun _ _ => rfl
 have Q8 := ad1 XX G Bl
 have Q9 := Bm.binds (ps := ["elders", "mood"]) fun _ _ _ _ _ _ => by refine bM ?_; exact fun _ _ => rfl
 have Du := ad1 XX G oS
 have Dv := oU.binds (ps := ["items"]) fun _ _ _ _ _ _ => by refine bM ?_; exact fun _ => rfl
 have J5 := ad1 XX G uE
 have J6 := uF.binds (ps := ["number", "used"]) fun _ _ _ _ _ _ => by refine bM ?_; exact fun _ _ => rfl
 have Gd := ad1 XX G rq
 have Ge := rz.binds (ps := ["script", "many"]) fun _ _ _ _ _ _ => by refine bM ?_; exact fun _ _ => rfl
 have Gf := ad1 XX G rA
 have Gg := rB.binds (ps := ["elders", "cells"]) fun _ _ _ _ _ _ => by refine bM ?_; exact fun _ _ => rfl
 have Dw := ad1 XX G oV
 have Dy := oW.binds (ps := ["cell"]) fun _ _ _ _ _ _ => by refine bM ?_; exact fun _ => rfl
 have J7 := ad1 XX G uG
 have J8 := uH.binds (ps := ["item", "boxes", "names"]) fun _ _ _ _ _ _ => by refine bM ?_; exact fun _ _ _ => rfl
 have N7 := ad1 XX G x8
 have N8 := x9.binds (ps := ["item", "source", "many", "names"]) fun _ _ _ _ _ _ => by refine bM ?_; exact fun _ _ _ _ => rfl
 have N9 := ad1 XX G yb
 have Oa := yc.binds (ps := ["item", "boxes", "many"]) fun _ _ _ _ _ _ => by refine bM ?_; exact fun _ _ _ => rfl
 have J9 := ad1 XX G uI
 have Ka := uJ.binds (ps := ["items", "boxes", "many", "names"]) fun _ _ _ _ _ _ => by refine bM ?_; exact fun _ _ _ _ => rfl
 have Gh := ad1 XX G rC
 have Gi := rD.binds (ps := ["script"]) fun _ _ _ _ _ _ => by refine bM ?_; exact fun _ => rfl
 have Dz := vh.binds (ps := ["self", "kinds", "elders", "starts"]) fun _ _ _ _ _ _ => by refine bM ?_; exact fun _ _ _ _ => rfl
 have BD := tL.binds (ps := ["self", "boxes", "names", "tree", "ins", "outs", "ways"]) fun _ _ _ _ _ _ => by refine bM ?_; exact fun _ _ _ _ _ _ _ => rfl
 have Gj := ad1 XX G rE
 have Gk := rG.binds (ps := ["parts"]) fun _ _ _ _ _ _ => by refine bM ?_; exact fun _ => rfl
 have Ob := ad1 XX G yd
 have Oc := ye.binds (ps := ["first", "further", "texts"]) fun _ _ _ _ _ _ => by refine bM ?_; exact fun _ _ _ => rfl
 have DB := ad1 XX G oZ
 have DC := pe.binds (ps := ["chart", "term"]) fun _ _ _ _ _ _ => by refine bM ?_; exact fun _ _ => rfl
 have Gm := ad1 XX G rH
 have Gn := rJ.binds (ps := ["chart", "ask"]) fun _ _ _ _ _ _ => by refine bM ?_; exact fun _ _ => rfl
 have DE := ad1 XX G pA
 have DF := pB.binds (ps := ["chart", "deed"]) fun _ _ _ _ _ _ => by refine bM ?_; exact fun _ _ => rfl
 have Gp := ad1 XX G rK
 have Gq := rL.binds (ps := ["chart", "way"]) fun _ _ _ _ _ _ => by refine bM ?_; exact fun _ _ => rfl
 have DG := ad1 XX G pC
 have DH := pD.binds (ps := ["chart"]) fun _ _ _ _ _ _ => by refine bM ?_; exact fun _ => rfl
 have Ra := ad1 XX G Bo
 have Rb := Bp.binds (ps := ["tree", "mood"]) fun _ _ _ _ _ _ => by refine bM ?_; exact fun _ _ => rfl
 have Rc := ad1 XX G Bq
 have Rf := Br.binds (ps := ["tree", "mood"]) fun _ _ _ _ _ _ => by refine bM ?_; exact fun _ _ => rfl
 have DI := ad1 XX G pF
 have DJ := pG.binds (ps := ["chart", "mood"]) fun _ _ _ _ _ _ => by refine bM ?_; exact fun _ _ => rfl
 have Rg := ad1 XX G Bs
 have Rh := Bt.binds (ps := ["chart"]) fun _ _ _ _ _ _ => by refine bM ?_; exact fun _ => rfl
 have yh := ad1 XX G jT
 have yi := jU.binds (ps := ["boxes", "term"]) fun _ _ _ _ _ _ => by refine bM ?_; exact fun _ _ => rfl
 have yj := ad1 XX G jV
 have yk := jW.binds (ps := ["boxes", "deed"]) fun _ _ _ _ _ _ => by refine bM ?_; exact fun _ _ => rfl
 have yS := ad1 XX G lu
 have yT := ly.binds (ps := ["boxes", "names", "ask"]) fun _ _ _ _ _ _ => by refine bM ?_; exact fun _ _ _ => rfl
 have yU := ad1 XX G lz
 have yV := lA.binds (ps := ["boxes", "names", "way"]) fun _ _ _ _ _ _ => by refine bM ?_; exact fun _ _ _ => rfl
 have Vx := ad1 XX G F4
 have Vy := F5.binds (ps := ["parts", "boxes"]) fun _ _ _ _ _ _ => by refine bM ?_; exact fun _ _ => rfl
 have Iu := ad1 XX G Bu
 have Iv := wo.binds (ps := ["found", "due"]) fun _ _ _ _ _ _ => by refine bM ?_; exact fun _ _ => rfl
 have Vz := ad1 XX G F6
 have VA := F7.binds (ps := ["chart", "parts"]) fun _ _ _ _ _ _ => by refine bM ?_; exact fun _ _ => rfl
 have abF := ad1 XX G Ir
 have abG := NX.binds (ps := ["script"]) fun _ _ _ _ _ _ => by refine bM ?_; exact fun _ => rfl
 have Ri := ad1 XX G Bd
 have aW : uN K ak := ⟨xV, xW, xX, xY⟩
 have jz : uN K ((cl ak av) "Chart") := by rw [gT]; exact aW
 have fQ : aS K ((cl ak av) "Chart") "boxes" := by rw [gT]; exact k6
 have fS : aS K ((cl ak av) "Chart") "names" := by rw [gT]; exact k7
 have jA : aS K ((cl ak av) "Chart") "tree" := by rw [gT]; exact mY
 have pI : aS K ((cl ak av) "Chart") "ins" := by rw [gT]; exact oR
 have nh : aS K ((cl ak av) "Chart") "outs" := by rw [gT]; exact mZ
 have ni : aS K ((cl ak av) "Chart") "ways" := by rw [gT]; exact m5
 have VB := ad1 XX G F3
 have gf : uN K av := ⟨Be, Bf, Bg, Bh⟩
 have BE : uN K ((cl ak av) "Tree") := by rw [qm]; exact gf
 have nj : aS K ((cl ak av) "Tree") "kinds" := by rw [qm]; exact m7
 have lB : aS K ((cl ak av) "Tree") "elders" := by rw [qm]; exact k8
 have lC : aS K ((cl ak av) "Tree") "starts" := by rw [qm]; exact k9
 have nE := aeF XX G NZ
 have qo := aeF XX G Bv
 have X5 := aeF XX G N1
 have BF := aeF XX G F8
 have Iw := aeF XX G N2
 have VC : ∃ u, mg "SIGN" = some (.int 1 u) := ⟨_, ad1 XX G F9⟩
 have VD : ∃ u, mg "ASKS" = some (.int 2 u) := ⟨_, ad1 XX G Ga⟩
 have Rj : ∃ u, mg "DEEDS" = some (.int 3 u) := ⟨_, ad1 XX G Bw⟩
 have Od : ∃ u, mg "TARGET" = some (.int 4 u) := ⟨_, ad1 XX G yf⟩
 have VF : ∃ u, mg "MODE" = some (.int 5 u) := ⟨_, ad1 XX G Gb⟩
 have X6 := aeF XX G N4
 have Oe : ∃ u, mg "SOURCE" = some (.int 0 u) := ⟨_, ad1 XX G yg⟩
 have DK := aeF XX G pH
 have X7 := aeF XX G N5
 have X8 := aeF XX G N6
 have tM := aeF XX G ng
 have Rk := aeF XX G By
 have VG := aeF XX G y_bool
 refine ⟨Sw, ?bind, fun base _ _ => ?_⟩
 case bind =>
   obtain ⟨oc, od, kV, doc, pm, an, fk, ct, Lc, rfl, lk, nI⟩ := NX.ex
   exact fun s v => .of_eq rfl
 have Kc : b8 l.prog w K mg base iY 1 uy _ ["script", "k"] (lE K (cl ak av) 2 iQ iR iS) := bx uD xo fun fk Ar outer s H E b a hr hp => by
   obtain ⟨p0, p1⟩ := a; refine JG ?_ p0 p1 hp
   exact ⟨⟨⟨xo.nd, rfl, rfl⟩, hr.units⟩, bA qO 0, bA qO 1, dW qO 2, nE⟩
 have zN := cU Kc J3 uD.kp J4
 have Rl : b8 l.prog w K mg base iY 1 A7 _ ["elders", "mood"] (lE K (cl ak av) 2 lN lO lP) := bx Bm CF fun fk Ar outer s H E b a hr hp => by
   obtain ⟨p0, p1⟩ := a; refine QB ?_ p0 p1 hp
   exact ⟨⟨⟨CF.nd, rfl, rfl⟩, hr.units⟩, bA sE 0, bA sE 1, bA sE 2, bA sE 3⟩
 have Iz := cU Rl Q8 Bm.kp Q9
 have DL : b8 l.prog w K mg base iY 2 oJ _ ["items"] (lE K (cl ak av) 1 iA iB iC) := bx oU sF fun fk Ar outer s H E b a hr hp => by
   refine CJ ?_ a hp
   exact ⟨⟨⟨sF.nd, rfl, rfl⟩, hr.units⟩, bA dP 0, bA dP 1, bA dP 2, bA dP 3, bA dP 4, dW dP 5, dW dP 6, nE, dX Iz hr⟩
 have DM := cU DL Du oU.kp Dv
 have Kd : b8 l.prog w K mg base iY 1 uz _ ["number", "used"] (lE K (cl ak av) 2 j8 iT j9) := bx uF xr fun fk Ar outer s H E b a hr hp => by
   obtain ⟨p0, p1⟩ := a; refine JK ?_ p0 p1 hp
   exact ⟨⟨⟨xr.nd, rfl, rfl⟩, hr.units⟩, bA dQ 0, bA dQ 1, bA dQ 2, bA dQ 3, bA dQ 4, bA dQ 5, bA dQ 6, dW dQ 7, dW dQ 8, qo, nE⟩
 have Ke := cU Kd J5 uF.kp J6
 have Gr : b8 l.prog w K mg base iY 2 qX _ ["script", "many"] (lE K (cl ak av) 2 jd je jf) := bx rz u5 fun fk Ar outer s H E b a hr hp => by
   obtain ⟨p0, p1⟩ := a; refine Ff ?_ p0 p1 hp
   exact ⟨⟨⟨u5.nd, rfl, rfl⟩, hr.units⟩, bA c5 0, bA c5 1, bA c5 2, bA c5 3, bA c5 4, bA c5 5, dW c5 6, dW c5 7, dW c5 8, dX zN hr, qo, dX Ke hr⟩
 have Gs := cU Gr Gd rz.kp Ge
 have Gu : b8 l.prog w K mg base iY 1 qY _ ["elders", "cells"] (lE K (cl ak av) 2 jg gB jh) := bx rB u6 fun fk Ar outer s H E b a hr hp => by
   obtain ⟨p0, p1⟩ := a; refine Fi ?_ p0 p1 hp
   exact ⟨⟨⟨u6.nd, rfl, rfl⟩, hr.units⟩, UR cB 0, iz cB 0 rfl, bA cB 1, bA cB 2, bA cB 3, UR cB 4, iz cB 4 rfl, bA cB 5, bA cB 6, dW cB 7, dW cB 8, qo, nE⟩
 have Gv := cU Gu Gf rB.kp Gg
 have DN : b8 l.prog w K mg base iY 1 oK _ ["cell"] (lE K (cl ak av) 1 d8 d9 ef) := bx oW sH fun fk Ar outer s H E b a hr hp => by
   refine CN ?_ a hp
   exact ⟨⟨⟨sH.nd, rfl, rfl⟩, hr.units⟩, bA sG 0, bA sG 1⟩
 have pJ := cU DN Dw oW.kp Dy
 have Kf : b8 l.prog w K mg base iY 2 uA _ ["item", "boxes", "names"] (lE K (cl ak av) 3 kh eU ki) := bx uH xx fun fk Ar outer s H E b a hr hp => by
   obtain ⟨p0, p1, p2, p3⟩ := a; refine JN ?_ p0 p1 p2 p3 hp
   exact ⟨⟨⟨xx.nd, rfl, rfl⟩, hr.units⟩, bA eV 0, bA eV 1, bA eV 2, bA eV 3, bA eV 4, bA eV 5, dW eV 6, dW eV 7, nE, dX pJ hr⟩
 have Kg := cU Kf J7 uH.kp J8
 have Og : b8 l.prog w K mg base iY 1 xQ _ ["item", "source", "many", "names"] (lE K (cl ak av) 4 mK jL mL) := bx x9 zK fun fk Ar outer s H E b a hr hp => by
   obtain ⟨p0, p1, p2, p3, p4⟩ := a; refine M9 ?_ p0 p1 p2 p3 p4 hp
   exact ⟨⟨⟨zK.nd, rfl, rfl⟩, hr.units⟩, bA g7 0, bA g7 1, bA g7 2, bA g7 3, bA g7 4, bA g7 5, dW g7 6, nE⟩
 have Oh := cU Og N7 x9.kp N8
 have Oi : b8 l.prog w K mg base iY 2 xR _ ["item", "boxes", "many"] (lE K (cl ak av) 3 mO jM mP) := bx yc zL fun fk Ar outer s H E b a hr hp => by
   obtain ⟨p0, p1, p2, p3⟩ := a; refine Nf ?_ p0 p1 p2 p3 hp
   exact ⟨⟨⟨zL.nd, rfl, rfl⟩, hr.units⟩, bA g8 0, bA g8 1, bA g8 2, bA g8 3, bA g8 4, bA g8 5, dW g8 6, dX pJ hr⟩
 have Oj := cU Oi N9 yc.kp Oa
 have Kh : b8 l.prog w K mg base iY 3 uB _ ["items", "boxes", "many", "names"] (lE K (cl ak av) 4 ko iU kr) := bx uJ xC fun fk Ar outer s H E b a hr hp => by
   obtain ⟨p0, p1, p2, p3⟩ := a; refine JR ?_ p0 p1 p2 p3 hp
   exact ⟨⟨⟨xC.nd, rfl, rfl⟩, hr.units⟩, bA bT 0, bA bT 1, bA bT 2, bA bT 3, bA bT 4, bA bT 5, bA bT 6, bA bT 7, bA bT 8, bA bT 9, bA bT 10, dW bT 11, dW bT 12, dW bT 13, dW bT 14, nE, dX Kg hr, dX Oh hr, dX Oj hr⟩
 have Kl := cU Kh J9 uJ.kp Ka
 have Gw : b8 l.prog w K mg base iY 4 qZ _ ["script"] (lE K (cl ak av) 1 jj jk jl) := bx rD u9 fun fk Ar outer s H E b a hr hp => by
   refine Fv ?_ a hp
   exact ⟨⟨⟨u9.nd, rfl, rfl⟩, hr.units⟩, UR aY 0, iz aY 0 rfl, bA aY 1, bA aY 2, bA aY 3, UR aY 4, iz aY 4 rfl, bA aY 5, bA aY 6, bA aY 7, dW aY 8, dW aY 9, dW aY 10, dW aY 11, dW aY 12, dW aY 13, dW aY 14, dW aY 15, dX zN hr, qo, X5, nE, dX DM hr, dX Gs hr, dX Gv hr, dX Kl hr, dX pJ hr⟩
 have Gy := cU Gw Gh rD.kp Gi
 have DP : b8 l.prog w K mg base iY 1 kK _ ["self", "kinds", "elders", "starts"] (Xj K (cl ak av) "Tree" 4 qw qx qy) := HF vh sO fun fk Ar outer s H E b a y hr hp => by
   obtain ⟨p0, p1, p2⟩ := a; refine CZ ?_ p0 p1 p2 y hp
   exact ⟨⟨⟨sO.nd, rfl, rfl⟩, hr.units⟩, bA gE 0, bA gE 1, bA gE 2, bA gE 3, dW gE 4, BF, BE, nj, lB, lC⟩
 have BG : b8 l.prog w K mg base iY 1 jy _ ["self", "boxes", "names", "tree", "ins", "outs", "ways"] (Xj K (cl ak av) "Chart" 7 oi oj om) := HF tL qz fun fk Ar outer s H E b a y hr hp => by
   obtain ⟨p0, p1, p2, p3, p4, p5⟩ := a; refine AY ?_ p0 p1 p2 p3 p4 p5 y hp
   exact ⟨⟨⟨qz.nd, rfl, rfl⟩, hr.units⟩, bA cJ 0, bA cJ 1, bA cJ 2, bA cJ 3, bA cJ 4, bA cJ 5, bA cJ 6, dW cJ 7, BF, jz, fQ, fS, jA, pI, nh, ni⟩
 have Gz : b8 l.prog w K mg base iY 3 q8 _ ["parts"] (lE K (cl ak av) 1 jo gI jq) := bx rG vd fun fk Ar outer s H E b a hr hp => by
   obtain ⟨p0, p1, p2, p3, p4, p5, p6, p7⟩ := a; refine Fx ?_ p0 p1 p2 p3 p4 p5 p6 p7 hp
   exact ⟨⟨⟨vd.nd, rfl, rfl⟩, hr.units⟩, bA iW 0, bA iW 1, dW iW 2, dW iW 3, dW iW 4, ⟨⟨_, _, _, by rw [qm]; exact ⟨Bj, oX, oY, Bk⟩, DP, by rw [qm]; exact VB, Dz⟩, hr.mono (by decide)⟩, BF, ⟨⟨_, _, _, by rw [gT]; exact ⟨xZ, m8, m9, x6⟩, BG, by rw [gT]; exact Ri, BD⟩, hr.mono (by decide)⟩⟩
 have GA := cU Gz Gj rG.kp Gk
 have Ol : b8 l.prog w K mg base iY 1 xS _ ["first", "further", "texts"] (lE K (cl ak av) 3 mU g9 mV) := bx ye zM fun fk Ar outer s H E b a hr hp => by
   obtain ⟨p0, p1, p2⟩ := a; refine Nx ?_ p0 p1 p2 hp
   exact ⟨⟨⟨zM.nd, rfl, rfl⟩, hr.units⟩, bA lQ 0, bA lQ 1, bA lQ 2, bA lQ 3, bA lQ 4⟩
 have Om := cU Ol Ob ye.kp Oc
 have DQ : b8 l.prog w K mg base iY 1 oM _ ["chart", "term"] (lE K (cl ak av) 2 fH cy fJ) := bx pe sQ fun fk Ar outer s H E b a hr hp => by
   obtain ⟨p0, p1⟩ := a; refine C2 ?_ p0 p1 hp
   exact ⟨⟨⟨sQ.nd, rfl, rfl⟩, hr.units⟩, bA gJ 0, bA gJ 1, bA gJ 2, bA gJ 3, dW gJ 4, Iw, jz, fQ⟩
 have vm := cU DQ DB pe.kp DC
 have GB : b8 l.prog w K mg base iY 2 rg _ ["chart", "ask"] (lE K (cl ak av) 2 jr gK jt) := bx rJ vf fun fk Ar outer s H E b a hr hp => by
   obtain ⟨p0, p1⟩ := a; refine Fz ?_ p0 p1 hp
   exact ⟨⟨⟨vf.nd, rfl, rfl⟩, hr.units⟩, bA kD 0, bA kD 1, bA kD 2, dW kD 3, dX vm hr, jz, fS⟩
 have GC := cU GB Gm rJ.kp Gn
 have DR : b8 l.prog w K mg base iY 2 oN _ ["chart", "deed"] (lE K (cl ak av) 2 fK cK fL) := bx pB sR fun fk Ar outer s H E b a hr hp => by
   obtain ⟨p0, p1⟩ := a; refine C4 ?_ p0 p1 hp
   exact ⟨⟨⟨sR.nd, rfl, rfl⟩, hr.units⟩, bA gM 0, bA gM 1, bA gM 2, bA gM 3, dW gM 4, dX vm hr, jz, fQ⟩
 have vn := cU DR DE pB.kp DF
 have GD : b8 l.prog w K mg base iY 3 rm _ ["chart", "way"] (lE K (cl ak av) 2 ju gO jv) := bx rL vg fun fk Ar outer s H E b a hr hp => by
   obtain ⟨p0, p1⟩ := a; refine FG ?_ p0 p1 hp
   exact ⟨⟨⟨vg.nd, rfl, rfl⟩, hr.units⟩, UR cL 0, iz cL 0 rfl, bA cL 1, bA cL 2, dW cL 3, dW cL 4, dW cL 5, dW cL 6, dW cL 7, dW cL 8, VC, dX Om hr, VD, Rj, Od, VF, dX GC hr, dX vn hr, jz, fS⟩
 have GF := cU GD Gp rL.kp Gq
 have DS : b8 l.prog w K mg base iY 4 oO _ ["chart"] (lE K (cl ak av) 1 iD iE iF) := bx pD sV fun fk Ar outer s H E b a hr hp => by
   refine C9 ?_ a hp
   exact ⟨⟨⟨sV.nd, rfl, rfl⟩, hr.units⟩, UR cz 0, iz cz 0 rfl, bA cz 1, bA cz 2, bA cz 3, bA cz 4, bA cz 5, dW cz 6, dW cz 7, dW cz 8, X6, Oe, dX GF hr, dX vn hr, jz, ni, pI, nh⟩
 have DT := cU DS DG pD.kp DH
 have Rm : b8 l.prog w K mg base iY 1 A8 _ ["tree", "mood"] (lE K (cl ak av) 2 qa qb qc) := bx Bp Dc fun fk Ar outer s H E b a hr hp => by
   obtain ⟨p0, p1, p2, p3⟩ := a; refine QM ?_ p0 p1 p2 p3 hp
   exact ⟨⟨⟨Dc.nd, rfl, rfl⟩, hr.units⟩, bA sX 0, bA sX 1, bA sX 2, bA sX 3, BE, lB⟩
 have Rn := cU Rm Ra Bp.kp Rb
 have Ro : b8 l.prog w K mg base iY 2 A9 _ ["tree", "mood"] (lE K (cl ak av) 2 qd lR qe) := bx Br Dd fun fk Ar outer s H E b a hr hp => by
   obtain ⟨p0, p1, p2, p3⟩ := a; refine QS ?_ p0 p1 p2 p3 hp
   exact ⟨⟨⟨Dd.nd, rfl, rfl⟩, hr.units⟩, bA sY 0, bA sY 1, dW sY 2, dW sY 3, nE, dX Rn hr⟩
 have Rp := cU Ro Rc Br.kp Rf
 have DU : b8 l.prog w K mg base iY 1 oQ _ ["chart", "mood"] (lE K (cl ak av) 2 iG fM iH) := bx pG sZ fun fk Ar outer s H E b a hr hp => by
   obtain ⟨p0, p1⟩ := a; refine Df ?_ p0 p1 hp
   exact ⟨⟨⟨sZ.nd, rfl, rfl⟩, hr.units⟩, bA jw 0, bA jw 1, bA jw 2, bA jw 3, jz, BE, nj, jA, fS, lC⟩
 have DV := cU DU DI pG.kp DJ
 have Rq : b8 l.prog w K mg base iY 5 Ba _ ["chart"] (lE K (cl ak av) 1 qf qg qh) := bx Bt Dk fun fk Ar outer s H E b a hr hp => by
   refine QW ?_ a hp
   exact ⟨⟨⟨Dk.nd, rfl, rfl⟩, hr.units⟩, bA fN 0, bA fN 1, bA fN 2, bA fN 3, UR fN 4, iz fN 4 rfl, dW fN 5, dW fN 6, dW fN 7, dW fN 8, DK, dX DT hr, dX Rp hr, dX DV hr, jz, fQ, jA⟩
 have Rr := cU Rq Rg Bt.kp Rh
 have ym : b8 l.prog w K mg base iY 1 jR _ ["boxes", "term"] (lE K (cl ak av) 2 dw bJ dz) := bx jU ny fun fk Ar outer s H E b a hr hp => by
   obtain ⟨p0, p1⟩ := a; refine xN ?_ p0 p1 hp
   exact ⟨⟨⟨ny.nd, rfl, rfl⟩, hr.units⟩, bA cX 0, bA cX 1, bA cX 2, dW cX 3, dW cX 4, dW cX 5, Iw, X7, X8⟩
 have pK := cU ym yh jU.kp yi
 have yo : b8 l.prog w K mg base iY 2 jS _ ["boxes", "deed"] (lE K (cl ak av) 2 dB bU dD) := bx jW nA fun fk Ar outer s H E b a hr hp => by
   obtain ⟨p0, p1⟩ := a; refine xP ?_ p0 p1 hp
   exact ⟨⟨⟨nA.nd, rfl, rfl⟩, hr.units⟩, bA fX 0, bA fX 1, bA fX 2, dW fX 3, dX pK hr⟩
 have pL := cU yo yj jW.kp yk
 have yW : b8 l.prog w K mg base iY 2 kY _ ["boxes", "names", "ask"] (lE K (cl ak av) 3 fY dY fZ) := bx ly oG fun fk Ar outer s H E b a hr hp => by
   obtain ⟨p0, p1, p2⟩ := a; refine yL ?_ p0 p1 p2 hp
   exact ⟨⟨⟨oG.nd, rfl, rfl⟩, hr.units⟩, bA eY 0, bA eY 1, bA eY 2, dW eY 3, dW eY 4, nE, dX pK hr⟩
 have yX := cU yW yS ly.kp yT
 have yZ : b8 l.prog w K mg base iY 3 kZ _ ["boxes", "names", "way"] (lE K (cl ak av) 3 f6 dZ f7) := bx lA oH fun fk Ar outer s H E b a hr hp => by
   obtain ⟨p0, p1⟩ := a; refine yO ?_ p0 p1 hp
   exact ⟨⟨⟨oH.nd, rfl, rfl⟩, hr.units⟩, bA b6 0, bA b6 1, bA b6 2, bA b6 3, bA b6 4, bA b6 5, bA b6 6, dW b6 7, dW b6 8, dX yX hr, dX pL hr⟩
 have y9 := cU yZ yU lA.kp yV
 have VH : b8 l.prog w K mg base iY 4 FT _ ["parts", "boxes"] (lE K (cl ak av) 2 tu tD tE) := bx F5 Il fun fk Ar outer s H E b a hr hp => by
   refine Vp ?_ a hp
   exact ⟨⟨⟨Il.nd, rfl, rfl⟩, hr.units⟩, bA eH 0, bA eH 1, bA eH 2, bA eH 3, bA eH 4, bA eH 5, bA eH 6, bA eH 7, bA eH 8, dW eH 9, dW eH 10, dW eH 11, dW eH 12, dW eH 13, qo, nE, dX Iz hr, dX pL hr, dX y9 hr, Iw⟩
 have VJ := cU VH Vx F5.kp Vy
 have Oo : ∀ dd, b8 l.prog w K mg base iY (1 + dd) Bb Iq ["found", "due"] (lE K (cl ak av) 2 lS (ic dd) lT) := by
   intro dd
   induction dd using Nat.strongRecOn with
   | ind dd ih =>
     rw [show 1 + dd = (0 + dd) + 1 by omega]
     exact bx wo Dl fun fk Ar outer s H E b a hr hp => by
       refine QY (dd := dd) ?_ a hp
       exact ⟨⟨⟨Dl.nd, rfl, rfl⟩, hr.units⟩, bA fP 0, bA fP 1, bA fP 2, dW fP 3, dW fP 4, dW fP 5, dW fP 6, dW fP 7, dW fP 8, dW fP 9, tM, BF, Rk, nE, qo, fun d' hd => ⟨⟨_, _, _, ih d' hd, Iu, wo.kp, Iv⟩, hr.mono (by omega)⟩, VG⟩
 have Rt := Oo 8
 have Ru := cU Rt Iu wo.kp Iv
 have VL : b8 l.prog w K mg base iY 10 FU _ ["chart", "parts"] (lE K (cl ak av) 2 tF tG tH) := bx F7 Im fun fk Ar outer s H E b a hr hp => by
   obtain ⟨p0, p1, p2, p3, p4, p5, p6, p7⟩ := a; refine Vr ?_ p0 p1 p2 p3 p4 p5 p6 p7 hp
   exact ⟨⟨⟨Im.nd, rfl, rfl⟩, hr.units⟩, bA tK 0, bA tK 1, bA tK 2, bA tK 3, dW tK 4, dX Ru hr, jz, BE, jA, fQ, fS, nj, lB, lC, pI, nh, ni⟩
 have VM := cU VL Vz F7.kp VA
 have X9 : b8 l.prog w K mg base iY 11 _ _ ["script"] (lE K (cl ak av) 1 qj qk ql) := bx NX NT fun fk Ar outer s H E b a hr hp => by
   refine X3 ?_ a hp
   exact ⟨⟨⟨NT.nd, rfl, rfl⟩, hr.units⟩, bA i6 0, bA i6 1, bA i6 2, bA i6 3, bA i6 4, dW i6 5, dW i6 6, dW i6 7, dW i6 8, dW i6 9, dW i6 10, dW i6 11, dX Gy hr, dX GA hr, dX Rr hr, dX VJ hr, tM, Iw, dX VM hr⟩
 exact X9.imp (UE (fun _ => rfl) (fun _ => rfl) fun x hx => Vv hx)
theorem walk {l : PySem.W.OpenLaw} {q : Program} {loose : List Str} {XP : (Str -> Option Value) -> Heap -> Prop} {YP : World -> Heap -> Prop} {d : DefRec} {K : Params -> PySem.W.Frag} (hn : l.most = some 63) (W4 : d.params.defaults = [])
   (hY : ∀ (w : World) (h : Heap), YP w h -> (K w.params).In h)
   (F : ∀ (w : World) (mg : Str -> Option Value) (fa : Addr) (h : Heap), (K w.params).In h -> h.Ns mainGlobals mg -> mg d.name = some (.ref fa) →
     ∃ fd : FuncData, (∀ (s : Shared) (u : Value), BindsTo s fd ⟨[u], []⟩ [("script", u)]) /\ ∀ base : Heap, (K w.params).In base -> base.Ns mainGlobals mg -> b8 l.prog w (K w.params) mg base iY 11 fa fd ["script"] (lE (K w.params) (fun _ => 0) 1 qj qk ql)) :
   PySem.W.WalkO q loose XP YP l.row.toRowW d [] (fun f vs => PySem.call f vs) :=
 L2.PC (n := 63) (k := 11) (x := "script") (CX := fun _ => iY) (sp := fun w => lE (K w.params) (fun _ => 0) 1 qj qk ql) hn (by decide) W4 ⟨rfl, by decide, by decide⟩ hY F (fun _ _ a ns hl _ hS => Uz rfl hl rfl hS) fun _ _ _ _ _ z => z
end Law
open PySem PySem.W PyProof.Rows
set_option maxRecDepth 100000 in
set_option maxHeartbeats 0 in
theorem PySem.Challenge.cw_moodtree_k20_whole_chart_written_holds : PySem.Challenge.rw_moodtree_k20_whole_chart_written.Holds := by
 w_on; o_law; k_head; (case hw => w_witness2)
 k_fill
 refine Law.walk (l := PySem.Challenge.rw_moodtree_k20_whole_chart_written) rfl rfl (fun w h Y => PySem.W.kIn_of Y) ?F
 case F =>
   intro w mg fa h KX G W5
   refine' Law.all_mk KX G W5 ?Bd ?xV ?xW ?xX ?xY ?xZ ?x6 ?k6 ?k7 ?mY ?oR ?mZ ?m5 ?F3 ?Be ?Bf ?Bg ?Bh ?Bj ?Bk ?m7 ?k8 ?k9 ?uC (L2.bL ?Km ?Kn ?Ko) ?Bl (L2.bL ?Rw ?Rx ?Ry) ?oS (L2.bL ?DW ?DX ?DY) ?uE (L2.bL ?Kp ?Kq ?Kr) ?rq (L2.bL ?GH ?GJ ?GK) ?rA (L2.bL ?GL ?GN ?GO) ?oV (L2.bL ?DZ ?D0 ?D3) ?uG (L2.bL ?Ks ?Ku ?Kv) ?x8 (L2.bL ?Oq ?Ot ?Ou) ?yb (L2.bL ?Ov ?Ow ?Ox) ?uI (L2.bL ?Kw ?Kx ?Ky) ?rC (L2.bL ?GP ?GQ ?GR) ?oX ?oY (L2.bL ?D4 ?D5 ?D6) ?m8 ?m9 (L2.bL ?BH ?BI ?BJ) ?rE (L2.bL ?GU ?GV ?GX) ?yd (L2.bL ?Oz ?OB ?OD) ?oZ (L2.bL ?D7 ?D8 ?D9) ?rH (L2.bL ?GY ?GZ ?G0) ?pA (L2.bL ?Ea ?Eb ?Ec) ?rK (L2.bL ?G3 ?G4 ?G5) ?pC (L2.bL ?Ed ?Ef ?Eg) ?Bo (L2.bL ?Rz ?RA ?RB) ?Bq (L2.bL ?RC ?RD ?RG) ?pF (L2.bL ?Eh ?Ei ?Ej) ?Bs (L2.bL ?RH ?RJ ?RK) ?jT (L2.bL ?yp ?yq ?yr) ?jV (L2.bL ?yt ?yu ?yw) ?lu (L2.bL ?za ?zb ?zc) ?lz (L2.bL ?zf ?zg ?zj) ?F4 (L2.bL ?ia ?VN ?VP) ?Bu (L2.bL ?RL ?RM ?RN) ?F6 (L2.bL ?VQ ?VR ?k_same) ?Ir (L2.bL ?Yb ?Yc ?Yd) ?NZ ?Bv ?N1 ?F8 ?N2 ?F9 ?Ga ?Bw ?yf ?Gb ?N4 ?yg ?pH ?N5 ?N6 ?ng ?By ?y_bool
   case Bd | xV | xW | xX | xY | xZ | x6 | k6 | k7 | mY | oR | mZ | m5 | F3 | Be | Bf | Bg | Bh | Bj | Bk | m7 | k8 | k9 | uC | Km | Kn | Ko | Bl | Rw | Rx | Ry | oS | DW | DX | DY | uE | Kp | Kq | Kr | rq | GH | GJ | GK | rA | GL | GN | GO | oV | DZ | D0 | D3 | uG | Ks | Ku | Kv | x8 | Oq | Ot | Ou | yb | Ov | Ow | Ox | uI | Kw | Kx | Ky | rC | GP | GQ | GR | oX | oY | D4 | D5 | D6 | m8 | m9 | BH | BI | BJ | rE | GU | GV | GX | yd | Oz | OB | OD | oZ | D7 | D8 | D9 | rH | GY | GZ | G0 | pA | Ea | Eb | Ec | rK | G3 | G4 | G5 | pC | Ed | Ef | Eg | Bo | Rz | RA | RB | Bq | RC | RD | RG | pF | Eh | Ei | Ej | Bs | RH | RJ | RK | jT | yp | yq | yr | jV | yt | yu | yw | lu | za | zb | zc | lz | zf | zg | zj | F4 | ia | VN | VP | Bu | RL | RM | RN | F6 | VQ | VR | k_same | Ir | Yb | Yc | Yd | NZ | Bv | N1 | F8 | N2 | F9 | Ga | Bw | yf | Gb | N4 | yg | pH | N5 | N6 | ng | By | y_bool => k_is
