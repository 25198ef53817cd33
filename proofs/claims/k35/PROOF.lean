import PyProof.Rows.All
import Wide.All
import OpenK.AllK
import Wide.FinOn
import Lean
import PyProof.EqAt
import PyProof.EqKinds
import PyProof.TupleCall
import PySem.Challenge.RW_moodtree_k35_what_is_kept
set_option Elab.async false
set_option linter.all false
set_option maxRecDepth 100000
set_option maxHeartbeats 4000000
namespace L2
open PySem PySem.Spec PyProof.Rows
noncomputable abbrev afh := @List.mem_append_right
noncomputable abbrev afi := @if_neg
noncomputable abbrev afj := @List.length_map
noncomputable abbrev afk := @if_pos
noncomputable abbrev afl := @Nat.le_of_ble_eq_true
noncomputable abbrev afm := @List.mem_cons
noncomputable abbrev afn := @List.getElem?_eq_getElem
noncomputable abbrev afo := @List.mem_cons_self
noncomputable abbrev afp := @Nat.le_refl
noncomputable abbrev afq := @List.mem_cons_of_mem
noncomputable abbrev afr := @List.append_assoc
noncomputable abbrev afs := @List.getD_eq_getElem?_getD
noncomputable abbrev afu := @List.mem_append
noncomputable abbrev afv := @Heap.get?_push_of_some
noncomputable abbrev afw := @PySem.W.mg_of
noncomputable abbrev afx := @Bool.false_ne_true
noncomputable abbrev afy := @List.mem_append_left
noncomputable abbrev afz := @wpAny_bind
noncomputable abbrev afA := @Heap.lt_size
noncomputable abbrev afB := @Int.emod_lt_of_pos
noncomputable abbrev afC := @List.getElem?_eq_some_iff
noncomputable abbrev afD := @of_decide_eq_false
noncomputable abbrev afE := @of_decide_eq_true
noncomputable abbrev afF := @Option.some.inj
noncomputable abbrev afG := @List.mem_singleton
noncomputable abbrev afH := @List.size_toArray
noncomputable abbrev afI := @Int.emod_nonneg
noncomputable abbrev afJ := @List.mem_map
noncomputable abbrev afK := @List.length_append
noncomputable abbrev afL := @Heap.get?_push_size
noncomputable abbrev afM := @List.length_cons
noncomputable abbrev afN := @List.lookup_cons
noncomputable abbrev afO := @List.map_cons
noncomputable abbrev afP := @Nat.zero_le
noncomputable abbrev afQ := @List.Sublist.refl
noncomputable abbrev afR := @Nat.lt_of_lt_of_le
noncomputable abbrev afS := @List.cons_append
noncomputable abbrev afT := @List.map_map
noncomputable abbrev afU := @sizeLine_eq
noncomputable abbrev afV := @List.getElem?_map
noncomputable abbrev afW := @List.Sublist.append
noncomputable abbrev afX := @Nat.ne_of_lt
noncomputable abbrev afY := @List.nodup_append
noncomputable abbrev afZ := @Nat.le_trans
noncomputable abbrev af0 := @decide_eq_false
noncomputable abbrev af1 := @wpAny_pure
noncomputable abbrev af2 := @List.append_nil
noncomputable abbrev af3 := @List.perm_append_comm
noncomputable abbrev af4 := @Bool.and_eq_true
noncomputable abbrev af5 := @List.not_mem_nil
noncomputable abbrev af6 := @Int.toNat_natCast
noncomputable abbrev af7 := @List.mem_of_getElem?
noncomputable abbrev af8 := @wpS_bind
noncomputable abbrev af9 := @List.Perm.append_left
noncomputable abbrev aga := @Bool.false_eq_true
noncomputable abbrev agb := @List.pairwise_cons
noncomputable abbrev agc := @PySem.W.mg_none_of
noncomputable abbrev agd := @PySem.mem_of_lookup
noncomputable abbrev age := @Nat.le_of_lt
noncomputable abbrev agf := @List.mem_range
noncomputable abbrev agg := @List.filterMap_cons
noncomputable abbrev agh := @wpS_pure
noncomputable abbrev agi := @List.mem_filter
noncomputable abbrev agj := @List.sublist_append_right
noncomputable abbrev agk := @Array.length_toList
noncomputable abbrev agl := @List.replicate_succ
noncomputable abbrev agm := @Int.zero_add
noncomputable abbrev agn := @wpAny_mono
noncomputable abbrev ago := @List.getElem?_append_right
noncomputable abbrev agp := @beq_self_eq_true
noncomputable abbrev agq := @List.length_replicate
noncomputable abbrev agr := @decide_eq_true
noncomputable abbrev ags := @List.nodup_nil
noncomputable abbrev agt := @List.filter_append
noncomputable abbrev agu := @List.length_nil
noncomputable abbrev agv := @List.nil_append
noncomputable abbrev agw := @wpAny_truthy_bool
noncomputable abbrev agx := @List.getElem?_range
noncomputable abbrev agy := @List.all_eq_true
noncomputable abbrev agz := @List.take_length
noncomputable abbrev agA := @List.getElem_mem
noncomputable abbrev agB := @wpAny_Call_Name_kw
noncomputable abbrev agC := @wpAny_passesOwn
noncomputable abbrev agD := @List.nodup_cons
noncomputable abbrev agE := @Array.getElem?_toList
noncomputable abbrev agF := @if_false
noncomputable abbrev agG := @List.flatten_cons
noncomputable abbrev agH := @List.ext_getElem?
noncomputable abbrev agI := @List.reverse_cons
noncomputable abbrev agJ := @decide_eq_true_eq
noncomputable abbrev agK := @List.take_add_one
noncomputable abbrev agL := @List.length_range
noncomputable abbrev agM := @beq_eq_false_iff_ne
noncomputable abbrev agN := @wpAny_getItem_str_slice
noncomputable abbrev agO := @Nat.lt_irrefl
noncomputable abbrev agP := @PySem.W.kia_one
noncomputable abbrev agQ := @if_true
noncomputable abbrev agR := @List.getElem?_eq_none
noncomputable abbrev agS := @List.length_filter_le
noncomputable abbrev agT := @PyProof.Rows.callWith_type1
noncomputable abbrev agU := @List.length_take
noncomputable abbrev agV := @List.any_cons
noncomputable abbrev agW := @Nat.le_succ
noncomputable abbrev agX := @PySem.W.codeHd_of_K
noncomputable abbrev agY := @List.map_congr_left
noncomputable abbrev agZ := @List.getElem?_append_left
noncomputable abbrev ag0 := @List.drop_eq_getElem_cons
noncomputable abbrev ag1 := @List.range_succ
noncomputable abbrev ag2 := @wpAny_comprehension_free
noncomputable abbrev ag3 := @wpS_forRange
noncomputable abbrev ag4 := @List.find?_eq_none
noncomputable abbrev ag5 := @List.Perm.refl
noncomputable abbrev ag6 := @List.filter_cons_of_pos
noncomputable abbrev ag7 := @wpAny_holding
noncomputable abbrev Key := Sum Int Str
noncomputable def Ro : Key -> Value -> Bool
 | .inl k, v => Value.isInt k v
 | .inr x, v => Value.isStrOf x v
noncomputable def Z8 (w : World) : Key -> Int
 | .inl k => hashInt k
 | .inr x => hashStr w x
theorem cV : ∀ {k : Key} {v : Value}, Ro k v = true -> (∃ i t, k = Sum.inl i /\ v = Value.int i t) \/ (∃ x t, k = Sum.inr x /\ v = Value.str x t)
 | .inl i, v, h => by
   obtain ⟨t, e⟩ := Value.isInt_shape (k := i) (v := v) h
   exact .inl ⟨i, t, rfl, e⟩
 | .inr x, v, h => by
   obtain ⟨t, e⟩ := Value.isStrOf_shape (x := x) (v := v) h
   exact .inr ⟨x, t, rfl, e⟩
theorem R7 (a b : Int) : decide ((Sum.inl a : Key) = Sum.inl b) = (a == b) := by
 by_cases e : a = b
 . subst e; simp
 . have h : ¬ (Sum.inl a : Key) = Sum.inl b := fun q => e (Sum.inl.inj q)
   rw [af0 h]
   exact (agM.mpr e).symm
theorem R8 (a b : Str) : decide ((Sum.inr a : Key) = Sum.inr b) = decide (a = b) := by
 by_cases e : a = b
 . subst e; simp
 . have h : ¬ (Sum.inr a : Key) = Sum.inr b := fun q => e (Sum.inr.inj q)
   rw [af0 h, af0 e]
theorem R9 (a : Int) (b : Str) : decide ((Sum.inl a : Key) = Sum.inr b) = false := af0 (fun q => nomatch q)
theorem Sb (a : Str) (b : Int) : decide ((Sum.inr a : Key) = Sum.inl b) = false := af0 (fun q => nomatch q)
noncomputable def EL (prog : Program) (w : World) : PySem.KeyKind prog w Key where
 is := Ro
 hash := Z8 w
 inj := fun v a b ha hb => by
   rcases cV ha with ⟨i, t, rfl, rfl⟩ | ⟨x, t, rfl, rfl⟩
   . rcases cV hb with ⟨j, u, rfl, e⟩ | ⟨y, u, rfl, e⟩
     . injection e with e1 _; rw [e1]
     . exact nomatch e
   . rcases cV hb with ⟨j, u, rfl, e⟩ | ⟨y, u, rfl, e⟩
     . exact nomatch e
     . injection e with e1 _; rw [e1]
 byValue := fun k v h => by
   rcases cV h with ⟨i, t, rfl, rfl⟩ | ⟨x, t, rfl, rfl⟩ <;> rfl
 pyHash := fun hv h => by
   rcases cV hv with ⟨i, t, rfl, rfl⟩ | ⟨x, t, rfl, rfl⟩
   . exact wpAny_pyHash_int h
   . exact wpAny_pyHash_str h
 eqBool := fun hu hv h => by
   rcases cV hu with ⟨i, t, rfl, rfl⟩ | ⟨x, t, rfl, rfl⟩
   . rcases cV hv with ⟨j, u, rfl, rfl⟩ | ⟨y, u, rfl, rfl⟩
     . rw [R7] at h; exact wpAny_eqBool_int h
     . rw [R9] at h; exact SeqAt.EqAt.int_str i t y u _ _ _ _ h
   . rcases cV hv with ⟨j, u, rfl, rfl⟩ | ⟨y, u, rfl, rfl⟩
     . rw [Sb] at h; exact SeqAt.EqAt.str_int x t j u _ _ _ _ h
     . rw [R8] at h; exact wpAny_eqBool_str h
 «strs» := fun k x t v h => by
   rcases cV h with ⟨i, u, rfl, e⟩ | ⟨y, u, rfl, e⟩
   . exact nomatch e
   . injection e with e1 _
     subst e1
     cases v <;> rfl
inductive V where
 | non | bl (b : Bool) | int (i : Int) | str (x : Str) | HV (b : Array UInt8) | Zn (b : UInt64) | ref (a : Addr) | ty (n : String)
 deriving DecidableEq
noncomputable def RelV : V -> Value -> Prop
 | .non, u => u = Value.none
 | .bl b, u => u = Value.bool b
 | .int i, u => ∃ t, u = Value.int i t
 | .str x, u => ∃ t, u = Value.str x t
 | .HV b, u => ∃ t, u = Value.bytes b t
 | .Zn b, u => ∃ t, u = Value.float b t
 | .ref a, u => u = Value.ref a
 | .ty n, u => u = Value.type n
noncomputable abbrev Vals : List V -> List Value -> Prop := Paired RelV
theorem Vals.length {xs : List V} {us : List Value} (r : Vals xs us) : xs.length = us.length := Paired.length r
theorem Vals.get : ∀ {xs : List V} {us : List Value} {i : Nat} {x : V}, Vals xs us -> xs[i]? = some x -> ∃ u, us[i]? = some u /\ RelV x u
 | _, _, _, _, .nil, e => by simp at e
 | _, _, 0, _, .cons r _, e => by simp at e; subst e; exact ⟨_, rfl, r⟩
 | _, _, i + 1, x, .cons _ t, e => by
   obtain ⟨u, h1, h2⟩ := Vals.get (i := i) (x := x) t (by simpa using e)
   exact ⟨u, by simpa using h1, h2⟩
theorem Vals.set {x : V} {u : Value} (r : RelV x u) : ∀ {xs : List V} {us : List Value} (i : Nat), Vals xs us -> Vals (xs.set i x) (us.set i u)
 | _, _, _, .nil => .nil
 | _, _, 0, .cons _ t => .cons r t
 | _, _, i + 1, .cons q t => .cons q (Vals.set r i t)
theorem Vals.append : ∀ {xs ys : List V} {us ws : List Value}, Vals xs us -> Vals ys ws -> Vals (xs ++ ys) (us ++ ws)
 | _, _, _, _, .nil, s => s
 | _, _, _, _, .cons r t, s => .cons r (Vals.append t s)
theorem Vals.take : ∀ {xs : List V} {us : List Value} (n : Nat), Vals xs us -> Vals (xs.take n) (us.take n)
 | _, _, 0, _ => .nil
 | _, _, _ + 1, .nil => .nil
 | _, _, n + 1, .cons r t => .cons r (Vals.take n t)
theorem Vals.drop : ∀ {xs : List V} {us : List Value} (n : Nat), Vals xs us -> Vals (xs.drop n) (us.drop n)
 | _, _, 0, r => r
 | _, _, _ + 1, .nil => .nil
 | _, _, n + 1, .cons _ t => Vals.drop n t
noncomputable def Dt : Option V -> Option Value -> Prop
 | some v, some u => RelV v u
 | none, none => True
 | _, _ => False
noncomputable def KV {κ : Type} : List (κ × V) -> List (κ × Value) -> Prop := Paired fun (p : κ × V) (q : κ × Value) => p.1 = q.1 /\ RelV p.2 q.2
noncomputable def kV : Key -> V
 | .inl i => .int i
 | .inr x => .str x
inductive HO where
 | lst (xs : List V)
 | tup (xs : List V)
 | dK (k6 : List (Key × V)) | dT (k6 : List (List Key × V))
 | set (S : Int -> Bool) (n : Nat)
 | ins (C dx : Addr) (fs : List (Str × V))
 | own (x : Addr)
 | xd (fs : List (Str × V))
 | met (f x : Addr)
 | Sd (lo hi : Int)
 | dY (o : Obj) (u : HO)
 | Se (ps : Array Value)
 | tabs (q : Str)
 | F6 (q : Str)
 | ext (φ : Heap -> Prop)
noncomputable abbrev Hp := Addr -> Option HO
noncomputable def upd (H : Hp) (a : Addr) (o : HO) : Hp := fun b => if b = a then some o else H b
theorem aQ {H : Hp} {a : Addr} {o : HO} : upd H a o a = some o := by unfold upd; rw [afk rfl]
theorem az {H : Hp} {a b : Addr} {o : HO} (h : b ≠ a) : upd H a o b = H b := by unfold upd; rw [afi h]
theorem aG {H : Hp} {a b : Addr} {o : HO} (h : H a = some o) (h' : H b = none) : a ≠ b := by
 intro e; subst e; rw [h] at h'; cases h'
section
variable (P : Program) (w : World)
noncomputable def gk (H : Hp) (h : Heap) (a : Addr) : HO -> Prop
 | .lst xs => xs.length <= sizeLine /\ ∃ (its : List Value) (n : Nat), Vals xs its /\ h.get? a = some { cls := .type "list", data := .seq its.toArray n }
 | .tup xs => xs.length <= sizeLine /\ ∃ its : List Value, Vals xs its /\ IsTup h a its.toArray
 | .dK k6 => k6.length <= sizeLine /\ (a == sysModules) = false /\ ∃ vs, KV k6 vs /\ h.DictOf (EL P w) a vs
 | .dT k6 => k6.length <= sizeLine /\ (a == sysModules) = false /\ ∃ xs : List (List Key × Addr × Value),
     Paired (fun (p : List Key × V) (q : List Key × Addr × Value) => p.1 = q.1 /\ H q.2.1 = some (.tup (p.1.map kV)) /\ RelV p.2 q.2.2) k6 xs ∧
     ∃ o es ep, h.get? a = some o /\ o.ExactDict /\ o.data = .dict es ep /\ es.toList = xs.map (entryOfKey (tupleKind (EL P w))) /\ (xs.map (·.1)).Nodup
 | .set S n => h.SetOf (intKind P w) a S n
 | .ins C dx fs => H dx = some (.own a) /\ fs.length <= 1000 /\ dx ≠ a /\ h.get? a = some (PySem.W.instObj C dx) ∧
     ∃ mA, h.Ns1 dx mA /\ (∀ f, Dt (fs.lookup f) (mA f)) /\ PySem.Within mA (fs.map (·.1))
 | .own _ => ∃ o, h.get? a = some o
 | .xd fs => ∃ mA, h.Ns1 a mA /\ ∀ f, Dt (fs.lookup f) (mA f)
 | .Sd lo hi => ∃ t u v, h.get? a = some { cls := .type "range", data := .fields #[.int lo t, .int hi u, .int 1 v] }
 | .dY o u => h.get? a = some o /\ gk H h a u
 | .Se ps => h.get? a = some { cls := .none, data := .fields ps }
 | .tabs q => ∃ ps : Array Value, h.get? a = some { cls := .none, data := .fields ps } /\ TriplesOk ps.toList /\ ∀ pos cv, codeAmong pos ps.toList = some cv -> ∃ c, cv = .ref c /\ H c = some (.F6 q)
 | .F6 q => ∃ o vs t, h.get? a = some o /\ o.data = .fields vs /\ vs[1]? = some (.str q t)
 | .met f x => h.get? a = some (PySem.W.methodObj (.ref f) (.ref x))
 | .ext φ => φ h /\ (∃ o, h.get? a = some o) /\ ∀ h1 h2 : Heap, φ h1 -> (∀ o, h1.get? a = some o -> h2.get? a = some o) -> φ h2
noncomputable def sF (H : Hp) (h : Heap) : Prop := ∀ a o, H a = some o -> gk P w H h a o
end
section
variable {P : Program} {w : World} {H H' : Hp} {h h' : Heap} {a : Addr} {o : HO}
theorem gk.lt (x : gk P w H h a o) : a < h.objs.size := by
 cases o with
 | lst xs => obtain ⟨_, _, _, _, e⟩ := x; exact afA e
 | tup xs => obtain ⟨_, _, _, p⟩ := x; exact p.lt
 | dK k6 => obtain ⟨_, _, _, _, o, _, _, e, _⟩ := x; exact afA e
 | dT k6 => obtain ⟨_, _, _, _, o, _, _, e, _⟩ := x; exact afA e
 | set S n => obtain ⟨o, _, _, _, e, _⟩ := x; exact afA e
 | ins C dx fs => obtain ⟨_, _, _, e, _⟩ := x; exact afA e
 | own y => obtain ⟨_, e⟩ := x; exact afA e
 | xd fs => obtain ⟨_, ⟨_, _, _, e, _⟩, _⟩ := x; exact afA e
 | Sd lo hi => obtain ⟨_, _, _, e⟩ := x; exact afA e
 | dY ob u => obtain ⟨e, _⟩ := x; exact afA e
 | Se ps => exact afA (show h.get? a = some _ from x)
 | tabs q => obtain ⟨_, e, _⟩ := x; exact afA e
 | F6 q => obtain ⟨_, _, _, e, _⟩ := x; exact afA e
 | met f y => exact afA (show h.get? a = some _ from x)
 | ext φ => obtain ⟨_, ⟨_, e⟩, _⟩ := x; exact afA e
theorem Paired.Wt {α β : Type} {F G : α -> β -> Prop} : ∀ {l₁ : List α} {l₂ : List β}, Paired F l₁ l₂ -> (∀ a b, F a b -> G a b) -> Paired G l₁ l₂
 | _, _, .nil, _ => .nil
 | _, _, .cons r t, f => .cons (f _ _ r) (Paired.Wt t f)
theorem gk.A5 (x : gk P w H h a o) (k : ∀ b u, (b = a \/ H b = some (.own a)) -> h.get? b = some u -> h'.get? b = some u)
   (ho : ∀ b, H b = some (.own a) -> H' b = some (.own a)) (ht : ∀ b xs, H b = some (.tup xs) -> H' b = some (.tup xs)) (gW : ∀ b q, H b = some (.F6 q) -> H' b = some (.F6 q) := by intro _ _ q; exact q) : gk P w H' h' a o := by
 induction o with
 | lst xs => obtain ⟨z, its, n, r, e⟩ := x; exact ⟨z, its, n, r, k _ _ (.inl rfl) e⟩
 | tup xs => obtain ⟨z, its, r, ob, e, c⟩ := x; exact ⟨z, its, r, ob, k _ _ (.inl rfl) e, c⟩
 | dK k6 => obtain ⟨z, y, vs, r, ob, es, ep, e, c⟩ := x; exact ⟨z, y, vs, r, ob, es, ep, k _ _ (.inl rfl) e, c⟩
 | dT k6 =>
   obtain ⟨z, y, xs, r, ob, es, ep, e, c⟩ := x
   exact ⟨z, y, xs, Paired.Wt r fun p q z => ⟨z.1, ht _ _ z.2.1, z.2.2⟩, ob, es, ep, k _ _ (.inl rfl) e, c⟩
 | set S n => obtain ⟨ob, es, ep, t, e, c⟩ := x; exact ⟨ob, es, ep, t, k _ _ (.inl rfl) e, c⟩
 | ins C dx fs =>
   obtain ⟨d, z, ne, e, mA, ⟨od, es, ep, e2, c⟩, r⟩ := x
   exact ⟨ho _ d, z, ne, k _ _ (.inl rfl) e, mA, ⟨od, es, ep, k _ _ (.inr d) e2, c⟩, r⟩
 | own y => obtain ⟨ob, e⟩ := x; exact ⟨ob, k _ _ (.inl rfl) e⟩
 | xd fs => obtain ⟨mA, ⟨od, es, ep, e, c⟩, r⟩ := x; exact ⟨mA, ⟨od, es, ep, k _ _ (.inl rfl) e, c⟩, r⟩
 | Sd lo hi => obtain ⟨t, u, v, e⟩ := x; exact ⟨t, u, v, k _ _ (.inl rfl) e⟩
 | dY ob u ih => obtain ⟨e, q⟩ := x; exact ⟨k _ _ (.inl rfl) e, ih q⟩
 | Se ps =>
   have e : h.get? a = some { cls := .none, data := .fields ps } := x
   show h'.get? a = some { cls := .none, data := .fields ps }
   exact k a _ (.inl rfl) e
 | met f y =>
   have e : h.get? a = some (PySem.W.methodObj (.ref f) (.ref y)) := x
   show h'.get? a = some (PySem.W.methodObj (.ref f) (.ref y))
   exact k a _ (.inl rfl) e
 | tabs q => obtain ⟨ps, e, tr, cs⟩ := x; exact ⟨ps, k _ _ (.inl rfl) e, tr, fun pos cv z => let ⟨c, e1, e2⟩ := cs pos cv z; ⟨c, e1, gW _ _ e2⟩⟩
 | F6 q => obtain ⟨ob, vs, t, e, r⟩ := x; exact ⟨ob, vs, t, k _ _ (.inl rfl) e, r⟩
 | ext φ => obtain ⟨p, ⟨o, e⟩, st⟩ := x; exact ⟨st _ _ p fun o q => k _ _ (.inl rfl) q, ⟨o, k _ _ (.inl rfl) e⟩, st⟩
theorem sF.lt (x : sF P w H h) (e : H a = some o) : a < h.objs.size := (x a o e).lt
theorem sF.fresh (x : sF P w H h) (e : h.objs.size <= a) : H a = none := by
 cases q : H a with
 | none => rfl
 | some u => exact absurd (afR (x.lt q) e) (agO _)
theorem sF.kept (x : sF P w H h) (k : ∀ b u, h.get? b = some u -> h'.get? b = some u) : sF P w H h' := fun a o e =>
 (x a o e).A5 (fun b u _ q => k b u q) (fun _ q => q) fun _ _ q => q
theorem sF.laid (x : sF P w H h) (k : ∀ b u, h.get? b = some u -> h'.get? b = some u) (hp : h.objs.size <= a) (new : gk P w (upd H a o) h' a o) : sF P w (upd H a o) h' := fun b u e => by
 have hn := x.fresh hp
 by_cases hb : b = a
 . subst hb; rw [aQ] at e; cases e; exact new
 . rw [az hb] at e
   exact (x b u e).A5 (fun c v _ q => k c v q) (fun c q => by rw [az (aG q hn)]; exact q) (fun c xs q => by rw [az (aG q hn)]; exact q) fun c z q => by rw [az (aG q hn)]; exact q
end
noncomputable def Rd (H : Hp) (a : Addr) (u : HO) : Prop := H a = some u \/ ∃ o, H a = some (.dY o u)
theorem Rd.ok {P : Program} {w : World} {H : Hp} {h : Heap} {a : Addr} {u : HO} (r : Rd H a u) (x : sF P w H h) : gk P w H h a u := by
 rcases r with r | ⟨o, r⟩
 . exact x a u r
 . obtain ⟨_, q⟩ := x a _ r
   exact q
noncomputable def Zo : Option HO -> Prop
 | some (.lst _) => True
 | some (.dK _) => True
 | some (.dT _) => True
 | some (.set _ _) => True
 | some (.ins _ _ _) => True
 | some (.ext _) => True
 | some (.tabs _) => True
 | _ => False
section
variable {P : Program} {w : World} {H : Hp} {h h' : Heap} {x e : Addr} {o' : HO}
theorem sF.write (ok : sF P w H h) (mu : Zo (H x)) (he : e = x \/ H e = some (.own x)) (k : ∀ b u, b ≠ e -> h.get? b = some u -> h'.get? b = some u) (V5 : ∃ u, h'.get? e = some u)
   (new : gk P w (upd H x o') h' x o') : sF P w (upd H x o') h' := fun b u q => by
 have Wu : ∀ c y, H c = some (.own y) -> c ≠ x := fun c y r z => by subst z; rw [r] at mu; exact mu
 have Z9 : ∀ c xs, H c = some (.tup xs) -> c ≠ x := fun c xs r z => by subst z; rw [r] at mu; exact mu
 have aac : ∀ c q, H c = some (.F6 q) -> c ≠ x := fun c q r z => by subst z; rw [r] at mu; exact mu
 by_cases hb : b = x
 . subst hb; rw [aQ] at q; cases q; exact new
 . rw [az hb] at q
   by_cases Sf : b = e
   . have q' : H b = some (.own x) := by
       rcases he with z | z
       . exact absurd (Sf.trans z) hb
       . rw [Sf]; exact z
     rw [q] at q'; cases q'
     obtain ⟨v, hv⟩ := V5
     exact ⟨v, by rw [Sf]; exact hv⟩
   . refine (ok b u q).A5 (fun c v hc r => k c v ?_ r) (fun c r => by rw [az (Wu c b r)]; exact r) (fun c xs r => by rw [az (Z9 c xs r)]; exact r) fun c z r => by rw [az (aac c z r)]; exact r
     rcases hc with rfl | hc
     . exact Sf
     . rintro rfl
       rcases he with z | z
       . exact Wu c b hc z
       . rw [hc] at z; cases z; exact hb rfl
end
structure Un (fs ex : List Addr) (H H' : Hp) (h h' : Heap) : Prop where
 keep : ∀ b o, h.get? b = some o -> H b = none -> b ∉ fs -> b ∉ ex -> h'.get? b = some o
 slot : ∀ b o, h.get? b = some o -> H b = none -> b ∈ fs -> b ∉ ex -> ∃ sl, h'.get? b = some { o with slots := sl }
 free : ∀ b o, h.get? b = some o -> H b = none -> b ∉ ex -> H' b = none
 there : ∀ b o, h.get? b = some o -> b ∉ ex -> ∃ o', h'.get? b = some o'
 xG : ∀ b xs, H b = some (.tup xs) -> H' b = some (.tup xs)
 gQ : ∀ b o u, H b = some (.dY o u) -> H' b = some (.dY o u)
 xH : ∀ b ps, H b = some (.Se ps) -> ∃ more, H' b = some (.Se (ps ++ more))
section
variable {fs fs' ex ex' : List Addr} {H H1 H2 : Hp} {h h1 h2 h' : Heap} {a x e : Addr} {o : HO}
theorem Un.any (u : Un fs ex H H1 h h1) {b : Addr} {ob : Obj} (q : h.get? b = some ob) (n : H b = none) (hx : b ∉ ex) : ∃ sl, h1.get? b = some { ob with slots := sl } := by
 by_cases hb : b ∈ fs
 . exact u.slot b ob q n hb hx
 . exact ⟨ob.slots, u.keep b ob q n hb hx⟩
theorem Un.kept (k : ∀ b u, h.get? b = some u -> h'.get? b = some u) : Un fs ex H H h h' :=
 ⟨fun b ob q _ _ _ => k b ob q, fun b ob q _ _ _ => ⟨ob.slots, k b ob q⟩, fun _ _ _ n _ => n, fun b ob q _ => ⟨ob, k b ob q⟩, fun _ _ q => q, fun _ _ _ q => q, fun _ ps q => ⟨#[], by rw [q]; simp⟩⟩
theorem Un.refl : Un fs ex H H h h := Un.kept fun _ _ q => q
theorem Un.laid (k : ∀ b u, h.get? b = some u -> h'.get? b = some u) (hp : h.objs.size <= a) (hn : H a = none) : Un fs ex H (upd H a o) h h' where
 keep := fun b u q _ _ _ => k b u q
 slot := fun b u q _ _ _ => ⟨u.slots, k b u q⟩
 free := fun b u q n _ => by rw [az (afX (afR (afA q) hp))]; exact n
 there := fun b u q _ => ⟨u, k b u q⟩
 xG := fun b xs q => by rw [az (aG q hn)]; exact q
 gQ := fun b u xs q => by rw [az (aG q hn)]; exact q
 xH := fun b ps q => ⟨#[], by rw [az (aG q hn), q]; simp⟩
theorem Un.write (mu : Zo (H x)) (he : e = x \/ H e = some (.own x)) (k : ∀ b u, b ≠ e -> h.get? b = some u -> h'.get? b = some u) (V5 : ∃ u, h'.get? e = some u) : Un fs ex H (upd H x o) h h' := by
 have hx : ∀ b, H b = none -> b ≠ x := fun b n z => by subst z; rw [n] at mu; exact mu
 have hb : ∀ b, H b = none -> b ≠ e := fun b n z => by
   subst z
   rcases he with r | r
   . exact hx b n r
   . rw [n] at r; cases r
 have hm : ∀ b u, H b = some u -> ¬ Zo (some u) -> b ≠ x := fun b u q nm z => by subst z; rw [q] at mu; exact nm mu
 refine ⟨fun b u q n _ _ => k b u (hb b n) q, fun b u q n _ _ => ⟨u.slots, k b u (hb b n) q⟩, fun b u q n _ => by rw [az (hx b n)]; exact n, fun b u q _ => ?_,
   fun b xs q => by rw [az (hm b _ q fun z => z)]; exact q, fun b u xs q => by rw [az (hm b _ q fun z => z)]; exact q, fun b ps q => ⟨#[], by rw [az (hm b _ q fun z => z), q]; simp⟩⟩
 by_cases Sf : b = e
 . subst Sf; exact V5
 . exact ⟨u, k b u Sf q⟩
end
noncomputable def Zq (h : Heap) (H : Hp) : List Addr := (List.range h.objs.size).filter fun a => (H a).isSome
noncomputable def wg (h : Heap) (H : Hp) : Heap := PySem.W.hideAll h (Zq h H)
theorem F7 (h : Heap) (H : Hp) : (wg h H).objs.size = h.objs.size := PySem.W.hideAll_size _ _
theorem Ii {h : Heap} {H : Hp} {b : Addr} {o : Obj} (e : h.get? b = some o) (n : H b = none) : (wg h H).get? b = some o :=
 PySem.W.hideAll_get _ e fun hm => by
   have q : (H b).isSome = true := (agi.mp hm).2
   rw [n] at q; simp at q
theorem Ms {h : Heap} {H : Hp} {b : Addr} {o : Obj} (e : (wg h H).get? b = some o) : h.get? b = some o /\ H b = none := by
 have e' : h.get? b = some o := PySem.W.of_hideAll (Zq h H) e
 refine ⟨e', ?_⟩
 cases q : H b with
 | none => rfl
 | some x =>
   have hm : b ∈ Zq h H := agi.mpr ⟨agf.mpr (afA e'), by simp [q]⟩
   have z : (wg h H).get? b = none := PySem.W.hideAll_none (Zq h H) hm
   rw [z] at e; cases e
noncomputable def Mt (g h : Heap) (L : Addr) : List (Addr × Obj) := (List.range h.objs.size).filterMap fun a => if a = L \/ (g.get? a).isSome = true then none else (h.get? a).map fun o => (a, o)
noncomputable def rest (g h : Heap) (L d : Addr) : List (Addr × Obj) := (Mt g h L).filter fun p => decide (p.1 ≠ d)
structure Mod (K : PySem.W.Frag) (mg : Str -> Option Value) (base : Heap) : Prop where
 Zr : K.In base
 glob : base.Ns mainGlobals mg
 blt : ∃ mb, base.Ns builtinsNs mb /\ ∀ x : Str, x ≠ "__name__" -> mb x = bootBuiltins x
 nolimit : base.NoLimit
structure Cx where
 prog : Program
 w : World
 K : PySem.W.Frag
 mg : Str -> Option Value
 base : Heap
 A : Around
 N : List Str
 s₀ : Shared
 H₀ : Hp
 env : Env
 outer : List Env
 stack : List Env
 ex : List Addr
 fn : Str -> Bool
 calm : Bool
 pn : List (Addr × Obj)
 xe : Value -> Shared -> Prop
noncomputable def HW (l : List Env) : List Addr := l.filterMap (·.frame)
noncomputable abbrev Cx.fs (X : Cx) : List Addr := HW X.outer
noncomputable def Sg (sc : Scope) (x : Str) : Prop := sc.names.lookup x = some .local \/ sc.names.lookup x = some .cell \/ sc.names.lookup x = some .free
noncomputable def Loc (sc : Scope) (x : Str) : Prop := sc.names.lookup x = some .local \/ sc.names.lookup x = some .cell
noncomputable def Look (env : Env) (h : Heap) (m : Str -> Option Value) (x : Str) (u : Value) : Prop :=
 (env.kindOf x = some .local /\ m x = some u) \/ ((env.kindOf x = some .cell \/ env.kindOf x = some .free) /\ ∃ c, env.cells.lookup x = some c /\ h.IsCell c (some u))
structure Cx.Ok (X : Cx) : Prop where
 mod : Mod X.K X.mg X.base
 kind : X.env.scope.kind = .function
 glob : X.env.globals = mainGlobals
 blt : X.env.builtins = builtinsNs
 above : X.s₀.heap.objs.size <= X.env.locals
 inj : ∀ x y c, X.env.cells.lookup x = some c -> X.env.cells.lookup y = some c -> x = y
 has : ∀ x, (X.env.kindOf x = some .cell \/ X.env.kindOf x = some .free) -> ∃ c, X.env.cells.lookup x = some c
 Wv : ∀ x c, X.fn x = true -> X.env.cells.lookup x = some c -> X.s₀.heap.objs.size <= c
 hd : X.calm = true -> X.A.handled = none
 frames : X.A.frames = some X.stack
 Zt : X.stack = X.outer \/ (X.stack = X.env :: X.outer /\ X.env.frame = some X.env.locals)
 exf : ∀ b ∈ X.ex, b ≠ X.env.locals /\ ∀ x c, X.env.cells.lookup x = some c -> c ≠ b
 bs : ∀ b o, X.base.get? b = some o -> X.s₀.heap.get? b = some o /\ X.H₀ b = none
 Mj : X.base.objs.size <= X.s₀.heap.objs.size
 Ij : ∀ b o, X.base.get? b = some o -> b ∉ X.ex
 Mu : ∀ b ∈ X.ex, b ∉ X.fs
 sG : X.s₀.heap.FunFrames X.base X.outer
 Sh : ∀ b ∈ X.fs, X.H₀ b = none
structure Inv (X : Cx) (pins : List (Addr × Obj)) (σ : List (Option V)) (H : Hp) (s : Shared) : Prop where
 ok : X.Ok
 os : s.os = X.s₀.os
 bare : AllBare s.gens
 base : Un X.fs X.ex X.H₀ H X.s₀.heap s.heap
 loc : ∃ m, s.heap.Ns X.env.locals m /\ ∀ (i : Nat) (x : Str) (v : V), X.N[i]? = some x -> σ[i]? = some (some v) -> Sg X.env.scope x -> ∃ u, RelV v u /\ Look X.env s.heap m x u
 cell : ∀ x c, X.env.cells.lookup x = some c -> ∃ v, s.heap.IsCell c v
 free : H X.env.locals = none
 k7 : ∀ x c, X.env.cells.lookup x = some c -> H c = none
 pin : ∀ p ∈ X.pn ++ pins, s.heap.get? p.1 = some p.2 /\ H p.1 = none /\ p.1 ≠ X.env.locals /\ p.1 ∉ X.fs /\ ∀ v, p.2.data ≠ .cell v
 dO : sF X.prog X.w H s.heap
 len : σ.length = X.N.length
section
variable {X : Cx} {pins : List (Addr × Obj)} {σ : List (Option V)} {H H' : Hp} {s : Shared} {h' : Heap}
theorem Cx.Ok.aad (ok : X.Ok) {b : Addr} {o : Obj} (e : X.base.get? b = some o) : b ∉ X.fs := fun hb => by
 have := (ok.sG.mem hb).1
 rw [e] at this; cases this
theorem Inv.bs (I : Inv X pins σ H s) : ∀ b o, X.base.get? b = some o -> s.heap.get? b = some o /\ H b = none := fun b o e =>
 ⟨I.base.keep b o (I.ok.bs b o e).1 (I.ok.bs b o e).2 (I.ok.aad e) (I.ok.Ij b o e), I.base.free b o (I.ok.bs b o e).1 (I.ok.bs b o e).2 (I.ok.Ij b o e)⟩
theorem Inv.bk (I : Inv X pins σ H s) : ∀ b o, X.base.get? b = some o -> s.heap.get? b = some o := fun b o e => (I.bs b o e).1
theorem Inv.mod (I : Inv X pins σ H s) : Mod X.K X.mg X.base := I.ok.mod
theorem Inv.A4 (I : Inv X pins σ H s) : X.K.In s.heap := I.ok.mod.Zr.keeps I.bk
theorem Inv.nolimit (I : Inv X pins σ H s) : s.heap.NoLimit := I.ok.mod.nolimit.keeps I.bk
theorem Inv.lt (I : Inv X pins σ H s) : X.env.locals < s.heap.objs.size := let ⟨_, hn, _⟩ := I.loc; hn.lt
theorem Inv.sz (I : Inv X pins σ H s) : X.s₀.heap.objs.size <= s.heap.objs.size := afZ I.ok.above (age I.lt)
theorem Inv.aae (I : Inv X pins σ H s) {a : Addr} (h : s.heap.objs.size <= a) : a ∉ X.fs := fun hb => by
 obtain ⟨_, o, ho, _⟩ := I.ok.sG.mem hb
 exact absurd (afR (afA ho) (afZ I.sz h)) (agO _)
theorem Inv.Si (I : Inv X pins σ H s) : ∀ x c, X.env.cells.lookup x = some c -> c ≠ X.env.locals := fun x c e z => by
 obtain ⟨v, o, ho, hd⟩ := I.cell x c e
 obtain ⟨m, ⟨o', es, ep, Sj, Mv, _⟩, _⟩ := I.loc
 rw [z, Sj] at ho; cases ho; rw [Mv] at hd; cases hd
theorem Inv.sG (I : Inv X pins σ H s) : s.heap.FunFrames X.base X.outer := by
 have all : ∀ (l : List Env), (∀ b ∈ HW l, b ∈ X.fs) -> X.s₀.heap.FunFrames X.base l -> s.heap.FunFrames X.base l := by
   intro l
   induction l with
   | nil => intro _ _; trivial
   | cons env r ih =>
     intro hs hl
     obtain ⟨hk, ⟨L, o, hf, hn, ho, hd⟩, hr⟩ := hl
     have hL : L ∈ X.fs := hs L (by unfold HW; rw [agg, hf]; exact afo)
     obtain ⟨sl, e⟩ := I.base.slot L o ho (I.ok.Sh L hL) hL fun z => I.ok.Mu L z hL
     exact ⟨hk, ⟨L, _, hf, hn, e, hd⟩, ih (fun b hb => hs b (by unfold HW; rw [agg, hf]; exact afq _ hb)) hr⟩
 exact all X.outer (fun _ hb => hb) I.ok.sG
theorem Inv.stack (I : Inv X pins σ H s) : s.heap.FunFrames X.base X.stack := by
 rcases I.ok.Zt with e | ⟨e, hf⟩
 . rw [e]; exact I.sG
 . rw [e]
   obtain ⟨m, hn, _⟩ := I.loc
   refine .cons (by rw [I.ok.kind]; decide) hf hn ?_ I.sG
   exact Heap.get?_none_of_le (afZ I.ok.Mj I.ok.above)
theorem Inv.xJ (I : Inv X pins σ H s) : ∀ b ∈ HW X.stack, b ∈ X.env.locals :: X.fs := fun b hb => by
 rcases I.ok.Zt with e | ⟨e, hf⟩
 . rw [e] at hb; exact afq _ hb
 . rw [e] at hb
   unfold HW at hb
   rw [agg, hf] at hb
   exact hb
theorem Inv.xK (I : Inv X pins σ H s) : ∀ b ∈ HW X.stack, H b = none := fun b hb => by
 rcases afm.mp (I.xJ b hb) with e | hb
 . rw [e]; exact I.free
 . obtain ⟨_, o, ho, _⟩ := I.ok.sG.mem hb
   exact I.base.free b o ho (I.ok.Sh b hb) fun z => I.ok.Mu b z hb
theorem Inv.step {g' : Array GenState} {t' : Nat} {d' : Drawn} {ch : List Addr} (I : Inv X pins σ H s)
   (Rp : ∀ b ∈ ch, (b ∈ X.ex \/ X.s₀.heap.objs.size <= b) /\ b ≠ X.env.locals /\ (∀ x c, X.env.cells.lookup x = some c -> c ≠ b) /\ ∀ p ∈ X.pn ++ pins, p.1 ≠ b)
   (keep : ∀ b o, b ≠ X.env.locals -> b ∉ X.fs -> b ∉ ch -> s.heap.get? b = some o -> H b = none -> h'.get? b = some o)
   (slot : ∀ b o, b ≠ X.env.locals -> b ∈ X.fs -> b ∉ ch -> s.heap.get? b = some o -> H b = none -> ∃ sl, h'.get? b = some { o with slots := sl }) (free : ∀ b o, b ∉ ch -> s.heap.get? b = some o -> H b = none -> H' b = none)
   (there : ∀ b o, b ∉ ch -> s.heap.get? b = some o -> ∃ o', h'.get? b = some o')
   (xG : ∀ b xs, H b = some (.tup xs) -> H' b = some (.tup xs)) (gQ : ∀ b o u, H b = some (.dY o u) -> H' b = some (.dY o u)) (xH : ∀ b ps, H b = some (.Se ps) -> ∃ more, H' b = some (.Se (ps ++ more)))
   (ns : ∀ m, s.heap.Ns X.env.locals m -> h'.Ns X.env.locals m) (dO : sF X.prog X.w H' h') (hg : AllBare g') :
   Inv X pins σ H' { s with heap := h', gens := g', drawn := d', toks := t' } := by
 have neL : ∀ b o, X.s₀.heap.get? b = some o -> b ≠ X.env.locals := fun b o e => afX (afR (afA e) I.ok.above)
 have Zu : ∀ b o, X.s₀.heap.get? b = some o -> b ∉ X.ex -> b ∉ ch := fun b o e hx hb => by
   rcases (Rp b hb).1 with z | z
   . exact hx z
   . exact absurd (afR (afA e) z) (agO _)
 have cellK : ∀ x c, X.env.cells.lookup x = some c -> ∀ v, s.heap.IsCell c v -> h'.IsCell c v := fun x c e v ⟨o, ho, hd⟩ => by
   have Ww : c ∉ ch := fun z => (Rp c z).2.2.1 x c e rfl
   by_cases hc : c ∈ X.fs
   . obtain ⟨sl, q⟩ := slot c o (I.Si x c e) hc Ww ho (I.k7 x c e)
     exact ⟨_, q, hd⟩
   . exact ⟨o, keep c o (I.Si x c e) hc Ww ho (I.k7 x c e), hd⟩
 refine ⟨I.ok, I.os, hg, ⟨fun b o e n hb hx => ?_, fun b o e n hb hx => ?_, fun b o e n hx => ?_, fun b o e hx => ?_, fun b xs e => xG b xs (I.base.xG b xs e), fun b o xs e => gQ b o xs (I.base.gQ b o xs e), fun b ps e => ?_⟩, ?_, fun x c e => ?_, ?_, fun x c e => ?_, fun p hp => ?_, dO, I.len⟩
 . exact keep b o (neL b o e) hb (Zu b o e hx) (I.base.keep b o e n hb hx) (I.base.free b o e n hx)
 . obtain ⟨sl, e1⟩ := I.base.slot b o e n hb hx
   obtain ⟨sl', e2⟩ := slot b _ (neL b o e) hb (Zu b o e hx) e1 (I.base.free b o e n hx)
   exact ⟨sl', e2⟩
 . obtain ⟨o', e1⟩ := I.base.there b o e hx
   exact free b o' (Zu b o e hx) e1 (I.base.free b o e n hx)
 . obtain ⟨o', e1⟩ := I.base.there b o e hx
   exact there b o' (Zu b o e hx) e1
 . obtain ⟨m1, e1⟩ := I.base.xH b ps e
   obtain ⟨m2, e2⟩ := xH b _ e1
   exact ⟨m1 ++ m2, by rw [e2, Array.append_assoc]⟩
 . obtain ⟨m, hn, hl⟩ := I.loc
   refine ⟨m, ns m hn, fun i x v e1 e2 e3 => ?_⟩
   obtain ⟨u, r, l⟩ := hl i x v e1 e2 e3
   refine ⟨u, r, ?_⟩
   rcases l with l | ⟨k, c, e, z⟩
   . exact .inl l
   . exact .inr ⟨k, c, e, cellK x c e _ z⟩
 . obtain ⟨v, z⟩ := I.cell x c e
   exact ⟨v, cellK x c e v z⟩
 . obtain ⟨m, ⟨o, _, _, ho, _⟩, _⟩ := I.loc
   exact free _ o (fun z => (Rp _ z).2.1 rfl) ho I.free
 . obtain ⟨v, o, ho, hd⟩ := I.cell x c e
   exact free c o (fun z => (Rp c z).2.2.1 x c e rfl) ho (I.k7 x c e)
 . obtain ⟨e, n, ne, nf, d⟩ := I.pin p hp
   have Ww : p.1 ∉ ch := fun z => (Rp p.1 z).2.2.2 p hp rfl
   exact ⟨keep p.1 p.2 ne nf Ww e n, free p.1 p.2 Ww e n, ne, nf, d⟩
theorem Inv.un {t' : Nat} (I : Inv X pins σ H s) (u : Un X.fs [] H H' s.heap h') (dO : sF X.prog X.w H' h') : Inv X pins σ H' { s with heap := h', toks := t' } := by
 obtain ⟨m, ⟨o, es, ep, ho, r⟩, _⟩ := id I.loc
 obtain ⟨sl, hL⟩ := u.any ho I.free (by simp)
 exact I.step (g' := s.gens) (d' := s.drawn) (ch := []) (fun _ z => nomatch z) (fun b o _ hb _ e n => u.keep b o e n hb (by simp)) (fun b o _ hb _ e n => u.slot b o e n hb (by simp)) (fun b o _ e n => u.free b o e n (by simp)) (fun b o _ e => u.there b o e (by simp)) u.xG u.gQ u.xH (fun m' hm => by
   obtain ⟨o', es', ep', Sj, r'⟩ := hm
   rw [ho] at Sj; cases Sj
   exact ⟨_, es', ep', hL, r'⟩) dO I.bare
theorem Inv.call {g' : Array GenState} {t' : Nat} {d' : Drawn} {ch : List Addr} (I : Inv X pins σ H s) (u : Un (HW X.stack) ch H H' s.heap h') (dO : sF X.prog X.w H' h') (hg : AllBare g')
   (Rp : ∀ b ∈ ch, (b ∈ X.ex \/ X.s₀.heap.objs.size <= b) /\ b ≠ X.env.locals /\ (∀ x c, X.env.cells.lookup x = some c -> c ≠ b) /\ ∀ p ∈ X.pn ++ pins, p.1 ≠ b) :
   Inv X pins σ H' { s with heap := h', gens := g', drawn := d', toks := t' } := by
 obtain ⟨m, ⟨o, es, ep, ho, r⟩, _⟩ := id I.loc
 obtain ⟨sl, hL⟩ := u.any ho I.free fun z => (Rp _ z).2.1 rfl
 exact I.step (ch := ch) Rp (fun b o hL hb hc e n => u.keep b o e n (fun z => (afm.mp (I.xJ b z)).elim hL hb) hc) (fun b o _ _ hc e n => u.any e n hc) (fun b o hc e n => u.free b o e n hc) (fun b o hc e => u.there b o e hc) u.xG u.gQ u.xH (fun m' hm => by
   obtain ⟨o', es', ep', Sj, r'⟩ := hm
   rw [ho] at Sj; cases Sj
   exact ⟨_, es', ep', hL, r'⟩) dO hg
theorem Inv.turned {t' : Nat} {it : Addr} (I : Inv X pins σ H s) (k : ∀ b o, b ≠ it -> s.heap.get? b = some o -> h'.get? b = some o) (hn : H it = none) (hL : it ≠ X.env.locals)
   (h1 : it ∈ X.ex \/ X.s₀.heap.objs.size <= it) (h2 : ∀ x c, X.env.cells.lookup x = some c -> c ≠ it) (h3 : ∀ p ∈ X.pn ++ pins, p.1 ≠ it) : Inv X pins σ H { s with heap := h', toks := t' } := by
 have nit : ∀ b u, H b = some u -> b ≠ it := fun b u e z => by rw [z, hn] at e; cases e
 refine I.step (g' := s.gens) (d' := s.drawn) (ch := [it]) (fun b hb => ?_) (fun b o _ _ hc e _ => k b o (fun z => hc (by simp [z])) e) (fun b o _ _ hc e _ => ⟨o.slots, k b o (fun z => hc (by simp [z])) e⟩) (fun _ _ _ _ n => n)
   (fun b o hc e => ⟨o, k b o (fun z => hc (by simp [z])) e⟩) (fun _ _ e => e) (fun _ _ _ e => e) (fun b ps e => ⟨#[], by rw [e]; simp⟩) (fun m hm => ?_) (fun b u e => ?_) I.bare
 . have e : b = it := by simpa using hb
   subst e
   exact ⟨h1, hL, h2, h3⟩
 . obtain ⟨o, es, ep, ho, r⟩ := hm
   exact ⟨o, es, ep, k _ o (Ne.symm hL) ho, r⟩
 . refine (I.dO b u e).A5 (fun c v hc q => k c v ?_ q) (fun _ q => q) fun _ _ q => q
   rcases hc with z | z
   . rw [z]; exact nit b u e
   . exact nit c _ z
theorem Inv.tok (I : Inv X pins σ H s) (t : Nat) : Inv X pins σ H { s with toks := t } := I.un (h' := s.heap) (t' := t) Un.refl I.dO
theorem Inv.kept {t' : Nat} (I : Inv X pins σ H s) (k : ∀ b u, s.heap.get? b = some u -> h'.get? b = some u) : Inv X pins σ H { s with heap := h', toks := t' } := I.un (Un.kept k) (I.dO.kept k)
theorem Inv.laid {a : Addr} {o : HO} {t' : Nat} (I : Inv X pins σ H s) (k : ∀ b u, s.heap.get? b = some u -> h'.get? b = some u) (hp : s.heap.objs.size <= a) (new : gk X.prog X.w (upd H a o) h' a o) :
   Inv X pins σ (upd H a o) { s with heap := h', toks := t' } := I.un (Un.laid k hp (I.dO.fresh hp)) (I.dO.laid k hp new)
theorem Inv.write {x e : Addr} {o : HO} {t' : Nat} (I : Inv X pins σ H s) (mu : Zo (H x)) (he : e = x \/ H e = some (.own x)) (k : ∀ b u, b ≠ e -> s.heap.get? b = some u -> h'.get? b = some u) (V5 : ∃ u, h'.get? e = some u)
   (new : gk X.prog X.w (upd H x o) h' x o) : Inv X pins σ (upd H x o) { s with heap := h', toks := t' } := I.un (Un.write mu he k V5) (I.dO.write mu he k V5 new)
theorem Inv.sO {iE : List (Addr × Obj)} (I : Inv X pins σ H s) (h : ∀ p ∈ iE, s.heap.get? p.1 = some p.2 /\ H p.1 = none /\ p.1 ≠ X.env.locals /\ p.1 ∉ X.fs /\ ∀ v, p.2.data ≠ .cell v) : Inv X iE σ H s :=
 ⟨I.ok, I.os, I.bare, I.base, I.loc, I.cell, I.free, I.k7, fun p hp => (afu.mp hp).elim (fun z => I.pin p (afy _ z)) (h p), I.dO, I.len⟩
theorem A6 {N : List Str} (hN : N.Nodup) {i j : Nat} {x : Str} (a : N[i]? = some x) (b : N[j]? = some x) : i = j := by
 obtain ⟨h1, e1⟩ := afC.mp a
 obtain ⟨h2, e2⟩ := afC.mp b
 exact (List.getElem_inj hN).mp (e1.trans e2.symm)
theorem F8 {M : Model} {A : Around} {E : Value -> Shared -> Prop} {i : Nat} {x : Str} {v : V} {u : Value} {Q : Unit -> Shared -> Prop} (I : Inv X pins σ H s) (hN : X.N.Nodup) (hi : X.N[i]? = some x) (hx : Loc X.env.scope x) (r : RelV v u)
   (h : ∀ s', Inv X pins (σ.set i (some v)) H s' -> (∃ a, Heap.SameBut a s.heap s'.heap /\ (a = X.env.locals \/ X.env.cells.lookup x = some a)) -> Q () s') (hf : X.fn x = true \/ X.env.scope.names.lookup x = some .local := by first | exact .inl rfl | exact .inr rfl | assumption) : wpAny M A (storeName X.env x u) Q E s := by
 obtain ⟨m, hn, hl⟩ := id I.loc
 have aah : (X.env.scope.kind == .class || (X.env.scope.kind == .module && X.env.locals != X.env.globals)) = false := by rw [I.ok.kind]; rfl
 have Wx : i < σ.length := by rw [I.len]; exact (afC.mp hi).1
 have Si := I.Si
 have tracked : ∀ {a : Addr} {h' : Heap}, (∃ o, s.heap.get? a = some o /\ H a = none) -> Heap.SameBut a s.heap h' -> sF X.prog X.w H h' := fun {a h'} ha hs b ob e => by
   obtain ⟨_, _, A7⟩ := ha
   refine (I.dO b ob e).A5 (fun c w' hc q => (hs.2 c ?_).trans q) (fun _ q => q) fun _ _ q => q
   rintro rfl
   rcases hc with rfl | hc
   . rw [A7] at e; cases e
   . rw [A7] at hc; cases hc
 rcases hx with hk | hk
 . refine wpAny_storeName_local hk hn (fun h' Zv hs => ?_) aah
   obtain ⟨oL, _, _, Zw, _⟩ := id hn
   refine h _ ⟨I.ok, I.os, I.bare, ⟨fun b o e n hb hx => ?_, fun b o e n hb hx => ?_, I.base.free, fun b o e hx => ?_, I.base.xG, I.base.gQ, I.base.xH⟩, ⟨_, Zv, fun j y v' e1 e2 e3 => ?_⟩, fun y c e => ?_, I.free, I.k7, fun p hp => ?_, tracked ⟨oL, Zw, I.free⟩ hs, by simpa using I.len⟩ ⟨_, hs, .inl rfl⟩
   . exact (hs.2 b (afX (afR (afA e) I.ok.above))).trans (I.base.keep b o e n hb hx)
   . obtain ⟨sl, e1⟩ := I.base.slot b o e n hb hx
     exact ⟨sl, (hs.2 b (afX (afR (afA e) I.ok.above))).trans e1⟩
   . obtain ⟨o', e1⟩ := I.base.there b o e hx
     exact ⟨o', (hs.2 b (afX (afR (afA e) I.ok.above))).trans e1⟩
   . by_cases hj : j = i
     . subst hj
       rw [hi] at e1; cases e1
       rw [List.getElem?_set_self Wx] at e2
       cases e2
       exact ⟨u, r, .inl ⟨hk, by simp⟩⟩
     . rw [List.getElem?_set_ne (Ne.symm hj)] at e2
       obtain ⟨u', r', q⟩ := hl j y v' e1 e2 e3
       refine ⟨u', r', ?_⟩
       rcases q with ⟨k, e⟩ | ⟨k, c, e, z⟩
       . refine .inl ⟨k, ?_⟩
         have : y ≠ x := fun e => hj (A6 hN e1 (e ▸ hi))
         simp [this, e]
       . exact .inr ⟨k, c, e, z.sameBut hs (Si y c e)⟩
   . obtain ⟨w', z⟩ := I.cell y c e
     exact ⟨w', z.sameBut hs (Si y c e)⟩
   . obtain ⟨e, n, ne, nf, d⟩ := I.pin p hp
     exact ⟨(hs.2 p.1 ne).trans e, n, ne, nf, d⟩
 . have hfn : X.fn x = true := by
     rcases hf with z | z
     . exact z
     . rw [z] at hk; cases hk
   obtain ⟨c, hc⟩ := I.ok.has x (.inl hk)
   obtain ⟨w', z⟩ := I.cell x c hc
   refine wpAny_storeName_cell I.ok.kind hk hc z (fun h' Ik hs => ?_)
   obtain ⟨oc, V6, aaj⟩ := id z
   refine h { s with heap := h' } ⟨I.ok, I.os, I.bare, ⟨fun b o e n hb hx => ?_, fun b o e n hb hx => ?_, I.base.free, fun b o e hx => ?_, I.base.xG, I.base.gQ, I.base.xH⟩, ⟨m, hn.sameBut hs (Ne.symm (Si x c hc)), fun j y v' e1 e2 e3 => ?_⟩, fun y c' e => ?_, I.free, I.k7, fun p hp => ?_, tracked ⟨oc, V6, I.k7 x c hc⟩ hs, by simpa using I.len⟩ ⟨c, hs, .inr hc⟩
   . exact (hs.2 b (afX (afR (afA e) (I.ok.Wv x c hfn hc)))).trans (I.base.keep b o e n hb hx)
   . obtain ⟨sl, e1⟩ := I.base.slot b o e n hb hx
     exact ⟨sl, (hs.2 b (afX (afR (afA e) (I.ok.Wv x c hfn hc)))).trans e1⟩
   . obtain ⟨o', e1⟩ := I.base.there b o e hx
     exact ⟨o', (hs.2 b (afX (afR (afA e) (I.ok.Wv x c hfn hc)))).trans e1⟩
   . by_cases hj : j = i
     . subst hj
       rw [hi] at e1; cases e1
       rw [List.getElem?_set_self Wx] at e2
       cases e2
       exact ⟨u, r, .inr ⟨.inl hk, c, hc, Ik⟩⟩
     . rw [List.getElem?_set_ne (Ne.symm hj)] at e2
       obtain ⟨u', r', q⟩ := hl j y v' e1 e2 e3
       refine ⟨u', r', ?_⟩
       rcases q with q | ⟨k, c', e, z'⟩
       . exact .inl q
       . refine .inr ⟨k, c', e, z'.sameBut hs ?_⟩
         rintro rfl
         exact hj (A6 hN e1 (I.ok.inj _ _ _ e hc ▸ hi))
   . by_cases hcc : c' = c
     . subst hcc; exact ⟨_, Ik⟩
     . obtain ⟨w2, z2⟩ := I.cell y c' e
       exact ⟨w2, z2.sameBut hs hcc⟩
   . obtain ⟨e, n, ne, nf, d⟩ := I.pin p hp
     refine ⟨(hs.2 p.1 ?_).trans e, n, ne, nf, d⟩
     intro q
     rw [q, V6] at e
     have q' : oc = p.2 := afF e
     exact d w' (by rw [← q']; exact aaj)
theorem A8 {M : Model} {A : Around} {E : Value -> Shared -> Prop} {i : Nat} {x : Str} {v : V} {u : Value} {Q : Unit -> Shared -> Prop} (I : Inv X pins σ H s) (hN : X.N.Nodup) (hi : X.N[i]? = some x) (hx : Loc X.env.scope x) (r : RelV v u)
   (h : ∀ s', Inv X pins (σ.set i (some v)) H s' -> Q () s') (hf : X.fn x = true \/ X.env.scope.names.lookup x = some .local := by first | exact .inl rfl | exact .inr rfl | assumption) : wpAny M A (storeName X.env x u) Q E s :=
 F8 I hN hi hx r (fun s' I' _ => h s' I') hf
end
noncomputable abbrev XK := Value -> Option Addr -> Hp -> Prop
noncomputable abbrev St := List (Option V)
noncomputable abbrev VK := V -> Hp -> Prop
noncomputable abbrev TE := St -> Hp -> VK -> Prop
noncomputable abbrev TT := St -> Hp -> (Bool -> Hp -> Prop) -> Prop
noncomputable abbrev TA := St -> Hp -> (List V -> Hp -> Prop) -> Prop
structure Ends where
 nx : St -> Hp -> Prop
 rt : VK
 bk : St -> Hp -> Prop := fun _ _ => False
 ct : St -> Hp -> Prop := fun _ _ => False
noncomputable abbrev TS := Ends -> St -> Hp -> Prop
noncomputable def EP (X : Cx) (pins : List (Addr × Obj)) (σ : St) (Q : VK) (u : Value) (s' : Shared) : Prop := ∃ v H', Inv X pins σ H' s' /\ RelV v u /\ Q v H'
noncomputable def TP (X : Cx) (pins : List (Addr × Obj)) (σ : St) (Q : Bool -> Hp -> Prop) (b : Bool) (s' : Shared) : Prop := ∃ H', Inv X pins σ H' s' /\ Q b H'
noncomputable def AP (X : Cx) (pins : List (Addr × Obj)) (σ : St) (Q : List V -> Hp -> Prop) (us : List Value) (s' : Shared) : Prop := ∃ vs H', Inv X pins σ H' s' /\ Vals vs us /\ Q vs H'
noncomputable def SP (X : Cx) (pins : List (Addr × Obj)) (D : Ends) (f : Flow) (s' : Shared) : Prop :=
 match f with
 | .next => ∃ σ' H', Inv X pins σ' H' s' /\ D.nx σ' H'
 | .brk => ∃ σ' H', Inv X pins σ' H' s' /\ D.bk σ' H'
 | .cont => ∃ σ' H', Inv X pins σ' H' s' /\ D.ct σ' H'
 | .ret u => ∃ v σ' H', Inv X pins σ' H' s' /\ RelV v u /\ D.rt v H'
noncomputable def PE (X : Cx) (e : Expr) (t : TE) : Prop :=
 ∀ (pins : List (Addr × Obj)) (s : Shared) (σ : St) (H : Hp) (Q : VK), Inv X pins σ H s -> t σ H Q -> wpAny (model X.prog X.w) X.A (eval e X.env) (EP X pins σ Q) X.xe s
noncomputable def PT (X : Cx) (e : Expr) (t : TT) : Prop :=
 ∀ (pins : List (Addr × Obj)) (s : Shared) (σ : St) (H : Hp) (Q : Bool -> Hp -> Prop), Inv X pins σ H s -> t σ H Q -> wpAny (model X.prog X.w) X.A (isTrue e X.env (eval e X.env)) (TP X pins σ Q) X.xe s
noncomputable def PW (X : Cx) (e : Expr) (t : TT) : Prop :=
 ∀ (whole : Sem Value) (pins : List (Addr × Obj)) (s : Shared) (σ : St) (H : Hp) (Q : Bool -> Hp -> Prop), Inv X pins σ H s -> t σ H Q -> wpAny (model X.prog X.w) X.A (isTrue e X.env whole) (TP X pins σ Q) X.xe s
noncomputable def PA (X : Cx) (es : List Expr) (t : TA) : Prop :=
 ∀ (pos : Pos) (pins : List (Addr × Obj)) (s : Shared) (σ : St) (H : Hp) (Q : List V -> Hp -> Prop), Inv X pins σ H s -> t σ H Q -> wpAny (model X.prog X.w) X.A (spliced (backTo pos (starEach es X.env))) (AP X pins σ Q) X.xe s
noncomputable def PS (X : Cx) (st : Stmt) (t : TS) : Prop :=
 ∀ (pins : List (Addr × Obj)) (s : Shared) (σ : St) (H : Hp) (D : Ends), Inv X pins σ H s -> t D σ H -> wpAny (model X.prog X.w) X.A (exec st X.env) (SP X pins D) X.xe s
noncomputable def Du (X : Cx) (st : List Stmt) (t : TS) : Prop :=
 ∀ (pins : List (Addr × Obj)) (s : Shared) (σ : St) (H : Hp) (D : Ends), Inv X pins σ H s -> t D σ H -> wpAny (model X.prog X.w) X.A (execs st X.env) (SP X pins D) X.xe s
theorem eG {α : Type} {t : Sem α} {Q Q' : α -> Shared -> Prop} {M : Model} {A : Around} {E : Value -> Shared -> Prop} {s : Shared} (h : wpAny M A t Q E s) (hQ : ∀ a s, Q a s -> Q' a s) : wpAny M A t Q' E s := agn h hQ fun _ _ x => x
section
variable {X : Cx}
noncomputable def aak (i : Nat) : TE := fun σ H Q => ∃ v, σ[i]? = some (some v) /\ Q v H
noncomputable def tC (v : V) : TE := fun _ H Q => Q v H
theorem k8 {i : Nat} {x : Str} {pos : Pos} (hN : X.N[i]? = some x) (hv : Sg X.env.scope x) (hd : (x == ("__debug__" : Str)) = false := by decide) (gW : (x == ("__classdict__" : Str)) = false := by decide) : PE X (.Name x pos) (aak i) := by
 intro pins s σ H Q I h
 obtain ⟨v, e, h⟩ := h
 obtain ⟨m, hn, hl⟩ := I.loc
 obtain ⟨u, r, l⟩ := hl i x v hN e hv
 have fin : EP X pins σ Q u s := ⟨v, H, I, r, h⟩
 rcases l with ⟨hk, hm⟩ | ⟨hk, c, hc, rX⟩
 . exact wpAny_Name (wpAny_loadName_local I.ok.kind hk hn hm fin) hd
 . rcases hk with hk | hk
   . exact wpAny_Name (wpAny_loadName_cell I.ok.kind hk hc rX fin) hd
   . exact wpAny_Name (wpAny_loadName_free I.ok.kind hk hc rX fin gW) hd
theorem Sl {i j pos} : PE X (.Constant (.int i) j pos) (tC (.int i)) := fun _ _ _ H _ I h => wpAny_Constant_int ⟨.int i, H, I.tok _, ⟨_, rfl⟩, h⟩
theorem Wy {b j pos} : PE X (.Constant (.bool b) j pos) (tC (.bl b)) := fun _ _ _ H _ I h => Constant_bool ⟨.bl b, H, I, rfl, h⟩
theorem Sn {x j pos} : PE X (.Constant (.str x) j pos) (tC (.str x)) := fun _ _ _ H _ I h => Calls.Constant_str ⟨.str x, H, I.tok _, ⟨_, rfl⟩, h⟩
noncomputable def Gl (X : Cx) (x : Str) : Prop := X.env.kindOf x = some .globalImplicit
theorem sP {E : Value -> Shared -> Prop} {pins : List (Addr × Obj)} {s : Shared} {σ : St} {H : Hp} {x : Str} {u : Value} {pos : Pos} {Q : Value -> Shared -> Prop} (I : Inv X pins σ H s) (hg : Gl X x) (hm : X.mg x = some u) (h : Q u s)
   (hd : (x == ("__debug__" : Str)) = false := by decide) : wpAny (model X.prog X.w) X.A (eval (.Name x pos) X.env) Q E s :=
 Calls.Name_function_global I.ok.kind hg (Calls.loadGlobal_global (by rw [I.ok.glob]; exact I.mod.glob.keeps I.bk) hm h) hd
theorem qI {E : Value -> Shared -> Prop} {pins : List (Addr × Obj)} {s : Shared} {σ : St} {H : Hp} {x : Str} {u : Value} {pos : Pos} {Q : Value -> Shared -> Prop} (I : Inv X pins σ H s) (hg : Gl X x) (hm : X.mg x = none) (hv : bootBuiltins x = some u) (h : Q u s)
   (hn : x ≠ "__name__" := by decide) (hd : (x == ("__debug__" : Str)) = false := by decide) : wpAny (model X.prog X.w) X.A (eval (.Name x pos) X.env) Q E s := by
 obtain ⟨mb, h1, h2⟩ := I.mod.blt
 exact Calls.Name_function_global I.ok.kind hg (Calls.loadGlobal_builtin (by rw [I.ok.glob]; exact I.mod.glob.keeps I.bk) hm (by rw [I.ok.blt]; exact h1.keeps I.bk) ((h2 x hn).trans hv) h) hd
theorem Mw {x : Str} {v : V} {u : Value} {pos : Pos} (hg : Gl X x) (hm : X.mg x = some u) (r : RelV v u) (hd : (x == ("__debug__" : Str)) = false := by decide) : PE X (.Name x pos) (tC v) :=
 fun _ _ _ H _ I h => sP I hg hm ⟨v, H, I, r, h⟩ hd
theorem Mx {x : Str} {v : V} {u : Value} {pos : Pos} (hg : Gl X x) (hm : X.mg x = none) (hv : bootBuiltins x = some u) (r : RelV v u) (hn : x ≠ "__name__" := by decide) (hd : (x == ("__debug__" : Str)) = false := by decide) : PE X (.Name x pos) (tC v) :=
 fun _ _ _ H _ I h => qI I hg hm hv ⟨v, H, I, r, h⟩ hn hd
variable {a b : Expr} {ta tb : TE} {pos : Pos}
noncomputable def PC (X : Cx) (op : CmpOp) (a b : Expr) (t : TE) : Prop :=
 ∀ (pins : List (Addr × Obj)) (s : Shared) (σ : St) (H : Hp) (Q : VK), Inv X pins σ H s -> t σ H Q →
   wpAny (model X.prog X.w) X.A (eval a X.env) (fun v s₁ => wpAny (model X.prog X.w) X.A (eval b X.env) (fun u s₂ => wpAny (model X.prog X.w) X.A (compareOp op v u) (EP X pins σ Q) X.xe s₂) X.xe s₁) X.xe s
theorem Il (b : Expr) {op : CmpOp} (h : op ≠ .In) (h2 : op ≠ .NotIn) : behindInMarks op b = false := by
 have e1 : (op == CmpOp.In) = false := by cases op <;> first | rfl | exact absurd rfl h
 have e2 : (op == CmpOp.NotIn) = false := by cases op <;> first | rfl | exact absurd rfl h2
 cases b <;> simp [behindInMarks, e1, e2]
noncomputable def tB (t : TE) : TT := fun σ H Q => t σ H fun x H1 => ∃ c, x = .bl c /\ Q c H1
theorem aal {op : CmpOp} {t : TE} (h : PC X op a b t) (h1 : behindInMarks op b = false := by first | exact Il _ (by decide) (by decide) | rfl) : PT X (.Compare a [op] [b] pos) (tB t) := by
 intro pins s σ H Q I hw
 refine wpAny_isTrue_Compare1 (eG (h pins s σ H _ I hw) fun v s1 h1 => eG h1 fun u s2 h2 => eG h2 fun c s3 zz => ?_) h1
 obtain ⟨x, H1, I1, r1, q1⟩ := zz
 obtain ⟨d, rfl, q⟩ := q1
 cases r1
 exact agw ⟨H1, I1, q⟩
theorem Sq {e : Expr} {t : TE} (h : PE X e t) (he : ∀ whole, isTrue e X.env whole = (do let v ← whole; standAt e.pos; holding [v] (truthy v)) := by intro _; rfl) : PT X e (tB t) := by
 intro pins s σ H Q I hw
 refine isTrue_plain (eG (h pins s σ H _ I hw) fun v s1 zz => ?_) (he _)
 obtain ⟨x, H1, I1, r1, q1⟩ := zz
 obtain ⟨d, rfl, q⟩ := q1
 cases r1
 exact agw ⟨H1, I1, q⟩
variable {tA Zx : TT} {rest : List Expr}
noncomputable def aam (t u : TT) : TT := fun σ H Q => t σ H fun c H1 => if c = true then u σ H1 Q else Q false H1
noncomputable def tOr (t u : TT) : TT := fun σ H Q => t σ H fun c H1 => if c = true then Q true H1 else u σ H1 Q
noncomputable def aan (t : TT) : TT := fun σ H Q => t σ H fun c H1 => Q (!c) H1
theorem My (ha : PT X a tA) : PW X (.BoolOp .And [a] pos) tA := by
 intro wh pins s σ H Q I h
 refine isTrue_and (eG (ha pins s σ H Q I h) fun c s1 e => ?_)
 cases c with
 | true => exact isTrue_and_nil e
 | false => exact e
theorem Ss (ha : PT X a tA) : PW X (.BoolOp .Or [a] pos) tA := by
 intro wh pins s σ H Q I h
 refine isTrue_or (eG (ha pins s σ H Q I h) fun c s1 e => ?_)
 cases c with
 | false => exact isTrue_or_nil e
 | true => exact e
theorem Sv (ha : PT X a tA) (hb : PW X (.BoolOp .And (b :: rest) pos) Zx) : PW X (.BoolOp .And (a :: b :: rest) pos) (aam tA Zx) := by
 intro wh pins s σ H Q I h
 refine isTrue_and (eG (ha pins s σ H _ I h) fun c s1 zz => ?_)
 obtain ⟨H1, I1, q1⟩ := zz
 cases c with
 | true => exact hb wh pins s1 σ H1 Q I1 q1
 | false => exact ⟨H1, I1, q1⟩
theorem Wz (ha : PT X a tA) (hb : PW X (.BoolOp .Or (b :: rest) pos) Zx) : PW X (.BoolOp .Or (a :: b :: rest) pos) (tOr tA Zx) := by
 intro wh pins s σ H Q I h
 refine isTrue_or (eG (ha pins s σ H _ I h) fun c s1 zz => ?_)
 obtain ⟨H1, I1, q1⟩ := zz
 cases c with
 | true => exact ⟨H1, I1, q1⟩
 | false => exact hb wh pins s1 σ H1 Q I1 q1
theorem Sw (ha : PT X a tA) : PT X (.UnaryOp .Not a pos) (aan tA) := by
 intro pins s σ H Q I h
 exact isTrue_not (ha pins s σ H (fun c H1 => Q (!c) H1) I h)
noncomputable def WB (ta tb : TE) : TE := fun σ H Q => ta σ H fun x H1 => ∃ c, x = .bl c /\ if c = true then tb σ H1 Q else Q (.bl false) H1
noncomputable def aao (ta tb : TE) : TE := fun σ H Q => ta σ H fun x H1 => ∃ c, x = .bl c /\ if c = true then Q (.bl true) H1 else tb σ H1 Q
noncomputable def WC (ta : TE) : TE := fun σ H Q => ta σ H fun x H1 => ∃ c, x = .bl c /\ Q (.bl (!c)) H1
theorem Sx {op} {t : TE} (h : PE X a t) : PE X (.BoolOp op [a] pos) t := fun pins s σ H Q I hw => BoolOp_one (h pins s σ H Q I hw)
theorem Sy (ha : PE X a ta) (hb : PE X (.BoolOp .And (b :: rest) pos) tb) : PE X (.BoolOp .And (a :: b :: rest) pos) (WB ta tb) := by
 intro pins s σ H Q I h
 refine BoolOp_and (eG (ha pins s σ H _ I h) fun v s1 zz => ?_)
 obtain ⟨x, H1, I1, r1, q1⟩ := zz
 obtain ⟨c, rfl, q1⟩ := q1
 cases r1
 refine agw ?_
 cases c with
 | true => exact hb pins s1 σ H1 Q I1 q1
 | false => exact ⟨.bl false, H1, I1, rfl, q1⟩
theorem WD (ha : PE X a ta) (hb : PE X (.BoolOp .Or (b :: rest) pos) tb) : PE X (.BoolOp .Or (a :: b :: rest) pos) (aao ta tb) := by
 intro pins s σ H Q I h
 refine BoolOp_or (eG (ha pins s σ H _ I h) fun v s1 zz => ?_)
 obtain ⟨x, H1, I1, r1, q1⟩ := zz
 obtain ⟨c, rfl, q1⟩ := q1
 cases r1
 refine agw ?_
 cases c with
 | false => exact hb pins s1 σ H1 Q I1 q1
 | true => exact ⟨.bl true, H1, I1, rfl, q1⟩
theorem Sz (ha : PE X a ta) : PE X (.UnaryOp .Not a pos) (WC ta) := by
 intro pins s σ H Q I h
 refine UnaryOp_ (eG (ha pins s σ H _ I h) fun v s1 zz => ?_)
 obtain ⟨x, H1, I1, r1, q1⟩ := zz
 obtain ⟨c, rfl, q1⟩ := q1
 cases r1
 exact not_of (agw ⟨.bl (!c), H1, I1, rfl, q1⟩)
end
noncomputable def nX (K : PySem.W.Frag) (H : Hp) (a : Addr) (xs : List V) : Prop :=
 Rd H a (.lst xs) ∨
   ∃ (o : Obj) (its : Array Value) (n : Nat), K.lookup a = some o /\ o.cls = .type "list" /\ o.dict = none /\ o.data = .seq its n /\ its.size <= sizeLine /\ Vals xs its.toList
noncomputable def Dv (K : PySem.W.Frag) (H : Hp) (a : Addr) (xs : List V) : Prop :=
 Rd H a (.tup xs) ∨
   ∃ (o : Obj) (its : Array Value) (n : Nat), K.lookup a = some o /\ o.cls = .type "tuple" /\ o.data = .seq its n /\ its.size <= sizeLine /\ Vals xs its.toList
noncomputable def aap : Value -> Option V
 | .none => some .non
 | .bool b => some (.bl b)
 | .int i _ => some (.int i)
 | .str x _ => some (.str x)
 | .bytes b _ => some (.HV b)
 | .float b _ => some (.Zn b)
 | .ref a => some (.ref a)
 | .type n => some (.ty n)
 | _ => none
theorem RelV.abs {x : V} {u : Value} (r : RelV x u) : aap u = some x := by
 cases x with
 | non => cases r; rfl
 | bl _ => cases r; rfl
 | int _ => obtain ⟨t, rfl⟩ := r; rfl
 | str _ => obtain ⟨t, rfl⟩ := r; rfl
 | HV _ => obtain ⟨t, rfl⟩ := r; rfl
 | Zn _ => obtain ⟨t, rfl⟩ := r; rfl
 | ref _ => cases r; rfl
 | ty _ => cases r; rfl
theorem RelV.inj {x y : V} {u : Value} (r : RelV x u) (q : RelV y u) : x = y := afF (r.abs.symm.trans q.abs)
theorem Vals.inj {xs ys : List V} {us : List Value} (h : Vals xs us) (q : Vals ys us) : xs = ys := by
 induction h generalizing ys with
 | nil => cases q; rfl
 | cons r _ i => cases q with
   | cons r' t' => rw [r.inj r', i t']
section
variable {X : Cx} {pins : List (Addr × Obj)} {σ : St} {H : Hp} {s : Shared} {a : Addr} {xs ys : List V}
theorem nX.of {K : PySem.W.Frag} (h : H a = some (.lst xs)) : nX K H a xs := .inl (.inl h)
theorem Dv.of {K : PySem.W.Frag} (h : H a = some (.tup xs)) : Dv K H a xs := .inl (.inl h)
theorem Inv.list (I : Inv X pins σ H s) (h : nX X.K H a xs) : ∃ its : List Value, Vals xs its /\ PlainL s.heap a its.toArray /\ xs.length <= sizeLine := by
 rcases h with h | ⟨o, its, n, hk, hc, hd, hs, hz, r⟩
 . obtain ⟨z, its, n, r, e⟩ := h.ok I.dO
   exact ⟨its, r, ⟨_, n, e, rfl, rfl, rfl⟩, z⟩
 . refine ⟨its.toList, r, ⟨o, n, I.A4 a o hk, hc, hd, by simpa using hs⟩, ?_⟩
   have e := r.length
   simp only [agk] at e
   omega
theorem Inv.tuple (I : Inv X pins σ H s) (h : Dv X.K H a xs) : ∃ its : List Value, Vals xs its /\ IsTup s.heap a its.toArray /\ xs.length <= sizeLine := by
 rcases h with h | ⟨o, its, n, hk, hc, hs, hz, r⟩
 . obtain ⟨z, its, r, p⟩ := h.ok I.dO
   exact ⟨its, r, p, z⟩
 . refine ⟨its.toList, r, ⟨o, I.A4 a o hk, hc, n, by simpa using hs⟩, ?_⟩
   have e := r.length
   simp only [agk] at e
   omega
theorem Inv.Im (I : Inv X pins σ H s) (h : nX X.K H a xs) (h' : nX X.K H a ys) : xs = ys := by
 obtain ⟨its, r, ⟨o, n, e, _, _, d⟩, _⟩ := I.list h
 obtain ⟨its', r', ⟨o', n', e', _, _, d'⟩, _⟩ := I.list h'
 rw [e] at e'; cases e'
 rw [d] at d'
 injection d' with d1 _
 have : its = its' := by simpa using congrArg Array.toList d1
 subst this
 exact r.inj r'
end
noncomputable abbrev Cx.wish (X : Cx) (E : Value -> Shared -> Prop) : Cx := { X with xe := E }
noncomputable abbrev Cx.Ml (X : Cx) : Cx := X.wish fun _ _ => False
theorem Cx.Ok.wish {X : Cx} (ok : X.Ok) (E : Value -> Shared -> Prop) : (X.wish E).Ok :=
 ⟨ok.mod, ok.kind, ok.glob, ok.blt, ok.above, ok.inj, ok.has, ok.Wv, ok.hd, ok.frames, ok.Zt, ok.exf, ok.bs, ok.Mj, ok.Ij, ok.Mu, ok.sG, ok.Sh⟩
theorem Cx.Ok.k9 {X : Cx} {E : Value -> Shared -> Prop} (ok : (X.wish E).Ok) : X.Ok :=
 ⟨ok.mod, ok.kind, ok.glob, ok.blt, ok.above, ok.inj, ok.has, ok.Wv, ok.hd, ok.frames, ok.Zt, ok.exf, ok.bs, ok.Mj, ok.Ij, ok.Mu, ok.sG, ok.Sh⟩
section
variable {X : Cx} {pins : List (Addr × Obj)} {σ : St} {H : Hp} {s : Shared} {E : Value -> Shared -> Prop}
theorem Inv.wish (I : Inv X pins σ H s) (E : Value -> Shared -> Prop) : Inv (X.wish E) pins σ H s := ⟨I.ok.wish E, I.os, I.bare, I.base, I.loc, I.cell, I.free, I.k7, I.pin, I.dO, I.len⟩
theorem Inv.k9 (I : Inv (X.wish E) pins σ H s) : Inv X pins σ H s := ⟨I.ok.k9, I.os, I.bare, I.base, I.loc, I.cell, I.free, I.k7, I.pin, I.dO, I.len⟩
theorem SP.k9 {D : Ends} {f : Flow} {s' : Shared} (h : SP (X.wish E) pins D f s') : SP X pins D f s' := by
 cases f with
 | next => obtain ⟨σ', H', I, q⟩ := h; exact ⟨σ', H', I.k9, q⟩
 | brk => obtain ⟨σ', H', I, q⟩ := h; exact ⟨σ', H', I.k9, q⟩
 | cont => obtain ⟨σ', H', I, q⟩ := h; exact ⟨σ', H', I.k9, q⟩
 | ret u => obtain ⟨v, σ', H', I, r, q⟩ := h; exact ⟨v, σ', H', I.k9, r, q⟩
theorem Du.Ml {st : List Stmt} {t : TS} (h : Du X.Ml st t) : Du X st t := fun pins s σ H D I hw =>
 agn (h pins s σ H D (I.wish _) hw) (fun _ _ q => q.k9) fun _ _ z => False.elim z
end
section
variable {X : Cx} {st : Stmt} {rest : List Stmt} {t u : TS} {e : Expr} {te : TE} {pos : Pos}
noncomputable def WG : TS := fun D σ H => D.nx σ H
noncomputable def aaq (t u : TS) : TS := fun D σ H => t { D with nx := u D } σ H
theorem Mz : Du X [] WG := fun _ _ σ H _ I h => wpAny_execs_nil ⟨σ, H, I, h⟩
theorem Io (h1 : PS X st t) (h2 : Du X rest u) : Du X (st :: rest) (aaq t u) := by
 intro pins s σ H D I h
 refine wpAny_execs_cons (eG (h1 pins s σ H { D with nx := u D } I h) fun f s1 q => ?_)
 cases f with
 | next =>
   obtain ⟨σ', H', I', q⟩ := q
   exact h2 pins s1 σ' H' D I' q
 | ret v => exact q
 | brk => exact q
 | cont => exact q
noncomputable def WH : TS := fun D σ H => D.ct σ H
theorem A9 : PS X (.Continue pos) WH := fun _ _ σ H _ I h => wpAny_Continue ⟨σ, H, I, h⟩
theorem Inv.quiet {pins : List (Addr × Obj)} {σ : St} {H : Hp} {s : Shared} (I : Inv X pins σ H s) : interactive X.env = false := by simp [interactive, I.ok.kind]
noncomputable def WK (te : TE) : TS := fun D σ H => te σ H fun _ H1 => D.nx σ H1
theorem MA (he : PE X e te) (hs : swapsWith e none pos.line X.env = pure false := by rfl) : PS X (.Expr e pos) (WK te) := by
 intro pins s σ H D I h
 exact wpAny_Expr_any (eG (he pins s σ H _ I h) fun v s1 ⟨x, H1, I1, r1, q1⟩ => ⟨σ, H1, I1, q1⟩) I.quiet hs
noncomputable def aar (te : TE) : TS := fun D σ H => te σ H D.rt
theorem SD (he : PE X e te) : PS X (.Return (some e) pos) (aar te) := by
 intro pins s σ H D I h
 exact wpAny_Return_some (eG (he pins s σ H _ I h) fun v s1 ⟨x, H1, I1, r1, q1⟩ => ⟨x, σ, H1, I1, r1, q1⟩)
noncomputable def aas (c : TT) (t u : TS) : TS := fun D σ H => c σ H fun b H1 => if b = true then t D σ H1 else u D σ H1
theorem WL {c : Expr} {a b : List Stmt} {tc : TT} (hc : PT X c tc) (ha : Du X a t) (hb : Du X b u) : PS X (.If c a b pos) (aas tc t u) := by
 intro pins s σ H D I h
 refine wpAny_If (eG (hc pins s σ H _ I h) fun d s1 zz => ?_)
 obtain ⟨H1, I1, q1⟩ := zz
 cases d with
 | true => exact ha pins s1 σ H1 D I1 q1
 | false => exact hb pins s1 σ H1 D I1 q1
end
noncomputable abbrev TG := V -> St -> Hp -> (St -> Hp -> Prop) -> Prop
noncomputable def PG (X : Cx) (target : Expr) (t : TG) : Prop :=
 ∀ (pins : List (Addr × Obj)) (s : Shared) (σ : St) (H : Hp) (v : V) (u : Value) (Q : St -> Hp -> Prop), Inv X pins σ H s -> RelV v u -> t v σ H Q →
   wpAny (model X.prog X.w) X.A (assign target X.env u) (fun _ s' => ∃ σ' H', Inv X pins σ' H' s' /\ Q σ' H') X.xe s
noncomputable abbrev SG := V -> V -> V -> Hp -> (Hp -> Prop) -> Prop
noncomputable def WM (X : Cx) (t : SG) : Prop :=
 ∀ (pins : List (Addr × Obj)) (s : Shared) (σ : St) (H : Hp) (o i v : V) (ov iv u : Value) (Q : Hp -> Prop), Inv X pins σ H s -> RelV o ov -> RelV i iv -> RelV v u -> t o i v H Q →
   wpAny (model X.prog X.w) X.A (setItem ov iv u) (fun _ s' => ∃ H', Inv X pins σ H' s' /\ Q H') X.xe s
section
variable {X : Cx} {pos : Pos}
noncomputable def ER (i : Nat) : TG := fun v σ H Q => Q (σ.set i (some v)) H
theorem sQ {i : Nat} {x : Str} (hN : X.N.Nodup) (hi : X.N[i]? = some x) (hx : Loc X.env.scope x) (hf : X.fn x = true \/ X.env.scope.names.lookup x = some .local := by first | exact .inl rfl | exact .inr rfl | assumption) : PG X (.Name x pos) (ER i) := by
 intro pins s σ H v u Q I r h
 exact wpAny_assign_Name (A8 I hN hi hx r (fun s' I' => ⟨_, H, I', h⟩) hf)
noncomputable def aat (to ti : TE) (t : SG) : TG := fun v σ H Q => to σ H fun o H1 => ti σ H1 fun i H2 => t o i v H2 fun H3 => Q σ H3
theorem SJ {o i : Expr} {to ti : TE} {t : SG} (ho : PE X o to) (hi : PE X i ti) (hs : WM X t)
   (ha : ∀ v, assign (.Subscript o i pos) X.env v = (do
     let ov ← holding [v] (eval o X.env)
     let iv ← holding [v, ov] (eval i X.env)
     standAt pos
     holding [v, ov, iv] (setItem ov iv v)
     release [v, ov, iv] []) := by intro _; rfl) : PG X (.Subscript o i pos) (aat to ti t) := by
 intro pins s σ H v u Q I r h
 rw [ha]
 refine afz (ag7 (eG (ho pins s σ H _ I h) fun ov s1 zz => ?_))
 obtain ⟨x, H1, I1, r1, q1⟩ := zz
 refine afz (ag7 (eG (hi pins s1 σ H1 _ I1 q1) fun iv s2 zz => ?_))
 obtain ⟨y, H2, I2, r2, q2⟩ := zz
 refine afz (wpAny_standAt (afz (ag7 (eG (hs pins s2 σ H2 x y v ov iv u _ I2 r1 r2 r q2) fun _ s3 zz => ?_))))
 obtain ⟨H3, I3, q3⟩ := zz
 exact wpAny_release ⟨σ, H3, I3, q3⟩
noncomputable def WN (te : TE) (g : TG) : TS := fun D σ H => te σ H fun x H1 => g x σ H1 D.nx
theorem SK {tg e : Expr} {te : TE} {g : TG} (he : PE X e te) (hg : PG X tg g) (hs : swapsWithSole [tg] e pos.line X.env = pure false := by rfl) (hw : swappedStores [tg] e X.env = pure none := by rfl)
   (h1 : (assignEach [tg] X.env).map (·.2) = [assign tg X.env] := by rfl) : PS X (.Assign [tg] e pos) (WN te g) := by
 intro pins s σ H D I h
 refine wpAny_Assign_stores (eG (he pins s σ H _ I h) fun v s1 zz => ?_) hs hw
 obtain ⟨x, H1, I1, r1, q1⟩ := zz
 rw [h1]
 exact eG (hg pins s1 σ H1 x v _ I1 r1 q1) fun _ s2 q => q
theorem SM {i : Nat} {x : Str} {e : Expr} {te : TE} {pos' : Pos} (hN : X.N.Nodup) (hi : X.N[i]? = some x) (hx : Loc X.env.scope x) (he : PE X e te) (hs : swapsWith e (some (.Name x pos')) pos.line X.env = pure false := by rfl) (hf : X.fn x = true \/ X.env.scope.names.lookup x = some .local := by first | exact .inl rfl | exact .inr rfl | assumption) :
   PS X (.Assign [.Name x pos'] e pos) (WN te (ER i)) := by
 intro pins s σ H D I h
 refine wpAny_Assign_Name (eG (he pins s σ H _ I h) fun v s1 zz => ?_) hs
 obtain ⟨y, H1, I1, r1, q1⟩ := zz
 exact A8 I1 hN hi hx r1 (fun s2 I2 => ⟨_, H1, I2, q1⟩) hf
end
section
variable {X : Cx} {pos : Pos}
noncomputable def SN (c : TT) (tb : TS) : TS := fun D σ H => ∃ W : Nat -> St -> Hp -> Prop, (∃ m, W m σ H) /\ ∀ m σ H, W m σ H →
 c σ H fun b H1 => if b = true then ∃ N : St -> Hp -> Prop, (∀ σ' H', N σ' H' -> ∃ m', m' < m /\ W m' σ' H') /\ tb { D with nx := N, ct := N, bk := D.nx } σ H1 else D.nx σ H1
theorem Iq {c : Expr} {body : List Stmt} {tc : TT} {tb : TS} (hp : PassesOwn (model X.prog X.w) X.A X.env X.xe) (hc : PT X c tc) (hb : Du X body tb) : PS X (.While c body [] pos) (SN tc tb) := by
 intro pins s σ H D I h
 obtain ⟨W, ⟨m0, w0⟩, turn⟩ := h
 refine wpAny_While (codeAny_whileLoop (fun n s' => ∃ σ' H', Inv X pins σ' H' s' /\ W n σ' H') ?_ m0 ⟨σ, H, I, w0⟩)
 rintro n s1 ⟨σ1, H1, I1, w1⟩
 refine agC hp (eG (hc pins s1 σ1 H1 _ I1 (turn n σ1 H1 w1)) fun b s2 zz => ?_)
 obtain ⟨H2, I2, q2⟩ := zz
 cases b with
 | true =>
   obtain ⟨N, hN, q2⟩ := q2
   rw [afk rfl]
   refine agC hp (eG (hb pins s2 σ1 H2 _ I2 q2) fun f s3 q3 => ?_)
   cases f with
   | next =>
     obtain ⟨σ3, H3, I3, n3⟩ := q3
     obtain ⟨m', hm, w3⟩ := hN σ3 H3 n3
     exact ⟨m', hm, σ3, H3, I3, w3⟩
   | cont =>
     obtain ⟨σ3, H3, I3, n3⟩ := q3
     obtain ⟨m', hm, w3⟩ := hN σ3 H3 n3
     exact ⟨m', hm, σ3, H3, I3, w3⟩
   | brk => exact q3
   | ret v => exact q3
 | false =>
   rw [afi afx]
   exact wpAny_execs_nil ⟨σ1, H2, I2, q2⟩
end
structure It where
 go : Nat -> Hp -> Prop
 Mm : Nat -> Hp -> V -> Hp -> Prop
 stop : Nat -> Hp -> Prop
noncomputable def gX (X : Cx) (pins : List (Addr × Obj)) (H : Hp) (b : Addr) : Prop :=
 H b = none /\ b ≠ X.env.locals /\ b ∉ X.fs /\ (b ∈ X.ex \/ X.s₀.heap.objs.size <= b) /\ (∀ x c, X.env.cells.lookup x = some c -> c ≠ b) /\ ∀ p ∈ X.pn ++ pins, p.1 ≠ b
theorem Inv.Ir {X : Cx} {pins : List (Addr × Obj)} {σ : St} {H H' : Hp} {s : Shared} {b : Addr} (I : Inv X pins σ H s) (hb : s.heap.objs.size <= b) (hn : H' b = none) : gX X pins H' b := by
 refine ⟨hn, Nat.ne_of_gt (afR I.lt hb), I.aae hb, .inr (afZ I.sz hb), fun x c e z => ?_, fun p hp z => ?_⟩
 . obtain ⟨v, q⟩ := I.cell x c e
   exact absurd (afR q.lt (by rw [z]; exact hb)) (agO _)
 . exact absurd (afR (afA (I.pin p hp).1) (by rw [z]; exact hb)) (agO _)
structure Turn (P : Program) (w : World) (K : PySem.W.Frag) (tg : Expr) (J : It) (fp : List Addr) (it : Addr) (tn : Nat -> Heap -> Prop) : Prop where
 mem : it ∈ fp
 obj : ∀ i h, tn i h -> ∀ b ∈ fp, ∃ o, h.get? b = some o /\ ∀ v, o.data ≠ .cell v
 keep : ∀ i h h', tn i h -> (∀ b ∈ fp, ∀ o, h.get? b = some o -> h'.get? b = some o) -> tn i h'
 item : ∀ (X : Cx), X.prog = P -> X.w = w -> X.K = K -> X.calm = true -> ∀ (i : Nat) (pins : List (Addr × Obj)) (s : Shared) (σ : St) (H : Hp) (E : Value -> Shared -> Prop), Inv X pins σ H s -> (∀ b ∈ fp, gX X pins H b) -> tn i s.heap -> J.go i H →
   wpAny (model P w) X.A (pyNext (.ref it)) (fun r s1 => ∃ u, r = some u ∧
     wpAny (model P w) X.A (letOwnedTupleGo tg (.ref it) u) (fun _ s2 => ∃ x H', Inv X pins σ H' s2 /\ RelV x u /\ J.Mm i H x H' /\ tn (i + 1) s2.heap /\ ∀ b ∈ fp, H' b = none) E s1) E s
 done : ∀ (X : Cx), X.prog = P -> X.w = w -> X.K = K -> X.calm = true -> ∀ (i : Nat) (pins : List (Addr × Obj)) (s : Shared) (σ : St) (H : Hp) (E : Value -> Shared -> Prop), Inv X pins σ H s -> (∀ b ∈ fp, gX X pins H b) -> tn i s.heap -> J.stop i H →
   wpAny (model P w) X.A (pyNext (.ref it)) (fun r s1 => r = none /\ Inv X pins σ H s1) E s
 self : ∀ (A : Around) (i : Nat) (s : Shared) (Q : Value -> Shared -> Prop) (E : Value -> Shared -> Prop), tn i s.heap -> Q (.ref it) s -> wpAny (model P w) A (pyIter (.ref it)) Q E s
noncomputable abbrev TI := St -> Hp -> (It -> Hp -> Prop) -> Prop
noncomputable def PIE (X : Cx) (pins : List (Addr × Obj)) (σ : St) (tg : Expr) (R : It -> Hp -> Prop) (WO : Value) (s2 : Shared) : Prop :=
 ∃ (it : Addr) (fp : List Addr) (tn : Nat -> Heap -> Prop) (J : It) (H' : Hp), WO = .ref it /\ Inv X pins σ H' s2 /\ Turn X.prog X.w X.K tg J fp it tn /\ tn 0 s2.heap /\ (∀ b ∈ fp, gX X pins H' b) /\ R J H'
noncomputable def PI (X : Cx) (tg iter : Expr) (wi : TI) : Prop :=
 ∀ (pins : List (Addr × Obj)) (s : Shared) (σ : St) (H : Hp) (R : It -> Hp -> Prop), Inv X pins σ H s -> wi σ H R →
   wpAny (model X.prog X.w) X.A (eval iter X.env) (fun v s1 => wpAny (model X.prog X.w) X.A (pyIter v) (PIE X pins σ tg R) X.xe s1) X.xe s
theorem Rq {M : Model} {A : Around} {E : Value -> Shared -> Prop} {s : Shared} {tg : Expr} {it : Addr} {u : Value} {o : Obj} {n : String} {vs : Array Value} {Q : Unit -> Shared -> Prop} (ho : s.heap.get? it = some o) (hc : o.cls = .type n) (hd : o.data = .fields vs)
   (hn : ["enumerate", "zip", "dict_itemiterator", "dict_reverseitemiterator", "odict_iterator", "itertools.zip_longest", "itertools.pairwise"].contains n = false) (hQ : Q () s) : wpAny M A (letOwnedTupleGo tg (.ref it) u) Q E s := by
 unfold letOwnedTupleGo
 cases tg <;> first
   | exact af1 hQ
   | (cases u <;> first
       | exact af1 hQ
       | (refine afz (wpAny_load ho ?_)
          rw [hc, hd]
          show wpAny M A (if (["enumerate", "zip", "dict_itemiterator", "dict_reverseitemiterator", "odict_iterator", "itertools.zip_longest", "itertools.pairwise"].contains n && vs[0]? == some (rawInt _)) = true then _ else _) Q E s
          rw [afi (by intro h; rw [hn, Bool.false_and] at h; cases h)]
          exact af1 hQ))
noncomputable def Itl (K : PySem.W.Frag) (a : Addr) : It :=
 ⟨fun i H => ∃ xs x, nX K H a xs /\ xs[i]? = some x, fun i H x H' => H' = H /\ ∀ xs, nX K H a xs -> xs[i]? = some x, fun i H => ∃ xs, nX K H a xs /\ xs.length <= i⟩
noncomputable def Zy (lo : Int) (n : Nat) : It := ⟨fun i _ => i < n, fun i H x H' => H' = H /\ x = .int (lo + i), fun i _ => n <= i⟩
theorem F9 {P : Program} {w : World} {K : PySem.W.Frag} {tg : Expr} (a it : Addr) : Turn P w K tg (Itl K a) [it] it (fun i h => h.IsListIter it a i) where
 mem := by simp
 obj := fun i h st b hb => by
   have e : b = it := by simpa using hb
   subst e
   obtain ⟨o, e, c, d⟩ := st
   exact ⟨o, e, fun v z => by rw [d] at z; cases z⟩
 keep := fun i h h' st k => st.at fun o e => k it (by simp) o e
 item := by
   intro X hP hw hK hc i pins s σ H E I hf st hg
   subst hP hw hK
   obtain ⟨xs, x, hq, hx⟩ := hg
   obtain ⟨its, rv, p, hz⟩ := I.list hq
   obtain ⟨u, hu, ru⟩ := rv.get hx
   obtain ⟨f0, f1, f2, f3, f4, f5⟩ := hf it (by simp)
   refine wpAny_pyNext_list_item st p.isList (x := u) (by simpa using hu) fun h' HX sb => ?_
   have I1 : Inv X pins σ H { s with heap := h' } := I.turned (t' := s.toks) (fun b o hb e => (sb.2 b hb).trans e) f0 f1 f3 f4 f5
   obtain ⟨o, e, c, d⟩ := id HX
   exact ⟨u, rfl, Rq (s := { s with heap := h' }) e c d (by decide) ⟨x, H, I1, ru, ⟨rfl, fun ys hy => by rw [I.Im hy hq]; exact hx⟩, HX, fun b hb => (hf b hb).1⟩⟩
 done := by
   intro X hP hw hK hc i pins s σ H E I hf st hg
   subst hP hw hK
   obtain ⟨xs, hq, hx⟩ := hg
   obtain ⟨its, rv, p, hz⟩ := I.list hq
   obtain ⟨f0, f1, f2, f3, f4, f5⟩ := hf it (by simp)
   have hl := rv.length
   exact wpAny_pyNext_list_end (I.ok.hd hc) st p.isList (by simp; omega) fun h' eb => ⟨rfl, I.turned (t' := s.toks) (fun b o hb e => eb b o hb e) f0 f1 f3 f4 f5⟩
 self := fun _ _ _ _ _ st h => wpAny_pyIter_listiter st h
theorem Dw {P : Program} {w : World} {K : PySem.W.Frag} {tg : Expr} (it : Addr) (lo : Int) (n : Nat) : Turn P w K tg (Zy lo n) [it] it (fun i h => IsRangeIter h it (lo + (i : Nat) * 1) ((n : Int) - (i : Nat)) 1) where
 mem := by simp
 obj := fun i h st b hb => by
   have e : b = it := by simpa using hb
   subst e
   exact ⟨_, st, fun v z => by
     have z' : Data.fields _ = Data.cell v := z
     cases z'⟩
 keep := fun i h h' st k => k it (by simp) _ st
 item := by
   intro X hP hw hK hc i pins s σ H E I hf st hg
   subst hP hw hK
   obtain ⟨f0, f1, f2, f3, f4, f5⟩ := hf it (by simp)
   have W := Walks.range (prog := X.prog) (w := X.w) (I.ok.hd hc) it lo 1 n
   refine W.item i s _ _ hg st fun v h' tk hv HX kk => ?_
   obtain ⟨t, rfl⟩ := hv
   have I1 : Inv X pins σ H { s with heap := h', toks := tk } := I.turned (fun b o hb e => kk b o (by simpa using hb) e) f0 f1 f3 f4 f5
   refine ⟨_, rfl, Rq (s := { s with heap := h', toks := tk }) (n := "range_iterator") HX rfl rfl (by decide) ⟨.int (lo + i), H, I1, ⟨t, ?_⟩, ⟨rfl, rfl⟩, HX, fun b hb => (hf b hb).1⟩⟩
   rw [Int.mul_one]
 done := by
   intro X hP hw hK hc i pins s σ H E I hf st hg
   subst hP hw hK
   obtain ⟨f0, f1, f2, f3, f4, f5⟩ := hf it (by simp)
   exact wpAny_pyNext_range_end (I.ok.hd hc) st (by have : n <= i := hg; omega) fun h' eb => ⟨rfl, I.turned (t' := s.toks) (fun b o hb e => eb b o hb e) f0 f1 f3 f4 f5⟩
 self := fun _ _ _ _ _ st h => wpAny_pyIter_rangeiter st h
section
variable {X : Cx} {tg : Expr}
noncomputable def WQ (K : PySem.W.Frag) (tl : TE) : TI := fun σ H R => tl σ H fun x H1 => ∃ a, x = .ref a /\ (∃ xs, nX K H1 a xs) /\ R (Itl K a) H1
theorem xM {l : Expr} {tl : TE} (hl : PE X l tl) : PI X tg l (WQ X.K tl) := by
 intro pins s σ H R I h
 refine eG (hl pins s σ H _ I h) fun v s1 zz => ?_
 obtain ⟨x, H1, I1, r1, q1⟩ := zz
 obtain ⟨a, e, ⟨xs, hq⟩, q⟩ := q1
 subst e
 cases r1
 obtain ⟨its, rv, p, hz⟩ := I1.list hq
 refine wpAny_pyIter_list p.isList ?_
 refine ⟨s1.heap.objs.size, [s1.heap.objs.size], _, _, H1, rfl, I1.kept (t' := s1.toks) fun b o e => afv _ e, F9 a _, ⟨_, afL _ rfl, rfl, rfl⟩, fun b hb => ?_, q⟩
 have e : b = s1.heap.objs.size := by simpa using hb
 subst e
 exact I1.Ir (afp _) (I1.dO.fresh (afp _))
theorem Ba {pins : List (Addr × Obj)} {σ : St} {H : Hp} {s : Shared} {R : It -> Hp -> Prop} {E : Value -> Shared -> Prop} {lo hi : Int} {t u v : Tok} {tk : Nat} (I : Inv X pins σ H s) (h1 : -(2 ^ 62) <= lo) (h2 : lo < 2 ^ 62) (h3 : -(2 ^ 62) <= hi) (h4 : hi < 2 ^ 62)
   (q : R (Zy lo (hi - lo).toNat) H) : wpAny (model X.prog X.w) X.A (pyIter (.ref s.heap.objs.size)) (PIE X pins σ tg R) E { s with heap := s.heap.push { cls := .type "range", data := .fields #[.int lo t, .int hi u, .int 1 v] }, toks := tk } := by
 refine wpAny_pyIter_range (IsRange.new ..) (small_one h1 h2 h3 h4) ?_
 have I1 : Inv X pins σ H { s with heap := s.heap.push { cls := .type "range", data := .fields #[.int lo t, .int hi u, .int 1 v] }, toks := tk } := I.kept fun b o e => afv _ e
 refine ⟨(s.heap.push { cls := .type "range", data := .fields #[.int lo t, .int hi u, .int 1 v] }).objs.size, [(s.heap.push { cls := .type "range", data := .fields #[.int lo t, .int hi u, .int 1 v] }).objs.size], _, _, H, rfl,
   I1.kept (t' := tk) fun b o e => afv _ e, Dw _ lo (hi - lo).toNat, ?_, fun b hb => ?_, q⟩
 . have e1 : lo + ((0 : Nat) : Int) * 1 = lo := by simp
   have e2 : (((hi - lo).toNat : Nat) : Int) - ((0 : Nat) : Int) = Builtin.Range.rangeSize lo hi 1 := by rw [rangeSize_one]; split <;> omega
   show IsRangeIter _ _ (lo + ((0 : Nat) : Int) * 1) ((((hi - lo).toNat : Nat) : Int) - ((0 : Nat) : Int)) 1
   rw [e1, e2]
   exact afL _ rfl
 . have e : b = (s.heap.push { cls := .type "range", data := .fields #[.int lo t, .int hi u, .int 1 v] }).objs.size := by simpa using hb
   subst e
   exact I1.Ir (afp _) (I1.dO.fresh (afp _))
noncomputable def WR (ta : TA) : TI := fun σ H R => ta σ H fun vs H1 => ∃ j : Int, vs = [.int j] /\ -(2 ^ 62) <= j /\ j < 2 ^ 62 /\ R (Zy 0 j.toNat) H1
noncomputable def WT (ta : TA) : TI := fun σ H R => ta σ H fun vs H1 => ∃ i j : Int, vs = [.int i, .int j] /\ (-(2 ^ 62) <= i /\ i < 2 ^ 62 /\ -(2 ^ 62) <= j /\ j < 2 ^ 62) /\ R (Zy i (j - i).toNat) H1
theorem Ga {a : Expr} {ta : TA} {p pos : Pos} (hg : Gl X "range") (hm : X.mg "range" = none) (ha : PA X [a] ta) (hs : starEach [a] X.env = [(false, eval a X.env)] := by rfl) : PI X tg (.Call (.Name "range" p) [a] [] pos) (WR ta) := by
 intro pins s σ H R I h
 refine Call_ (qI I hg hm boot_range (agT (eG (ha pos pins s σ H _ I h) fun us s1 zz => ?_) hs rfl))
 obtain ⟨vs, H1, I1, r1, q1⟩ := zz
 obtain ⟨j, e, q1, q2, q⟩ := q1
 subst e
 cases r1 with
 | cons r rr =>
   cases rr
   obtain ⟨t, rfl⟩ := r
   exact call_range_1 (Ba I1 (by omega) (by omega) q1 q2 (by simpa using q))
theorem Gb {a b : Expr} {ta : TA} {p pos : Pos} (hg : Gl X "range") (hm : X.mg "range" = none) (ha : PA X [a, b] ta) (hs : starEach [a, b] X.env = [(false, eval a X.env), (false, eval b X.env)] := by rfl) (Rr : starEach [b] X.env = [(false, eval b X.env)] := by rfl) :
   PI X tg (.Call (.Name "range" p) [a, b] [] pos) (WT ta) := by
 intro pins s σ H R I h
 refine Call_ (qI I hg hm boot_range (agT (eG (ha pos pins s σ H _ I h) fun us s1 zz => ?_) (by rw [hs, Rr]) (by rw [Rr]; rfl)))
 obtain ⟨vs, H1, I1, r1, q1⟩ := zz
 obtain ⟨i, j, e, ⟨q1, q2, q3, q4⟩, q⟩ := q1
 subst e
 cases r1 with
 | cons r rr =>
   cases rr with
   | cons r' rr =>
     cases rr
     obtain ⟨t, rfl⟩ := r
     obtain ⟨t', rfl⟩ := r'
     exact call_range_2 (Ba I1 q1 q2 q3 q4 q)
noncomputable def aau (wi : TI) (g : TG) (tb : TS) : TS := fun D σ H => wi σ H fun J H1 => ∃ W : Nat -> Nat -> St -> Hp -> Prop, (∃ m, W 0 m σ H1) /\ ∀ i m σ H, W i m σ H →
 (J.stop i H /\ D.nx σ H) \/ (J.go i H /\ ∃ N : St -> Hp -> Prop, (∀ σ' H', N σ' H' -> ∃ m', m' < m /\ W (i + 1) m' σ' H') /\ ∀ x H', J.Mm i H x H' -> g x σ H' fun σ2 H2 => tb { D with nx := N, ct := N, bk := D.nx } σ2 H2)
noncomputable def um (fp : List Addr) (h : Heap) : List (Addr × Obj) := fp.filterMap fun b => (h.get? b).map fun o => (b, o)
theorem gn {fp : List Addr} {h : Heap} {b : Addr} {o : Obj} (hb : b ∈ fp) (e : h.get? b = some o) : (b, o) ∈ um fp h := List.mem_filterMap.mpr ⟨b, hb, by rw [e]; rfl⟩
theorem Gd {fp : List Addr} {h : Heap} {p : Addr × Obj} (hp : p ∈ um fp h) : p.1 ∈ fp /\ h.get? p.1 = some p.2 := by
 obtain ⟨b, hb, e⟩ := List.mem_filterMap.mp hp
 cases q : h.get? b with
 | none => rw [q] at e; cases e
 | some o =>
   rw [q] at e
   have e' : (b, o) = p := afF e
   subst e'
   exact ⟨hb, q⟩
theorem Inv.pinned {pins : List (Addr × Obj)} {σ : St} {H : Hp} {s : Shared} {fp : List Addr} (I : Inv X pins σ H s) (hf : ∀ b ∈ fp, gX X pins H b) (ho : ∀ b ∈ fp, ∃ o, s.heap.get? b = some o /\ ∀ v, o.data ≠ .cell v) : Inv X (pins ++ um fp s.heap) σ H s :=
 I.sO fun p hp => (afu.mp hp).elim (fun z => I.pin p (afh _ z)) fun z => by
   obtain ⟨hb, e⟩ := Gd z
   obtain ⟨f0, f1, f2, _⟩ := hf p.1 hb
   obtain ⟨o, e', d⟩ := ho p.1 hb
   rw [e] at e'; cases e'
   exact ⟨e, f0, f1, f2, d⟩
theorem Inv.lg {pins pl : List (Addr × Obj)} {σ : St} {H : Hp} {s : Shared} (I : Inv X (pins ++ pl) σ H s) : Inv X pins σ H s := I.sO fun p hp => I.pin p (afh _ (afy _ hp))
theorem Iu {iter : Expr} {body : List Stmt} {wi : TI} {g : TG} {tb : TS} {pos : Pos} (hp : PassesOwn (model X.prog X.w) X.A X.env X.xe) (hc : X.calm = true) (hi : PI X tg iter wi) (hg : PG X tg g) (hb : Du X body tb)
   (hs : ∀ x, foldedSetIterable iter X.env x = pure x := by intro _; rfl) : PS X (.For tg iter body [] pos) (aau wi g tb) := by
 intro pins s σ H D I h
 refine wpAny_For (eG (hi pins s σ H _ I h) fun v s1 h1 => eG h1 fun WO s2 h2 => ?_) hs
 obtain ⟨it, fp, tn, J, H2, e, I2, T, st2, f2, W, ⟨m0, w0⟩, turn⟩ := h2
 subst e
 have stat : ∀ {H' : Hp}, (∀ b ∈ fp, H' b = none) -> ∀ b ∈ fp, gX X pins H' b := fun hn b hb => ⟨hn b hb, (f2 b hb).2⟩
 refine codeAny_forLoop_any (fun n s' => ∃ i σ' H', Inv X pins σ' H' s' /\ tn i s'.heap /\ (∀ b ∈ fp, H' b = none) /\ W i n σ' H') ?_ m0 ⟨0, σ, H2, I2, st2, fun b hb => (f2 b hb).1, w0⟩
 rintro n s3 ⟨i, σ3, H3, I3, WU, fr3, w3⟩
 rcases turn i n σ3 H3 w3 with ⟨stop, qn⟩ | ⟨go, N, hN, step⟩
 . refine agC hp (eG (T.done X rfl rfl rfl hc i pins s3 σ3 H3 X.xe I3 (stat fr3) WU stop) fun r s4 zz => ?_)
   obtain ⟨hr, I4⟩ := zz
   subst hr
   exact wpAny_execs_nil ⟨σ3, H3, I4, qn⟩
 . refine agC hp (eG (T.item X rfl rfl rfl hc i pins s3 σ3 H3 X.xe I3 (stat fr3) WU go) fun r s4 zz => ?_)
   obtain ⟨u, hr, h4⟩ := zz
   subst hr
   refine agC hp (eG h4 fun _ s5 zz => ?_)
   obtain ⟨x, H5, I5, r5, y5, V7, Zz⟩ := zz
   have I5' := I5.pinned (stat Zz) (T.obj _ _ V7)
   refine agC hp (eG (hg _ s5 σ3 H5 x u _ I5' r5 (step x H5 y5)) fun _ s6 zz => ?_)
   obtain ⟨σ6, H6, I6, q6⟩ := zz
   refine agC hp (eG (hb _ s6 σ6 H6 _ I6 q6) fun f s7 q7 => ?_)
   have again : ∀ {σ7 : St} {H7 : Hp}, Inv X (pins ++ um fp s5.heap) σ7 H7 s7 -> N σ7 H7 -> ∃ m, m < n /\ ∃ i σ' H', Inv X pins σ' H' s7 /\ tn i s7.heap /\ (∀ b ∈ fp, H' b = none) /\ W i m σ' H' := fun {σ7 H7} I7 n7 => by
     obtain ⟨m', hm, w7⟩ := hN σ7 H7 n7
     refine ⟨m', hm, i + 1, σ7, H7, I7.lg, T.keep _ _ _ V7 fun b hb o e => (I7.pin (b, o) (afh _ (afh _ (gn hb e)))).1, fun b hb => ?_, w7⟩
     obtain ⟨o, e, d⟩ := T.obj _ _ V7 b hb
     exact (I7.pin (b, o) (afh _ (afh _ (gn hb e)))).2.1
   cases f with
   | next => obtain ⟨σ7, H7, I7, n7⟩ := q7; exact again I7 n7
   | cont => obtain ⟨σ7, H7, I7, n7⟩ := q7; exact again I7 n7
   | brk => obtain ⟨σ7, H7, I7, q7⟩ := q7; exact ⟨σ7, H7, I7.lg, q7⟩
   | ret v => obtain ⟨x7, σ7, H7, I7, r7, q7⟩ := q7; exact ⟨x7, σ7, H7, I7.lg, r7, q7⟩
end
noncomputable abbrev R2 := V -> V -> Hp -> VK -> Prop
noncomputable def qJ (X : Cx) (f : Value -> Value -> Sem Value) (r : R2) : Prop :=
 ∀ (pins : List (Addr × Obj)) (s : Shared) (σ : St) (H : Hp) (x y : V) (v u : Value) (Q : VK), Inv X pins σ H s -> RelV x v -> RelV y u -> r x y H Q →
   wpAny (model X.prog X.w) X.A (f v u) (EP X pins σ Q) X.xe s
noncomputable def UnR (X : Cx) (f : Value -> Sem Value) (r : V -> Hp -> VK -> Prop) : Prop :=
 ∀ (pins : List (Addr × Obj)) (s : Shared) (σ : St) (H : Hp) (x : V) (v : Value) (Q : VK), Inv X pins σ H s -> RelV x v -> r x H Q →
   wpAny (model X.prog X.w) X.A (f v) (EP X pins σ Q) X.xe s
noncomputable def kY (X : Cx) (f : Value) (r : List V -> Hp -> VK -> Prop) : Prop :=
 ∀ (pins : List (Addr × Obj)) (s : Shared) (σ : St) (H : Hp) (xs : List V) (us : List Value) (Q : VK), Inv X pins σ H s -> Vals xs us -> r xs H Q →
   wpAny (model X.prog X.w) X.A (call f us) (EP X pins σ Q) X.xe s
noncomputable def ZC (r : R2) (ta tb : TE) : TE := fun σ H Q => ta σ H fun x H1 => tb σ H1 fun y H2 => r x y H2 Q
noncomputable def tUn (r : V -> Hp -> VK -> Prop) (ta : TE) : TE := fun σ H Q => ta σ H fun x H1 => r x H1 Q
noncomputable def rI (C : Int -> Int -> Prop) (g : Int -> Int -> V) : R2 := fun x y H Q => ∃ i j, x = .int i /\ y = .int j /\ C i j /\ Q (g i j) H
noncomputable def SQ (g : Int -> Int -> V) : R2 := fun x y H Q => ∃ i j, x = .int i /\ y = .int j /\ Q (g i j) H
noncomputable def rU (g : Int -> V) : V -> Hp -> VK -> Prop := fun x H Q => ∃ i, x = .int i /\ Q (g i) H
section
variable {X : Cx} {a b c : Expr} {ta tb tc : TE} {pos : Pos}
theorem SR (ha : PE X a ta) (hb : PE X b tb) {pins : List (Addr × Obj)} {s : Shared} {σ : St} {H : Hp} {R : V -> V -> Hp -> Prop} (I : Inv X pins σ H s)
   (h : ta σ H fun x H1 => tb σ H1 fun y H2 => R x y H2) {Q : Value -> Shared -> Prop} {f : Value -> Value -> Sem Value}
   (hf : ∀ v u s2 x y H2, Inv X pins σ H2 s2 -> RelV x v -> RelV y u -> R x y H2 -> wpAny (model X.prog X.w) X.A (f v u) Q X.xe s2) :
   wpAny (model X.prog X.w) X.A (eval a X.env) (fun v s₁ => wpAny (model X.prog X.w) X.A (eval b X.env) (fun u s₂ => wpAny (model X.prog X.w) X.A (f v u) Q X.xe s₂) X.xe s₁) X.xe s := by
 refine eG (ha pins s σ H _ I h) fun v s1 zz => ?_
 obtain ⟨x, H1, I1, r1, q1⟩ := zz
 refine eG (hb pins s1 σ H1 _ I1 q1) fun u s2 zz => ?_
 obtain ⟨y, H2, I2, r2, q2⟩ := zz
 exact hf v u s2 x y H2 I2 r1 r2 q2
theorem Iv {op : Operator} {r : R2} (ho : qJ X (binaryOp op) r) (ha : PE X a ta) (hb : PE X b tb) : PE X (.BinOp a op b pos) (ZC r ta tb) := by
 intro pins s σ H Q I h
 exact wpAny_BinOp (SR ha hb I h fun v u s2 x y H2 I2 rx ry q => ho pins s2 σ H2 x y v u Q I2 rx ry q)
theorem WV {op : UnaryOp} {r : V -> Hp -> VK -> Prop} (ho : UnR X (unaryOp op) r) (ha : PE X a ta) : PE X (.UnaryOp op a pos) (tUn r ta) := by
 intro pins s σ H Q I h
 exact UnaryOp_ (eG (ha pins s σ H _ I h) fun v s1 ⟨x, H1, I1, r1, q1⟩ => ho pins s1 σ H1 x v Q I1 r1 q1)
theorem ZD {f : Value -> Value -> Sem Value} {C : Int -> Int -> Prop} {g : Int -> Int -> Int}
   (rule : ∀ (i j : Int) (t u : Tok) (s : Shared) (Q : Value -> Shared -> Prop) (E : Value -> Shared -> Prop), C i j -> Q (.int (g i j) s.toks) { s with toks := s.toks + 1 } -> wpAny (model X.prog X.w) X.A (f (.int i t) (.int j u)) Q E s) :
   qJ X f (rI C fun i j => .int (g i j)) := by
 intro pins s σ H x y v u Q I rx ry h
 obtain ⟨i, j, rfl, rfl, hc, q⟩ := h
 obtain ⟨t, rfl⟩ := rx
 obtain ⟨t', rfl⟩ := ry
 exact rule i j t t' s _ _ hc ⟨.int (g i j), H, I.tok _, ⟨_, rfl⟩, q⟩
theorem WW {f : Value -> Value -> Sem Value} {g : Int -> Int -> Int}
   (rule : ∀ (i j : Int) (t u : Tok) (s : Shared) (Q : Value -> Shared -> Prop) (E : Value -> Shared -> Prop), Q (.int (g i j) s.toks) { s with toks := s.toks + 1 } -> wpAny (model X.prog X.w) X.A (f (.int i t) (.int j u)) Q E s) :
   qJ X f (SQ fun i j => .int (g i j)) := by
 intro pins s σ H x y v u Q I rx ry h
 obtain ⟨i, j, rfl, rfl, q⟩ := h
 obtain ⟨t, rfl⟩ := rx
 obtain ⟨t', rfl⟩ := ry
 exact rule i j t t' s _ _ ⟨.int (g i j), H, I.tok _, ⟨_, rfl⟩, q⟩
theorem SV {f : Value -> Value -> Sem Value} {g : Int -> Int -> Bool}
   (rule : ∀ (i j : Int) (t u : Tok) (s : Shared) (Q : Value -> Shared -> Prop) (E : Value -> Shared -> Prop), Q (.bool (g i j)) s -> wpAny (model X.prog X.w) X.A (f (.int i t) (.int j u)) Q E s) :
   qJ X f (SQ fun i j => .bl (g i j)) := by
 intro pins s σ H x y v u Q I rx ry h
 obtain ⟨i, j, rfl, rfl, q⟩ := h
 obtain ⟨t, rfl⟩ := rx
 obtain ⟨t', rfl⟩ := ry
 exact rule i j t t' s _ _ ⟨.bl (g i j), H, I, rfl, q⟩
noncomputable def WX (i j : Int) : Prop := 0 < j /\ j < 1073741824
noncomputable def WY (i j : Int) : Prop := 0 <= j /\ j <= 1000000 /\ i.natAbs < 2 ^ 64
noncomputable def MB (i j : Int) : Prop := (-(2 ^ 64) < i /\ i < 2 ^ 64) \/ (-(2 ^ 64) < j /\ j < 2 ^ 64)
theorem MB.ok {i j : Int} (h : MB i j) : IntMulOk i j := by
 rcases h with ⟨h1, h2⟩ | ⟨h1, h2⟩
 . exact .of_left (intBits_le_64 h1 h2)
 . exact .of_right (intBits_le_64 h1 h2)
theorem SW : qJ X (binaryOp .Add) (SQ fun i j => .int (i + j)) := WW fun _ _ _ _ _ _ _ q => add_int q
theorem SX : qJ X (binaryOp .Sub) (SQ fun i j => .int (i - j)) := WW fun _ _ _ _ _ _ _ q => sub_int q
theorem SY : qJ X (binaryOp .Mult) (rI MB fun i j => .int (i * j)) := ZD fun _ _ _ _ _ _ _ hc q => mul_int q hc.ok
theorem MC : qJ X (binaryOp .FloorDiv) (rI WX fun i j => .int (i / j)) := ZD fun i j _ _ _ _ _ hc q => by
 have h1 : (0 : Int) < j := hc.1
 have h2 : j < 1073741824 := hc.2
 exact floordiv_int (by omega) (by rw [Int.fdiv_eq_ediv_of_nonneg i (by omega)]; exact q) (.inl (PyProof.noPylong_small (by omega)))
theorem S6 : qJ X (binaryOp .Mod) (rI (fun _ j => 0 < j) fun i j => .int (i % j)) := ZD fun i j _ _ _ _ _ hc q => by
 have h1 : (0 : Int) < j := hc
 exact mod_int' (by omega) (by rw [Int.fmod_eq_emod_of_nonneg i (by omega)]; exact q)
theorem S7 : qJ X (binaryOp .Pow) (rI WY fun i j => .int (i ^ j.toNat)) := ZD fun _ _ _ _ _ _ _ hc q => pow_int_small hc.1 hc.2.1 hc.2.2 q
theorem unI {f : Value -> Sem Value} {g : Int -> Int}
   (rule : ∀ (i : Int) (t : Tok) (s : Shared) (Q : Value -> Shared -> Prop) (E : Value -> Shared -> Prop), Q (.int (g i) s.toks) { s with toks := s.toks + 1 } -> wpAny (model X.prog X.w) X.A (f (.int i t)) Q E s) :
   UnR X f (rU fun i => .int (g i)) := by
 intro pins s σ H x v Q I rx h
 obtain ⟨i, rfl, q⟩ := h
 obtain ⟨t, rfl⟩ := rx
 exact rule i t s _ _ ⟨.int (g i), H, I.tok _, ⟨_, rfl⟩, q⟩
theorem S8 : UnR X (unaryOp .USub) (rU fun i => .int (-i)) := unI fun _ _ _ _ _ q => neg_int q
end
noncomputable def WZ : V -> V -> Bool
 | .non, .non => true | .non, .int _ => true | .int _, .non => true | .non, .bl _ => true | .bl _, .non => true | .non, .str _ => true | .str _, .non => true
 | .int _, .int _ => true | .bl _, .bl _ => true | .str _, .str _ => true | .HV _, .HV _ => true
 | .int _, .str _ => true | .str _, .int _ => true | .bl _, .str _ => true | .str _, .bl _ => true
 | _, _ => false
noncomputable def rEq : R2 := fun x y H Q => WZ x y = true /\ Q (.bl (decide (x = y))) H
noncomputable def rNe : R2 := fun x y H Q => WZ x y = true /\ Q (.bl (!decide (x = y))) H
theorem EV {i j : Int} : decide (V.int i = V.int j) = (i == j) := by
 rw [Bool.eq_iff_iff]
 simp
theorem Iw {i j : Bool} : decide (V.bl i = V.bl j) = (i == j) := by
 rw [Bool.eq_iff_iff]
 simp
theorem EW {i j : Str} : decide (V.str i = V.str j) = (i == j) := by
 rw [Bool.eq_iff_iff]
 simp
theorem EX {i j : Array UInt8} : decide (V.HV i = V.HV j) = (i.toList == j.toList) := by
 rw [Bool.eq_iff_iff]
 cases i
 cases j
 simp
section
variable {X : Cx} {a b c : Expr} {ta tb tc : TE} {pos : Pos}
theorem bS {pins : List (Addr × Obj)} {σ : St} {H : Hp} {s : Shared} {Q : VK} {k k' : Bool} (I : Inv X pins σ H s) (q : Q (.bl k) H) (e : k = k') : EP X pins σ Q (.bool k') s := by
 subst e
 exact ⟨.bl k, H, I, rfl, q⟩
theorem Iz : qJ X (compareOp .Eq) rEq := by
 intro pins s σ H x y v u Q I rx ry h
 obtain ⟨hs, q⟩ := h
 cases x with
 | non =>
   cases rx
   cases y with
   | non => cases ry; exact PySem.EqNone.eq_none_none (bS I q (by simp))
   | bl j => cases ry; exact PySem.EqNone.eq_none_bool (bS I q (by simp))
   | int j => obtain ⟨t', rfl⟩ := ry; exact PySem.EqNone.eq_none_int (bS I q (by simp))
   | str j => obtain ⟨t', rfl⟩ := ry; exact PySem.EqNone.eq_none_str (bS I q (by simp))
   | _ => exact absurd (show false = true from hs) afx
 | bl i =>
   cases rx
   cases y with
   | non => cases ry; exact PySem.EqNone.eq_bool_none (bS I q (by simp))
   | bl j => cases ry; exact eq_bool (bS I q Iw)
   | str j => obtain ⟨t', rfl⟩ := ry; exact PySem.EqMixed.eq_bool_str (bS I q (by simp))
   | _ => exact absurd (show false = true from hs) afx
 | int i =>
   obtain ⟨t, rfl⟩ := rx
   cases y with
   | non => cases ry; exact PySem.EqNone.eq_int_none (bS I q (by simp))
   | int j => obtain ⟨t', rfl⟩ := ry; exact eq_int (bS I q EV)
   | str j => obtain ⟨t', rfl⟩ := ry; exact PySem.EqMixed.eq_int_str (bS I q (by simp))
   | _ => exact absurd (show false = true from hs) afx
 | str i =>
   obtain ⟨t, rfl⟩ := rx
   cases y with
   | non => cases ry; exact PySem.EqNone.eq_str_none (bS I q (by simp))
   | bl j => cases ry; exact PySem.EqMixed.eq_str_bool (bS I q (by simp))
   | int j => obtain ⟨t', rfl⟩ := ry; exact PySem.EqMixed.eq_str_int (bS I q (by simp))
   | str j => obtain ⟨t', rfl⟩ := ry; exact eq_str (bS I q EW)
   | _ => exact absurd (show false = true from hs) afx
 | HV i =>
   obtain ⟨t, rfl⟩ := rx
   cases y with
   | HV j => obtain ⟨t', rfl⟩ := ry; exact PySem.W.eq_bytes (bS I q EX)
   | _ => exact absurd (show false = true from hs) afx
 | _ => cases y <;> exact absurd (show false = true from hs) afx
theorem W0 : qJ X (compareOp .NotEq) rNe := by
 intro pins s σ H x y v u Q I rx ry h
 obtain ⟨hs, q⟩ := h
 cases x with
 | non =>
   cases rx
   cases y with
   | non => cases ry; exact PySem.EqNone.ne_none_none (bS I q (by simp))
   | bl j => cases ry; exact PySem.EqNone.ne_none_bool (bS I q (by simp))
   | int j => obtain ⟨t', rfl⟩ := ry; exact PySem.EqNone.ne_none_int (bS I q (by simp))
   | str j => obtain ⟨t', rfl⟩ := ry; exact PySem.EqNone.ne_none_str (bS I q (by simp))
   | _ => exact absurd (show false = true from hs) afx
 | bl i =>
   cases rx
   cases y with
   | non => cases ry; exact PySem.EqNone.ne_bool_none (bS I q (by simp))
   | bl j => cases ry; exact ne_bool (bS I q (congrArg not Iw))
   | str j => obtain ⟨t', rfl⟩ := ry; exact PySem.EqMixed.ne_bool_str (bS I q (by simp))
   | _ => exact absurd (show false = true from hs) afx
 | int i =>
   obtain ⟨t, rfl⟩ := rx
   cases y with
   | non => cases ry; exact PySem.EqNone.ne_int_none (bS I q (by simp))
   | int j => obtain ⟨t', rfl⟩ := ry; exact ne_int (bS I q (congrArg not EV))
   | str j => obtain ⟨t', rfl⟩ := ry; exact PySem.EqMixed.ne_int_str (bS I q (by simp))
   | _ => exact absurd (show false = true from hs) afx
 | str i =>
   obtain ⟨t, rfl⟩ := rx
   cases y with
   | non => cases ry; exact PySem.EqNone.ne_str_none (bS I q (by simp))
   | bl j => cases ry; exact PySem.EqMixed.ne_str_bool (bS I q (by simp))
   | int j => obtain ⟨t', rfl⟩ := ry; exact PySem.EqMixed.ne_str_int (bS I q (by simp))
   | str j => obtain ⟨t', rfl⟩ := ry; exact ne_str (bS I q (congrArg not EW))
   | _ => exact absurd (show false = true from hs) afx
 | HV i =>
   obtain ⟨t, rfl⟩ := rx
   cases y with
   | HV j => obtain ⟨t', rfl⟩ := ry; exact PySem.W.ne_bytes (bS I q (congrArg not EX))
   | _ => exact absurd (show false = true from hs) afx
 | _ => cases y <;> exact absurd (show false = true from hs) afx
theorem W2 : qJ X (compareOp .Lt) (SQ fun i j => .bl (decide (i < j))) := SV fun _ _ _ _ _ _ _ q => lt_int q
theorem W3 : qJ X (compareOp .LtE) (SQ fun i j => .bl (decide (i <= j))) := SV fun _ _ _ _ _ _ _ q => le_int q
theorem W4 : qJ X (compareOp .Gt) (SQ fun i j => .bl (decide (j < i))) := SV fun _ _ _ _ _ _ _ q => gt_int q
theorem jV (b : Expr) {op : CmpOp} (h : op ≠ .In := by decide) (h2 : op ≠ .NotIn := by decide) : behindInMarks op b = false := by
 have e1 : (op == CmpOp.In) = false := by cases op <;> first | rfl | exact absurd rfl h
 have e2 : (op == CmpOp.NotIn) = false := by cases op <;> first | rfl | exact absurd rfl h2
 cases b <;> simp [behindInMarks, e1, e2]
theorem oO {op : CmpOp} {r : R2} (ho : qJ X (compareOp op) r) (ha : PE X a ta) (hb : PE X b tb) (hm : behindInMarks op b = false) : PE X (.Compare a [op] [b] pos) (ZC r ta tb) := by
 intro pins s σ H Q I h
 exact wpAny_Compare1 (SR ha hb I h fun v u s2 x y H2 I2 rx ry q => ho pins s2 σ H2 x y v u Q I2 rx ry q) hm
noncomputable def W5 (t : TE) : TT := fun σ H Q => t σ H fun x H' => ∃ k, x = .bl k /\ Q k H'
theorem oQ {op : CmpOp} {r : R2} (ho : qJ X (compareOp op) r) (ha : PE X a ta) (hb : PE X b tb) (hm : behindInMarks op b = false) : PT X (.Compare a [op] [b] pos) (W5 (ZC r ta tb)) := by
 intro pins s σ H Q I h
 refine wpAny_isTrue_Compare1 (eG (ha pins s σ H _ I h) fun v s1 ⟨x, H1, I1, r1, q1⟩ => eG (hb pins s1 σ H1 _ I1 q1) fun u s2 ⟨y, H2, I2, r2, q2⟩ =>
   eG (ho pins s2 σ H2 x y v u _ I2 r1 r2 q2) fun c s3 ⟨z, H3, I3, r3, k, e, q3⟩ => ?_) hm
 subst e
 cases r3
 exact agw ⟨H3, I3, q3⟩
theorem uo : (sizeLine : Nat) < 2 ^ 63 := by rw [afU]; decide
theorem Dy : qJ X (binaryOp .Add) (fun x y H Q => ∃ i j, x = .str i /\ y = .str j /\ i.length + j.length <= sizeLine /\ Q (.str (i ++ j)) H) := by
 intro pins s σ H x y v u Q I rx ry h
 obtain ⟨i, j, rfl, rfl, hz, q⟩ := h
 obtain ⟨t, rfl⟩ := rx
 obtain ⟨t', rfl⟩ := ry
 exact add_str (fun t' tk => ⟨.str (i ++ j), H, I.tok _, ⟨_, rfl⟩, q⟩) hz
theorem vals1 {x : V} {us : List Value} (r : Vals [x] us) : ∃ u, us = [u] /\ RelV x u := by
 cases r with
 | cons r1 r2 => cases r2; exact ⟨_, rfl, r1⟩
theorem Ge : kY X (.type "int") (fun xs H Q => (∃ i, xs = [.int i] /\ Q (.int i) H) \/ ∃ k, xs = [.bl k] /\ Q (.int (if k then 1 else 0)) H) := by
 intro pins s σ H xs us Q I r h
 rcases h with ⟨i, rfl, q⟩ | ⟨k, rfl, q⟩
 . obtain ⟨u, rfl, t, rfl⟩ := vals1 r
   exact call_int_int ⟨.int i, H, I, ⟨_, rfl⟩, q⟩
 . obtain ⟨u, rfl, r1⟩ := vals1 r
   cases r1
   exact call_int_bool ⟨.int (if k then 1 else 0), H, I.tok _, ⟨_, rfl⟩, q⟩
theorem xN : kY X (.type "str") (fun xs H Q => ∃ i, xs = [.int i] /\ i.natAbs.log2 < 1920 /\ Q (.str (toString i)) H) := by
 intro pins s σ H xs us Q I r h
 obtain ⟨i, rfl, hz, q⟩ := h
 obtain ⟨u, rfl, t, rfl⟩ := vals1 r
 exact PySem.P.str_of_int hz ⟨.str _, H, I.tok _, ⟨_, rfl⟩, q⟩
end
structure Gf (h : Heap) (x dx C : Addr) (mA : Str -> Option Value) : Prop where
 obj : h.get? x = some (PySem.W.instObj C dx)
 ns : h.Ns1 dx mA
 ne : dx ≠ x
theorem Gg {h : Heap} {dx : Addr} {mA : Str -> Option Value} (n : h.Ns1 dx mA) : ∃ od, h.get? dx = some od /\ ∀ name, PySem.W.lookIn name od = some (mA name) := by
 obtain ⟨o, es, ep, ho, hd, hk, _, hm⟩ := n
 refine ⟨o, ho, fun name => ?_⟩
 have e := hm name
 unfold nsFind findBy at e
 rw [← Array.find?_toList] at e
 unfold PySem.W.lookIn
 rw [hd]
 dsimp only
 split
 . rename_i y q
   rw [q] at e
   exact congrArg some e
 . rename_i q
   rw [q] at e
   have a : es.toList.any (·.refKey) = false := by
     rw [List.any_eq_false]
     intro y hy
     obtain ⟨z, t, aaw⟩ := hk y (Array.mem_toList_iff.mp hy)
     simp [DictEntry.refKey, aaw]
   have a' : ¬ es.toList.any (·.refKey) = true := by rw [a]; exact afx
   rw [afi a']
   exact congrArg some e
theorem Gf.look {h : Heap} {x dx C : Addr} {mA : Str -> Option Value} (I : Gf h x dx C mA) : ∃ od, PySem.W.InstAt h x (PySem.W.instObj C dx) C (some od) /\ ∀ name, PySem.W.lookIn name od = some (mA name) :=
 let ⟨od, ho, hl⟩ := Gg I.ns
 ⟨od, ⟨I.obj, rfl, rfl, ho⟩, hl⟩
section
variable {prog : Program} {w : World} {A : Around} {E : Value -> Shared -> Prop} {s : Shared} {K : PySem.W.Frag} {x dx C f : Addr} {mA : Str -> Option Value} {name : Str} {v : Value}
theorem get_map {expr : Bool} {Q : Value -> Shared -> Prop} (X : K.In s.heap) (I : Gf s.heap x dx C mA) (hg : PySem.W.plainGet K C name = true) (hh : PySem.W.hasDictIn K C = true)
   (ha : PySem.W.findIn K (.ref C) name = some none) (hv : mA name = some v) (hv' : PySem.W.handedIn v = true) (h : Q v { s with toks := s.toks + 1 }) :
   wpAny (model prog w) A (getAttr (.ref x) name expr) Q E s := by
 obtain ⟨od, J, hl⟩ := I.look
 exact PySem.W.get_value X J (PySem.W.plainGet_of hg).1 (PySem.W.findObj_own hh ha rfl (by rw [hl, hv])) hv' h
theorem MD {ns : List Str} {Q : Unit -> Shared -> Prop} (X : K.In s.heap) (I : Gf s.heap x dx C mA)
   (hs : PySem.W.findIn K (.ref C) "__setattr__" = some (some (.builtin "object.__setattr__"))) (hp : PySem.W.plainOver K C = true) (ht : PySem.W.takerIn K C name = some none) (hh : PySem.W.hasDictIn K C = true)
   (hw : PySem.Within mA ns) (Gh : ns.length <= sizeLine)
   (h : ∀ h', Gf h' x dx C (fun y => if y = name then some v else mA y) -> Heap.SameBut dx s.heap h' -> Q () { s with heap := h', toks := s.toks + 2 }) :
   wpAny (model prog w) A (setAttr (.ref x) name v) Q E s := by
 obtain ⟨od, J, hl⟩ := I.look
 refine PySem.W.set_plain X J hs (PySem.W.osa_open (s := { s with toks := s.toks + 1 }) (r := none) X J hp ht fun b => ?_)
 obtain ⟨cd, hc, Mv⟩ := PySem.W.any_some hh
 have hx : s.heap.get? x = some ⟨.ref C, some dx, .plain, #[]⟩ := I.obj
 refine afz (af1 (afz (afz (wpAny_loadPart hx (afz (PySem.W.Looks.here (s := { s with toks := s.toks + 1 }) (PySem.W.looks_clsIn X hc) ?_))))))
 rw [Mv]
 refine af1 (a := some dx) (afz (af1 (afz ?_)))
 refine wpAny_nsSet1 (s := { s with toks := s.toks + 1 }) I.ns fun h' ZE Rr => ?_
 obtain ⟨oD, esD, epD, hoD, hdD, hcD⟩ := ZE.count (PySem.Within.cons name v hw)
 refine afz (wpAny_lookBehind hoD (by rw [hdD]; exact pastItsLine_dict (afZ hcD (by rw [afM]; omega))) ?_)
 exact af1 (h _ ⟨(Rr.2 _ (Ne.symm I.ne)).trans I.obj, ZE, I.ne⟩ Rr)
theorem IA {R : Result -> Shared -> Prop} {vs : List Value} {kw : List (Str × Value)} (X : K.In s.heap) (hm : PySem.W.makesIn K C = true)
   (hi : PySem.W.findIn K (.ref C) "__init__" = some (some (.ref f))) (hf : PySem.W.typeIn K (.ref f) = some (.type "function"))
   (h : codeAny (model prog w) (A.under (.builtin "type.__call__" ⟨.ref C :: vs, kw⟩)) (.call (.ref f) ⟨.ref (s.heap.objs.size + 1) :: vs, kw⟩) (PySem.W.InitBack (s.heap.objs.size + 1) R)
     { s with heap := (s.heap.push PySem.W.emptyDict).push (PySem.W.instObj C s.heap.objs.size) }) :
   codeAny (model prog w) A (.call (.ref C) ⟨vs, kw⟩) R s := by
 obtain ⟨hh, g, d, t, os⟩ := s
 exact PySem.W.make_core (PySem.W.makes_of X hm) (PySem.W.looks_findIn X hi) (fun self => PySem.W.bind_fn X self hf) (.inl rfl) h
end
noncomputable def iF (f : Str) (v : V) : List (Str × V) -> List (Str × V)
 | [] => [(f, v)]
 | (g, x) :: r => if g = f then (g, v) :: r else (g, x) :: iF f v r
theorem rY (f g : Str) (v : V) : ∀ fs : List (Str × V), (iF f v fs).lookup g = if g = f then some v else fs.lookup g
 | [] => by
   show List.lookup g [(f, v)] = _
   by_cases h : g = f
   . have hb : (g == f) = true := beq_iff_eq.mpr h
     simp only [List.lookup, hb, afk h]
   . have hb : (g == f) = false := agM.mpr h
     simp only [List.lookup, hb, afi h]
 | (k, x) :: r => by
   have ih := rY f g v r
   rw [show iF f v ((k, x) :: r) = (if k = f then (k, v) :: r else (k, x) :: iF f v r) from rfl]
   by_cases hk : k = f
   . rw [afk hk]
     by_cases h : g = k
     . have hb : (g == k) = true := beq_iff_eq.mpr h
       simp only [List.lookup, hb, afk (h.trans hk)]
     . have hb : (g == k) = false := agM.mpr h
       simp only [List.lookup, hb, afi (fun e : g = f => h (e.trans hk.symm))]
   . rw [afi hk]
     by_cases h : g = k
     . have hb : (g == k) = true := beq_iff_eq.mpr h
       simp only [List.lookup, hb, afi (fun e : g = f => hk (h.symm.trans e))]
     . have hb : (g == k) = false := agM.mpr h
       simp only [List.lookup, hb]
       exact ih
theorem qK (f : Str) (v : V) : ∀ fs : List (Str × V), f ∈ (iF f v fs).map (·.1) /\ ∀ g, g ∈ fs.map (·.1) -> g ∈ (iF f v fs).map (·.1)
 | [] => ⟨by simp [iF], fun g h => by simp at h⟩
 | (k, x) :: r => by
   obtain ⟨i1, i2⟩ := qK f v r
   rw [show iF f v ((k, x) :: r) = (if k = f then (k, v) :: r else (k, x) :: iF f v r) from rfl]
   by_cases hk : k = f
   . rw [afk hk]
     subst hk
     exact ⟨by simp, fun g h => by simpa using h⟩
   . rw [afi hk]
     refine ⟨?_, fun g h => ?_⟩
     . rw [afO]
       exact afq _ i1
     . rw [afO] at h ⊢
       rcases afm.mp h with e | e
       . exact afm.mpr (.inl e)
       . exact afq _ (i2 g e)
theorem rZ (f : Str) (v : V) : ∀ fs : List (Str × V), (iF f v fs).length <= fs.length + 1
 | [] => by simp [iF]
 | (k, x) :: r => by
   have ih := rZ f v r
   rw [show iF f v ((k, x) :: r) = (if k = f then (k, v) :: r else (k, x) :: iF f v r) from rfl]
   by_cases hk : k = f
   . rw [afk hk, afM, afM]; omega
   . rw [afi hk, afM, afM]; omega
theorem Dt.some_of {v : V} {o : Option Value} (r : Dt (some v) o) : ∃ u, o = some u /\ RelV v u := by
 cases o with
 | none => exact (show False from r).elim
 | some u => exact ⟨u, rfl, r⟩
theorem Gi {v : V} {u : Value} (r : RelV v u) : PySem.W.handedIn u = true := by
 cases v with
 | non => cases (show u = Value.none from r); rfl
 | bl b => cases (show u = Value.bool b from r); rfl
 | int i => obtain ⟨t, e⟩ := (show ∃ t, u = Value.int i t from r); cases e; rfl
 | str x => obtain ⟨t, e⟩ := (show ∃ t, u = Value.str x t from r); cases e; rfl
 | HV b => obtain ⟨t, e⟩ := (show ∃ t, u = Value.bytes b t from r); cases e; rfl
 | Zn b => obtain ⟨t, e⟩ := (show ∃ t, u = Value.float b t from r); cases e; rfl
 | ref a => cases (show u = Value.ref a from r); rfl
 | ty n => cases (show u = Value.type n from r); rfl
section
variable {P : Program} {w : World} {H H' : Hp} {h h' : Heap} {a C dx : Addr} {fs fs' : List (Str × V)}
theorem EY (dO : sF P w H h) (e : H a = some (.ins C dx fs)) : ∃ mA, Gf h a dx C mA /\ (∀ f, Dt (fs.lookup f) (mA f)) /\ PySem.Within mA (fs.map (·.1)) /\ fs.length <= 1000 /\ H dx = some (.own a) := by
 obtain ⟨d, z, ne, ob, mA, n, r, q⟩ := (show gk P w H h a (.ins C dx fs) from dO a _ e)
 exact ⟨mA, ⟨ob, n, ne⟩, r, q, z, d⟩
end
structure v8 (K : PySem.W.Frag) (C : Addr) : Prop where
 pg : PySem.W.plainGet K C Str.empty = true
 hd : PySem.W.hasDictIn K C = true
 po : PySem.W.plainOver K C = true
 sa : PySem.W.findIn K (.ref C) "__setattr__" = some (some (.builtin "object.__setattr__"))
theorem v8.get {K : PySem.W.Frag} {C : Addr} (c : v8 K C) (f : Str) : PySem.W.plainGet K C f = true := c.pg
noncomputable def bw (K : PySem.W.Frag) (C : Addr) (f : Str) : Prop := PySem.W.findIn K (.ref C) f = some none
theorem bw.W6 {K : PySem.W.Frag} {C : Addr} {f : Str} (n : bw K C f) : PySem.W.takerIn K C f = some none := by
 unfold PySem.W.takerIn
 rw [show PySem.W.findIn K (.ref C) f = some none from n]
 rfl
section
variable {X : Cx} {pins : List (Addr × Obj)} {σ : St} {H : Hp} {s : Shared} {a C dx : Addr} {fs : List (Str × V)} {f : Str} {v : V} {A : Around} {E : Value -> Shared -> Prop}
theorem Dz {b : Bool} {Q : Value -> Shared -> Prop} (I : Inv X pins σ H s) (e : H a = some (.ins C dx fs)) (c : v8 X.K C) (n : bw X.K C f) (l : fs.lookup f = some v)
   (h : ∀ u s', Inv X pins σ H s' -> RelV v u -> Q u s') : wpAny (model X.prog X.w) A (getAttr (.ref a) f b) Q E s := by
 obtain ⟨mA, O, r, _, _, _⟩ := EY I.dO e
 obtain ⟨u, hu, ru⟩ := Dt.some_of (v := v) (o := mA f) (by rw [← l]; exact r f)
 exact get_map I.A4 O (c.get f) c.hd n hu (Gi ru) (h u _ (I.tok _) ru)
theorem DB {y : V} {u : Value} {Q : Unit -> Shared -> Prop} (I : Inv X pins σ H s) (e : H a = some (.ins C dx fs)) (c : v8 X.K C) (n : bw X.K C f) (hl : fs.length < 1000) (ry : RelV y u)
   (h : ∀ s', Inv X pins σ (upd H a (.ins C dx (iF f y fs))) s' -> Q () s') : wpAny (model X.prog X.w) A (setAttr (.ref a) f u) Q E s := by
 obtain ⟨mA, O, r, wi, _, ho⟩ := EY I.dO e
 have hz : (fs.map (·.1)).length <= sizeLine := by rw [afj, afU]; omega
 refine MD I.A4 O c.sa c.po n.W6 c.hd wi hz fun h' O' sb => h _ ?_
 have hd : ∃ o, h'.get? dx = some o := let ⟨o, _, _, e', _⟩ := O'.ns; ⟨o, e'⟩
 refine I.write (x := a) (e := dx) (by rw [e]; exact True.intro) (.inr ho) (fun b q hb z => (sb.2 b hb).trans z) hd ?_
 refine ⟨by rw [az O.ne]; exact ho, ?_, O.ne, O'.obj, _, O'.ns, fun g => ?_, fun g hg => ?_⟩
 . have := rZ f y fs; omega
 . show Dt ((iF f y fs).lookup g) (if g = f then some u else mA g)
   rw [rY]
   by_cases q : g = f
   . rw [afk q, afk q]; exact ry
   . rw [afi q, afi q]; exact r g
 . by_cases q : g = f
   . rw [q]; exact (qK f y fs).1
   . refine (qK f y fs).2 g (wi g fun z => hg ?_)
     show (if g = f then some u else mA g) = none
     rw [afi q]; exact z
theorem Inv.made (I : Inv X pins σ H s) : Inv X pins σ (upd (upd H s.heap.objs.size (.own (s.heap.objs.size + 1))) (s.heap.objs.size + 1) (.ins C s.heap.objs.size []))
   { s with heap := (s.heap.push PySem.W.emptyDict).push (PySem.W.instObj C s.heap.objs.size) } := by
 have e1 : (s.heap.push PySem.W.emptyDict).get? s.heap.objs.size = some PySem.W.emptyDict := afL s.heap rfl
 have e2 : ((s.heap.push PySem.W.emptyDict).push (PySem.W.instObj C s.heap.objs.size)).get? (s.heap.objs.size + 1) = some (PySem.W.instObj C s.heap.objs.size) := by
   have := afL (s.heap.push PySem.W.emptyDict) (o := PySem.W.instObj C s.heap.objs.size) rfl
   rwa [Heap.size_push] at this
 have e3 : (s.heap.push PySem.W.emptyDict).Ns s.heap.objs.size (fun _ => none) := ⟨PySem.W.emptyDict, #[], _, e1, rfl, (fun e he => absurd he (by simp)), fun _ => rfl⟩
 have I1 := I.laid (a := s.heap.objs.size) (o := .own (s.heap.objs.size + 1)) (h' := s.heap.push PySem.W.emptyDict) (t' := s.toks) (fun b u q => afv _ q) (afp _) ⟨_, e1⟩
 refine I1.laid (a := s.heap.objs.size + 1) (o := .ins C s.heap.objs.size []) (t' := s.toks) (fun b u q => afv _ q) (Nat.le_of_eq (Heap.size_push _ _)) ?_
 have ne : s.heap.objs.size ≠ s.heap.objs.size + 1 := afX (Nat.lt_succ_self _)
 refine ⟨by rw [az ne, aQ], afP _, ne, e2, fun _ => none, (Heap.Ns1.of_empty e3).at fun o q => afv _ q, fun _ => True.intro, fun y hy => absurd rfl hy⟩
theorem MF {prog : Program} {w : World} {env : Env} {e : Expr} {f : Str} {pos : Pos} {s : Shared} {Q : Value -> Shared -> Prop} (hb : attributeBase e f env (eval e env) = eval e env)
   (h : wpAny (model prog w) A (eval e env) (fun o s₁ => wpAny (model prog w) A (getAttr o f true) Q E s₁) E s) : wpAny (model prog w) A (eval (.Attribute e f pos) env) Q E s :=
 Attribute_any_ h (by rw [arm_eval_Attribute, hb])
end
noncomputable def aax (K : PySem.W.Frag) (ta : TE) (f : Str) : TE := fun σ H Q => ta σ H fun x H1 => ∃ a C dx fs v, x = .ref a /\ H1 a = some (.ins C dx fs) /\ v8 K C /\ bw K C f /\ fs.lookup f = some v /\ Q v H1
noncomputable def aay (K : PySem.W.Frag) (ta tv : TE) (f : Str) : TS := fun D σ H => tv σ H fun y H1 => ta σ H1 fun x H2 => ∃ a C dx fs, x = .ref a /\ H2 a = some (.ins C dx fs) /\ v8 K C /\ bw K C f /\ fs.length < 1000 ∧
 D.nx σ (upd H2 a (.ins C dx (iF f y fs)))
section
variable {X : Cx} {o e value : Expr} {f : Str} {pos pos' aaz : Pos} {ta tv : TE}
theorem IB (he : PE X e ta) (hb : attributeBase e f X.env (eval e X.env) = eval e X.env) : PE X (.Attribute e f pos) (aax X.K ta f) := by
 intro pins s σ H Q I h
 refine MF hb (eG (he pins s σ H _ I h) fun u s1 zz => ?_)
 obtain ⟨x, H1, I1, rx, a, C, dx, fs, v, ex, ea, c, n, l, q⟩ := zz
 subst ex
 obtain rfl : u = Value.ref a := rx
 exact Dz I1 ea c n l fun u' s2 I2 ru => ⟨v, H1, I2, ru, q⟩
theorem S9 (ha : PE X o ta) (hv : PE X value tv) (hs : swapsWith value (some (.Attribute o f pos')) pos.line X.env = pure false) : PS X (.Assign [.Attribute o f pos'] value pos) (aay X.K ta tv f) := by
 intro pins s σ H D I h
 refine plainObj_wpAny_Assign_Attribute (eG (hv pins s σ H _ I h) fun u s1 ⟨y, H1, I1, ry, q⟩ => eG (ha pins s1 σ H1 _ I1 q) fun ov s2 zz => ?_) hs
 obtain ⟨x, H2, I2, rx, a, C, dx, fs, ex, ea, c, n, l, q2⟩ := zz
 subst ex
 obtain rfl : ov = Value.ref a := rx
 exact DB I2 ea c n l ry fun s3 I3 => ⟨σ, _, I3, q2⟩
end
section
variable {X : Cx} {pins : List (Addr × Obj)} {σ : St} {H : Hp} {s : Shared} {A : Around} {E : Value -> Shared -> Prop} {Q : Value -> Shared -> Prop} {c : Value} {b : Bool}
end
structure d8 (k : Nat) (A : Around) : Prop where
 hd : A.handled = none
 dp : A.depth + 3 * k + 5 < recursionLimit
 un : A.units + 16 * k + 200 < cLine
theorem d8.mono {j k : Nat} {A : Around} (r : d8 k A) (h : j <= k) : d8 j A := ⟨r.hd, by have := r.dp; omega, by have := r.un; omega⟩
theorem d8.deeper {k : Nat} {A : Around} (r : d8 (k + 1) A) (env : Env) : d8 k (A.deeper env) :=
 ⟨r.hd, by have := r.dp; show A.depth + 1 + 3 * k + 5 < _; omega, by have := r.un; show A.units + 3 + 16 * k + 200 < _; omega⟩
theorem DC {A : Around} {C : Addr} {us : List Value} {kw : List (Str × Value)} : (A.under (.builtin "type.__call__" ⟨.ref C :: us, kw⟩)).depth = A.depth + 1 := by
 first | rfl | simp [Around.under, Code.weight, Code.isCreation, Code.isGuard, Code.isCaller, Code.frames, Code.isFrame, guardIds]
theorem DE {A : Around} {C : Addr} {us : List Value} {kw : List (Str × Value)} : (A.under (.builtin "type.__call__" ⟨.ref C :: us, kw⟩)).units = A.units + 1 := by
 first | rfl | simp [Around.under, Code.cUnits, Code.frames, Code.isFrame]
theorem d8.make {k : Nat} {A : Around} (r : d8 (k + 1) A) (C : Addr) (us : List Value) (kw : List (Str × Value)) : d8 k (A.under (.builtin "type.__call__" ⟨.ref C :: us, kw⟩)) :=
 ⟨r.hd, by have := r.dp; rw [DC]; omega, by have := r.un; rw [DE]; omega⟩
theorem d8.depth {k : Nat} {A : Around} (r : d8 k A) : A.depth < recursionLimit := by have := r.dp; omega
theorem d8.units {k : Nat} {A : Around} (r : d8 k A) : A.units + 64 < cLine := by have := r.un; omega
noncomputable def IC : TA := fun _ H Q => Q [] H
noncomputable def EZ (ta : TE) (tr : TA) : TA := fun σ H Q => ta σ H fun x H1 => tr σ H1 fun xs H2 => Q (x :: xs) H2
section
variable {X : Cx} {e : Expr} {es : List Expr} {te : TE} {t : TA} {pos : Pos}
theorem eH : PA X [] IC := fun _ _ _ _ H Q I h => Calls.spliced_nil ⟨[], H, I, .nil, h⟩
theorem cg (ha : PE X e te) (hr : PA X es t) (hs : starEach (e :: es) X.env = (false, eval e X.env) :: starEach es X.env := by rfl) : PA X (e :: es) (EZ te t) := by
 intro pos pins s σ H Q I h
 rw [hs]
 show wpAny _ _ (spliced ((false, eval e X.env) :: backTo pos (starEach es X.env))) _ _ s
 refine Calls.spliced_cons (eG (ha pins s σ H _ I h) fun u s1 zz => ?_)
 obtain ⟨x, H1, I1, r1, q1⟩ := zz
 exact eG (hr pos pins s1 σ H1 _ I1 q1) fun us s2 ⟨xs, H2, I2, r2, q2⟩ => ⟨x :: xs, H2, I2, .cons r1 r2, q2⟩
noncomputable def aaA (t : TA) : TE := fun σ H Q => t σ H fun xs H1 => xs.length <= sizeLine /\ ∀ p, H1 p = none -> Q (.ref p) (upd H1 p (.tup xs))
noncomputable def aaB (t : TA) : TE := fun σ H Q => t σ H fun xs H1 => xs.length <= sizeLine /\ ∀ p, H1 p = none -> Q (.ref p) (upd H1 p (.lst xs))
theorem Tc {x1} (h : PA X es t) : PE X (.Tuple es x1 pos) (aaA t) := by
 intro pins s σ H Q I hq
 refine wpAny_Tuple_spliced (eG (h pos pins s σ H _ I hq) fun us s1 ⟨xs, H1, I1, r, z, q⟩ => ⟨by rw [← r.length]; exact z, ?_⟩)
 have hf : H1 s1.heap.objs.size = none := I1.dO.fresh (afp _)
 refine ⟨.ref s1.heap.objs.size, upd H1 s1.heap.objs.size (.tup xs), I1.laid (t' := s1.toks) (fun b u e => afv _ e) (afp _) ?_, rfl, q _ hf⟩
 exact ⟨z, us, r, ⟨_, afL _ rfl, rfl, _, rfl⟩⟩
theorem Td (h : PA X es t) : PE X (.List es pos) (aaB t) := by
 intro pins s σ H Q I hq
 refine wpAny_List_spliced (eG (h pos pins s σ H _ I hq) fun us s1 ⟨xs, H1, I1, r, z, q⟩ => ⟨by rw [← r.length]; exact z, ?_⟩)
 have hf : H1 s1.heap.objs.size = none := I1.dO.fresh (afp _)
 refine ⟨.ref s1.heap.objs.size, upd H1 s1.heap.objs.size (.lst xs), I1.laid (t' := s1.toks) (fun b u e => afv _ e) (afp _) ?_, rfl, q _ hf⟩
 exact ⟨z, us, 0, r, afL _ rfl⟩
end
noncomputable abbrev Sp := List V -> Hp -> VK -> XK -> Prop
noncomputable abbrev IE := List Env -> Hp -> Shared -> XK -> Value -> Shared -> Prop
structure DF (P : Program) (w : World) (K : PySem.W.Frag) (mg : Str -> Option Value) (base : Heap) (A : Around) (outer : List Env) (s : Shared) (H : Hp) : Prop where
 frames : A.frames = some outer
 mod : Mod K mg base
 bs : ∀ b o, base.get? b = some o -> s.heap.get? b = some o /\ H b = none
 Mj : base.objs.size <= s.heap.objs.size
 sG : s.heap.FunFrames base outer
 Sh : ∀ b ∈ HW outer, H b = none
 dO : sF P w H s.heap
 bare : AllBare s.gens
noncomputable def CE (outer : List Env) (P : Program) (w : World) (H : Hp) (s : Shared) (Q : VK) (u : Value) (s' : Shared) : Prop :=
 ∃ v H', s'.os = s.os /\ AllBare s'.gens /\ Un (HW outer) [] H H' s.heap s'.heap /\ sF P w H' s'.heap /\ RelV v u /\ Q v H'
noncomputable def CR (CX : IE) (outer : List Env) (P : Program) (w : World) (H : Hp) (s : Shared) (Q : VK) (E : XK) (r : Result) (s' : Shared) : Prop :=
 match r with
 | .ok (.ret u) => CE outer P w H s Q u s'
 | .ok _ => False
 | .error e => CX outer H s E e s'
structure bP (P : Program) (w : World) (K : PySem.W.Frag) (mg : Str -> Option Value) (base : Heap) (CX : IE) (k : Nat) (f : Addr) (fd : FuncData) (ps : List Str) (sp : Sp) : Prop where
 len : ∀ vs H Q E, sp vs H Q E -> vs.length = ps.length
 run : ∀ (A : Around) (outer : List Env) (s : Shared) (H : Hp) (args : Args) (us : List Value) (vs : List V) (Q : VK) (E : XK), d8 k A -> DF P w K mg base A outer s H -> BindsTo s fd args (ps.zip us) -> Vals vs us -> sp vs H Q E →
   codeAny (model P w) A (.call (.ref f) args) (CR CX outer P w H s Q E) s
theorem bP.imp {P : Program} {w : World} {K : PySem.W.Frag} {mg : Str -> Option Value} {base : Heap} {CX : IE} {k : Nat} {f : Addr} {fd : FuncData} {ps : List Str} {sp sp' : Sp} (F : bP P w K mg base CX k f fd ps sp)
   (h : ∀ vs H Q E, sp' vs H Q E -> sp vs H Q E) : bP P w K mg base CX k f fd ps sp' :=
 ⟨fun vs H Q E q => F.len vs H Q E (h _ _ _ _ q), fun A outer s H args us vs Q E hr he hb hv hs => F.run A outer s H args us vs Q E hr he hb hv (h _ _ _ _ hs)⟩
theorem DF.make {P : Program} {w : World} {K : PySem.W.Frag} {mg : Str -> Option Value} {base : Heap} {A : Around} {outer : List Env} {s : Shared} {H : Hp} (e : DF P w K mg base A outer s H) (C : Addr) (us : List Value) (kw : List (Str × Value)) :
   DF P w K mg base (A.under (.builtin "type.__call__" ⟨.ref C :: us, kw⟩)) outer s H := ⟨by first | exact e.frames | (simpa [Around.under, Code.envs, Code.isFrame, pushEnvs] using e.frames), e.mod, e.bs, e.Mj, e.sG, e.Sh, e.dO, e.bare⟩
section
variable {X : Cx} {pins : List (Addr × Obj)} {σ : St} {H : Hp} {s s' : Shared}
theorem Inv.W7 (I : Inv X pins σ H s) : DF X.prog X.w X.K X.mg X.base X.A X.stack s H :=
 ⟨I.ok.frames, I.ok.mod, I.bs, afZ I.ok.Mj I.sz, I.stack, I.xK, I.dO, I.bare⟩
theorem Inv.after {Q : VK} {u : Value} (I : Inv X pins σ H s) (h : CE X.stack X.prog X.w H s Q u s') : EP X pins σ Q u s' := by
 obtain ⟨v, H', os, bare, un, dO, r, q⟩ := h
 obtain ⟨hh, g, d, t, V8⟩ := s'
 obtain rfl : V8 = s.os := os
 exact ⟨v, H', I.call (h' := hh) (g' := g) (d' := d) (t' := t) (ch := []) un dO bare (fun b z => absurd z (by simp)), r, q⟩
end
noncomputable def Rt (sp : Sp) (Bb : List V) (E : XK) (t : TA) : TE := fun σ H Q => t σ H fun vs H1 => sp (vs ++ Bb) H1 Q E
noncomputable def W8 (C : Addr) (sp : Sp) (Bb : List V) (E : XK) (t : TA) : TE := fun σ H Q => t σ H fun vs H1 => ∀ x dx, H1 x = none -> H1 dx = none -> dx ≠ x →
 sp (.ref x :: (vs ++ Bb)) (upd (upd H1 dx (.own x)) x (.ins C dx [])) (fun v H2 => v = .non /\ Q (.ref x) H2) E
noncomputable def Binds (K : PySem.W.Frag) (fd : FuncData) (ps : List Str) (ds : List Value) : Prop :=
 ∀ (s : Shared) (us : List Value), K.In s.heap -> (us ++ ds).length = ps.length -> BindsTo s fd ⟨us, []⟩ (ps.zip (us ++ ds))
theorem Binds.all {K : PySem.W.Frag} {fd : FuncData} {ps : List Str} (h : ∀ us : List Value, us.length = ps.length -> bindArgs fd ⟨us, []⟩ = pure (ps.zip us)) : Binds K fd ps [] := fun s us _ hl => by
 rw [af2] at hl ⊢
 exact .of_eq (h us hl)
noncomputable def Passes (CX : IE) (X : Cx) (E : XK) : Prop := ∀ (pins : List (Addr × Obj)) (σ : St) (H : Hp) (s : Shared) (e : Value) (s' : Shared), Inv X pins σ H s -> CX X.stack H s E e s' -> X.xe e s'
section
variable {X : Cx} {CX : IE} {k : Nat} {f C : Addr} {fd : FuncData} {ps : List Str} {sp : Sp} {Bb : List V} {ds : List Value} {E : XK} {x m : Str} {p pos apos : Pos} {e o : Expr} {es : List Expr} {ta : TE} {t : TA}
theorem IG {pins : List (Addr × Obj)} {σ : St} {H : Hp} {s : Shared} {Q : VK} {us : List Value} {vs : List V} (F : bP X.prog X.w X.K X.mg X.base CX k f fd ps sp) (hr : d8 k X.A) (hb : Binds X.K fd ps ds) (hd : Vals Bb ds) (hx : Passes CX X E)
   (I : Inv X pins σ H s) (r : Vals vs us) (h : sp (vs ++ Bb) H Q E) : wpAny (model X.prog X.w) X.A (call (.ref f) us) (EP X pins σ Q) X.xe s := by
 have r2 : Vals (vs ++ Bb) (us ++ ds) := r.append hd
 have hl : (us ++ ds).length = ps.length := by rw [← r2.length]; exact F.len _ _ _ _ h
 refine wpAny_call (codeAny_mono (F.run X.A X.stack s H ⟨us, []⟩ (us ++ ds) (vs ++ Bb) Q E hr I.W7 (hb s us I.A4 hl) r2 h) fun r s' hq => ?_)
 cases r with
 | error e => exact hx pins σ H s e s' I hq
 | ok fl =>
   cases fl with
   | ret u => exact I.after hq
   | next => exact False.elim hq
   | brk => exact False.elim hq
   | cont => exact False.elim hq
theorem MG (F : bP X.prog X.w X.K X.mg X.base CX k f fd ps sp) (hr : d8 k X.A) (hg : Gl X x) (hm : X.mg x = some (.ref f)) (hk : PySem.W.keepIn X.K (.ref f) = true) (hb : Binds X.K fd ps ds) (hd : Vals Bb ds) (hx : Passes CX X E)
   (ha : PA X (e :: es) t) (wj : (x == ("__debug__" : Str)) = false := by decide) (he : starEach (e :: es) X.env = (false, eval e X.env) :: starEach es X.env := by rfl) (wk : (backTo pos (starEach es X.env)).any (·.1) = false := by rfl) :
   PE X (.Call (.Name x p) (e :: es) [] pos) (Rt sp Bb E t) := by
 intro pins s σ H Q I h
 refine agB (sP I hg hm ?_ wj)
 refine PySem.W.callWith_K (h₀ := X.base) I.ok.mod.Zr hk (eG (ha pos pins s σ H _ I h) fun us s1 ⟨vs, H1, I1, r, q⟩ => ⟨I1.A4, ?_⟩) he wk
 exact IG F hr hb hd hx I1 r q
theorem II (F : bP X.prog X.w X.K X.mg X.base CX k f fd ps sp) (hr : d8 k X.A) (hg : Gl X x) (hm : X.mg x = some (.ref f)) (hk : PySem.W.keepIn X.K (.ref f) = true) (hb : Binds X.K fd ps ds) (hd : Vals Bb ds) (hx : Passes CX X E)
   (wj : (x == ("__debug__" : Str)) = false := by decide) : PE X (.Call (.Name x p) [] [] pos) (Rt sp Bb E IC) := by
 intro pins s σ H Q I h
 refine agB (sP I hg hm ?_ wj)
 exact PySem.W.callWith_K0 I.A4 hk (IG (us := []) F hr hb hd hx I .nil h)
structure Mk (K : PySem.W.Frag) (C f : Addr) : Prop where
 makes : PySem.W.makesIn K C = true
 init : PySem.W.findIn K (.ref C) "__init__" = some (some (.ref f))
 fn : PySem.W.isFn K (.ref f) = true
 kp : PySem.W.keepIn K (.ref C) = true
theorem IJ {pins : List (Addr × Obj)} {σ : St} {H : Hp} {s : Shared} {Q : VK} {us : List Value} {vs : List V} (M : Mk X.K C f) (F : bP X.prog X.w X.K X.mg X.base CX k f fd ps sp) (hr : d8 (k + 1) X.A) (hb : Binds X.K fd ps ds) (hd : Vals Bb ds)
   (hx : Passes CX X E) (I : Inv X pins σ H s) (r : Vals vs us)
   (h : ∀ x dx, H x = none -> H dx = none -> dx ≠ x -> sp (.ref x :: (vs ++ Bb)) (upd (upd H dx (.own x)) x (.ins C dx [])) (fun v H2 => v = .non /\ Q (.ref x) H2) E) :
   wpAny (model X.prog X.w) X.A (call (.ref C) us) (EP X pins σ Q) X.xe s := by
 have hq := h (s.heap.objs.size + 1) s.heap.objs.size (I.dO.fresh (agW _)) (I.dO.fresh (afp _)) (afX (Nat.lt_succ_self _))
 have I2 := Inv.made (C := C) I
 have r2 : Vals (V.ref (s.heap.objs.size + 1) :: (vs ++ Bb)) (Value.ref (s.heap.objs.size + 1) :: (us ++ ds)) := .cons rfl (r.append hd)
 have hl : (Value.ref (s.heap.objs.size + 1) :: us ++ ds).length = ps.length := by
   have e := r2.length
   rw [F.len _ _ _ _ hq] at e
   exact e.symm
 refine wpAny_call (IA (f := f) I.A4 M.makes M.init (beq_iff_eq.mp M.fn) (codeAny_mono (F.run _ X.stack _ _ ⟨Value.ref (s.heap.objs.size + 1) :: us, []⟩ (Value.ref (s.heap.objs.size + 1) :: (us ++ ds)) _ _ E (hr.make C us [])
   (I2.W7.make C us []) (hb _ (Value.ref (s.heap.objs.size + 1) :: us) I2.A4 hl) r2 hq) fun r s' W9 => ?_))
 cases r with
 | error e => exact hx pins σ _ _ e s' I2 W9
 | ok fl =>
   cases fl with
   | ret u =>
     obtain ⟨v, H', I3, rv, ev, q3⟩ := I2.after W9
     subst ev
     exact ⟨rv, ⟨V.ref (s.heap.objs.size + 1), H', I3, rfl, q3⟩⟩
   | next => exact False.elim W9
   | brk => exact False.elim W9
   | cont => exact False.elim W9
theorem E1 (M : Mk X.K C f) (F : bP X.prog X.w X.K X.mg X.base CX k f fd ps sp) (hr : d8 (k + 1) X.A) (hg : Gl X x) (hm : X.mg x = some (.ref C)) (hb : Binds X.K fd ps ds) (hd : Vals Bb ds) (hx : Passes CX X E)
   (ha : PA X (e :: es) t) (wj : (x == ("__debug__" : Str)) = false := by decide) (he : starEach (e :: es) X.env = (false, eval e X.env) :: starEach es X.env := by rfl) (wk : (backTo pos (starEach es X.env)).any (·.1) = false := by rfl) :
   PE X (.Call (.Name x p) (e :: es) [] pos) (W8 C sp Bb E t) := by
 intro pins s σ H Q I h
 refine agB (sP I hg hm ?_ wj)
 refine PySem.W.callWith_K (h₀ := X.base) I.ok.mod.Zr M.kp (eG (ha pos pins s σ H _ I h) fun us s1 ⟨vs, H1, I1, r, q⟩ => ⟨I1.A4, ?_⟩) he wk
 exact IJ M F hr hb hd hx I1 r q
end
noncomputable def PK (X : Cx) (kws : List Keyword) (t : TA) : Prop :=
 ∀ (pos : Pos) (pins : List (Addr × Obj)) (s : Shared) (σ : St) (H : Hp) (Q : List V -> Hp -> Prop), Inv X pins σ H s -> t σ H Q -> wpAny (model X.prog X.w) X.A (evalAll ((backToKw pos (keywordEach kws X.env)).map (·.2))) (AP X pins σ Q) X.xe s
section
variable {X : Cx} {CX : IE} {k : Nat} {f C : Addr} {fd : FuncData} {ps ks : List Str} {sp : Sp} {E : XK} {x m : Str} {p pos apos aaC : Pos} {e o : Expr} {es : List Expr} {kws : List Keyword} {te ta : TE} {t tk : TA} {nm : Option Str}
theorem Te : PK X [] IC := fun _ _ _ _ H Q I h => wpAny_evalAll_nil ⟨[], H, I, .nil, h⟩
theorem MH (ha : PE X e te) (hr : PK X kws t) : PK X (⟨nm, e, aaC⟩ :: kws) (EZ te t) := by
 intro pos pins s σ H Q I h
 show wpAny _ _ (evalAll ((do let v ← eval e X.env; standAt pos; pure v) :: (backToKw pos (keywordEach kws X.env)).map (·.2))) _ _ s
 refine wpAny_evalAll_cons (afz (eG (ha pins s σ H _ I h) fun u s1 ⟨x, H1, I1, r1, q1⟩ => afz (wpAny_standAt (af1 ?_))))
 exact eG (hr pos pins s1 σ H1 _ I1 q1) fun us s2 ⟨xs, H2, I2, r2, q2⟩ => ⟨x :: xs, H2, I2, .cons r1 r2, q2⟩
variable {g : List Value -> List Value -> List Value} {gV : List V -> List V -> List V}
end
structure aL (N P : List Str) (sc : Scope) : Prop where
 kind : sc.kind = .function
 co : sc.isCoroutine = false
 gen : sc.isGenerator = false
 nd : N.Nodup
 pre : N.take P.length = P
 par : ∀ x ∈ P, sc.names.lookup x = some .local \/ sc.names.lookup x = some .cell
 Tf : ∀ y ∈ sc.names, y.2 ≠ .free
theorem wN {kindOf : Str -> Option NameKind} {x : Str} : ∀ {binds : List (Str × Value)} {m : Str -> Option Value}, (∀ v, (x, v) ∉ binds) -> bindL kindOf binds m x = m x
 | [], _, _ => rfl
 | (n, v) :: r, m, h => by
   unfold bindL
   rw [wN fun w hw => h w (afq _ hw)]
   split
   . have : x ≠ n := by rintro rfl; exact h v afo
     simp [this]
   . rfl
theorem wO {kindOf : Str -> Option NameKind} {x : Str} : ∀ {binds : List (Str × Value)} {m : Str -> Option Value}, (∀ v, (x, v) ∉ binds) -> bindC kindOf binds m x = m x
 | [], _, _ => rfl
 | (n, v) :: r, m, h => by
   unfold bindC
   rw [wO fun w hw => h w (afq _ hw)]
   split
   . rfl
   . have : x ≠ n := by rintro rfl; exact h v afo
     simp [this]
theorem wQ {kindOf : Str -> Option NameKind} {x : Str} {v : Value} : ∀ {P : List Str} {vs : List Value} {i : Nat} {m : Str -> Option Value}, P.Nodup -> P[i]? = some x -> vs[i]? = some v -> kindOf x = some .local →
   bindL kindOf (P.zip vs) m x = some v
 | [], _, _, _, _, h, _, _ => by simp at h
 | _ :: _, [], _, _, _, _, h, _ => by simp at h
 | p :: P, w :: vs, 0, m, nd, h1, h2, hk => by
   simp at h1 h2; subst h1; subst h2
   show bindL kindOf ((p, w) :: P.zip vs) m p = _
   unfold bindL
   rw [wN fun v hv => (agD.mp nd).1 (List.of_mem_zip hv).1, afk hk]
   simp
 | p :: P, w :: vs, i + 1, m, nd, h1, h2, hk => by
   show bindL kindOf ((p, w) :: P.zip vs) m x = _
   unfold bindL
   exact wQ (i := i) (List.nodup_cons.mp nd).2 (by simpa using h1) (by simpa using h2) hk
theorem wR {kindOf : Str -> Option NameKind} {x : Str} {v : Value} : ∀ {P : List Str} {vs : List Value} {i : Nat} {m : Str -> Option Value}, P.Nodup -> P[i]? = some x -> vs[i]? = some v -> kindOf x ≠ some .local →
   bindC kindOf (P.zip vs) m x = some v
 | [], _, _, _, _, h, _, _ => by simp at h
 | _ :: _, [], _, _, _, _, h, _ => by simp at h
 | p :: P, w :: vs, 0, m, nd, h1, h2, hk => by
   simp at h1 h2; subst h1; subst h2
   show bindC kindOf ((p, w) :: P.zip vs) m p = _
   unfold bindC
   rw [wO fun v hv => (agD.mp nd).1 (List.of_mem_zip hv).1, afi hk]
   simp
 | p :: P, w :: vs, i + 1, m, nd, h1, h2, hk => by
   show bindC kindOf ((p, w) :: P.zip vs) m x = _
   unfold bindC
   exact wR (i := i) (List.nodup_cons.mp nd).2 (by simpa using h1) (by simpa using h2) hk
noncomputable def start (N : List Str) (vs : List V) : St := vs.map some ++ List.replicate (N.length - vs.length) none
noncomputable def uq (CX : IE) (P : Program) (w : World) (K : PySem.W.Frag) (mg : Str -> Option Value) (base : Heap) (N : List Str) (qual : Str) (scope : Scope) (f : Addr) (cd : Value) (A : Around) (outer : List Env) (s : Shared) (H : Hp) (E : XK) : Cx where
 prog := P
 w := w
 K := K
 mg := mg
 base := base
 A := A.deeper (envOfC qual scope s.heap.objs.size f cd)
 N := N
 s₀ := s
 H₀ := H
 env := envOfC qual scope s.heap.objs.size f cd
 outer := outer
 stack := envOfC qual scope s.heap.objs.size f cd :: outer
 ex := []
 calm := true
 fn := fun _ => true
 pn := []
 xe := fun e s' => wpAny (model P w) (A.deeper (envOfC qual scope s.heap.objs.size f cd)) (leaving (envOfC qual scope s.heap.objs.size f cd) e) (fun _ V9 => CX outer H s E e V9) (fun e' V9 => CX outer H s E e' V9) s'
theorem Bc {sc : Scope} {n : Nat} {x : Str} (h : sc.names.lookup x = some .cell) : ∃ c, (cellsFrom n sc.names []).lookup x = some c := by
 have q := PySem.W.cellsFrom_some sc.names n [] (.inl h)
 exact Option.isSome_iff_exists.mp q
theorem Gj {CX : IE} {P : Program} {w : World} {K : PySem.W.Frag} {mg : Str -> Option Value} {base : Heap} {N ps : List Str} {qual : Str} {scope : Scope} {f : Addr} {cd : Value} {A : Around} {outer : List Env} {s s1 : Shared} {H : Hp} {E : XK} {us : List Value} {vs : List V}
   (S : aL N ps scope) (hd : A.handled = none) (e0 : DF P w K mg base A outer s H) (hl : vs.length = ps.length) (r : Vals vs us)
   (x : InCallC s s.heap.objs.size (bindL (envOfC qual scope s.heap.objs.size f cd).kindOf (ps.zip us) fun _ => none) (cellsFrom (s.heap.objs.size + 1) scope.names []) (bindC (envOfC qual scope s.heap.objs.size f cd).kindOf (ps.zip us) fun _ => none) s1) :
   Inv (uq CX P w K mg base N qual scope f cd A outer s H E) [] (start N vs) H s1 := by
 have wk : ps.length <= N.length := by have := congrArg List.length S.pre; rw [agU] at this; omega
 obtain ⟨h1, tk, rfl, hk⟩ := x.done
 have Wa : ∀ b : Addr, b ∉ (uq CX P w K mg base N qual scope f cd A outer s H E).ex := fun b z => absurd (show b ∈ ([] : List Addr) from z) (by simp)
 refine ⟨⟨e0.mod, S.kind, rfl, rfl, afp _, fun y z c h1 h2 => ?_, fun y hy => ?_, fun y c _ h => ?_, fun _ => hd, Around.frames_deeper e0.frames, .inr ⟨rfl, rfl⟩, fun b z => absurd z (Wa b), e0.bs, e0.Mj, fun b _ _ => Wa b, fun b z => absurd z (Wa b), e0.sG, e0.Sh⟩,
   rfl, e0.bare, Un.kept hk, ⟨_, x.toInCall.ns, fun i y v h1 h2 h3 => ?_⟩, fun y c h => ⟨_, x.cell y c h⟩, e0.dO.fresh (afp _), fun y c h => ?_, fun p hp => absurd (show p ∈ ([] : List (Addr × Obj)) from hp) (by simp), e0.dO.kept hk, ?_⟩
 . exact name_of_addr x.apart (agd h1) (agd h2)
 . have hy : scope.names.lookup y = some .cell \/ scope.names.lookup y = some .free := hy
   rcases hy with hy | hy
   . exact Bc hy
   . exact absurd rfl (S.Tf _ (agd hy))
 . exact age (x.above y c (agd h))
 . have hi : i < vs.length := by
     unfold start at h2
     by_cases hi : i < vs.length
     . exact hi
     . rw [List.getElem?_append_right (by simpa using hi)] at h2
       rw [List.getElem?_replicate] at h2
       split at h2 <;> cases h2
   have ha : vs[i]? = some v := by
     unfold start at h2
     rw [List.getElem?_append_left (by simpa using hi), List.getElem?_map] at h2
     cases e : vs[i]? with
     | none => rw [e] at h2; cases h2
     | some a => rw [e] at h2; cases h2; rfl
   obtain ⟨u, hu, rv⟩ := r.get ha
   have hp : ps[i]? = some y := by
     rw [← S.pre, List.getElem?_take_of_lt (by omega)]; exact h1
   have ndP : ps.Nodup := by rw [← S.pre]; exact S.nd.sublist (List.take_sublist _ _)
   refine ⟨u, rv, ?_⟩
   rcases S.par y (af7 hp) with k | k
   . exact .inl ⟨k, wQ ndP hp hu k⟩
   . obtain ⟨c, e⟩ := Bc (n := s.heap.objs.size + 1) k
     refine .inr ⟨.inl k, c, e, ?_⟩
     have q := x.cell y c e
     rw [wR ndP hp hu (by show scope.names.lookup y ≠ _; rw [k]; decide)] at q
     exact q
 . exact e0.dO.fresh (age (x.above y c (agd h)))
 . unfold start
   show _ = N.length
   rw [afK, afj, agq]
   omega
theorem Ru {CX : IE} {P : Program} {w : World} {K : PySem.W.Frag} {mg : Str -> Option Value} {base : Heap} {k : Nat} {f : Addr} {name qual : Str} {params : Arguments} {body : List Stmt} {scope : Scope} {dV kV doc pm c9 ct oc : Value} {an od : Option Addr}
   {HY : Array (Option Value)} {N ps : List Str} {sp : Sp} (lk : K.lookup f = some ⟨oc, od, .func (PySem.W.fnOf name qual params body scope dV kV doc pm an c9 ct), HY⟩) (gW : PySem.W.codeIn K c9 qual = true) (S : aL N ps scope)
   (len : ∀ vs H Q E, sp vs H Q E -> vs.length = ps.length)
   (Bd : ∀ (A : Around) (outer : List Env) (s : Shared) (H : Hp) (vs : List V) (Q : VK) (E : XK), d8 k (A.deeper (envOfC qual scope s.heap.objs.size f c9)) -> sp vs H Q E →
     ∃ t, Du (uq CX P w K mg base N qual scope f c9 A outer s H E) body t /\ t { nx := fun _ H' => Q .non H', rt := Q } (start N vs) H) :
   bP P w K mg base CX (k + 1) f (PySem.W.fnOf name qual params body scope dV kV doc pm an c9 ct) ps sp := by
 refine ⟨len, fun A outer s H args us vs Q E hr e0 hb r DG => ?_⟩
 have hl := len _ _ _ _ DG
 have KX : K.In s.heap := e0.mod.Zr.keeps fun b o e => (e0.bs b o e).1
 have lim : s.heap.NoLimit := e0.mod.nolimit.keeps fun b o e => (e0.bs b o e).1
 have ur : ∀ y ∈ ps.zip us, scope.names.lookup y.1 = some .local \/ (scope.names.lookup y.1 = some .cell /\ ((cellsFrom (s.heap.objs.size + 1) scope.names []).lookup y.1).isSome = true) := fun ⟨n, v⟩ hy => by
   rcases S.par n (List.of_mem_zip hy).1 with q | q
   . exact .inl q
   . exact .inr ⟨q, PySem.W.cellsFrom_some _ _ _ (.inl q)⟩
 refine codeAny_call_function hr.depth (KX _ _ lk) rfl S.co S.gen rfl (PySem.W.codeRec_of KX gW) (hb _ _ _ _ ?_)
 refine wpAny_newFunctionEnv_cells S.kind ur fun env he s1 x => ?_
 subst he
 refine ⟨lim.keeps x.toInCall.keep, codeAny_func ?_⟩
 obtain ⟨t, ht, hq⟩ := Bd A outer s H vs Q E (hr.deeper _) DG
 have I : Inv (uq CX P w K mg base N qual scope f c9 A outer s H E) [] (start N vs) H s1 := Gj S hr.hd e0 hl r x
 refine agn (ht [] s1 (start N vs) H _ I hq) (fun fl s' hs => ?_) fun e s' hs => hs
 have fin : ∀ {σ' : St} {H' : Hp} {v : V} {u : Value}, Inv (uq CX P w K mg base N qual scope f c9 A outer s H E) [] σ' H' s' -> RelV v u -> Q v H' -> CE outer P w H s Q u s' :=
   fun {σ' H' v u} J rv q => ⟨v, H', J.os, J.bare, J.base, J.dO, rv, q⟩
 cases fl with
 | ret u =>
   obtain ⟨v, σ', H', J, rv, q⟩ := hs
   exact fin J rv q
 | next =>
   obtain ⟨σ', H', J, q⟩ := hs
   exact fin (v := V.non) (u := Value.none) J rfl q
 | brk =>
   obtain ⟨_, _, _, q⟩ := hs
   exact False.elim q
 | cont =>
   obtain ⟨_, _, _, q⟩ := hs
   exact False.elim q
section
variable {X : Cx} {x : Str} {p pos : Pos} {e : Expr} {es : List Expr} {t : TA} {id T : String} {r : List V -> Hp -> VK -> Prop}
noncomputable def tCB (r : List V -> Hp -> VK -> Prop) (t : TA) : TE := fun σ H Q => t σ H fun vs H1 => r vs H1 Q
theorem oR (hc : kY X (.builtin id) r) (hg : Gl X x) (hm : X.mg x = none) (hv : bootBuiltins x = some (.builtin id)) (ha : PA X (e :: es) t) (hn : x ≠ "__name__" := by decide) (wj : (x == ("__debug__" : Str)) = false := by decide)
   (he : starEach (e :: es) X.env = (false, eval e X.env) :: starEach es X.env := by rfl) (wk : (backTo pos (starEach es X.env)).any (·.1) = false := by rfl) : PE X (.Call (.Name x p) (e :: es) [] pos) (tCB r t) := by
 intro pins s σ H Q I h
 refine agB (qI I hg hm hv ?_ hn wj)
 exact PyProof.Rows.callWith_builtin1 (eG (ha pos pins s σ H _ I h) fun us s1 ⟨vs, H1, I1, r1, q1⟩ => hc pins s1 σ H1 vs us Q I1 r1 q1) he wk
theorem iA (hc : kY X (.type T) r) (hg : Gl X x) (hm : X.mg x = none) (hv : bootBuiltins x = some (.type T)) (ha : PA X (e :: es) t) (hn : x ≠ "__name__" := by decide) (wj : (x == ("__debug__" : Str)) = false := by decide)
   (he : starEach (e :: es) X.env = (false, eval e X.env) :: starEach es X.env := by rfl) (wk : (backTo pos (starEach es X.env)).any (·.1) = false := by rfl) : PE X (.Call (.Name x p) (e :: es) [] pos) (tCB r t) := by
 intro pins s σ H Q I h
 refine agB (qI I hg hm hv ?_ hn wj)
 exact agT (eG (ha pos pins s σ H _ I h) fun us s1 ⟨vs, H1, I1, r1, q1⟩ => hc pins s1 σ H1 vs us Q I1 r1 q1) he wk
end
end L2
namespace HT
open PySem PyProof.Rows
section
open PySem.SeqAt
open PySem.AutoSeq1 (wpAny_loadPart')
open PySem.MeetsSeq PySem.MeetsSeq2 PySem.MeetsSeq3
end
section
variable {prog : Program} {w : World} {A : Around} {E : Value -> Shared -> Prop} {s : Shared}
noncomputable def qF (n d : Nat) : Option Int -> Nat
 | none => d
 | some v => if v < 0 then (v + (n : Int)).toNat else min v.toNat n
end
end HT
namespace L2
open PySem PySem.Spec PyProof.Rows
noncomputable abbrev TO := St -> Hp -> (Option Int -> Hp -> Prop) -> Prop
noncomputable def PO (X : Cx) (e : Option Expr) (t : TO) : Prop :=
 ∀ (pins : List (Addr × Obj)) (s : Shared) (σ : St) (H : Hp) (Q : Option Int -> Hp -> Prop), Inv X pins σ H s -> t σ H Q →
   wpAny (model X.prog X.w) X.A (evalPart e X.env) (fun u s' => ∃ o H', Inv X pins σ H' s' /\ IsPart u o /\ Q o H') X.xe s
noncomputable def MJ : TO := fun _ H Q => Q none H
noncomputable def Xa (t : TE) : TO := fun σ H Q => t σ H fun x H1 => ∃ i, x = .int i /\ Q (some i) H1
theorem intsAre_of {ns : List Int} : ∀ {us : List Value}, Vals (ns.map V.int) us -> IntsAre us ns := by
 induction ns with
 | nil => intro us r; rw [List.map_nil] at r; cases r; exact .nil
 | cons n ns ih =>
   intro us r
   rw [afO] at r
   cases r with
   | cons r1 r2 =>
     obtain ⟨t, e⟩ := r1
     subst e
     exact .cons n t (ih r2)
section
variable {X : Cx} {e : Expr} {te : TE} {lo hi : Option Expr} {tl th : TO} {pos p2 : Pos}
theorem MK : PO X none MJ := by
 intro pins s σ H Q I h
 rw [evalPart_none]
 exact af1 ⟨none, H, I, .none, h⟩
theorem ML (h : PE X e te) : PO X (some e) (Xa te) := by
 intro pins s σ H Q I hw
 rw [evalPart_some]
 refine eG (h pins s σ H _ I hw) fun u s1 zz => ?_
 obtain ⟨x, H1, I1, r1, q1⟩ := zz
 obtain ⟨i, rfl, q⟩ := q1
 obtain ⟨t, rfl⟩ := r1
 exact ⟨some i, H1, I1, .int i t, q⟩
noncomputable def SlR (X : Cx) (r : V -> Option Int -> Option Int -> Hp -> VK -> Prop) : Prop :=
 ∀ (pins : List (Addr × Obj)) (s : Shared) (σ : St) (H : Hp) (x : V) (v vl vu : Value) (lo hi : Option Int) (sl : Addr) (Q : VK), Inv X pins σ H s -> RelV x v -> s.heap.IsSliceOf sl vl vu .none -> IsPart vl lo -> IsPart vu hi -> r x lo hi H Q →
   ∃ T id, typeLookup (.type T) "__getitem__" = pure (some (.builtin id)) /\ s.TypeIs v T /\ wpAny (model X.prog X.w) X.A (getItem v (.ref sl)) (EP X pins σ Q) X.xe s
noncomputable def tSl (r : V -> Option Int -> Option Int -> Hp -> VK -> Prop) (te : TE) (tl th : TO) : TE := fun σ H Q => te σ H fun x H1 => tl σ H1 fun l H2 => th σ H2 fun u H3 => r x l u H3 Q
theorem Be {r : V -> Option Int -> Option Int -> Hp -> VK -> Prop} (hr : SlR X r) (he : PE X e te) (hl : PO X lo tl) (hu : PO X hi th) : PE X (.Subscript e (.Slice lo hi none p2) pos) (tSl r te tl th) := by
 intro pins s σ H Q I h
 refine Subscript_ (eG (he pins s σ H _ I h) fun v s1 zz => ?_)
 obtain ⟨x, H1, I1, r1, q1⟩ := zz
 refine wpAny_Slice (eG (hl pins s1 σ H1 _ I1 q1) fun vl s2 ⟨l, H2, I2, pl, q2⟩ => eG (hu pins s2 σ H2 _ I2 q2) fun vu s3 zz => ?_)
 obtain ⟨u, H3, I3, pu, q3⟩ := zz
 rw [evalPart_none]
 refine af1 ?_
 have I4 : Inv X pins σ H3 { s3 with heap := s3.heap.push { cls := .type "slice", data := .fields #[vl, vu, .none] } } := I3.kept (t' := s3.toks) fun b ob q => afv _ q
 obtain ⟨T, id, hT, ht, hg⟩ := hr pins { s3 with heap := s3.heap.push { cls := .type "slice", data := .fields #[vl, vu, .none] } } σ H3 x v vl vu l u s3.heap.objs.size Q I4 r1 (Heap.IsSliceOf.new ..) pl pu q3
 show wpAny (model X.prog X.w) X.A (subscriptTail e (.Slice lo hi none p2) v (.ref s3.heap.objs.size)) (EP X pins σ Q) X.xe { s3 with heap := s3.heap.push { cls := .type "slice", data := .fields #[vl, vu, .none] } }
 exact tail_any (ops := [.ref s3.heap.objs.size, v]) ht hT hg (by with_unfolding_all rfl)
noncomputable def Gk (xs : List V) (lo hi : Option Int) : List V := (xs.drop (HT.qF xs.length 0 lo)).take (HT.qF xs.length xs.length hi - HT.qF xs.length 0 lo)
theorem Bf (xs : List V) (lo hi : Option Int) : (Gk xs lo hi).length <= xs.length := by
 unfold Gk
 rw [agU, List.length_drop]
 omega
end
noncomputable def Gm (n : Nat) (i : Int) : Option Nat := if 0 <= i then (if i < n then some i.toNat else none) else if -(n : Int) <= i then some (i + n).toNat else none
noncomputable def oS {α : Type} (xs : List α) (i : Int) : Option α := (Gm xs.length i).bind fun j => xs[j]?
theorem xO {n : Nat} {i : Int} {j : Nat} (h : Gm n i = some j) : seqIndex? i n = some j /\ j < n /\ -(n : Int) <= i /\ i < n := by
 unfold Gm at h
 by_cases h0 : 0 <= i
 . rw [afk h0] at h
   by_cases h1 : i < n
   . rw [afk h1] at h
     have e : i.toNat = j := afF h
     exact ⟨by rw [seqIndex_of h0 h1, e], by omega, by omega, h1⟩
   . rw [afi h1] at h; cases h
 . rw [afi h0] at h
   by_cases h1 : -(n : Int) <= i
   . rw [afk h1] at h
     have e : (i + n).toNat = j := afF h
     exact ⟨by rw [seqIndex_neg (by omega) h1, e], by omega, h1, by omega⟩
   . rw [afi h1] at h; cases h
theorem xP {α : Type} {xs : List α} {i : Int} {v : α} (h : oS xs i = some v) : ∃ j, seqIndex? i xs.length = some j /\ xs[j]? = some v /\ j < xs.length /\ -(xs.length : Int) <= i /\ i < xs.length := by
 unfold oS at h
 cases e : Gm xs.length i with
 | none => rw [e] at h; cases h
 | some j =>
   rw [e] at h
   obtain ⟨h1, h2, h3, h4⟩ := xO e
   exact ⟨j, h1, h, h2, h3, h4⟩
theorem fO {α : Type} {xs : List α} {j : Nat} {v : α} (h : xs[j]? = some v) : oS xs (j : Int) = some v := by
 have hj : j < xs.length := (afC.mp h).1
 have e : Gm xs.length (j : Int) = some j := by
   unfold Gm
   rw [afk (by omega), afk (by omega)]; simp
 unfold oS; rw [e]; exact h
noncomputable def oU (b : Expr) : Prop := ∀ o i, subscripted b false o i = operate [o, i] (getItem o i)
noncomputable def ZF (X : Cx) (r : R2) : Prop :=
 ∀ (value slice : Expr) (pins : List (Addr × Obj)) (s : Shared) (σ : St) (H : Hp) (x y : V) (v u : Value) (Q : VK), Inv X pins σ H s -> RelV x v -> RelV y u -> r x y H Q →
   subscripted slice false v u = operate [v, u] (getItem v u) -> wpAny (model X.prog X.w) X.A (subscriptTail value slice v u) (EP X pins σ Q) X.xe s
noncomputable def MtR (X : Cx) (id : String) (r : V -> List V -> Hp -> VK -> Prop) : Prop :=
 ∀ (pins : List (Addr × Obj)) (s : Shared) (σ : St) (H : Hp) (x : V) (xs : List V) (v : Value) (us : List Value) (Q : VK), Inv X pins σ H s -> RelV x v -> Vals xs us -> r x xs H Q →
   wpAny (model X.prog X.w) X.A (call (.builtin id) (v :: us)) (EP X pins σ Q) X.xe s
section
variable {X : Cx} {a b : Expr} {ta tb : TE} {pos : Pos}
theorem E2 {r : R2} (hr : ZF X r) (ha : PE X a ta) (hb : PE X b tb) (hs : oU b) : PE X (.Subscript a b pos) (ZC r ta tb) := by
 intro pins s σ H Q I h
 exact Subscript_ (SR ha hb I h fun v u s2 x y H2 I2 rx ry q => hr a b pins s2 σ H2 x y v u Q I2 rx ry q (hs _ _))
noncomputable def aaE (K : PySem.W.Frag) : R2 := fun x y H Q => ∃ p xs i v, x = .ref p /\ y = .int i /\ nX K H p xs /\ oS xs i = some v /\ Q v H
noncomputable def aaF (K : PySem.W.Frag) : R2 := fun x y H Q => ∃ p xs i v, x = .ref p /\ y = .int i /\ Dv K H p xs /\ oS xs i = some v /\ Q v H
noncomputable def aaG : R2 := fun x y H Q => ∃ z i c, x = .str z /\ y = .int i /\ z.length <= sizeLine /\ oS z.cps.toList i = some c /\ Q (.str ⟨#[c]⟩) H
theorem E3 : ZF X (aaE X.K) := by
 intro value slice pins s σ H x y v u Q I rx ry h hs
 obtain ⟨p, xs, i, z, rfl, rfl, hq, he, q⟩ := h
 cases rx
 obtain ⟨t, rfl⟩ := ry
 obtain ⟨its, r, pl, hz⟩ := I.list hq
 obtain ⟨j, h1, h2, h3, h4, h5⟩ := xP he
 obtain ⟨w, ew, Tg⟩ := r.get h2
 have hl := r.length
 have hn := uo
 have fin : EP X pins σ Q w s := ⟨z, H, I, Tg, q⟩
 by_cases h0 : 0 <= i
 . have hj : i.toNat = j := by
     rw [seqIndex_of h0 h5] at h1
     exact afF h1
   exact item_listR pl.isList h0 (by omega) (by rw [hj]; simpa using ew) fin hs
 . have hj : (i + (its.toArray.size : Int)).toNat = j := by
     rw [seqIndex_neg (by omega) h4] at h1
     rw [afH, ← hl]
     exact afF h1
   exact subscriptTail_builtinR (x := w) pl.isList.typeIs slot_list_getitem.lookup
     (wpAny_getItem_list_neg (Q := fun r s' => r = w /\ EP X pins σ Q r s') pl.isList (by omega) (by rw [List.size_toArray] <;> omega) (by omega) (by rw [hj]; simpa using ew) ⟨rfl, fin⟩) hs
theorem Ti : ZF X (aaF X.K) := by
 intro value slice pins s σ H x y v u Q I rx ry h hs
 obtain ⟨p, xs, i, z, rfl, rfl, hq, he, q⟩ := h
 cases rx
 obtain ⟨t, rfl⟩ := ry
 obtain ⟨its, r, pl, hz⟩ := I.tuple hq
 obtain ⟨j, h1, h2, h3, h4, h5⟩ := xP he
 obtain ⟨w, ew, Tg⟩ := r.get h2
 have hl := r.length
 have hn := uo
 have fin : EP X pins σ Q w s := ⟨z, H, I, Tg, q⟩
 exact subscriptTail_builtinR (x := w) pl.typeIs slot_tuple_getitem.lookup
   (getItem_tuple (j := j) (Q := fun r s' => r = w /\ EP X pins σ Q r s') pl (by omega) (by omega) (by rw [List.size_toArray, ← hl]; exact h1) (by simpa using ew) ⟨rfl, fin⟩) hs
theorem Tj : ZF X aaG := by
 intro value slice pins s σ H x y v u Q I rx ry h hs
 obtain ⟨z, i, c, rfl, rfl, hz, he, q⟩ := h
 obtain ⟨t, rfl⟩ := rx
 obtain ⟨t', rfl⟩ := ry
 obtain ⟨j, h1, h2, h3, h4, h5⟩ := xP he
 have hl : z.cps.toList.length = z.length := by simp [Str.length]
 rw [hl] at h1 h4 h5
 have hn := uo
 exact tail_any (typeIs_str s z t) slot_str_getitem.lookup (getItem_str (c := c) (by
   have e1 : decide (i < -(2 ^ 63 : Int)) = false := af0 (by omega)
   have e2 : decide (i ≥ 2 ^ 63) = false := af0 (by omega)
   rw [e1, e2, Bool.or_false]) (by rw [h1]; simpa using h2) ⟨.str ⟨#[c]⟩, H, I.tok _, ⟨_, rfl⟩, q⟩) hs
theorem DH (its : List Value) (n j : Nat) (u : Value) : Obj.mapSeq (·.setIfInBounds j u) { cls := .type "list", data := .seq its.toArray n } = { cls := .type "list", data := .seq (its.set j u).toArray n } := by
 simp [Obj.mapSeq]
theorem Inv.lst {pins : List (Addr × Obj)} {σ : St} {H : Hp} {s : Shared} {p : Addr} {xs : List V} (I : Inv X pins σ H s) (h : H p = some (.lst xs)) :
   ∃ (its : List Value) (n : Nat), Vals xs its /\ s.heap.get? p = some { cls := .type "list", data := .seq its.toArray n } /\ xs.length <= sizeLine := by
 obtain ⟨z, its, n, r, e⟩ := I.dO p _ h
 exact ⟨its, n, r, e, z⟩
theorem Inv.Tp {pins : List (Addr × Obj)} {σ : St} {H : Hp} {s : Shared} {p : Addr} {xs ys : List V} {its its' : List Value} {n n' : Nat} {f : Obj -> Obj} (I : Inv X pins σ H s) (h : H p = some (.lst xs))
   (ho : s.heap.get? p = some { cls := .type "list", data := .seq its.toArray n }) (hf : f { cls := .type "list", data := .seq its.toArray n } = { cls := .type "list", data := .seq its'.toArray n' }) (r : Vals ys its') (hz : ys.length <= sizeLine) (t : Nat) :
   Inv X pins σ (upd H p (.lst ys)) { s with heap := s.heap.update p f, toks := t } := by
 have e : (s.heap.update p f).get? p = some { cls := .type "list", data := .seq its'.toArray n' } := by
   rw [Heap.get?_update_self f ho (by rw [hf] <;> rfl), hf]
 refine I.write (x := p) (e := p) (by rw [h]; trivial) (.inl rfl) (fun b u hb q => (Heap.get?_update_other _ _ (Ne.symm hb)).trans q) ⟨_, e⟩ ?_
 exact ⟨hz, its', n', r, e⟩
noncomputable def Xb : V -> V -> V -> Hp -> (Hp -> Prop) -> Prop := fun o i v H Q => ∃ p xs k j, o = .ref p /\ i = .int k /\ H p = some (.lst xs) /\ Gm xs.length k = some j /\ Q (upd H p (.lst (xs.set j v)))
theorem set_list : WM X Xb := by
 intro pins s σ H o i v ov iv u Q I ro ri rv h
 obtain ⟨p, xs, k, j, rfl, rfl, hp, hj, q⟩ := h
 cases ro
 obtain ⟨t, rfl⟩ := ri
 obtain ⟨its, n, r, ho, hz⟩ := I.lst hp
 obtain ⟨h1, h2, h3, h4⟩ := xO hj
 have hl := r.length
 have hn := uo
 have I' : Inv X pins σ (upd H p (.lst (xs.set j v))) { s with heap := s.heap.update p (Obj.mapSeq (·.setIfInBounds j u)) } :=
   I.Tp hp ho (DH its n j u) (r.set rv j) (by rw [List.length_set]; exact hz) s.toks
 by_cases h0 : 0 <= k
 . have hk : k.toNat = j := by
     rw [seqIndex_of h0 h4] at h1
     exact afF h1
   exact PySem.W.ki_setAt ho h0 (by omega) (by rw [afH, ← hl]; exact h4) (by rw [hk]; exact ⟨_, I', q⟩)
 . have hk : (k + (its.toArray.size : Int)).toNat = j := by
     rw [seqIndex_neg (by omega) h3] at h1
     rw [afH, ← hl]
     exact afF h1
   exact PySem.W.ki_setBack ho (by omega) (by rw [afH, ← hl]; exact h3) (by omega) (by rw [hk]; exact ⟨_, I', q⟩)
theorem xQ (lo hi : Option Int) (n : Nat) : (sliceBounds lo hi none n).1 = ((HT.qF n 0 lo : Nat) : Int) /\ (sliceBounds lo hi none n).2.1 = ((HT.qF n n hi : Nat) : Int) /\ (sliceBounds lo hi none n).2.2 = 1 := by
 refine ⟨?_, ?_, rfl⟩
 . cases lo with
   | none => simp [sliceBounds, HT.qF]
   | some i =>
     simp only [sliceBounds, HT.qF, Option.getD_none, show (1 : Int) > 0 by decide, agQ]
     by_cases h : i < 0
     . simp only [h, agQ] <;> omega
     . simp only [h, agF] <;> omega
 . cases hi with
   | none => simp [sliceBounds, HT.qF]
   | some i =>
     simp only [sliceBounds, HT.qF, Option.getD_none, show (1 : Int) > 0 by decide, agQ]
     by_cases h : i < 0
     . simp only [h, agQ] <;> omega
     . simp only [h, agF] <;> omega
theorem wm (its : List Value) (lo hi : Option Int) : slicePick its.toArray lo hi none = ((its.drop (HT.qF its.length 0 lo)).take (HT.qF its.length its.length hi - HT.qF its.length 0 lo)).toArray := by
 obtain ⟨h1, h2, h3⟩ := xQ lo hi its.toArray.size
 unfold slicePick
 rw [h1, h2, h3]
 simp only [sliceRange_one, pick_run, afH] <;> rfl
noncomputable def aaH (K : PySem.W.Frag) : V -> Option Int -> Option Int -> Hp -> VK -> Prop := fun x lo hi H Q => ∃ a xs, x = .ref a /\ nX K H a xs /\ ∀ p, H p = none -> Q (.ref p) (upd H p (.lst (Gk xs lo hi)))
theorem MN : SlR X (aaH X.K) := by
 intro pins s σ H x v vl vu lo hi sl Q I rx hs pl pu h
 obtain ⟨a, xs, rfl, hx, q⟩ := h
 cases rx
 obtain ⟨its, r, ht, hz⟩ := I.list hx
 have hlen := r.length
 refine ⟨"list", _, slot_list_getitem.lookup, ht.isList.typeIs, ?_⟩
 refine wpAny_getItem_list_slice ht.isList hs pl pu .none (by simp) ?_ (by rw [afH] <;> omega)
 rw [wm, ← hlen]
 refine ⟨.ref s.heap.objs.size, _, I.laid (t' := s.toks) (o := .lst (Gk xs lo hi)) (fun b ob q => afv _ q) (afp _) ?_, rfl, q _ (I.dO.fresh (afp _))⟩
 exact ⟨afZ (Bf xs lo hi) hz, _, 0, (r.drop (HT.qF xs.length 0 lo)).take (HT.qF xs.length xs.length hi - HT.qF xs.length 0 lo), afL _ rfl⟩
noncomputable def nY : V -> Bool
 | .non => true
 | .bl _ => true
 | .int _ => true
 | .str _ => true
 | _ => false
noncomputable def IK : V -> V -> Bool
 | .non, .non => true
 | .bl a, .bl b => a == b
 | .bl a, .int b => (if a then 1 else 0) == b
 | .int a, .bl b => a == (if b then 1 else 0)
 | .int a, .int b => a == b
 | .str a, .str b => a == b
 | _, _ => false
theorem Tq {A : Around} {s : Shared} {y x : V} {u v : Value} (ry : RelV y u) (rx : RelV x v) (fy : nY y = true) (fx : nY x = true) : SeqAt.EqAt A s u v (IK y x) := by
 cases y with
 | non =>
   cases ry
   cases x with
   | non => cases rx; exact SeqAt.EqAt.same _
   | bl b => cases rx; exact SeqAt.EqAt.none_bool b
   | int b => obtain ⟨t, rfl⟩ := rx; exact SeqAt.EqAt.none_int b t
   | str b => obtain ⟨t, rfl⟩ := rx; exact SeqAt.EqAt.none_str b t
   | _ => exact absurd (show false = true from fx) afx
 | bl a =>
   cases ry
   cases x with
   | non => cases rx; exact SeqAt.EqAt.bool_none a
   | bl b => cases rx; exact SeqAt.EqAt.bool_bool a b
   | int b => obtain ⟨t, rfl⟩ := rx; exact SeqAt.EqAt.bool_int a b t
   | str b => obtain ⟨t, rfl⟩ := rx; exact SeqAt.EqAt.bool_str a b t
   | _ => exact absurd (show false = true from fx) afx
 | int a =>
   obtain ⟨t', rfl⟩ := ry
   cases x with
   | non => cases rx; exact SeqAt.EqAt.int_none a t'
   | bl b => cases rx; exact SeqAt.EqAt.int_bool a t' b
   | int b => obtain ⟨t, rfl⟩ := rx; exact SeqAt.EqAt.int_int a t' b t
   | str b => obtain ⟨t, rfl⟩ := rx; exact SeqAt.EqAt.int_str a t' b t
   | _ => exact absurd (show false = true from fx) afx
 | str a =>
   obtain ⟨t', rfl⟩ := ry
   cases x with
   | non => cases rx; exact SeqAt.EqAt.str_none a t'
   | bl b => cases rx; exact SeqAt.EqAt.str_bool a t' b
   | int b => obtain ⟨t, rfl⟩ := rx; exact SeqAt.EqAt.str_int a t' b t
   | str b => obtain ⟨t, rfl⟩ := rx; exact SeqAt.EqAt.str_str a t' b t
   | _ => exact absurd (show false = true from fx) afx
 | _ => exact absurd (show false = true from fy) afx
noncomputable def DI (x : V) (u : Value) : Bool := match u with
 | .none => IK .non x
 | .bool b => IK (.bl b) x
 | .int i _ => IK (.int i) x
 | .str z _ => IK (.str z) x
 | _ => false
theorem IL {x y : V} {u : Value} (r : RelV y u) (f : nY y = true) : DI x u = IK y x := by
 cases y with
 | non => cases r; rfl
 | bl b => cases r; rfl
 | int i => obtain ⟨t, rfl⟩ := r; rfl
 | str z => obtain ⟨t, rfl⟩ := r; rfl
 | _ => exact absurd (show false = true from f) afx
theorem oV {x : V} : ∀ {xs : List V} {us : List Value}, Vals xs us -> xs.all nY = true -> us.any (DI x) = xs.any fun y => IK y x
 | _, _, .nil, _ => rfl
 | y :: xs, u :: us, .cons r t, f => by
   rw [List.all_cons, af4] at f
   rw [agV, agV, IL r f.1, oV t f.2]
theorem lq {A : Around} {s : Shared} {x : V} {v : Value} (rx : RelV x v) (fx : nY x = true) : ∀ {xs : List V} {us : List Value}, Vals xs us -> xs.all nY = true -> ∀ u ∈ us, SeqAt.EqAt A s u v (DI x u)
 | _, _, .nil, _ => fun u hu => by cases hu
 | y :: xs, u :: us, .cons r t, f => fun u' hu => by
   rw [List.all_cons, af4] at f
   rcases afm.mp hu with rfl | hu
   . rw [IL r f.1]; exact Tq r rx f.1 fx
   . exact lq rx fx t f.2 u' hu
noncomputable def Rw (x : V) (xs : List V) : Bool := xs.any fun y => IK y x
noncomputable def rIn (K : PySem.W.Frag) (neg : Bool) : R2 := fun x y H Q => ∃ p xs, y = .ref p /\ (nX K H p xs \/ Dv K H p xs) /\ nY x = true /\ xs.all nY = true /\ Q (.bl (if neg then !Rw x xs else Rw x xs)) H
theorem mJ : qJ X (compareOp .In) (rIn X.K false) := by
 intro pins s σ H x y v u Q I rx ry h
 obtain ⟨p, xs, rfl, hq, fx, fs, q⟩ := h
 cases ry
 rcases hq with hq | hq
 . obtain ⟨its, r, pl, hz⟩ := I.list hq
   refine SeqAt.in_listAt (DI x) pl.isList (fun w hw => lq rx fx r fs w (by simpa using hw)) ⟨.bl _, H, I, rfl, ?_⟩
   rw [show its.toArray.any (DI x) = its.any (DI x) by simp, oV r fs]
   exact q
 . obtain ⟨its, r, pl, hz⟩ := I.tuple hq
   refine SeqAt.in_tupleAt (DI x) pl (fun w hw => lq rx fx r fs w (by simpa using hw)) ⟨.bl _, H, I, rfl, ?_⟩
   rw [show its.toArray.any (DI x) = its.any (DI x) by simp, oV r fs]
   exact q
theorem oW : qJ X (compareOp .NotIn) (rIn X.K true) := by
 intro pins s σ H x y v u Q I rx ry h
 obtain ⟨p, xs, rfl, hq, fx, fs, q⟩ := h
 cases ry
 rcases hq with hq | hq
 . obtain ⟨its, r, pl, hz⟩ := I.list hq
   refine SeqAt.notIn_listAt (DI x) pl.isList (fun w hw => lq rx fx r fs w (by simpa using hw)) ⟨.bl _, H, I, rfl, ?_⟩
   rw [show its.toArray.any (DI x) = its.any (DI x) by simp, oV r fs]
   exact q
 . obtain ⟨its, r, pl, hz⟩ := I.tuple hq
   refine SeqAt.notIn_tupleAt (DI x) pl (fun w hw => lq rx fx r fs w (by simpa using hw)) ⟨.bl _, H, I, rfl, ?_⟩
   rw [show its.toArray.any (DI x) = its.any (DI x) by simp, oV r fs]
   exact q
theorem xR : kY X (.builtin "len") (fun xs H Q => ∃ p ys, xs = [.ref p] /\ (nX X.K H p ys \/ Dv X.K H p ys) /\ Q (.int ys.length) H) := by
 intro pins s σ H xs us Q I r h
 obtain ⟨p, ys, rfl, hq, q⟩ := h
 obtain ⟨u, rfl, rx⟩ := vals1 r
 cases rx
 have hn := uo
 rcases hq with hq | hq
 . obtain ⟨its, r', pl, hz⟩ := I.list hq
   have hlen := r'.length
   exact Calls.call_len_list pl.isList (by simp only [afH] <;> omega) ⟨.int ys.length, H, I.tok _, ⟨s.toks + 1, by rw [afH, hlen]⟩, q⟩
 . obtain ⟨its, r', pl, hz⟩ := I.tuple hq
   have hlen := r'.length
   exact len_tuple pl (by simp only [afH] <;> omega) ⟨.int ys.length, H, I.tok _, ⟨s.toks + 1, by rw [afH, hlen]⟩, q⟩
theorem xS : kY X (.type "list") (fun xs H Q => ∃ p ys, xs = [.ref p] /\ (nX X.K H p ys \/ Dv X.K H p ys) /\ ∀ l, H l = none -> Q (.ref l) (upd H l (.lst ys))) := by
 intro pins s σ H xs us Q I r h
 obtain ⟨p, ys, rfl, hq, q⟩ := h
 obtain ⟨u, rfl, rx⟩ := vals1 r
 cases rx
 have fin : ∀ (its : List Value), Vals ys its -> ys.length <= sizeLine -> ∀ (h' : Heap) (c' : Nat), (∀ b o', s.heap.get? b = some o' -> h'.get? b = some o') →
     h'.get? s.heap.objs.size = some { cls := .type "list", dict := none, data := .seq its.toArray c', slots := #[] } -> EP X pins σ Q (.ref s.heap.objs.size) { s with heap := h' } := fun its r' hz h' c' kp e =>
   ⟨.ref s.heap.objs.size, _, I.laid (t' := s.toks) kp (afp _) (show gk X.prog X.w _ h' _ (.lst ys) from ⟨hz, its, c', r', e⟩), rfl, q _ (I.dO.fresh (afp _))⟩
 rcases hq with hq | hq
 . obtain ⟨its, r', pl, hz⟩ := I.list hq
   have hlen := r'.length
   obtain ⟨o, ho, hc, n, hd⟩ := pl.isList
   exact call_list_seq p (.inl rfl) ho hc hd (fun h' c' kp e => fin its r' hz h' c' kp e) (by simp only [afH] <;> omega)
 . obtain ⟨its, r', pl, hz⟩ := I.tuple hq
   have hlen := r'.length
   obtain ⟨o, ho, hc, n, hd⟩ := pl
   exact call_list_seq p (.inr rfl) ho hc hd (fun h' c' kp e => fin its r' hz h' c' kp e) (by simp only [afH] <;> omega)
theorem wu : kY X (.type "tuple") (fun xs H Q => ∃ p ys, xs = [.ref p] /\ ((nX X.K H p ys /\ ∀ l, H l = none -> Q (.ref l) (upd H l (.tup ys))) \/ (Dv X.K H p ys /\ Q (.ref p) H))) := by
 intro pins s σ H xs us Q I r h
 obtain ⟨p, ys, rfl, h⟩ := h
 obtain ⟨u, rfl, rx⟩ := vals1 r
 cases rx
 rcases h with ⟨hq, q⟩ | ⟨hq, q⟩
 . obtain ⟨its, r', pl, hz⟩ := I.list hq
   have hlen := r'.length
   refine call_tuple_list pl.isList (fun h' kp => ?_) (by simp only [afH] <;> omega)
   have I1 : Inv X pins σ H { s with heap := h' } := I.kept (t' := s.toks) kp
   have I2 : Inv X pins σ (upd H h'.objs.size (.tup ys)) { s with heap := h'.push { cls := .type "tuple", data := .seq its.toArray } } :=
     I1.laid (t' := s.toks) (fun b o e => afv _ e) (afp _) (show gk X.prog X.w _ _ _ (.tup ys) from ⟨hz, its, r', IsTup.new _ _⟩)
   exact ⟨.ref h'.objs.size, _, I2, rfl, q _ (I1.dO.fresh (afp _))⟩
 . obtain ⟨its, r', pl, hz⟩ := I.tuple hq
   exact call_tuple_same pl ⟨.ref p, H, I, rfl, q⟩
noncomputable def tyV (K : PySem.W.Frag) (T : String) (x : V) (H : Hp) : Prop := match x with
 | .str _ => T = "str"
 | .int _ => T = "int"
 | .ref p => (T = "list" /\ ∃ xs, nX K H p xs) \/ (T = "tuple" /\ ∃ o, K.lookup p = some o /\ o.cls = .type "tuple" /\ o.dict = none) ∨
     (T = "dict" /\ ((∃ k6, H p = some (.dK k6)) \/ ∃ k6, H p = some (.dT k6))) \/ (T = "set" /\ ∃ S n, H p = some (.set S n))
 | _ => False
theorem Tr {pins : List (Addr × Obj)} {σ : St} {H : Hp} {s : Shared} {T : String} {x : V} {v : Value} (I : Inv X pins σ H s) (r : RelV x v) (ty : tyV X.K T x H) :
   s.TypeIs v T /\ ∀ a, v = .ref a -> ∃ ob, s.heap.get? a = some ob /\ ob.dict = none := by
 cases x with
 | str z =>
   obtain ⟨t, rfl⟩ := r
   cases (show T = "str" from ty)
   exact ⟨typeIs_str s z t, fun _ e => nomatch e⟩
 | int i =>
   obtain ⟨t, rfl⟩ := r
   cases (show T = "int" from ty)
   exact ⟨typeIs_int s i t, fun _ e => nomatch e⟩
 | ref p =>
   cases r
   rcases ty with ⟨rfl, xs, hq⟩ | ⟨rfl, o, hk, hc, hd⟩ | ⟨rfl, hk⟩ | ⟨rfl, S, n, hk⟩
   . obtain ⟨its, _, pl, _⟩ := I.list hq
     refine ⟨pl.isList.typeIs, fun a e => ?_⟩
     cases e
     obtain ⟨o, n, e, c, hd, _⟩ := pl
     exact ⟨o, e, hd⟩
   . refine ⟨⟨o, I.A4 p o hk, hc⟩, fun a e => ?_⟩
     cases e
     exact ⟨o, I.A4 _ o hk, hd⟩
   . have z : ∃ o, s.heap.get? p = some o /\ o.ExactDict := by
       rcases hk with ⟨k6, hk⟩ | ⟨k6, hk⟩
       . obtain ⟨_, _, _, _, o, _, _, e, ex, _⟩ := I.dO p _ hk
         exact ⟨o, e, ex⟩
       . obtain ⟨_, _, _, _, o, _, _, e, ex, _⟩ := I.dO p _ hk
         exact ⟨o, e, ex⟩
     obtain ⟨o, e, ex⟩ := z
     refine ⟨⟨o, e, ex.1⟩, fun a e2 => ?_⟩
     cases e2
     exact ⟨o, e, ex.2.1⟩
   . obtain ⟨o, _, _, _, e, ex, _⟩ := I.dO p _ hk
     refine ⟨⟨o, e, ex.1⟩, fun a e2 => ?_⟩
     cases e2
     exact ⟨o, e, ex.2.1⟩
 | _ => exact False.elim ty
noncomputable def tBM (K : PySem.W.Frag) (T : String) (r : V -> List V -> Hp -> VK -> Prop) (to : TE) (t : TA) : TE := fun σ H Q => to σ H fun x H1 => tyV K T x H1 /\ t σ H1 fun xs H2 => r x xs H2 Q
variable {o e : Expr} {es : List Expr} {to : TE} {t : TA} {name : Str} {apos Bg : Pos} {T id : String} {r : V -> List V -> Hp -> VK -> Prop}
theorem Rx (pa : PlainAttrs T) (slot : Slot T name id) (hty : typeOf (.builtin id) = pure (.type "method_descriptor")) (hm : MtR X id r) (ho : PE X o to) (ha : PA X (e :: es) t)
   (uv : attributeBase o name X.env (eval o X.env) = eval o X.env := by rfl)
   (DJ : ((backTo Bg (starEach (e :: es) X.env)).all (fun x => !x.1) && (backToKw Bg (keywordEach [] X.env)).all (fun x => x.1.isSome)
     && decide ((e :: es).length + ([] : List Keyword).length + (if ([] : List Keyword).isEmpty then 0 else 1) < 30)) = true := by rfl)
   (hline : (apos.endLine == Bg.line) = true := by rfl) (hs : starEach (e :: es) X.env = (false, eval e X.env) :: starEach es X.env := by rfl) (DK : (backTo Bg (starEach es X.env)).any (·.1) = false := by rfl) :
   PE X (.Call (.Attribute o name apos) (e :: es) [] Bg) (tBM X.K T r to t) := by
 intro pins s σ H Q I h
 refine wpAny_Call_method_late uv DJ hline rfl (eG (ho pins s σ H _ I h) fun v s1 zz => ?_)
 obtain ⟨x, H1, I1, r1, ty, q1⟩ := zz
 obtain ⟨h1, h2⟩ := Tr I1 r1 ty
 refine ⟨T, id, pa, slot, hty, h1, h2, ?_⟩
 have hA := ha Bg pins s1 σ H1 _ I1 q1
 rw [hs] at hA ⊢
 refine Calls.callWith_builtin (by show (false || (backTo Bg (starEach es X.env)).any (·.1)) = false; rw [DK] <;> rfl) (Calls.evalArgs_plain ?_)
 exact eG hA fun us s2 ⟨vs, H2, I2, r2, q2⟩ => hm pins s2 σ H2 x vs v us Q I2 r1 r2 q2
end
noncomputable def MtM (X : Cx) (id : String) (r : V -> List V -> Hp -> VK -> Prop) : Prop :=
 ∀ (pins : List (Addr × Obj)) (s : Shared) (σ : St) (H : Hp) (x : V) (xs : List V) (v : Value) (us : List Value) (Q : VK), Inv X pins σ H s -> RelV x v -> Vals xs us -> r x xs H Q →
   wpAny (model X.prog X.w) X.A (call (.builtin id) (v :: us)) (EP X pins σ Q) X.xe s
theorem Vals.one {x : V} {us : List Value} (h : Vals [x] us) : ∃ u, us = [u] /\ RelV x u := by
 cases h with
 | cons r h => cases h; exact ⟨_, rfl, r⟩
theorem Vals.two {x y : V} {us : List Value} (h : Vals [x, y] us) : ∃ u v, us = [u, v] /\ RelV x u /\ RelV y v := by
 cases h with
 | cons r h => cases h with
   | cons q h => cases h; exact ⟨_, _, rfl, r, q⟩
theorem Vals.rep {xs : List V} {us : List Value} (h : Vals xs us) : ∀ k : Nat, Vals (List.replicate k xs).flatten (List.replicate k us).flatten
 | 0 => .nil
 | k + 1 => by
   rw [agl, agl, agG, agG]
   exact Vals.append h (Vals.rep h k)
theorem foldl_rep (its : List Value) : ∀ (k : Nat) (acc : List Value),
   List.foldl (fun x1 x2 => x1 ++ x2) acc.toArray (List.replicate k its.toArray) = (acc ++ (List.replicate k its).flatten).toArray
 | 0, acc => by simp
 | k + 1, acc => by
   have e : acc.toArray ++ its.toArray = (acc ++ its).toArray := by simp
   have e2 : (acc ++ its) ++ (List.replicate k its).flatten = acc ++ (List.replicate (k + 1) its).flatten := by
     rw [agl, agG, afr]
   rw [← e2, ← foldl_rep its k (acc ++ its), ← e, agl, List.foldl_cons]
section
variable {X : Cx} {pins : List (Addr × Obj)} {σ : St} {H : Hp} {s : Shared} {l b : Addr} {xs ys zs : List V}
theorem Inv.aaI {its its' : List Value} {n : Nat} {f : Array Value -> Array Value} {t' : Nat} (I : Inv X pins σ H s) (hH : H l = some (.lst xs))
   (e : s.heap.get? l = some { cls := .type "list", data := .seq its.toArray n }) (hf : f its.toArray = its'.toArray) (hv : Vals ys its') (hz : ys.length <= sizeLine) :
   Inv X pins σ (upd H l (.lst ys)) { s with heap := s.heap.update l (Obj.mapSeq f), toks := t' } := by
 have q := PySem.IsL.update e f
 rw [hf] at q
 refine I.write (x := l) (e := l) (by rw [hH]; exact trivial) (.inl rfl) (fun b' u hb hu => (Heap.get?_update_other s.heap (Obj.mapSeq f) (Ne.symm hb)).trans hu) ⟨_, q⟩ ?_
 exact ⟨hz, its', _, hv, q⟩
theorem Inv.Xc {its : List Value} {t' : Nat} (I : Inv X pins σ H s) (hv : Vals ys its) (hz : ys.length <= sizeLine) :
   Inv X pins σ (upd H s.heap.objs.size (.lst ys)) { s with heap := s.heap.push { cls := .type "list", data := .seq its.toArray }, toks := t' } :=
 I.laid (fun _ _ q => afv _ q) (afp _) ⟨hz, its, 0, hv, afL _ rfl⟩
theorem Inv.fresh (I : Inv X pins σ H s) : H s.heap.objs.size = none := I.dO.fresh (afp _)
theorem Inv.aaJ (I : Inv X pins σ H s) (hH : H l = some (.lst xs)) : xs.length <= sizeLine /\ ∃ (its : List Value) (n : Nat), Vals xs its /\ xs.length = its.length /\ s.heap.get? l = some { cls := .type "list", data := .seq its.toArray n } := by
 obtain ⟨z, its, n, r, e⟩ := I.dO l _ hH
 exact ⟨z, its, n, r, r.length, e⟩
theorem IQ {n : Nat} (h : n <= sizeLine) : Builtin.List.listTooLong n = false := by
 unfold Builtin.List.listTooLong
 exact af0 (by omega)
end
section
variable {X : Cx}
noncomputable def MP : V -> List V -> Hp -> VK -> Prop := fun x vs H Q => ∃ l xs y, x = .ref l /\ vs = [y] /\ H l = some (.lst xs) /\ xs.length < sizeLine /\ Q .non (upd H l (.lst (xs ++ [y])))
theorem wU : MtM X "list.append" MP := by
 intro pins s σ H x vs v us Q I rx rv h
 obtain ⟨l, xs, y, rfl, rfl, hH, hz, q⟩ := h
 cases rx
 obtain ⟨u, rfl, ru⟩ := rv.one
 obtain ⟨z, its, n, r, hl, e⟩ := I.aaJ hH
 refine call_meets F.slot_list_append ⟨_, e, rfl⟩ F.entry_list_append (F.args_list_append_2 _ _) (PySem.list_append l its.toArray n u (by rw [afH]; omega)) ⟨e, ?_⟩
 refine ⟨.non, _, I.aaI (its' := its ++ [u]) hH e (by simp) (r.append (.cons ru .nil)) ?_, rfl, q⟩
 rw [afK, List.length_singleton]
 omega
theorem len_rep {α : Type} (xs : List α) (k : Nat) : (List.replicate k xs).flatten.length = k * xs.length := by
 induction k with
 | zero => simp
 | succ k ih => rw [agl, agG, afK, ih, Nat.succ_mul, Nat.add_comm]
end
section
variable {prog : Program} {w : World} {A : Around} {E : Value -> Shared -> Prop} {s : Shared}
set_option maxRecDepth 100000 in
end
section
variable {X : Cx}
end
end L2
namespace Att
open PySem PySem.W PySem.Calls PyProof.Rows
theorem sH {P : Params} {h : Heap} : ∀ (ns : List Int) (vs : List Value), WellAll P h vs (ns.map WData.int) -> IntsAre vs ns := by
 intro ns
 induction ns with
 | nil =>
   intro vs w
   rw [List.map_nil] at w
   cases w
   exact .nil
 | cons n ns ih =>
   intro vs w
   rw [List.map_cons] at w
   cases w with
   | cons a b =>
     cases a
     exact .cons _ _ (ih _ b)
theorem Gn {l : OpenLaw} {n : Nat} (hn : l.most = some n) {P : Params} {h : Heap} {args : List WData} {vals : List Value}
   (sJ : l.row.toRowW.claim.pre args = true) (Tt : WellAll P h vals args) :
   ∃ a vs ns, vals = [Value.ref a] /\ args = [WData.list (ns.map WData.int)] /\ h.get? a = some { cls := .type "list", data := .seq vs.toArray } /\ IntsAre vs ns /\ ns.length <= n := by
 have hsh : WShape.hasAll [] args [.list .int] = true := (pre_splitW sJ).1
 have hc : l.pre.holds [] { args := args } = true := (pre_splitW sJ).2
 obtain ⟨d, r, rfl, h1, h2⟩ := hasAllW_cons hsh
 obtain rfl := hasAllW_nil h2
 obtain ⟨xs, rfl, h3⟩ := hasW_list h1
 obtain ⟨ns, rfl⟩ := items_int h3
 have hlen : ns.length <= n := by
   unfold OpenLaw.pre at hc
   have h4 : (WTm.not (.lt (.lit (.int (n : Int))) (.len (.arg 0)))).holds [] { args := [.list (ns.map .int)] } = true := by
     have h4 := (holds_andW hc).1
     rw [hn] at h4
     exact h4
   have h5 := condW_of h4 (w_not (w_lt w_lit (w_len_list (w_arg rfl))))
   rw [List.length_map] at h5
   refine Nat.le_of_not_lt fun q => ?_
   have q' : (n : Int) < ((ns.length : Nat) : Int) := by omega
   first
     | (rw [decide_eq_true q'] at h5; exact absurd h5 (by decide))
     | (simp at h5; omega)
 cases Tt with
 | cons w1 w2 =>
   cases w2
   cases w1 with
   | list ho MQ => exact ⟨_, _, ns, rfl, rfl, ho, sH ns _ MQ, hlen⟩
theorem Gp (l : OpenLaw) (args : List WData) : l.row.toRowW.claim.post args (.bool true) args = true :=
 postW_of (r := l.row.toRowW) (X := (true == true))
   (show WShape.has [] (.bool true) .bool = true by first | rfl | decide | simp [WShape.has, WShape.arms, WShape.armsAll])
   (show (WTm.eq .res (.lit (.bool true))).value [] { args := args, res := some (.bool true), after := args } = some (.bool (true == true)) from w_eq_bool (w_res rfl) w_lit) rfl
theorem Bh {l : OpenLaw} {n : Nat} {q : Program} {loose : List Str} {XP : (Str -> Option Value) -> Heap -> Prop} {YP : World -> Heap -> Prop} {d : DefRec}
   (hn : l.most = some n) (Xd : d.params.defaults = [])
   (call : ∀ (w : World) (s₀ s₁ : Shared) (mg mb : Str -> Option Value) (fa : Addr) (o : Obj) (pm cd doc : Value) (a : Addr) (vs : List Value) (ns : List Int),
     Ground q loose [] XP w s₀ mg mb s₁.heap -> YP w s₁.heap →
     s₁.heap.get? fa = some o -> o.data = .func (docDef d.name d.params d.body d.scope pm cd doc) -> s₁.heap.CodeRec cd d.name -> mg d.name = some (.ref fa) →
     s₁.heap.get? a = some { cls := .type "list", data := .seq vs.toArray } -> IntsAre vs ns -> ns.length <= n -> s₁.gens = #[] →
     codeAny (model l.prog w) callerA (.call (.ref fa) ⟨[.ref a], []⟩) (fun r s' => r = .ok (.ret (.bool true)) /\ OldK s₁.heap s'.heap /\ s'.os = s₁.os /\ AllBare s'.gens) s₁) :
   WalkO q loose XP YP l.row.toRowW d [] (fun f vs => PySem.call f vs) := by
 intro w s₀ s₁ mg mb G Y fa o pm cd doc dV kV ho hd gW hD Xe hg args vals as sJ hlay hrd Tt hlo
 obtain rfl : dV = .none := Dflts.none hD Xd
 obtain rfl : kV = .none := Dflts.noKw hD
 obtain ⟨a, vs, ns, rfl, rfl, Tv, hints, hlen⟩ := Gn hn sJ Tt
 refine enter_call (codeAny_mono (call w s₀ s₁ mg mb fa o pm cd doc a vs ns G Y ho (fd_plain hd) gW Xe Tv hints hlen hg) fun r s' hq => ?_)
 obtain ⟨rfl, h2, h3, h4⟩ := hq
 exact ⟨.inl ⟨.bool true, .bool true, [], rfl, fun _ => rfl, .bool true, Gp l _, fun _ => ⟨List.Pairwise.nil, fun _ hm => (nomatch hm)⟩⟩, h2, h3, h4⟩
section
variable {prog : Program} {w : World} {A : Around} {E : Value -> Shared -> Prop} {s : Shared} {K : Frag}
noncomputable def ledger (h : Heap) (L d : Addr) : List (Addr × Obj) := (List.range h.objs.size).filterMap fun a => if a = L \/ a = d then none else (h.get? a).map fun o => (a, o)
end
end Att
namespace L2
open PySem PySem.Spec PyProof.Rows
theorem wV : ∀ {vs : List Value} {ns : List Int}, IntsAre vs ns -> Vals (ns.map V.int) vs
 | _, _, .nil => .nil
 | _, _, .cons n t h => .cons ⟨t, rfl⟩ (wV h)
noncomputable def inClass (s : Stmt) (j : Nat) : Stmt := match s with
 | .ClassDef _ _ _ body _ _ _ _ _ _ _ => body.getD j (.Pass ⟨0, 0, 0, 0⟩)
 | _ => .Pass ⟨0, 0, 0, 0⟩
noncomputable def sR (s : Stmt) : Arguments := match s with
 | .FunctionDef _ a _ _ _ _ _ _ _ _ => a
 | _ => { posonlyargs := [], args := [], vararg := none, kwonlyargs := [], kw_defaults := [], kwarg := none, defaults := [] }
noncomputable def fE (s : Stmt) : List Stmt := match s with
 | .FunctionDef _ _ b _ _ _ _ _ _ _ => b
 | _ => []
noncomputable def ao (s : Stmt) : Scope := match s with
 | .FunctionDef _ _ _ _ _ _ sc _ _ _ => sc
 | _ => { kind := .function, names := [], isGenerator := false, isCoroutine := false }
noncomputable abbrev fP : IE := fun _ _ _ _ _ _ => False
noncomputable abbrev E0 : XK := fun _ _ _ => False
theorem E4 {X : Cx} : Passes fP X E0 := fun _ _ _ _ _ _ _ h => h.elim
structure iT (K : PySem.W.Frag) (x qual : Str) (st : Stmt) (f : Addr) (fd : FuncData) : Prop where
 ex : ∃ (oc : Value) (od : Option Addr) (kV doc pm : Value) (an : Option Addr) (c9 ct : Value) (HY : Array (Option Value)),
   fd = PySem.W.fnOf x qual (sR st) (fE st) (ao st) .none kV doc pm an c9 ct /\ K.lookup f = some ⟨oc, od, .func fd, HY⟩ /\ PySem.W.codeIn K c9 qual = true
 kp : PySem.W.keepIn K (.ref f) = true
section
variable {P : Program} {w : World} {K : PySem.W.Frag} {mg : Str -> Option Value} {base : Heap}
theorem iT.ok {x qual : Str} {st : Stmt} {f : Addr} {fd : FuncData} {N ps : List Str} {k : Nat} {sp : Sp} (F : iT K x qual st f fd) (S : aL N ps (ao st)) (len : ∀ vs H Q E, sp vs H Q E -> vs.length = ps.length)
   (Bd : ∀ (c9 : Value) (A : Around) (outer : List Env) (s : Shared) (H : Hp) (vs : List V) (Q : VK) (E : XK), d8 k (A.deeper (envOfC qual (ao st) s.heap.objs.size f c9)) -> sp vs H Q E →
     ∃ t, Du (uq fP P w K mg base N qual (ao st) f c9 A outer s H E).Ml (fE st) t /\ t { nx := fun _ H' => Q .non H', rt := Q } (start N vs) H) : bP P w K mg base fP (k + 1) f fd ps sp := by
 obtain ⟨oc, od, kV, doc, pm, an, c9, ct, HY, rfl, lk, gW⟩ := F.ex
 refine Ru lk gW S len fun A outer s H vs Q E hr DG => ?_
 obtain ⟨t, h, q⟩ := Bd c9 A outer s H vs Q E hr DG
 exact ⟨t, h.Ml, q⟩
theorem iT.binds {x qual : Str} {st : Stmt} {f : Addr} {fd : FuncData} {ps : List Str} (F : iT K x qual st f fd)
   (h : ∀ (kV doc pm : Value) (an : Option Addr) (c9 ct : Value) (us : List Value), us.length = ps.length -> bindArgs (PySem.W.fnOf x qual (sR st) (fE st) (ao st) .none kV doc pm an c9 ct) ⟨us, []⟩ = pure (ps.zip us)) : Binds K fd ps [] := by
 obtain ⟨oc, od, kV, doc, pm, an, c9, ct, HY, rfl, lk, gW⟩ := F.ex
 exact .all (h kV doc pm an c9 ct)
theorem bC {x qual : Str} {st : Stmt} {f : Addr} {oc : Value} {od an : Option Addr} {HY : Array (Option Value)} {kV doc pm c9 ct : Value} (l : K.lookup f = some ⟨oc, od, .func (PySem.W.fnOf x qual (sR st) (fE st) (ao st) .none kV doc pm an c9 ct), HY⟩)
   (c : PySem.W.codeIn K c9 qual = true) (k : PySem.W.keepIn K (.ref f) = true) : iT K x qual st f (PySem.W.fnOf x qual (sR st) (fE st) (ao st) .none kV doc pm an c9 ct) := ⟨⟨oc, od, kV, doc, pm, an, c9, ct, HY, rfl, l, c⟩, k⟩
end
theorem dw {n : Nat} (h : n <= 1000) : n < sizeLine := Nat.lt_of_le_of_lt h (by decide)
section
variable {X : Cx}
end
theorem Gq {A B : Prop} (h : B) : if false = true then A else B := by
 rw [afi afx]
 exact h
theorem Gr {A B : Prop} (h : A) : if true = true then A else B := by
 rw [afk rfl]
 exact h
noncomputable def aC (H H' : Hp) : Prop := ∀ b o, H b = some o -> H' b = some o
theorem aC.refl (H : Hp) : aC H H := fun _ _ h => h
theorem aC.trans {H H1 H2 : Hp} (a : aC H H1) (b : aC H1 H2) : aC H H2 := fun c o h => b c o (a c o h)
theorem aC.free {H H' : Hp} (e : aC H H') {l : Addr} (h : H' l = Option.none) : H l = Option.none := by
 cases q : H l with
 | none => rfl
 | some o =>
   rw [e l o q] at h
   cases h
theorem aC.seq {K : PySem.W.Frag} {H H' : Hp} {a : Addr} {xs : List V} (e : aC H H') (h : nX K H a xs) : nX K H' a xs := by
 rcases h with (h | ⟨o, h⟩) | h
 . exact .inl (.inl (e _ _ h))
 . exact .inl (.inr ⟨o, e _ _ h⟩)
 . exact .inr h
section
variable {κ : Type} [DecidableEq κ]
end
section
variable {P : Program} {w : World} {H : Hp} {h : Heap} {a : Addr}
end
section
variable {X : Cx} {pins : List (Addr × Obj)} {σ : St} {H : Hp} {s : Shared} {a : Addr} {y v : V} {u r : Value} {o : Option V} {A : Around} {E : Value -> Shared -> Prop}
end
section
variable {X : Cx} {pins : List (Addr × Obj)} {σ : St} {H : Hp} {s : Shared} {a : Addr} {k6 : List (Key × V)} {k : Key} {u : Value} {A : Around} {E : Value -> Shared -> Prop}
end
section
variable {X : Cx} {o i e value : Expr} {pos pos' aaz : Pos} {td ty tv : TE}
end
section
variable {X : Cx} {pos : Pos}
end
section
variable {X : Cx} {pins : List (Addr × Obj)} {σ : St} {H : Hp} {s : Shared} {a : Addr} {y d : V} {u r : Value} {o : Option V} {A : Around} {E : Value -> Shared -> Prop}
end
section
variable {X : Cx} {o e f : Expr} {apos Bg : Pos} {td ty tx : TE}
end
section
variable {X : Cx} {pins : List (Addr × Obj)} {σ : St} {H : Hp} {s : Shared} {a : Addr} {k6 : List (Key × V)} {A : Around} {E : Value -> Shared -> Prop}
end
section
variable {X : Cx} {pins : List (Addr × Obj)} {σ : St} {H : Hp} {s : Shared} {a : Addr} {y : V} {u : Value} {A : Around} {E : Value -> Shared -> Prop}
end
end L2
namespace L3
open PySem PySem.Spec PyProof.Rows L2
inductive D where
 | non | bl (b : Bool) | int (i : Int) | str (x : Str)
 | tup (ds : List D) | lst (ds : List D) | ins (c : Str) (fs : List (Str × D)) | wA (k6 : List (Key × D))
 | any
 | val (v : V)
inductive T where
 | sh (d : D) | tup (ts : List T) | lst (ts : List T) | ins (c : Str) (fs : List (Str × T)) | wA (k6 : List (Key × D))
 | pin (x : Addr) (t : T)
mutual
noncomputable def T.dY : T -> D
 | .sh d => d
 | .tup ts => .tup (gQ ts)
 | .lst ts => .lst (gQ ts)
 | .ins c fs => .ins c (nT fs)
 | .wA k6 => .wA k6
 | .pin _ t => t.dY
noncomputable def T.gQ : List T -> List D
 | [] => []
 | t :: ts => t.dY :: T.gQ ts
noncomputable def T.nT : List (Str × T) -> List (Str × D)
 | [] => []
 | (x, t) :: fs => (x, t.dY) :: T.nT fs
end
variable (K : PySem.W.Frag) (CL : Str -> Addr)
mutual
inductive bH (Z : Hp) : D -> V -> Prop where
 | non : bH Z .non .non
 | bl (b : Bool) : bH Z (.bl b) (.bl b)
 | int (i : Int) : bH Z (.int i) (.int i)
 | str (x : Str) : bH Z (.str x) (.str x)
 | any (v : V) : bH Z .any v
 | val (v : V) : bH Z (.val v) v
 | tup {a : Addr} {vs : List V} {ds : List D} : Dv K Z a vs -> aB Z ds vs -> bH Z (.tup ds) (.ref a)
 | lst {a : Addr} {vs : List V} {ds : List D} : nX K Z a vs -> aB Z ds vs -> bH Z (.lst ds) (.ref a)
 | ins {a dx : Addr} {c : Str} {gs : List (Str × V)} {fs : List (Str × D)} : Z a = some (.ins (CL c) dx gs) -> lu Z fs gs -> bH Z (.ins c fs) (.ref a)
 | wA {a : Addr} {gs : List (Key × V)} {fs : List (Key × D)} : Z a = some (.dK gs) -> dQ Z fs gs -> bH Z (.wA fs) (.ref a)
inductive aB (Z : Hp) : List D -> List V -> Prop where
 | nil : aB Z [] []
 | cons {d : D} {v : V} {ds : List D} {vs : List V} : bH Z d v -> aB Z ds vs -> aB Z (d :: ds) (v :: vs)
inductive lu (Z : Hp) : List (Str × D) -> List (Str × V) -> Prop where
 | nil : lu Z [] []
 | cons {x : Str} {d : D} {v : V} {ds : List (Str × D)} {vs : List (Str × V)} : bH Z d v -> lu Z ds vs -> lu Z ((x, d) :: ds) ((x, v) :: vs)
inductive dQ (Z : Hp) : List (Key × D) -> List (Key × V) -> Prop where
 | nil : dQ Z [] []
 | cons {x : Key} {d : D} {v : V} {ds : List (Key × D)} {vs : List (Key × V)} : bH Z d v -> dQ Z ds vs -> dQ Z ((x, d) :: ds) ((x, v) :: vs)
end
mutual
inductive cR (H Z : Hp) : T -> V -> List Addr -> Prop where
 | sh {d : D} {v : V} : bH K CL Z d v -> cR H Z (.sh d) v []
 | tup {a : Addr} {vs : List V} {ts : List T} {fp : List Addr} : Z a = some (.tup vs) -> aX H Z ts vs fp -> cR H Z (.tup ts) (.ref a) fp
 | lst {a : Addr} {vs : List V} {ts : List T} {fp : List Addr} : H a = some (.lst vs) -> aX H Z ts vs fp -> cR H Z (.lst ts) (.ref a) (a :: fp)
 | ins {a dx : Addr} {c : Str} {gs : List (Str × V)} {fs : List (Str × T)} {fp : List Addr} : H a = some (.ins (CL c) dx gs) -> cW H Z fs gs fp -> cR H Z (.ins c fs) (.ref a) (a :: fp)
 | wA {a : Addr} {gs : List (Key × V)} {k6 : List (Key × D)} : H a = some (.dK gs) -> dQ K CL Z k6 gs -> cR H Z (.wA k6) (.ref a) [a]
 | pin {x : Addr} {t : T} {fp : List Addr} : cR H Z t (.ref x) fp -> cR H Z (.pin x t) (.ref x) fp
inductive aX (H Z : Hp) : List T -> List V -> List Addr -> Prop where
 | nil : aX H Z [] [] []
 | cons {t : T} {v : V} {ts : List T} {vs : List V} {fp gp : List Addr} : cR H Z t v fp -> aX H Z ts vs gp -> aX H Z (t :: ts) (v :: vs) (fp ++ gp)
inductive cW (H Z : Hp) : List (Str × T) -> List (Str × V) -> List Addr -> Prop where
 | nil : cW H Z [] [] []
 | cons {x : Str} {t : T} {v : V} {ts : List (Str × T)} {vs : List (Str × V)} {fp gp : List Addr} : cR H Z t v fp -> cW H Z ts vs gp -> cW H Z ((x, t) :: ts) ((x, v) :: vs) (fp ++ gp)
end
inductive fq (H Z : Hp) : List (Option T) -> L2.St -> List Addr -> Prop where
 | nil : fq H Z [] [] []
 | skip {o : Option V} {δ : List (Option T)} {σ : L2.St} {fp : List Addr} : fq H Z δ σ fp -> fq H Z (none :: δ) (o :: σ) fp
 | cons {t : T} {v : V} {δ : List (Option T)} {σ : L2.St} {fp gp : List Addr} : cR K CL H Z t v fp -> fq H Z δ σ gp -> fq H Z (some t :: δ) (some v :: σ) (fp ++ gp)
section
variable {K : PySem.W.Frag} {CL : Str -> Addr}
theorem aC.sqT {H H' : Hp} {a : Addr} {xs : List V} (e : aC H H') (h : Dv K H a xs) : Dv K H' a xs := by
 rcases h with (h | ⟨o, h⟩) | h
 . exact .inl (.inl (e _ _ h))
 . exact .inl (.inr ⟨o, e _ _ h⟩)
 . exact .inr h
theorem bH.mono {Z Z' : Hp} (e : aC Z Z') {d : D} {v : V} (h : bH K CL Z d v) : bH K CL Z' d v :=
 bH.rec (motive_1 := fun d v _ => bH K CL Z' d v) (motive_2 := fun d v _ => aB K CL Z' d v) (motive_3 := fun d v _ => lu K CL Z' d v) (motive_4 := fun d v _ => dQ K CL Z' d v)
   .non .bl .int .str .any .val (fun h _ r => .tup (aC.sqT e h) r) (fun h _ r => .lst (e.seq h) r) (fun h _ r => .ins (e _ _ h) r) (fun h _ r => .wA (e _ _ h) r) .nil (fun _ _ h r => .cons h r) .nil (fun _ _ h r => .cons h r) .nil (fun _ _ h r => .cons h r) h
theorem aB.mono {Z Z' : Hp} (e : aC Z Z') {d : List D} {v : List V} (h : aB K CL Z d v) : aB K CL Z' d v :=
 aB.rec (motive_1 := fun d v _ => bH K CL Z' d v) (motive_2 := fun d v _ => aB K CL Z' d v) (motive_3 := fun d v _ => lu K CL Z' d v) (motive_4 := fun d v _ => dQ K CL Z' d v)
   .non .bl .int .str .any .val (fun h _ r => .tup (aC.sqT e h) r) (fun h _ r => .lst (e.seq h) r) (fun h _ r => .ins (e _ _ h) r) (fun h _ r => .wA (e _ _ h) r) .nil (fun _ _ h r => .cons h r) .nil (fun _ _ h r => .cons h r) .nil (fun _ _ h r => .cons h r) h
theorem dQ.mono {Z Z' : Hp} (e : aC Z Z') {d : List (Key × D)} {v : List (Key × V)} (h : dQ K CL Z d v) : dQ K CL Z' d v :=
 dQ.rec (motive_1 := fun d v _ => bH K CL Z' d v) (motive_2 := fun d v _ => aB K CL Z' d v) (motive_3 := fun d v _ => lu K CL Z' d v) (motive_4 := fun d v _ => dQ K CL Z' d v)
   .non .bl .int .str .any .val (fun h _ r => .tup (aC.sqT e h) r) (fun h _ r => .lst (e.seq h) r) (fun h _ r => .ins (e _ _ h) r) (fun h _ r => .wA (e _ _ h) r) .nil (fun _ _ h r => .cons h r) .nil (fun _ _ h r => .cons h r) .nil (fun _ _ h r => .cons h r) h
theorem cR.mono {H H' Z Z' : Hp} (e : aC Z Z') {t : T} {v : V} {fp : List Addr} (k : ∀ a ∈ fp, H' a = H a) (h : cR K CL H Z t v fp) : cR K CL H' Z' t v fp :=
 cR.rec (motive_1 := fun t v fp _ => (∀ a ∈ fp, H' a = H a) -> cR K CL H' Z' t v fp) (motive_2 := fun t v fp _ => (∀ a ∈ fp, H' a = H a) -> aX K CL H' Z' t v fp) (motive_3 := fun t v fp _ => (∀ a ∈ fp, H' a = H a) -> cW K CL H' Z' t v fp)
   (fun h _ => .sh (h.mono e)) (fun h _ r k => .tup (e _ _ h) (r k)) (fun h _ r k => .lst ((k _ afo).trans h) (r fun a ha => k a (afq _ ha))) (fun h _ r k => .ins ((k _ afo).trans h) (r fun a ha => k a (afq _ ha))) (fun h f k => .wA ((k _ afo).trans h) (dQ.mono e f)) (fun _ r k => .pin (r k)) (fun _ => .nil) (fun _ _ h r k => .cons (h fun a ha => k a (afy _ ha)) (r fun a ha => k a (afh _ ha))) (fun _ => .nil) (fun _ _ h r k => .cons (h fun a ha => k a (afy _ ha)) (r fun a ha => k a (afh _ ha))) h k
theorem aX.mono {H H' Z Z' : Hp} (e : aC Z Z') {t : List T} {v : List V} {fp : List Addr} (k : ∀ a ∈ fp, H' a = H a) (h : aX K CL H Z t v fp) : aX K CL H' Z' t v fp :=
 aX.rec (motive_1 := fun t v fp _ => (∀ a ∈ fp, H' a = H a) -> cR K CL H' Z' t v fp) (motive_2 := fun t v fp _ => (∀ a ∈ fp, H' a = H a) -> aX K CL H' Z' t v fp) (motive_3 := fun t v fp _ => (∀ a ∈ fp, H' a = H a) -> cW K CL H' Z' t v fp)
   (fun h _ => .sh (h.mono e)) (fun h _ r k => .tup (e _ _ h) (r k)) (fun h _ r k => .lst ((k _ afo).trans h) (r fun a ha => k a (afq _ ha))) (fun h _ r k => .ins ((k _ afo).trans h) (r fun a ha => k a (afq _ ha))) (fun h f k => .wA ((k _ afo).trans h) (dQ.mono e f)) (fun _ r k => .pin (r k)) (fun _ => .nil) (fun _ _ h r k => .cons (h fun a ha => k a (afy _ ha)) (r fun a ha => k a (afh _ ha))) (fun _ => .nil) (fun _ _ h r k => .cons (h fun a ha => k a (afy _ ha)) (r fun a ha => k a (afh _ ha))) h k
theorem cW.mono {H H' Z Z' : Hp} (e : aC Z Z') {t : List (Str × T)} {v : List (Str × V)} {fp : List Addr} (k : ∀ a ∈ fp, H' a = H a) (h : cW K CL H Z t v fp) : cW K CL H' Z' t v fp :=
 cW.rec (motive_1 := fun t v fp _ => (∀ a ∈ fp, H' a = H a) -> cR K CL H' Z' t v fp) (motive_2 := fun t v fp _ => (∀ a ∈ fp, H' a = H a) -> aX K CL H' Z' t v fp) (motive_3 := fun t v fp _ => (∀ a ∈ fp, H' a = H a) -> cW K CL H' Z' t v fp)
   (fun h _ => .sh (h.mono e)) (fun h _ r k => .tup (e _ _ h) (r k)) (fun h _ r k => .lst ((k _ afo).trans h) (r fun a ha => k a (afq _ ha))) (fun h _ r k => .ins ((k _ afo).trans h) (r fun a ha => k a (afq _ ha))) (fun h f k => .wA ((k _ afo).trans h) (dQ.mono e f)) (fun _ r k => .pin (r k)) (fun _ => .nil) (fun _ _ h r k => .cons (h fun a ha => k a (afy _ ha)) (r fun a ha => k a (afh _ ha))) (fun _ => .nil) (fun _ _ h r k => .cons (h fun a ha => k a (afy _ ha)) (r fun a ha => k a (afh _ ha))) h k
theorem cR.there {H Z : Hp} {t : T} {v : V} {fp : List Addr} (h : cR K CL H Z t v fp) : ∀ a ∈ fp, ∃ o, H a = some o :=
 cR.rec (motive_1 := fun t v fp _ => ∀ a ∈ fp, ∃ o, H a = some o) (motive_2 := fun t v fp _ => ∀ a ∈ fp, ∃ o, H a = some o) (motive_3 := fun t v fp _ => ∀ a ∈ fp, ∃ o, H a = some o)
   (fun _ a ha => absurd ha af5) (fun _ _ r => r) (fun h _ r a ha => (afm.mp ha).elim (fun q => ⟨_, q ▸ h⟩) (r a)) (fun h _ r a ha => (afm.mp ha).elim (fun q => ⟨_, q ▸ h⟩) (r a)) (fun h _ a ha => (afm.mp ha).elim (fun q => ⟨_, q ▸ h⟩) (fun q => absurd q af5)) (fun _ r => r) (fun a ha => absurd ha af5) (fun _ _ h r a ha => (afu.mp ha).elim (h a) (r a)) (fun a ha => absurd ha af5) (fun _ _ h r a ha => (afu.mp ha).elim (h a) (r a)) h
theorem aX.there {H Z : Hp} {t : List T} {v : List V} {fp : List Addr} (h : aX K CL H Z t v fp) : ∀ a ∈ fp, ∃ o, H a = some o :=
 aX.rec (motive_1 := fun t v fp _ => ∀ a ∈ fp, ∃ o, H a = some o) (motive_2 := fun t v fp _ => ∀ a ∈ fp, ∃ o, H a = some o) (motive_3 := fun t v fp _ => ∀ a ∈ fp, ∃ o, H a = some o)
   (fun _ a ha => absurd ha af5) (fun _ _ r => r) (fun h _ r a ha => (afm.mp ha).elim (fun q => ⟨_, q ▸ h⟩) (r a)) (fun h _ r a ha => (afm.mp ha).elim (fun q => ⟨_, q ▸ h⟩) (r a)) (fun h _ a ha => (afm.mp ha).elim (fun q => ⟨_, q ▸ h⟩) (fun q => absurd q af5)) (fun _ r => r) (fun a ha => absurd ha af5) (fun _ _ h r a ha => (afu.mp ha).elim (h a) (r a)) (fun a ha => absurd ha af5) (fun _ _ h r a ha => (afu.mp ha).elim (h a) (r a)) h
theorem cR.dY {H Z Z' : Hp} (e : aC Z Z') {t : T} {v : V} {fp : List Addr} (k : ∀ a ∈ fp, Z' a = H a) (h : cR K CL H Z t v fp) : bH K CL Z' t.dY v :=
 cR.rec (motive_1 := fun t v fp _ => (∀ a ∈ fp, Z' a = H a) -> bH K CL Z' t.dY v) (motive_2 := fun t v fp _ => (∀ a ∈ fp, Z' a = H a) -> aB K CL Z' (T.gQ t) v) (motive_3 := fun t v fp _ => (∀ a ∈ fp, Z' a = H a) -> lu K CL Z' (T.nT t) v)
   (fun h _ => by rw [T.dY]; exact h.mono e) (fun h _ r k => by rw [T.dY]; exact .tup (Dv.of (e _ _ h)) (r k)) (fun h _ r k => by rw [T.dY]; exact .lst (nX.of ((k _ afo).trans h)) (r fun a ha => k a (afq _ ha))) (fun h _ r k => by rw [T.dY]; exact .ins ((k _ afo).trans h) (r fun a ha => k a (afq _ ha))) (fun h f k => by rw [T.dY]; exact .wA ((k _ afo).trans h) (dQ.mono e f)) (fun _ r k => by rw [T.dY]; exact r k) (fun _ => by rw [T.gQ]; exact .nil) (fun _ _ h r k => by rw [T.gQ]; exact .cons (h fun a ha => k a (afy _ ha)) (r fun a ha => k a (afh _ ha))) (fun _ => by rw [T.nT]; exact .nil) (fun _ _ h r k => by rw [T.nT]; exact .cons (h fun a ha => k a (afy _ ha)) (r fun a ha => k a (afh _ ha))) h k
theorem aB.ind {Z : Hp} {P : List D -> List V -> Prop} (n : P [] []) (c : ∀ {d : D} {v : V} {ds : List D} {vs : List V}, bH K CL Z d v -> aB K CL Z ds vs -> P ds vs -> P (d :: ds) (v :: vs)) {ds : List D} {vs : List V} (h : aB K CL Z ds vs) : P ds vs :=
 aB.rec (motive_1 := fun _ _ _ => True) (motive_2 := fun d v _ => P d v) (motive_3 := fun _ _ _ => True) (motive_4 := fun _ _ _ => True)
   trivial (fun _ => trivial) (fun _ => trivial) (fun _ => trivial) (fun _ => trivial) (fun _ => trivial) (fun _ _ _ => trivial) (fun _ _ _ => trivial) (fun _ _ _ => trivial) (fun _ _ _ => trivial) n (fun a b _ i => c a b i) trivial (fun _ _ _ _ => trivial) trivial (fun _ _ _ _ => trivial) h
theorem dQ.ind {Z : Hp} {P : List (Key × D) -> List (Key × V) -> Prop} (n : P [] []) (c : ∀ {x : Key} {d : D} {v : V} {ds : List (Key × D)} {vs : List (Key × V)}, bH K CL Z d v -> dQ K CL Z ds vs -> P ds vs -> P ((x, d) :: ds) ((x, v) :: vs)) {ds : List (Key × D)} {vs : List (Key × V)} (h : dQ K CL Z ds vs) : P ds vs :=
 dQ.rec (motive_1 := fun _ _ _ => True) (motive_2 := fun _ _ _ => True) (motive_3 := fun _ _ _ => True) (motive_4 := fun d v _ => P d v)
   trivial (fun _ => trivial) (fun _ => trivial) (fun _ => trivial) (fun _ => trivial) (fun _ => trivial) (fun _ _ _ => trivial) (fun _ _ _ => trivial) (fun _ _ _ => trivial) (fun _ _ _ => trivial) trivial (fun _ _ _ _ => trivial) trivial (fun _ _ _ _ => trivial) n (fun a b _ i => c a b i) h
theorem aX.ind {H Z : Hp} {P : List T -> List V -> List Addr -> Prop} (n : P [] [] []) (c : ∀ {t : T} {v : V} {ts : List T} {vs : List V} {fp gp : List Addr}, cR K CL H Z t v fp -> aX K CL H Z ts vs gp -> P ts vs gp -> P (t :: ts) (v :: vs) (fp ++ gp)) {ts : List T} {vs : List V} {fp : List Addr} (h : aX K CL H Z ts vs fp) : P ts vs fp :=
 aX.rec (motive_1 := fun _ _ _ _ => True) (motive_2 := fun d v f _ => P d v f) (motive_3 := fun _ _ _ _ => True)
   (fun _ => trivial) (fun _ _ _ => trivial) (fun _ _ _ => trivial) (fun _ _ _ => trivial) (fun _ _ => trivial) (fun _ _ => trivial) n (fun a b _ i => c a b i) trivial (fun _ _ _ _ => trivial) h
theorem cW.ind {H Z : Hp} {P : List (Str × T) -> List (Str × V) -> List Addr -> Prop} (n : P [] [] []) (c : ∀ {x : Str} {t : T} {v : V} {ts : List (Str × T)} {vs : List (Str × V)} {fp gp : List Addr}, cR K CL H Z t v fp -> cW K CL H Z ts vs gp -> P ts vs gp -> P ((x, t) :: ts) ((x, v) :: vs) (fp ++ gp)) {ts : List (Str × T)} {vs : List (Str × V)} {fp : List Addr} (h : cW K CL H Z ts vs fp) : P ts vs fp :=
 cW.rec (motive_1 := fun _ _ _ _ => True) (motive_2 := fun _ _ _ _ => True) (motive_3 := fun d v f _ => P d v f)
   (fun _ => trivial) (fun _ _ _ => trivial) (fun _ _ _ => trivial) (fun _ _ _ => trivial) (fun _ _ => trivial) (fun _ _ => trivial) trivial (fun _ _ _ _ => trivial) n (fun a b _ i => c a b i) h
theorem aB.length {Z : Hp} {d : List D} {v : List V} (h : aB K CL Z d v) : d.length = v.length :=
 aB.ind (P := fun d v => d.length = v.length) rfl (fun _ _ i => congrArg (· + 1) i) h
theorem aX.length {H Z : Hp} {d : List T} {v : List V} {fp : List Addr} (h : aX K CL H Z d v fp) : d.length = v.length :=
 aX.ind (P := fun d v _ => d.length = v.length) rfl (fun _ _ i => congrArg (· + 1) i) h
theorem aB.get {Z : Hp} : ∀ {ds : List D} {vs : List V} {i : Nat} {d : D}, aB K CL Z ds vs -> ds[i]? = some d -> ∃ v, vs[i]? = some v /\ bH K CL Z d v
 | _, _, _, _, .nil, e => by simp at e
 | _, _, 0, _, .cons r _, e => by simp at e; subst e; exact ⟨_, rfl, r⟩
 | _, _, i + 1, d, .cons _ t, e => by
   obtain ⟨u, h1, h2⟩ := aB.get (i := i) (d := d) t (by simpa using e)
   exact ⟨u, by simpa using h1, h2⟩
theorem aB.Gs {Z : Hp} : ∀ {ds : List D} {vs : List V} {i : Nat} {v : V}, aB K CL Z ds vs -> vs[i]? = some v -> ∃ d, ds[i]? = some d /\ bH K CL Z d v
 | _, _, _, _, .nil, e => by simp at e
 | _, _, 0, _, .cons r _, e => by simp at e; subst e; exact ⟨_, rfl, r⟩
 | _, _, i + 1, d, .cons _ t, e => by
   obtain ⟨u, h1, h2⟩ := aB.Gs (i := i) (v := d) t (by simpa using e)
   exact ⟨u, by simpa using h1, h2⟩
theorem fq.get {H Z : Hp} : ∀ {δ : List (Option T)} {σ : L2.St} {fp : List Addr} {i : Nat} {t : T}, fq K CL H Z δ σ fp -> δ[i]? = some (some t) →
   ∃ v f1 f2 f3, σ[i]? = some (some v) /\ fp = f1 ++ (f2 ++ f3) /\ cR K CL H Z t v f2 ∧
     (∀ {H' Z' : Hp} {t' : T} {v' : V} {g : List Addr}, aC Z Z' -> (∀ a ∈ f1 ++ f3, H' a = H a) -> cR K CL H' Z' t' v' g -> fq K CL H' Z' (δ.set i (some t')) (σ.set i (some v')) (f1 ++ (g ++ f3))) ∧
     (∀ {o : Option V}, fq K CL H Z (δ.set i none) (σ.set i o) (f1 ++ f3)) := by
 intro δ σ fp i t h
 have mono : ∀ {H H' Z Z' : Hp} {δ : List (Option T)} {σ : L2.St} {fp : List Addr}, aC Z Z' -> (∀ a ∈ fp, H' a = H a) -> fq K CL H Z δ σ fp -> fq K CL H' Z' δ σ fp := by
   intro H H' Z Z' δ σ fp e k r
   induction r with
   | nil => exact .nil
   | skip _ ih => exact .skip (ih k)
   | cons r _ ih => exact .cons (r.mono e fun a ha => k a (afy _ ha)) (ih fun a ha => k a (afh _ ha))
 induction h generalizing i with
 | nil => intro e; simp at e
 | @skip o δ σ fp r ih =>
   cases i with
   | zero => intro e; simp at e
   | succ i =>
     intro e
     obtain ⟨v, f1, f2, f3, h1, h2, h3, h4, h5⟩ := ih (i := i) (by simpa using e)
     exact ⟨v, f1, f2, f3, by simpa using h1, h2, h3, fun e k q => .skip (h4 e k q), .skip h5⟩
 | @cons t0 v0 δ σ fp gp r0 r ih =>
   cases i with
   | zero =>
     intro e
     simp at e
     subst e
     refine ⟨v0, [], fp, gp, rfl, rfl, r0, fun {H' Z' t' v' g} e k q => fq.cons (fp := g) (gp := gp) q (mono (fp := gp) e (fun a ha => k a (by simpa using ha)) r), .skip (by simpa using r)⟩
   | succ i =>
     intro e
     obtain ⟨v, f1, f2, f3, h1, h2, h3, h4, h5⟩ := ih (i := i) (by simpa using e)
     refine ⟨v, fp ++ f1, f2, f3, by simpa using h1, by rw [h2, List.append_assoc], h3, fun {H' Z' t' v' g} e k q => ?_, fun {o} => ?_⟩
     . rw [afr]
       exact .cons (r0.mono e fun a ha => k a (by simp [ha])) (h4 e (fun a ha => k a (by rw [afr]; exact afh _ ha)) q)
     . rw [afr]
       exact .cons r0 h5
theorem fq.mono {H H' Z Z' : Hp} {δ : List (Option T)} {σ : L2.St} {fp : List Addr} (e : aC Z Z') (k : ∀ a ∈ fp, H' a = H a) (r : fq K CL H Z δ σ fp) : fq K CL H' Z' δ σ fp := by
 induction r with
 | nil => exact .nil
 | skip _ ih => exact .skip (ih k)
 | cons r _ ih => exact .cons (r.mono e fun a ha => k a (afy _ ha)) (ih fun a ha => k a (afh _ ha))
theorem fq.there {H Z : Hp} {δ : List (Option T)} {σ : L2.St} {fp : List Addr} (r : fq K CL H Z δ σ fp) : ∀ a ∈ fp, ∃ o, H a = some o := by
 induction r with
 | nil => intro a ha; cases ha
 | skip _ ih => exact ih
 | cons r _ ih => exact fun a ha => (afu.mp ha).elim (r.there a) (ih a)
theorem fq.put {H Z : Hp} {δ : List (Option T)} {σ : L2.St} {fp : List Addr} (r : fq K CL H Z δ σ fp) {t : T} {v : V} {g : List Addr} (q : cR K CL H Z t v g) :
   ∀ {i : Nat}, i < δ.length -> ∃ f, fq K CL H Z (δ.set i (some t)) (σ.set i (some v)) f /\ ∃ f', f'.Sublist fp /\ f.Perm (g ++ f') := by
 induction r with
 | nil => intro i hi; simp at hi
 | @skip o δ σ fp r ih =>
   intro i hi
   cases i with
   | zero => exact ⟨g ++ fp, .cons q r, fp, afQ _, ag5 _⟩
   | succ i =>
     obtain ⟨f, h1, f', h2, h3⟩ := ih (i := i) (by simpa using hi)
     exact ⟨f, .skip h1, f', h2, h3⟩
 | @cons t0 v0 δ σ fp gp r0 r ih =>
   intro i hi
   cases i with
   | zero => exact ⟨g ++ gp, .cons q r, gp, agj _ _, ag5 _⟩
   | succ i =>
     obtain ⟨f, h1, f', h2, h3⟩ := ih (i := i) (by simpa using hi)
     refine ⟨fp ++ f, .cons r0 h1, fp ++ f', afW (afQ _) h2, ?_⟩
     refine (af9 fp h3).trans ?_
     rw [← afr, ← afr]
     exact List.Perm.append_right f' af3
end
noncomputable def Bj (X : Cx) (e : Expr) : TE := fun σ H Q => ∀ (pins : List (Addr × Obj)) (s : Shared), Inv X pins σ H s -> wpAny (model X.prog X.w) X.A (eval e X.env) (EP X pins σ Q) X.xe s
noncomputable def MR (X : Cx) (e : Expr) : TT := fun σ H Q => ∀ (pins : List (Addr × Obj)) (s : Shared), Inv X pins σ H s -> wpAny (model X.prog X.w) X.A (isTrue e X.env (eval e X.env)) (TP X pins σ Q) X.xe s
noncomputable def IU (X : Cx) (es : List Expr) : TA := fun σ H Q => ∀ (pos : Pos) (pins : List (Addr × Obj)) (s : Shared), Inv X pins σ H s -> wpAny (model X.prog X.w) X.A (spliced (backTo pos (starEach es X.env))) (AP X pins σ Q) X.xe s
noncomputable def Tw (X : Cx) (st : Stmt) : TS := fun D σ H => ∀ (pins : List (Addr × Obj)) (s : Shared), Inv X pins σ H s -> wpAny (model X.prog X.w) X.A (exec st X.env) (SP X pins D) X.xe s
noncomputable def Tz (X : Cx) (st : List Stmt) : TS := fun D σ H => ∀ (pins : List (Addr × Obj)) (s : Shared), Inv X pins σ H s -> wpAny (model X.prog X.w) X.A (execs st X.env) (SP X pins D) X.xe s
section
variable {X : Cx}
theorem d9 {e : Expr} : PE X e (Bj X e) := fun pins s _ _ _ I h => h pins s I
theorem TF {e : Expr} : PT X e (MR X e) := fun pins s _ _ _ I h => h pins s I
theorem MS {e : List Expr} : PA X e (IU X e) := fun pos pins s _ _ _ I h => h pos pins s I
theorem psS {e : Stmt} : PS X e (Tw X e) := fun pins s _ _ _ I h => h pins s I
theorem MT {e : List Stmt} : Du X e (Tz X e) := fun pins s _ _ _ I h => h pins s I
theorem cS {e : Expr} {t : TE} (h : PE X e t) {σ : L2.St} {H : Hp} {Q : VK} (q : t σ H Q) : Bj X e σ H Q := fun pins s I => h pins s σ H Q I q
theorem DL {e : Expr} {t : TT} (h : PT X e t) {σ : L2.St} {H : Hp} {Q : Bool -> Hp -> Prop} (q : t σ H Q) : MR X e σ H Q := fun pins s I => h pins s σ H Q I q
theorem Gu {e : List Expr} {t : TA} (h : PA X e t) {σ : L2.St} {H : Hp} {Q : List V -> Hp -> Prop} (q : t σ H Q) : IU X e σ H Q := fun pos pins s I => h pos pins s σ H Q I q
theorem wB {e : Stmt} {t : TS} (h : PS X e t) {σ : L2.St} {H : Hp} {D : Ends} (q : t D σ H) : Tw X e D σ H := fun pins s I => h pins s σ H D I q
theorem Xf {e : List Stmt} {t : TS} (h : Du X e t) {σ : L2.St} {H : Hp} {D : Ends} (q : t D σ H) : Tz X e D σ H := fun pins s I => h pins s σ H D I q
end
noncomputable def notStar : Expr -> Bool
 | .Starred _ _ => false
 | _ => true
theorem bM {e : Expr} {es : List Expr} {env : Env} (h : notStar e = true) : starEach (e :: es) env = (false, eval e env) :: starEach es env := by
 cases e <;> first | rfl | (cases h)
structure Bx where
 B : Hp
 Z : Hp
noncomputable def gR : HO -> Bool
 | .tup _ => true
 | .dY _ _ => true
 | _ => false
noncomputable def Bk (x : Str) : Bool := x.cps[0]? == some 35
noncomputable def Bl (x : Str) : Str := ⟨x.cps.extract 1 x.cps.size⟩
noncomputable def jW (CL : Str -> Addr) (Z : Hp) : Prop := ∀ x, Bk x = true -> CL x ≠ 0 -> Z (CL x) = some (.tabs (Bl x))
structure bW (K : PySem.W.Frag) (CL : Str -> Addr) (b : Bx) (H Z : Hp) (δ : List (Option T)) (σ : L2.St) (ts : List T) (vs : List V) : Prop where
 rep : ∃ fp gp, fq K CL H Z δ σ fp /\ aX K CL H Z ts vs gp /\ (fp ++ gp).Nodup /\ ∀ a ∈ fp ++ gp, Z a = none /\ b.B a = none
 bh : aC b.B H
 zz : aC b.Z Z
 zh : aC Z H
 new : ∀ a o, Z a = some o -> b.Z a = none -> b.B a = none
 tp : ∀ a o, H a = some o -> gR o = true -> Z a = some o
 tab : jW CL b.Z
section
variable {K : PySem.W.Frag} {CL : Str -> Addr} {b : Bx} {H H' Z Z' : Hp} {δ δ' : List (Option T)} {σ σ' : L2.St} {ts ts' : List T} {vs vs' : List V} {t : T} {v : V}
theorem jW.mono {A B : Hp} (h : jW CL A) (e : aC A B) : jW CL B := fun x hx h0 => e _ _ (h x hx h0)
theorem bW.Xg (S : bW K CL b H Z δ σ ts vs) : jW CL Z := S.tab.mono S.zz
theorem bW.Gv (S : bW K CL b H Z δ σ ts vs) : jW CL H := S.Xg.mono S.zh
theorem TH {A B : Hp} (e : aC A B) {a : Addr} (h : B a = none) : A a = none := e.free h
theorem aC.upd {H : Hp} {p : Addr} {o : HO} (h : H p = none) : aC H (upd H p o) := fun b u e => by rw [az (aG e h)]; exact e
theorem bW.view (S : bW K CL b H Z δ σ (t :: ts) (v :: vs)) : bH K CL H t.dY v := by
 obtain ⟨fp, gp, _, r, _, _⟩ := S.rep
 cases r with
 | cons r _ => exact r.dY S.zh fun _ _ => rfl
theorem bW.pop (S : bW K CL b H Z δ σ (t :: ts) (v :: vs)) : bW K CL b H Z δ σ ts vs := by
 obtain ⟨fp, gp, e, r, nd, k⟩ := S.rep
 cases r with
 | @cons _ _ _ _ f1 f2 r1 r2 =>
   refine ⟨⟨fp, f2, e, r2, nd.sublist (afW (afQ _) (agj _ _)), fun a ha => k a ?_⟩, S.bh, S.zz, S.zh, S.new, S.tp, S.tab⟩
   rcases afu.mp ha with h | h
   . exact afy _ h
   . exact afh _ (afh _ h)
theorem bW.push {d : D} (S : bW K CL b H Z δ σ ts vs) (r : bH K CL Z d v) : bW K CL b H Z δ σ (.sh d :: ts) (v :: vs) := by
 obtain ⟨fp, gp, e, r2, nd, k⟩ := S.rep
 exact ⟨⟨fp, [] ++ gp, e, .cons (.sh r) r2, nd, k⟩, S.bh, S.zz, S.zh, S.new, S.tp, S.tab⟩
theorem bW.IV (S : bW K CL b H Z δ σ (t :: ts) (v :: vs)) : ∃ Z', aC Z Z' /\ bW K CL b H Z' δ σ (.sh t.dY :: ts) (v :: vs) := by
 classical
 obtain ⟨fp, gp, e, r, nd, k⟩ := S.rep
 cases r with
 | @cons _ _ _ _ f1 f2 r1 r2 =>
   have nZ : ∀ a ∈ f1, Z a = none /\ b.B a = none := fun a ha => k a (afh _ (afy _ ha))
   have sz : aC Z (fun a => if a ∈ f1 then H a else Z a) := fun a o q => by
     by_cases ha : a ∈ f1
     . rw [(nZ a ha).1] at q; cases q
     . show (if a ∈ f1 then H a else Z a) = some o
       rw [afi ha]; exact q
   have Xh := afY.mp nd
   have dj : ∀ a ∈ fp ++ f2, a ∉ f1 := fun a ha h1 => by
     rcases afu.mp ha with h | h
     . exact Xh.2.2 a h a (afy _ h1) rfl
     . exact (afY.mp Xh.2.1).2.2 a h1 a h rfl
   refine ⟨fun a => if a ∈ f1 then H a else Z a, sz, ⟨⟨fp, [] ++ f2, e.mono sz (fun _ _ => rfl), .cons (.sh (r1.dY sz fun a ha => afk ha)) (r2.mono sz fun _ _ => rfl), ?_, fun a ha => ?_⟩, S.bh, S.zz.trans sz, fun a o q => ?_, fun a o q z => ?_, fun a o q i => ?_, S.tab⟩⟩
   . exact nd.sublist (afW (afQ _) (agj _ _))
   . have IW : a ∈ fp ++ f2 := ha
     refine ⟨?_, (k a ?_).2⟩
     . show (if a ∈ f1 then H a else Z a) = none
       rw [afi (dj a IW)]
       refine (k a ?_).1
       rcases afu.mp IW with h | h
       . exact afy _ h
       . exact afh _ (afh _ h)
     . rcases afu.mp IW with h | h
       . exact afy _ h
       . exact afh _ (afh _ h)
   . have q' : (if a ∈ f1 then H a else Z a) = some o := q
     by_cases ha : a ∈ f1
     . rw [afk ha] at q'; exact q'
     . rw [afi ha] at q'; exact S.zh a o q'
   . have q' : (if a ∈ f1 then H a else Z a) = some o := q
     by_cases ha : a ∈ f1
     . exact (nZ a ha).2
     . rw [afi ha] at q'; exact S.new a o q' z
   . exact sz a o (S.tp a o q i)
theorem bW.MV {i : Nat} (S : bW K CL b H Z δ σ ts vs) (hi : δ[i]? = some (some t)) : ∃ v Z', σ[i]? = some (some v) /\ aC Z Z' /\ bW K CL b H Z' (δ.set i (some (.sh t.dY))) σ (.sh t.dY :: ts) (v :: vs) := by
 classical
 obtain ⟨fp, gp, e, r, nd, k⟩ := S.rep
 obtain ⟨v, f1, f2, f3, hv, oM, rt, put, _⟩ := e.get hi
 subst oM
 have nZ : ∀ a ∈ f2, Z a = none /\ b.B a = none := fun a ha => k a (by simp [ha])
 have sz : aC Z (fun a => if a ∈ f2 then H a else Z a) := fun a o q => by
   by_cases ha : a ∈ f2
   . rw [(nZ a ha).1] at q; cases q
   . show (if a ∈ f2 then H a else Z a) = some o
     rw [afi ha]; exact q
 have dj : ∀ a ∈ (f1 ++ f3) ++ gp, a ∉ f2 := fun a ha h2 => by
   have hp : ((f1 ++ (f2 ++ f3)) ++ gp).Perm (f2 ++ ((f1 ++ f3) ++ gp)) := by
     rw [← afr, ← afr]
     refine (List.perm_append_right_iff gp).mpr ?_
     rw [← afr]
     exact (List.perm_append_right_iff f3).mpr af3
   exact (afY.mp (hp.nodup_iff.mp nd)).2.2 a h2 a ha rfl
 have rF : bH K CL (fun a => if a ∈ f2 then H a else Z a) t.dY v := rt.dY sz fun a ha => afk ha
 have TJ : σ.set i (some v) = σ := by
   apply agH
   intro j
   rw [List.getElem?_set]
   split
   . rename_i h; subst h
     split
     . exact hv.symm
     . rename_i h2; rw [agR (by omega)]
   . rfl
 have e2 : fq K CL H (fun a => if a ∈ f2 then H a else Z a) (δ.set i (some (.sh t.dY))) σ (f1 ++ ([] ++ f3)) := by
   have := put (H' := H) (t' := .sh t.dY) (v' := v) (g := []) sz (fun _ _ => rfl) (.sh rF)
   rwa [TJ] at this
 refine ⟨v, fun a => if a ∈ f2 then H a else Z a, hv, sz, ⟨⟨f1 ++ ([] ++ f3), [] ++ gp, e2, .cons (.sh rF) (r.mono sz fun _ _ => rfl), ?_, fun a ha => ?_⟩, S.bh, S.zz.trans sz, fun a o q => ?_, fun a o q z => ?_, fun a o q i => sz a o (S.tp a o q i), S.tab⟩⟩
 . exact nd.sublist (afW (afW (afQ _) (agj _ _)) (afQ _))
 . have IW : a ∈ (f1 ++ f3) ++ gp := ha
   have hm : a ∈ (f1 ++ (f2 ++ f3)) ++ gp := by
     simp only [afu] at IW ⊢
     rcases IW with (h | h) | h
     . exact .inl (.inl h)
     . exact .inl (.inr (.inr h))
     . exact .inr h
   refine ⟨?_, (k a hm).2⟩
   show (if a ∈ f2 then H a else Z a) = none
   rw [afi (dj a IW)]
   exact (k a hm).1
 . have q' : (if a ∈ f2 then H a else Z a) = some o := q
   by_cases ha : a ∈ f2
   . rw [afk ha] at q'; exact q'
   . rw [afi ha] at q'; exact S.zh a o q'
 . have q' : (if a ∈ f2 then H a else Z a) = some o := q
   by_cases ha : a ∈ f2
   . exact (nZ a ha).2
   . rw [afi ha] at q'; exact S.new a o q' z
theorem bW.move {i : Nat} (S : bW K CL b H Z δ σ ts vs) (hi : δ[i]? = some (some t)) : ∃ v, σ[i]? = some (some v) /\ bW K CL b H Z (δ.set i none) σ (t :: ts) (v :: vs) := by
 obtain ⟨fp, gp, e, r, nd, k⟩ := S.rep
 obtain ⟨v, f1, f2, f3, hv, oM, rt, _, del⟩ := e.get hi
 subst oM
 have TJ : σ.set i (some v) = σ := by
   apply agH
   intro j
   rw [List.getElem?_set]
   split
   . rename_i h; subst h
     split
     . exact hv.symm
     . rename_i h2; rw [agR (by omega)]
   . rfl
 have hp : ((f1 ++ (f2 ++ f3)) ++ gp).Perm ((f1 ++ f3) ++ (f2 ++ gp)) := by
   have h1 : (f2 ++ f3).Perm (f3 ++ f2) := af3
   have h2 := (af9 f1 h1).append_right gp
   simp only [afr] at h2 ⊢
   exact h2
 refine ⟨v, hv, ⟨⟨f1 ++ f3, f2 ++ gp, ?_, .cons rt r, hp.nodup_iff.mp nd, fun a ha => k a (hp.mem_iff.mpr ha)⟩, S.bh, S.zz, S.zh, S.new, S.tp, S.tab⟩⟩
 have := del (o := some v)
 rwa [TJ] at this
theorem bW.look {i : Nat} (S : bW K CL b H Z δ σ ts vs) (hi : δ[i]? = some (some t)) : ∃ v, σ[i]? = some (some v) /\ bH K CL H t.dY v := by
 obtain ⟨fp, gp, e, r, nd, k⟩ := S.rep
 obtain ⟨v, f1, f2, f3, hv, oM, rt, _, _⟩ := e.get hi
 exact ⟨v, hv, rt.dY S.zh fun _ _ => rfl⟩
theorem bW.Ry {i : Nat} {d : D} (S : bW K CL b H Z δ σ ts vs) (hi : δ[i]? = some (some (.sh d))) : ∃ v, σ[i]? = some (some v) /\ bH K CL Z d v := by
 obtain ⟨fp, gp, e, r, nd, k⟩ := S.rep
 obtain ⟨v, f1, f2, f3, hv, oM, rt, _, _⟩ := e.get hi
 cases rt with
 | sh h => exact ⟨v, hv, h⟩
theorem bW.set {i : Nat} (S : bW K CL b H Z δ σ (t :: ts) (v :: vs)) (hi : i < δ.length) : bW K CL b H Z (δ.set i (some t)) (σ.set i (some v)) ts vs := by
 obtain ⟨fp, gp, e, r, nd, k⟩ := S.rep
 cases r with
 | @cons _ _ _ _ f1 f2 r1 r2 =>
   obtain ⟨f, h1, f', h2, h3⟩ := e.put r1 hi
   have hp : (f ++ f2).Perm (f' ++ (f1 ++ f2)) := by
     refine (h3.append_right f2).trans ?_
     rw [← afr]
     exact af3.append_right f2
   have Xi : (f' ++ (f1 ++ f2)).Sublist (fp ++ (f1 ++ f2)) := afW h2 (afQ _)
   exact ⟨⟨f, f2, h1, r2, hp.nodup_iff.mpr (nd.sublist Xi), fun a ha => k a (Xi.subset (hp.mem_iff.mp ha))⟩, S.bh, S.zz, S.zh, S.new, S.tp, S.tab⟩
end
mutual
noncomputable def D.jz : D -> Bool
 | .tup ds => D.bT ds
 | .lst _ => false
 | .ins _ _ => false
 | .wA _ => false
 | .any => false
 | _ => true
noncomputable def D.bT : List D -> Bool
 | [] => true
 | d :: ds => d.jz && D.bT ds
end
mutual
noncomputable def T.clean : T -> Bool
 | .sh d => d.jz
 | .tup ts => T.eK ts
 | .lst ts => T.eK ts
 | .ins _ fs => T.bD fs
 | .wA k6 => D.bT (k6.map (·.2))
 | .pin _ t => t.clean
noncomputable def T.eK : List T -> Bool
 | [] => true
 | t :: ts => t.clean && T.eK ts
noncomputable def T.bD : List (Str × T) -> Bool
 | [] => true
 | (_, t) :: ts => t.clean && T.bD ts
end
noncomputable def b9 (X : Cx) (CL : Str -> Addr) (b : Bx) (e : Expr) (δ : List (Option T)) (t : T) (δ' : List (Option T)) : Prop :=
 ∀ (H Z : Hp) (σ : L2.St) (ts : List T) (vs : List V) (Q : VK), bW X.K CL b H Z δ σ ts vs -> (∀ v H' Z', aC Z Z' -> aC H H' -> bW X.K CL b H' Z' δ' σ (t :: ts) (v :: vs) -> Q v H') -> Bj X e σ H Q
noncomputable def cG (X : Cx) (CL : Str -> Addr) (b : Bx) (e : Expr) (δ : List (Option T)) (d : D) (δ' : List (Option T)) : Prop :=
 ∀ (H Z : Hp) (σ : L2.St) (ts : List T) (vs : List V) (Q : VK), bW X.K CL b H Z δ σ ts vs -> (∀ v H' Z', aC Z Z' -> aC H H' -> bW X.K CL b H' Z' δ' σ ts vs -> bH X.K CL H' d v -> Q v H') -> Bj X e σ H Q
noncomputable def oX (X : Cx) (CL : Str -> Addr) (b : Bx) (e : Expr) (δ : List (Option T)) (p : Bool) (δ' : List (Option T)) : Prop :=
 ∀ (H Z : Hp) (σ : L2.St) (ts : List T) (vs : List V) (Q : Bool -> Hp -> Prop), bW X.K CL b H Z δ σ ts vs -> (∀ H' Z', aC Z Z' -> aC H H' -> bW X.K CL b H' Z' δ' σ ts vs -> Q p H') -> MR X e σ H Q
noncomputable def DM (X : Cx) (CL : Str -> Addr) (b : Bx) (es : List Expr) (δ : List (Option T)) (tl : List T) (δ' : List (Option T)) : Prop :=
 ∀ (H Z : Hp) (σ : L2.St) (ts : List T) (vs : List V) (Q : List V -> Hp -> Prop), bW X.K CL b H Z δ σ ts vs →
   (∀ us H' Z', us.length = tl.length -> aC Z Z' -> aC H H' -> bW X.K CL b H' Z' δ' σ (tl.reverse ++ ts) (us.reverse ++ vs) -> Q us H') -> IU X es σ H Q
noncomputable def Rz (X : Cx) (CL : Str -> Addr) (b : Bx) (es : List Expr) (δ : List (Option T)) (ds : List D) (δ' : List (Option T)) : Prop :=
 ∀ (H Z : Hp) (σ : L2.St) (ts : List T) (vs : List V) (Q : List V -> Hp -> Prop), bW X.K CL b H Z δ σ ts vs →
   (∀ us H' Z', aC Z Z' -> aC H H' -> bW X.K CL b H' Z' δ' σ ts vs -> aB X.K CL H' ds us -> Q us H') -> IU X es σ H Q
structure cX where
 nx : List (Option T) -> Prop
 rt : T -> List (Option T) -> Prop
 bk : List (Option T) -> Prop := fun _ => False
 ct : List (Option T) -> Prop := fun _ => False
structure Meets (K : PySem.W.Frag) (CL : Str -> Addr) (b : Bx) (Z : Hp) (ts : List T) (vs : List V) (D : cX) (E : Ends) : Prop where
 nx : ∀ δ' σ' H' Z', aC Z Z' -> bW K CL b H' Z' δ' σ' ts vs -> D.nx δ' -> E.nx σ' H'
 rt : ∀ t v H' Z' δ' σ', aC Z Z' -> bW K CL b H' Z' δ' σ' (t :: ts) (v :: vs) -> D.rt t δ' -> E.rt v H'
 bk : ∀ δ' σ' H' Z', aC Z Z' -> bW K CL b H' Z' δ' σ' ts vs -> D.bk δ' -> E.bk σ' H'
 ct : ∀ δ' σ' H' Z', aC Z Z' -> bW K CL b H' Z' δ' σ' ts vs -> D.ct δ' -> E.ct σ' H'
noncomputable def RA (X : Cx) (CL : Str -> Addr) (b : Bx) (st : Stmt) (δ : List (Option T)) (D : cX) : Prop :=
 ∀ (H Z : Hp) (σ : L2.St) (ts : List T) (vs : List V) (E : Ends), bW X.K CL b H Z δ σ ts vs -> Meets X.K CL b Z ts vs D E -> Tw X st E σ H
noncomputable def fF (X : Cx) (CL : Str -> Addr) (b : Bx) (st : List Stmt) (δ : List (Option T)) (D : cX) : Prop :=
 ∀ (H Z : Hp) (σ : L2.St) (ts : List T) (vs : List V) (E : Ends), bW X.K CL b H Z δ σ ts vs -> Meets X.K CL b Z ts vs D E -> Tz X st E σ H
section
variable {K : PySem.W.Frag} {CL : Str -> Addr} {b : Bx} {H H' Z Z' : Hp} {δ δ' : List (Option T)} {σ σ' : L2.St} {ts ts' : List T} {vs vs' : List V} {t : T} {v : V}
theorem Meets.mono {D : cX} {E : Ends} (M : Meets K CL b Z ts vs D E) (e : aC Z Z') : Meets K CL b Z' ts vs D E :=
 ⟨fun _ _ _ _ s => M.nx _ _ _ _ (e.trans s), fun _ _ _ _ _ _ s => M.rt _ _ _ _ _ _ (e.trans s), fun _ _ _ _ s => M.bk _ _ _ _ (e.trans s), fun _ _ _ _ s => M.ct _ _ _ _ (e.trans s)⟩
theorem E5 {a : Addr} {xs : List V} (zh : ∀ a o, H a = some o -> gR o = true -> Z a = some o) (h : Dv K H a xs) : Dv K Z a xs := by
 rcases h with (h | ⟨o, h⟩) | h
 . exact .inl (.inl (zh _ _ h rfl))
 . exact .inl (.inr ⟨o, zh _ _ h rfl⟩)
 . exact .inr h
theorem bH.jz (zh : ∀ a o, H a = some o -> gR o = true -> Z a = some o) {d : D} {v : V} (k : d.jz = true) (h : bH K CL H d v) : bH K CL Z d v :=
 bH.rec (motive_1 := fun d v _ => d.jz = true -> bH K CL Z d v) (motive_2 := fun d v _ => D.bT d = true -> aB K CL Z d v) (motive_3 := fun d v _ => True) (motive_4 := fun d v _ => True)
   (fun _ => .non) (fun b _ => .bl b) (fun b _ => .int b) (fun b _ => .str b) (fun _ k => by rw [D.jz] at k; cases k) (fun b _ => .val b) (fun h _ r k => .tup (E5 zh h) (r (by rw [D.jz] at k; exact k))) (fun _ _ _ k => by rw [D.jz] at k; cases k) (fun _ _ _ k => by rw [D.jz] at k; cases k) (fun _ _ _ k => by rw [D.jz] at k; cases k) (fun _ => .nil) (fun _ _ h r k => by rw [D.bT, af4] at k; exact .cons (h k.1) (r k.2)) trivial (fun _ _ _ _ => trivial) trivial (fun _ _ _ _ => trivial) h k
theorem aB.jz (zh : ∀ a o, H a = some o -> gR o = true -> Z a = some o) {d : List D} {v : List V} (k : D.bT d = true) (h : aB K CL H d v) : aB K CL Z d v :=
 aB.rec (motive_1 := fun d v _ => d.jz = true -> bH K CL Z d v) (motive_2 := fun d v _ => D.bT d = true -> aB K CL Z d v) (motive_3 := fun d v _ => True) (motive_4 := fun d v _ => True)
   (fun _ => .non) (fun b _ => .bl b) (fun b _ => .int b) (fun b _ => .str b) (fun _ k => by rw [D.jz] at k; cases k) (fun b _ => .val b) (fun h _ r k => .tup (E5 zh h) (r (by rw [D.jz] at k; exact k))) (fun _ _ _ k => by rw [D.jz] at k; cases k) (fun _ _ _ k => by rw [D.jz] at k; cases k) (fun _ _ _ k => by rw [D.jz] at k; cases k) (fun _ => .nil) (fun _ _ h r k => by rw [D.bT, af4] at k; exact .cons (h k.1) (r k.2)) trivial (fun _ _ _ _ => trivial) trivial (fun _ _ _ _ => trivial) h k
theorem dQ.clean {Z1 : Hp} (zi : ∀ {d : D} {v : V}, d.jz = true -> bH K CL Z1 d v -> bH K CL Z d v) {k6 : List (Key × D)} {gs : List (Key × V)} (k : D.bT (k6.map (·.2)) = true) (h : dQ K CL Z1 k6 gs) : dQ K CL Z k6 gs :=
 dQ.ind (P := fun k6 gs => D.bT (k6.map (·.2)) = true -> dQ K CL Z k6 gs) (fun _ => .nil) (fun h _ i k => by rw [afO, D.bT, af4] at k; exact .cons (zi k.1 h) (i k.2)) h k
theorem cR.clean {Z1 : Hp} (zh : ∀ a xs, Z1 a = some (.tup xs) -> Z a = some (.tup xs)) (zi : ∀ {d : D} {v : V}, d.jz = true -> bH K CL Z1 d v -> bH K CL Z d v) {t : T} {v : V} {fp : List Addr} (k : t.clean = true) (h : cR K CL H Z1 t v fp) : cR K CL H Z t v fp :=
 cR.rec (motive_1 := fun t v fp _ => t.clean = true -> cR K CL H Z t v fp) (motive_2 := fun t v fp _ => T.eK t = true -> aX K CL H Z t v fp) (motive_3 := fun t v fp _ => T.bD t = true -> cW K CL H Z t v fp)
   (fun h k => .sh (zi (by rw [T.clean] at k; exact k) h)) (fun h _ r k => .tup (zh _ _ h) (r (by rw [T.clean] at k; exact k))) (fun h _ r k => .lst h (r (by rw [T.clean] at k; exact k))) (fun h _ r k => .ins h (r (by rw [T.clean] at k; exact k))) (fun h f k => .wA h (dQ.clean zi (by rw [T.clean] at k; exact k) f)) (fun _ r k => .pin (r (by rw [T.clean] at k; exact k))) (fun _ => .nil) (fun _ _ h r k => by rw [T.eK, af4] at k; exact .cons (h k.1) (r k.2)) (fun _ => .nil) (fun _ _ h r k => by rw [T.bD, af4] at k; exact .cons (h k.1) (r k.2)) h k
theorem bW.back {W W' : Hp} {fp : List Addr} (S : bW K CL b H Z δ σ ts vs) (hh : aC H H') (zw : aC Z W) (ww : aC W W') (wh : aC W' H') (new : ∀ a o, W' a = some o -> W a = none -> H a = none)
   (tp : ∀ a o, H' a = some o -> gR o = true -> W' a = some o) (r : cR K CL H' W' t v fp) (nd : fp.Nodup) (own : ∀ a ∈ fp, W' a = none /\ H a = none) (c : W = Z \/ t.clean = true) :
   ∃ Z', aC Z Z' /\ bW K CL b H' Z' δ σ (t :: ts) (v :: vs) := by
 classical
 let Z' : Hp := fun a => if (H a).isSome = true then Z a else W' a
 have zs : ∀ {a : Addr} {o : HO}, H a = some o -> Z' a = Z a := fun {a o} e => by
   show (if (H a).isSome = true then Z a else W' a) = Z a
   rw [afk (by rw [e]; rfl)]
 have zn : ∀ {a : Addr}, H a = none -> Z' a = W' a := fun {a} e => by
   show (if (H a).isSome = true then Z a else W' a) = W' a
   rw [afi (by rw [e]; simp)]
 have sz : aC Z Z' := fun a o q => by rw [zs (S.zh a o q)]; exact q
 have zw' : ∀ a o, Z' a = some o -> W' a = some o := fun a o q => by
   cases e : H a with
   | none => rw [zn e] at q; exact q
   | some u => rw [zs e] at q; exact ww a o (zw a o q)
 have ztp : ∀ a o, H' a = some o -> gR o = true -> Z' a = some o := fun a o q i => by
   cases e : H a with
   | none => rw [zn e]; exact tp a o q i
   | some u =>
     rw [zs e]
     have := hh a u e
     rw [q] at this; cases this
     exact S.tp a o e i
 have r' : cR K CL H' Z' t v fp := by
   rcases c with c | c
   . have : Z' = W' := by
       funext a
       cases e : H a with
       | none => exact zn e
       | some u =>
         rw [zs e]
         cases q : W' a with
         | none =>
           cases q2 : Z a with
           | none => rfl
           | some o => rw [ww a o (zw a o q2)] at q; cases q
         | some o =>
           cases q2 : W a with
           | none => rw [new a o q q2] at e; cases e
           | some o2 =>
             have := ww a o2 q2
             rw [q] at this; cases this
             rw [← c]; exact q2
     rw [this]; exact r
   . refine cR.clean (fun a xs h => ?_) (fun {d v} k h => ?_) c r
     . exact ztp a _ (wh a _ h) rfl
     . exact bH.jz (H := H') ztp k (h.mono wh)
 obtain ⟨f0, g0, e0, r0, nd0, k0⟩ := S.rep
 have old : ∀ a ∈ f0 ++ g0, ∃ o, H a = some o := fun a ha => (afu.mp ha).elim (e0.there a) (r0.there a)
 have keep : ∀ a ∈ f0 ++ g0, H' a = H a := fun a ha => by
   obtain ⟨o, e⟩ := old a ha
   rw [e]; exact hh a o e
 refine ⟨Z', sz, ⟨⟨f0, fp ++ g0, e0.mono sz (fun a ha => keep a (afy _ ha)), .cons r' (r0.mono sz fun a ha => keep a (afh _ ha)), ?_, fun a ha => ?_⟩, S.bh.trans hh, S.zz.trans sz, fun a o q => wh a o (zw' a o q), fun a o q z => ?_, ztp, S.tab⟩⟩
 . have hp : (f0 ++ (fp ++ g0)).Perm (fp ++ (f0 ++ g0)) := by
     rw [← afr, ← afr]
     exact af3.append_right g0
   refine hp.nodup_iff.mpr (afY.mpr ⟨nd, nd0, fun a ha c hc e => ?_⟩)
   subst e
   obtain ⟨o, q⟩ := old a hc
   rw [(own a ha).2] at q; cases q
 . have : a ∈ f0 ++ g0 \/ a ∈ fp := by
     simp only [afu] at ha ⊢
     rcases ha with h | h | h
     . exact .inl (.inl h)
     . exact .inr h
     . exact .inl (.inr h)
   rcases this with h | h
   . obtain ⟨o, q⟩ := old a h
     exact ⟨by rw [zs q]; exact (k0 a h).1, (k0 a h).2⟩
   . exact ⟨by rw [zn (own a h).2]; exact (own a h).1, S.bh.free (own a h).2⟩
 . cases e : H a with
   | none => exact S.bh.free e
   | some u => rw [zs e] at q; exact S.new a o q z
end
section
variable {X : Cx} {CL : Str -> Addr} {b : Bx} {δ δ1 δ2 δ3 : List (Option T)} {e e1 e2 : Expr} {t t1 t2 : T} {d d1 d2 : D} {pos : Pos}
theorem RB (h : b9 X CL b e δ t δ1) : cG X CL b e δ t.dY δ1 := fun H Z σ ts vs Q S k => h H Z σ ts vs Q S fun v H' Z' z s S' => k v H' Z' z s S'.pop S'.view
theorem ah (h : b9 X CL b e δ (.sh d) δ1) : cG X CL b e δ d δ1 := by have := RB h; rwa [T.dY] at this
theorem dg (h : cG X CL b e δ d δ1) (i : d.jz = true) : b9 X CL b e δ (.sh d) δ1 := fun H Z σ ts vs Q S k => h H Z σ ts vs Q S fun v H' Z' z s S' r => k v H' Z' z s (S'.push (bH.jz S'.tp i r))
theorem DN (h : b9 X CL b e δ t δ1) : b9 X CL b e δ (.sh t.dY) δ1 := fun H Z σ ts vs Q S k => h H Z σ ts vs Q S fun v H' Z' z s S' => by
 obtain ⟨Z2, z2, S2⟩ := S'.IV
 exact k v H' Z2 (z.trans z2) s S2
theorem aj {i : Int} {j : Nat} : b9 X CL b (.Constant (.int i) j pos) δ (.sh (.int i)) δ := fun H Z σ ts vs Q S k => cS Sl (k _ _ Z (.refl _) (.refl _) (S.push (.int i)))
theorem Bm {i : Bool} {j : Nat} : b9 X CL b (.Constant (.bool i) j pos) δ (.sh (.bl i)) δ := fun H Z σ ts vs Q S k => cS Wy (k _ _ Z (.refl _) (.refl _) (S.push (.bl i)))
theorem b8 {x : Str} {j : Nat} : b9 X CL b (.Constant (.str x) j pos) δ (.sh (.str x)) δ := fun H Z σ ts vs Q S k => cS Sn (k _ _ Z (.refl _) (.refl _) (S.push (.str x)))
section
variable (i : Nat) {x : Str} (hi : X.N[i]? = some x := by rfl) (hv : Sg X.env.scope x := by first | exact Or.inl rfl | exact Or.inr (Or.inl rfl) | exact Or.inr (Or.inr rfl)) (hd : (x == ("__debug__" : Str)) = false := by decide) (gW : (x == ("__classdict__" : Str)) = false := by decide)
include hi hv hd gW
theorem TL (h : δ[i]? = some (some (.sh d)) := by rfl) : b9 X CL b (.Name x pos) δ (.sh d) δ := fun H Z σ ts vs Q S k => by
 obtain ⟨v, e, r⟩ := S.Ry h
 exact cS (k8 hi hv hd gW) ⟨v, e, k v H Z (.refl _) (.refl _) (S.push r)⟩
theorem MX (h : δ[i]? = some (some t) := by rfl) : b9 X CL b (.Name x pos) δ (.sh t.dY) (δ.set i (some (.sh t.dY))) := fun H Z σ ts vs Q S k => by
 obtain ⟨v, Z', e, z, S'⟩ := S.MV h
 exact cS (k8 hi hv hd gW) ⟨v, e, k v H Z' z (.refl _) S'⟩
theorem MY (h : δ[i]? = some (some t) := by rfl) : b9 X CL b (.Name x pos) δ t (δ.set i none) := fun H Z σ ts vs Q S k => by
 obtain ⟨v, e, S'⟩ := S.move h
 exact cS (k8 hi hv hd gW) ⟨v, e, k v H Z (.refl _) (.refl _) S'⟩
theorem TN (h : δ[i]? = some (some t) := by rfl) : cG X CL b (.Name x pos) δ t.dY δ := fun H Z σ ts vs Q S k => by
 obtain ⟨v, e, r⟩ := S.look h
 exact cS (k8 hi hv hd gW) ⟨v, e, k v H Z (.refl _) (.refl _) S r⟩
end
noncomputable def TQ : D -> Option V
 | .non => some .non
 | .bl b => some (.bl b)
 | .int i => some (.int i)
 | .str x => some (.str x)
 | _ => none
theorem bH.sc {K : PySem.W.Frag} {Z : Hp} {d : D} {v w : V} (r : bH K CL Z d v) (h : TQ d = some w) : v = w := by
 cases r <;> first | (exact afF h) | (cases h)
theorem MZ {K : PySem.W.Frag} {Z : Hp} {d : D} {w : V} (h : TQ d = some w) : bH K CL Z d w := by
 cases d <;> first | (cases h; constructor) | (cases h)
theorem ou {op : Operator} {r : R2} {w1 w2 w : V} (ho : qJ X (binaryOp op) r) (h1 : cG X CL b e1 δ d1 δ1) (h2 : cG X CL b e2 δ1 d2 δ2) (s1 : TQ d1 = some w1) (s2 : TQ d2 = some w2) (s3 : TQ d = some w)
   (hr : ∀ (H : Hp) (Q : VK), Q w H -> r w1 w2 H Q) : b9 X CL b (.BinOp e1 op e2 pos) δ (.sh d) δ2 := fun H Z σ ts vs Q S k => by
 refine cS (Iv ho d9 d9) (h1 H Z σ ts vs _ S fun v1 H1 Z1 z1 k1 S1 r1 => h2 H1 Z1 σ ts vs _ S1 fun v2 H2 Z2 z2 k2 S2 r2 => ?_)
 rw [r1.sc s1, r2.sc s2]
 exact hr H2 Q (k w H2 Z2 (z1.trans z2) (k1.trans k2) (S2.push (MZ s3)))
theorem ef {i j : Int} (h1 : cG X CL b e1 δ (.int i) δ1) (h2 : cG X CL b e2 δ1 (.int j) δ2) : b9 X CL b (.BinOp e1 .Add e2 pos) δ (.sh (.int (i + j))) δ2 := ou SW h1 h2 rfl rfl rfl fun _ _ q => ⟨i, j, rfl, rfl, q⟩
theorem jX {i j : Int} (h1 : cG X CL b e1 δ (.int i) δ1) (h2 : cG X CL b e2 δ1 (.int j) δ2) : b9 X CL b (.BinOp e1 .Sub e2 pos) δ (.sh (.int (i - j))) δ2 := ou SX h1 h2 rfl rfl rfl fun _ _ q => ⟨i, j, rfl, rfl, q⟩
theorem ow {i j : Int} (h1 : cG X CL b e1 δ (.int i) δ1) (h2 : cG X CL b e2 δ1 (.int j) δ2) (c : MB i j) : b9 X CL b (.BinOp e1 .Mult e2 pos) δ (.sh (.int (i * j))) δ2 := ou SY h1 h2 rfl rfl rfl fun _ _ q => ⟨i, j, rfl, rfl, c, q⟩
theorem aZ {i j : Int} (h1 : cG X CL b e1 δ (.int i) δ1) (h2 : cG X CL b e2 δ1 (.int j) δ2) (c : 0 < j) : b9 X CL b (.BinOp e1 .Mod e2 pos) δ (.sh (.int (i % j))) δ2 := ou S6 h1 h2 rfl rfl rfl fun _ _ q => ⟨i, j, rfl, rfl, c, q⟩
theorem bK {i j : Int} (h1 : cG X CL b e1 δ (.int i) δ1) (h2 : cG X CL b e2 δ1 (.int j) δ2) (c : WX i j) : b9 X CL b (.BinOp e1 .FloorDiv e2 pos) δ (.sh (.int (i / j))) δ2 := ou MC h1 h2 rfl rfl rfl fun _ _ q => ⟨i, j, rfl, rfl, c, q⟩
theorem DP {i j : Int} (h1 : cG X CL b e1 δ (.int i) δ1) (h2 : cG X CL b e2 δ1 (.int j) δ2) (c : WY i j) : b9 X CL b (.BinOp e1 .Pow e2 pos) δ (.sh (.int (i ^ j.toNat))) δ2 := ou S7 h1 h2 rfl rfl rfl fun _ _ q => ⟨i, j, rfl, rfl, c, q⟩
theorem ly {x y : Str} (h1 : cG X CL b e1 δ (.str x) δ1) (h2 : cG X CL b e2 δ1 (.str y) δ2) (c : x.length + y.length <= sizeLine) : b9 X CL b (.BinOp e1 .Add e2 pos) δ (.sh (.str (x ++ y))) δ2 := ou Dy h1 h2 rfl rfl rfl fun _ _ q => ⟨x, y, rfl, rfl, c, q⟩
theorem uw {op : CmpOp} {r : R2} {p : Bool} {w1 w2 : V} (ho : qJ X (compareOp op) r) (h1 : cG X CL b e1 δ d1 δ1) (h2 : cG X CL b e2 δ1 d2 δ2) (s1 : TQ d1 = some w1) (s2 : TQ d2 = some w2)
   (hr : ∀ (H : Hp) (Q : VK), Q (.bl p) H -> r w1 w2 H Q) (hm : behindInMarks op e2 = false) : oX X CL b (.Compare e1 [op] [e2] pos) δ p δ2 /\ b9 X CL b (.Compare e1 [op] [e2] pos) δ (.sh (.bl p)) δ2 := by
 constructor
 . intro H Z σ ts vs Q S k
   refine DL (oQ ho d9 d9 hm) (h1 H Z σ ts vs _ S fun v1 H1 Z1 z1 k1 S1 r1 => h2 H1 Z1 σ ts vs _ S1 fun v2 H2 Z2 z2 k2 S2 r2 => ?_)
   rw [r1.sc s1, r2.sc s2]
   exact hr H2 _ ⟨p, rfl, k H2 Z2 (z1.trans z2) (k1.trans k2) S2⟩
 . intro H Z σ ts vs Q S k
   refine cS (oO ho d9 d9 hm) (h1 H Z σ ts vs _ S fun v1 H1 Z1 z1 k1 S1 r1 => h2 H1 Z1 σ ts vs _ S1 fun v2 H2 Z2 z2 k2 S2 r2 => ?_)
   rw [r1.sc s1, r2.sc s2]
   exact hr H2 _ (k _ H2 Z2 (z1.trans z2) (k1.trans k2) (S2.push (.bl p)))
theorem dz {i j : Int} (h1 : cG X CL b e1 δ (.int i) δ1) (h2 : cG X CL b e2 δ1 (.int j) δ2) : oX X CL b (.Compare e1 [.Eq] [e2] pos) δ (decide (i = j)) δ2 /\ b9 X CL b (.Compare e1 [.Eq] [e2] pos) δ (.sh (.bl (decide (i = j)))) δ2 :=
 uw Iz h1 h2 rfl rfl (fun _ _ q => ⟨rfl, by rw [show decide (V.int i = V.int j) = decide (i = j) by simp]; exact q⟩) (jV _)
theorem qL {i j : Int} (h1 : cG X CL b e1 δ (.int i) δ1) (h2 : cG X CL b e2 δ1 (.int j) δ2) : oX X CL b (.Compare e1 [.NotEq] [e2] pos) δ (!decide (i = j)) δ2 /\ b9 X CL b (.Compare e1 [.NotEq] [e2] pos) δ (.sh (.bl (!decide (i = j)))) δ2 :=
 uw W0 h1 h2 rfl rfl (fun _ _ q => ⟨rfl, by rw [show decide (V.int i = V.int j) = decide (i = j) by simp]; exact q⟩) (jV _)
theorem qM {i j : Str} (h1 : cG X CL b e1 δ (.str i) δ1) (h2 : cG X CL b e2 δ1 (.str j) δ2) : oX X CL b (.Compare e1 [.Eq] [e2] pos) δ (decide (i = j)) δ2 /\ b9 X CL b (.Compare e1 [.Eq] [e2] pos) δ (.sh (.bl (decide (i = j)))) δ2 :=
 uw Iz h1 h2 rfl rfl (fun _ _ q => ⟨rfl, by rw [show decide (V.str i = V.str j) = decide (i = j) by simp]; exact q⟩) (jV _)
theorem IX {i j : Int} (h1 : cG X CL b e1 δ (.int i) δ1) (h2 : cG X CL b e2 δ1 (.int j) δ2) : oX X CL b (.Compare e1 [.Lt] [e2] pos) δ (decide (i < j)) δ2 /\ b9 X CL b (.Compare e1 [.Lt] [e2] pos) δ (.sh (.bl (decide (i < j)))) δ2 := uw W2 h1 h2 rfl rfl (fun _ _ q => ⟨i, j, rfl, rfl, q⟩) (jV _)
theorem RC {i j : Int} (h1 : cG X CL b e1 δ (.int i) δ1) (h2 : cG X CL b e2 δ1 (.int j) δ2) : oX X CL b (.Compare e1 [.LtE] [e2] pos) δ (decide (i <= j)) δ2 /\ b9 X CL b (.Compare e1 [.LtE] [e2] pos) δ (.sh (.bl (decide (i <= j)))) δ2 := uw W3 h1 h2 rfl rfl (fun _ _ q => ⟨i, j, rfl, rfl, q⟩) (jV _)
theorem wW {i j : Int} (h1 : cG X CL b e1 δ (.int i) δ1) (h2 : cG X CL b e2 δ1 (.int j) δ2) : oX X CL b (.Compare e1 [.Gt] [e2] pos) δ (decide (j < i)) δ2 /\ b9 X CL b (.Compare e1 [.Gt] [e2] pos) δ (.sh (.bl (decide (j < i)))) δ2 := uw W4 h1 h2 rfl rfl (fun _ _ q => ⟨i, j, rfl, rfl, q⟩) (jV _)
end
section
variable {K : PySem.W.Frag} {CL : Str -> Addr} {H Z : Hp}
theorem aX.split : ∀ {as bs : List T} {us ws : List V} {gp : List Addr}, as.length = us.length -> aX K CL H Z (as ++ bs) (us ++ ws) gp -> ∃ g1 g2, gp = g1 ++ g2 /\ aX K CL H Z as us g1 /\ aX K CL H Z bs ws g2
 | [], _, [], _, gp, _, r => ⟨[], gp, rfl, .nil, r⟩
 | [], _, _ :: _, _, _, h, _ => by simp at h
 | _ :: _, _, [], _, _, h, _ => by simp at h
 | a :: as, bs, u :: us, ws, gp, h, r => by
   cases r with
   | @cons _ _ _ _ f1 f2 r1 r2 =>
     obtain ⟨g1, g2, e, h1, h2⟩ := aX.split (as := as) (us := us) (by simpa using h) r2
     exact ⟨f1 ++ g1, g2, by rw [e, afr], .cons r1 h1, h2⟩
theorem aX.app {as bs : List T} {us ws : List V} {g1 g2 : List Addr} (h : aX K CL H Z as us g1) (q : aX K CL H Z bs ws g2) : aX K CL H Z (as ++ bs) (us ++ ws) (g1 ++ g2) :=
 aX.ind (P := fun as us g1 => aX K CL H Z (as ++ bs) (us ++ ws) (g1 ++ g2)) q (fun r _ i => by rw [afr]; exact .cons r i) h
theorem aX.rev : ∀ {as : List T} {us : List V} {g : List Addr}, aX K CL H Z as.reverse us.reverse g -> ∃ g', aX K CL H Z as us g' /\ g'.Perm g
 | [], [], g, r => by
   have r' : aX K CL H Z [] [] g := r
   cases r'
   exact ⟨[], .nil, ag5 _⟩
 | [], u :: us, g, r => by have := r.length; simp at this
 | a :: as, [], g, r => by have := r.length; simp at this
 | a :: as, u :: us, g, r => by
   rw [agI, agI] at r
   have hl := r.length
   obtain ⟨g1, g2, e, r1, r2⟩ := aX.split (by simp at hl ⊢; omega) r
   subst e
   obtain ⟨g', r', p⟩ := aX.rev r1
   cases r2 with
   | @cons _ _ _ _ f1 f2 q1 q2 =>
     cases q2
     refine ⟨f1 ++ g', .cons q1 r', ?_⟩
     rw [af2]
     exact (af9 f1 p).trans af3
theorem gY : ∀ (ds : List D), T.gQ (ds.map T.sh) = ds
 | [] => rfl
 | d :: ds => by rw [afO, T.gQ, gY ds, T.dY]
end
section
variable {K : PySem.W.Frag} {CL : Str -> Addr} {b : Bx} {H H' Z Z' : Hp} {δ δ' : List (Option T)} {σ σ' : L2.St} {ts tl : List T} {vs us : List V} {t : T} {v : V}
theorem bW.IY {p : Addr} (S : bW K CL b H Z δ σ (tl.reverse ++ ts) (us.reverse ++ vs)) (hl : us.length = tl.length) (hp : H p = none) :
   aC Z (upd Z p (.tup us)) /\ aC H (upd H p (.tup us)) /\ bW K CL b (upd H p (.tup us)) (upd Z p (.tup us)) δ σ (.tup tl :: ts) (.ref p :: vs) := by
 obtain ⟨fp, gp, e, r, nd, k⟩ := S.rep
 obtain ⟨g1, g2, eg, r1, r2⟩ := aX.split (by simp [hl]) r
 subst eg
 obtain ⟨g', r', pm⟩ := r1.rev
 have zp : Z p = none := S.zh.free hp
 have sz : aC Z (upd Z p (.tup us)) := aC.upd zp
 have sh : aC H (upd H p (.tup us)) := aC.upd hp
 have keep : ∀ a ∈ fp ++ (g1 ++ g2), a ≠ p := fun a ha => by
   have : ∃ o, H a = some o := by
     rcases afu.mp ha with h | h
     . exact e.there a h
     . exact r.there a h
   obtain ⟨o, q⟩ := this
   exact aG q hp
 have RD : (fp ++ (g' ++ g2)).Perm (fp ++ (g1 ++ g2)) := (pm.append_right g2).append_left fp
 have kk : ∀ a ∈ fp ++ (g' ++ g2), a ≠ p := fun a ha => keep a (RD.mem_iff.mp ha)
 refine ⟨sz, sh, ⟨⟨fp, g' ++ g2, e.mono sz (fun a ha => az (keep a (afy _ ha))), .cons (.tup aQ (r'.mono sz fun a ha => az (kk a (by simp [ha])))) (r2.mono sz fun a ha => az (keep a (by simp [ha]))), RD.nodup_iff.mpr nd, fun a ha => ?_⟩, S.bh.trans sh, S.zz.trans sz, fun a o q => ?_, fun a o q z => ?_, fun a o q i => ?_, S.tab⟩⟩
 . exact ⟨by rw [az (kk a ha)]; exact (k a (RD.mem_iff.mp ha)).1, (k a (RD.mem_iff.mp ha)).2⟩
 . by_cases ha : a = p
   . subst ha; rw [aQ] at q ⊢; exact q
   . rw [az ha] at q ⊢; exact S.zh a o q
 . by_cases ha : a = p
   . subst ha; exact S.bh.free hp
   . rw [az ha] at q; exact S.new a o q z
 . by_cases ha : a = p
   . subst ha; rw [aQ] at q ⊢; exact q
   . rw [az ha] at q ⊢; exact S.tp a o q i
theorem bW.lz {p : Addr} {g0 : List Addr} (S : bW K CL b H Z δ σ (tl.reverse ++ ts) (us.reverse ++ vs)) (hl : us.length = tl.length) (hp : H p = none) :
   aC H (upd H p (.lst us)) /\ bW K CL b (upd H p (.lst us)) Z δ σ (.lst tl :: ts) (.ref p :: vs) := by
 obtain ⟨fp, gp, e, r, nd, k⟩ := S.rep
 obtain ⟨g1, g2, eg, r1, r2⟩ := aX.split (by simp [hl]) r
 subst eg
 obtain ⟨g', r', pm⟩ := r1.rev
 have zp : Z p = none := S.zh.free hp
 have sh : aC H (upd H p (.lst us)) := aC.upd hp
 have keep : ∀ a ∈ fp ++ (g1 ++ g2), a ≠ p := fun a ha => by
   have : ∃ o, H a = some o := by
     rcases afu.mp ha with h | h
     . exact e.there a h
     . exact r.there a h
   obtain ⟨o, q⟩ := this
   exact aG q hp
 have RD : (fp ++ (g' ++ g2)).Perm (fp ++ (g1 ++ g2)) := (pm.append_right g2).append_left fp
 have kk : ∀ a ∈ fp ++ (g' ++ g2), a ≠ p := fun a ha => keep a (RD.mem_iff.mp ha)
 have pm3 : (fp ++ ((p :: g') ++ g2)).Perm (p :: (fp ++ (g' ++ g2))) := by
   rw [afS]; exact List.perm_middle
 refine ⟨sh, ⟨⟨fp, (p :: g') ++ g2, e.mono (.refl _) (fun a ha => az (keep a (afy _ ha))), .cons (.lst aQ (r'.mono (.refl _) fun a ha => az (kk a (by simp [ha])))) (r2.mono (.refl _) fun a ha => az (keep a (by simp [ha]))), ?_, fun a ha => ?_⟩, S.bh.trans sh, S.zz, S.zh.trans sh, S.new, fun a o q i => ?_, S.tab⟩⟩
 . refine pm3.nodup_iff.mpr (agD.mpr ⟨fun h => kk p h rfl, RD.nodup_iff.mpr nd⟩)
 . rcases afm.mp (pm3.mem_iff.mp ha) with h | h
   . subst h; exact ⟨zp, S.bh.free hp⟩
   . exact k a (RD.mem_iff.mp h)
 . by_cases ha : a = p
   . subst ha; rw [aQ] at q; cases q; cases i
   . rw [az ha] at q; exact S.tp a o q i
end
section
variable {X : Cx} {CL : Str -> Addr} {b : Bx} {δ δ1 δ2 δ3 : List (Option T)} {e e1 e2 e3 : Expr} {es : List Expr} {t t1 t2 : T} {d d1 d2 : D} {tl : List T} {ds : List D} {p q : Bool} {pos : Pos}
theorem eu : DM X CL b [] δ [] δ := fun H Z σ ts vs Q S k => Gu eH (k [] H Z rfl (.refl _) (.refl _) S)
theorem gZ (h1 : b9 X CL b e δ t δ1) (h2 : DM X CL b es δ1 tl δ2) (hs : starEach (e :: es) X.env = (false, eval e X.env) :: starEach es X.env := by exact bM rfl) : DM X CL b (e :: es) δ (t :: tl) δ2 := fun H Z σ ts vs Q S k =>
 Gu (cg d9 MS hs) (h1 H Z σ ts vs _ S fun v H1 Z1 z1 k1 S1 => h2 H1 Z1 σ _ _ _ S1 fun us H2 Z2 hl z2 k2 S2 => k (v :: us) H2 Z2 (by simp [hl]) (z1.trans z2) (k1.trans k2) (by
   rw [agI, agI, afr, afr]
   exact S2))
theorem aF : Rz X CL b [] δ [] δ := fun H Z σ ts vs Q S k => Gu eH (k [] H Z (.refl _) (.refl _) S .nil)
theorem ai (h1 : cG X CL b e δ d δ1) (h2 : Rz X CL b es δ1 ds δ2) (hs : starEach (e :: es) X.env = (false, eval e X.env) :: starEach es X.env := by exact bM rfl) : Rz X CL b (e :: es) δ (d :: ds) δ2 := fun H Z σ ts vs Q S k =>
 Gu (cg d9 MS hs) (h1 H Z σ ts vs _ S fun v H1 Z1 z1 k1 S1 r1 => h2 H1 Z1 σ _ _ _ S1 fun us H2 Z2 z2 k2 S2 r2 => k (v :: us) H2 Z2 (z1.trans z2) (k1.trans k2) S2 (.cons (r1.mono k2) r2))
theorem TR {j : Nat} (h : DM X CL b es δ tl δ1) (hl : tl.length <= sizeLine) : b9 X CL b (.Tuple es j pos) δ (.tup tl) δ1 := fun H Z σ ts vs Q S k =>
 cS (Tc MS) (h H Z σ ts vs _ S fun us H1 Z1 hu z1 k1 S1 => ⟨by rw [hu]; exact hl, fun p hp => by
   obtain ⟨a, c, S2⟩ := S1.IY hu hp
   exact k _ _ _ (z1.trans a) (k1.trans c) S2⟩)
theorem cO {j : Nat} (h : DM X CL b es δ (ds.map T.sh) δ1) (hl : ds.length <= sizeLine) : b9 X CL b (.Tuple es j pos) δ (.sh (.tup ds)) δ1 := by
 have := DN (TR (pos := pos) (j := j) h (by simpa using hl))
 rwa [T.dY, gY] at this
theorem eB (h : DM X CL b es δ tl δ1) (hl : tl.length <= sizeLine) : b9 X CL b (.List es pos) δ (.lst tl) δ1 := fun H Z σ ts vs Q S k =>
 cS (Td MS) (h H Z σ ts vs _ S fun us H1 Z1 hu z1 k1 S1 => ⟨by rw [hu]; exact hl, fun p hp => by
   obtain ⟨c, S2⟩ := S1.lz (g0 := []) hu hp
   exact k _ _ _ z1 (k1.trans c) S2⟩)
theorem n5 (h : b9 X CL b e δ (.sh (.bl p)) δ1) (he : ∀ whole, isTrue e X.env whole = (do let v ← whole; standAt e.pos; holding [v] (truthy v)) := by intro _; rfl) : oX X CL b e δ p δ1 := fun H Z σ ts vs Q S k =>
 DL (Sq d9 he) (h H Z σ ts vs _ S fun v H1 Z1 z1 k1 S1 => ⟨p, by have := S1.view; rw [T.dY] at this; exact this.sc rfl, k H1 Z1 z1 k1 S1.pop⟩)
theorem xT (h : oX X CL b e δ p δ1) : oX X CL b (.UnaryOp .Not e pos) δ (!p) δ1 := fun H Z σ ts vs Q S k => DL (Sw TF) (h H Z σ ts vs _ S fun H1 Z1 z1 k1 S1 => k H1 Z1 z1 k1 S1)
noncomputable def TV (X : Cx) (e : Expr) : TT := fun σ H Q => ∀ (whole : Sem Value) (pins : List (Addr × Obj)) (s : Shared), Inv X pins σ H s -> wpAny (model X.prog X.w) X.A (isTrue e X.env whole) (TP X pins σ Q) X.xe s
theorem pwS {e : Expr} : PW X e (TV X e) := fun whole pins s _ _ _ I h => h whole pins s I
noncomputable def TX (X : Cx) (CL : Str -> Addr) (b : Bx) (e : Expr) (δ : List (Option T)) (p : Bool) (δ' : List (Option T)) : Prop :=
 ∀ (H Z : Hp) (σ : L2.St) (ts : List T) (vs : List V) (Q : Bool -> Hp -> Prop), bW X.K CL b H Z δ σ ts vs -> (∀ H' Z', aC Z Z' -> aC H H' -> bW X.K CL b H' Z' δ' σ ts vs -> Q p H') -> TV X e σ H Q
theorem M0 {t : TT} (h : PW X e t) {σ : L2.St} {H : Hp} {Q : Bool -> Hp -> Prop} (q : t σ H Q) : TV X e σ H Q := fun whole pins s I => h whole pins s σ H Q I q
theorem nU (h : TX X CL b e δ p δ1) : oX X CL b e δ p δ1 := fun H Z σ ts vs Q S k pins s I => h H Z σ ts vs Q S k _ pins s I
theorem mK (h : oX X CL b e δ p δ1) : TX X CL b (.BoolOp .And [e] pos) δ p δ1 := fun H Z σ ts vs Q S k => M0 (My TF) (h H Z σ ts vs _ S k)
theorem qN (h : oX X CL b e δ p δ1) : TX X CL b (.BoolOp .Or [e] pos) δ p δ1 := fun H Z σ ts vs Q S k => M0 (Ss TF) (h H Z σ ts vs _ S k)
theorem gS (h : oX X CL b e δ p δ1) (h2 : p = true -> TX X CL b (.BoolOp .And (e2 :: es) pos) δ1 q δ1) : TX X CL b (.BoolOp .And (e :: e2 :: es) pos) δ (p && q) δ1 := fun H Z σ ts vs Q S k =>
 M0 (Sv TF pwS) (h H Z σ ts vs _ S fun H1 Z1 z1 k1 S1 => by
   cases p with
   | true => exact Gr (h2 rfl H1 Z1 σ ts vs _ S1 fun H2 Z2 z2 k2 S2 => k H2 Z2 (z1.trans z2) (k1.trans k2) S2)
   | false => exact Gq (k H1 Z1 z1 k1 S1))
theorem r6 (h : oX X CL b e δ p δ1) (h2 : p = false -> TX X CL b (.BoolOp .Or (e2 :: es) pos) δ1 q δ1) : TX X CL b (.BoolOp .Or (e :: e2 :: es) pos) δ (p || q) δ1 := fun H Z σ ts vs Q S k =>
 M0 (Wz TF pwS) (h H Z σ ts vs _ S fun H1 Z1 z1 k1 S1 => by
   cases p with
   | true => exact Gr (k H1 Z1 z1 k1 S1)
   | false => exact Gq (h2 rfl H1 Z1 σ ts vs _ S1 fun H2 Z2 z2 k2 S2 => k H2 Z2 (z1.trans z2) (k1.trans k2) S2))
theorem ux {op : BoolOp} (h : b9 X CL b e δ t δ1) : b9 X CL b (.BoolOp op [e] pos) δ t δ1 := fun H Z σ ts vs Q S k => cS (Sx d9) (h H Z σ ts vs _ S k)
theorem DQ (h : b9 X CL b e δ (.sh (.bl p)) δ1) (h2 : p = true -> b9 X CL b (.BoolOp .And (e2 :: es) pos) δ1 (.sh (.bl q)) δ1) : b9 X CL b (.BoolOp .And (e :: e2 :: es) pos) δ (.sh (.bl (p && q))) δ1 := fun H Z σ ts vs Q S k =>
 cS (Sy d9 d9) (h H Z σ ts vs _ S fun v H1 Z1 z1 k1 S1 => by
   have hv : v = .bl p := by have := S1.view; rw [T.dY] at this; exact this.sc rfl
   refine ⟨p, hv, ?_⟩
   cases p with
   | true => exact Gr (h2 rfl H1 Z1 σ ts vs _ S1.pop fun v H2 Z2 z2 k2 S2 => k v H2 Z2 (z1.trans z2) (k1.trans k2) S2)
   | false => exact Gq (k _ H1 Z1 z1 k1 (S1.pop.push (.bl false))))
theorem RG (h : b9 X CL b e δ (.sh (.bl p)) δ1) (h2 : p = false -> b9 X CL b (.BoolOp .Or (e2 :: es) pos) δ1 (.sh (.bl q)) δ1) : b9 X CL b (.BoolOp .Or (e :: e2 :: es) pos) δ (.sh (.bl (p || q))) δ1 := fun H Z σ ts vs Q S k =>
 cS (WD d9 d9) (h H Z σ ts vs _ S fun v H1 Z1 z1 k1 S1 => by
   have hv : v = .bl p := by have := S1.view; rw [T.dY] at this; exact this.sc rfl
   refine ⟨p, hv, ?_⟩
   cases p with
   | true => exact Gr (k _ H1 Z1 z1 k1 (S1.pop.push (.bl true)))
   | false => exact Gq (h2 rfl H1 Z1 σ ts vs _ S1.pop fun v H2 Z2 z2 k2 S2 => k v H2 Z2 (z1.trans z2) (k1.trans k2) S2))
theorem TY (h : b9 X CL b e δ (.sh (.bl p)) δ1) : b9 X CL b (.UnaryOp .Not e pos) δ (.sh (.bl (!p))) δ1 := fun H Z σ ts vs Q S k =>
 cS (L2.Sz d9) (h H Z σ ts vs _ S fun v H1 Z1 z1 k1 S1 => ⟨p, by have := S1.view; rw [T.dY] at this; exact this.sc rfl, k _ H1 Z1 z1 k1 (S1.pop.push (.bl (!p)))⟩)
theorem xU {K : PySem.W.Frag} {Z : Hp} {vs : List V} {k : Int} (r : aB K CL Z ds vs) (h : oS ds k = some d) : ∃ v, oS vs k = some v /\ bH K CL Z d v := by
 unfold oS at h ⊢
 rw [← r.length]
 cases e : Gm ds.length k with
 | none => rw [e] at h; cases h
 | some j =>
   rw [e] at h
   exact r.get h
theorem fH {k : Int} (h1 : cG X CL b e1 δ (.tup ds) δ1) (h2 : cG X CL b e2 δ1 (.int k) δ2) (hk : oS ds k = some d) (hs : oU e2 := by exact fun _ _ => rfl) : cG X CL b (.Subscript e1 e2 pos) δ d δ2 := fun H Z σ ts vs Q S kk =>
 cS (E2 Ti d9 d9 hs) (h1 H Z σ ts vs _ S fun v1 H1 Z1 z1 k1 S1 r1 => h2 H1 Z1 σ ts vs _ S1 fun v2 H2 Z2 z2 k2 S2 r2 => by
   have T3 := r1.mono k2
   cases T3 with
   | tup hq rr =>
     obtain ⟨v, hv, rv⟩ := xU rr hk
     exact ⟨_, _, k, v, rfl, r2.sc rfl, hq, hv, kk v H2 Z2 (z1.trans z2) (k1.trans k2) S2 rv⟩)
theorem aM {k : Int} (h1 : cG X CL b e1 δ (.lst ds) δ1) (h2 : cG X CL b e2 δ1 (.int k) δ2) (hk : oS ds k = some d) (hs : oU e2 := by exact fun _ _ => rfl) : cG X CL b (.Subscript e1 e2 pos) δ d δ2 := fun H Z σ ts vs Q S kk =>
 cS (E2 E3 d9 d9 hs) (h1 H Z σ ts vs _ S fun v1 H1 Z1 z1 k1 S1 r1 => h2 H1 Z1 σ ts vs _ S1 fun v2 H2 Z2 z2 k2 S2 r2 => by
   have T3 := r1.mono k2
   cases T3 with
   | lst hq rr =>
     obtain ⟨v, hv, rv⟩ := xU rr hk
     exact ⟨_, _, k, v, rfl, r2.sc rfl, hq, hv, kk v H2 Z2 (z1.trans z2) (k1.trans k2) S2 rv⟩)
theorem IZ {k : Int} {x : Str} {c : Nat} (h1 : cG X CL b e1 δ (.str x) δ1) (h2 : cG X CL b e2 δ1 (.int k) δ2) (hl : x.length <= sizeLine) (hk : oS x.cps.toList k = some c) (hs : oU e2 := by exact fun _ _ => rfl) : b9 X CL b (.Subscript e1 e2 pos) δ (.sh (.str ⟨#[c]⟩)) δ2 := fun H Z σ ts vs Q S kk =>
 cS (E2 Tj d9 d9 hs) (h1 H Z σ ts vs _ S fun v1 H1 Z1 z1 k1 S1 r1 => h2 H1 Z1 σ ts vs _ S1 fun v2 H2 Z2 z2 k2 S2 r2 =>
   ⟨x, k, c, r1.sc rfl, r2.sc rfl, hl, hk, kk _ H2 Z2 (z1.trans z2) (k1.trans k2) (S2.push (.str _))⟩)
theorem T4 {k : Int} (h1 : b9 X CL b e1 δ (.sh (.lst ds)) δ1) (h2 : cG X CL b e2 δ1 (.int k) δ2) (hk : oS ds k = some d) (hs : oU e2 := by exact fun _ _ => rfl) : b9 X CL b (.Subscript e1 e2 pos) δ (.sh d) δ2 := fun H Z σ ts vs Q S kk =>
 cS (E2 E3 d9 d9 hs) (h1 H Z σ ts vs _ S fun v1 H1 Z1 z1 k1 S1 => h2 H1 Z1 σ _ _ _ S1 fun v2 H2 Z2 z2 k2 S2 r2 => by
   obtain ⟨fp, gp, _, r, _, _⟩ := S2.rep
   cases r with
   | cons r _ =>
     cases r with
     | sh r =>
       cases r with
       | lst hq rr =>
         obtain ⟨v, hv, rv⟩ := xU rr hk
         exact ⟨_, _, k, v, rfl, r2.sc rfl, S2.zh.seq hq, hv, kk v H2 Z2 (z1.trans z2) (k1.trans k2) (S2.pop.push rv)⟩)
end
section
variable {K : PySem.W.Frag} {CL : Str -> Addr} {b : Bx} {H H' Z Z' : Hp} {δ δ' : List (Option T)} {σ σ' : L2.St} {ts tl : List T} {vs us : List V} {t : T} {v : V}
theorem bW.oY : ∀ {ds : List D} {us : List V} {ts : List T} {vs : List V}, aB K CL Z ds us -> bW K CL b H Z δ σ ts vs -> bW K CL b H Z δ σ ((ds.map T.sh).reverse ++ ts) (us.reverse ++ vs)
 | _, _, _, _, .nil, S => S
 | _, _, ts, vs, .cons (d := d) (v := v) (ds := ds) (vs := us) r t, S => by
   rw [afO, agI, agI, afr, afr]
   exact bW.oY t (S.push r)
end
section
variable {X : Cx} {CL : Str -> Addr} {b : Bx} {δ δ1 δ2 δ3 : List (Option T)} {e e1 e2 e3 : Expr} {es : List Expr} {t t1 t2 : T} {d d1 d2 : D} {tl : List T} {ds : List D} {p q : Bool} {pos pp : Pos}
theorem E6 (hm : X.mg "len" = none) (h : cG X CL b e δ (.lst ds) δ1) (hg : Gl X "len" := by rfl) (hs : starEach [e] X.env = (false, eval e X.env) :: starEach [] X.env := by exact bM rfl) (wk : (backTo pos (starEach ([] : List Expr) X.env)).any (·.1) = false := by rfl) : b9 X CL b (.Call (.Name "len" pp) [e] [] pos) δ (.sh (.int ds.length)) δ1 := fun H Z σ ts vs Q S k =>
 cS (oR xR hg hm PySem.boot_len (cg d9 eH hs) (he := hs)) (h H Z σ ts vs _ S fun v H1 Z1 z1 k1 S1 r => by
   cases r with
   | lst hq rr => exact ⟨_, _, rfl, .inl hq, by rw [← rr.length]; exact k _ H1 Z1 z1 k1 (S1.push (.int _))⟩)
theorem dB (hm : X.mg "list" = none) (h : cG X CL b e δ (.lst ds) δ1) (hi : D.bT ds = true) (hg : Gl X "list" := by rfl) (hv : bootBuiltins "list" = some (.type "list") := by rfl) (hs : starEach [e] X.env = (false, eval e X.env) :: starEach [] X.env := by exact bM rfl) : b9 X CL b (.Call (.Name "list" pp) [e] [] pos) δ (.lst (ds.map T.sh)) δ1 := fun H Z σ ts vs Q S k =>
 cS (iA xS hg hm hv (cg d9 eH hs) (he := hs)) (h H Z σ ts vs _ S fun v H1 Z1 z1 k1 S1 r => by
   cases r with
   | lst hq rr =>
     refine ⟨_, _, rfl, .inl hq, fun l hl => ?_⟩
     obtain ⟨c, S2⟩ := (bW.oY (aB.jz S1.tp hi rr) S1).lz (g0 := []) (by simp [rr.length]) hl
     exact k _ _ _ z1 (k1.trans c) S2)
noncomputable def jA (K : PySem.W.Frag) (CL : Str -> Addr) {A : Type} (n : Nat) (arg : A -> List D) (Pre : A -> Prop) (res : A -> T) : Sp := fun vs H Q _ =>
 ∃ (W : Hp) (a : A), aC W H /\ (∀ c o, H c = some o -> gR o = true -> W c = some o) /\ aB K CL W (arg a) vs /\ (arg a).length = n /\ Pre a /\ jW CL W ∧
   ∀ v H' W' fp, aC H H' -> aC W W' -> aC W' H' -> (∀ c o, W' c = some o -> W c = none -> H c = none) -> (∀ c o, H' c = some o -> gR o = true -> W' c = some o) →
     cR K CL H' W' (res a) v fp -> fp.Nodup -> (∀ c ∈ fp, W' c = none /\ H c = none) -> Q v H'
section
variable {A : Type} {k n : Nat} {f : Addr} {fd : FuncData} {ps : List Str} {arg : A -> List D} {Pre : A -> Prop} {res : A -> T} {x : Str}
theorem M3 (a : A) (F : bP X.prog X.w X.K X.mg X.base fP k f fd ps (jA X.K CL n arg Pre res)) (hr : d8 k X.A) (hm : X.mg x = some (.ref f)) (hk : PySem.W.keepIn X.K (.ref f) = true) (hb : Binds X.K fd ps [])
   (h : Rz X CL b (e :: es) δ (arg a) δ1) (hn : (arg a).length = n) (hp : Pre a) (hc : (res a).clean = true) (hg : Gl X x)
   (wj : (x == ("__debug__" : Str)) = false := by decide) (he : starEach (e :: es) X.env = (false, eval e X.env) :: starEach es X.env := by exact bM rfl) (wk : (backTo pos (starEach es X.env)).any (·.1) = false := by rfl) :
   b9 X CL b (.Call (.Name x pp) (e :: es) [] pos) δ (res a) δ1 := fun H Z σ ts vs Q S kk =>
 cS (MG F hr hg hm hk hb .nil E4 MS wj he wk) (h H Z σ ts vs _ S fun us H1 Z1 z1 k1 S1 r => by
   rw [af2]
   refine ⟨H1, a, .refl _, fun _ _ q _ => q, r, hn, hp, S1.Gv, fun v H' W' fp hh ww wh nw tp rt nd own => ?_⟩
   obtain ⟨Z', z', S'⟩ := S1.back hh S1.zh ww wh nw tp rt nd own (.inr hc)
   exact kk v H' Z' (z1.trans z') (k1.trans hh) S')
end
variable {D D' : cX} {st : Stmt} {gq Xj : List Stmt}
theorem Meets.to {K : PySem.W.Frag} {Z : Hp} {ts : List T} {vs : List V} {E : Ends} (M : Meets K CL b Z ts vs D E) (h1 : ∀ δ, D'.nx δ -> D.nx δ) (h2 : ∀ t δ, D'.rt t δ -> D.rt t δ) (h3 : ∀ δ, D'.bk δ -> D.bk δ) (h4 : ∀ δ, D'.ct δ -> D.ct δ) : Meets K CL b Z ts vs D' E :=
 ⟨fun _ _ _ _ s S k => M.nx _ _ _ _ s S (h1 _ k), fun _ _ _ _ _ _ s S k => M.rt _ _ _ _ _ _ s S (h2 _ _ k), fun _ _ _ _ s S k => M.bk _ _ _ _ s S (h3 _ k), fun _ _ _ _ s S k => M.ct _ _ _ _ s S (h4 _ k)⟩
theorem av (h : D.nx δ) : fF X CL b [] δ D := fun H Z σ ts vs E S M => Xf Mz (M.nx δ σ H Z (.refl _) S h)
theorem dW (h : RA X CL b st δ { D with nx := fun δ1 => fF X CL b gq δ1 D }) : fF X CL b (st :: gq) δ D := fun H Z σ ts vs E S M =>
 Xf (Io psS MT) (h H Z σ ts vs _ S ⟨fun δ' σ' H' Z' s S' k => k H' Z' σ' ts vs E S' (M.mono s), M.rt, M.bk, M.ct⟩)
theorem M4 (h : D.ct δ) : RA X CL b (.Continue pos) δ D := fun H Z σ ts vs E S M => wB A9 (M.ct δ σ H Z (.refl _) S h)
theorem T5 (h : b9 X CL b e δ t δ1) (k : D.rt t δ1) : RA X CL b (.Return (some e) pos) δ D := fun H Z σ ts vs E S M => wB (SD d9) (h H Z σ ts vs _ S fun v H1 Z1 z1 k1 S1 => M.rt t v H1 Z1 δ1 σ z1 S1 k)
theorem Xk (h : oX X CL b e δ p δ1) (h1 : p = true -> fF X CL b gq δ1 D) (h2 : p = false -> fF X CL b Xj δ1 D) : RA X CL b (.If e gq Xj pos) δ D := fun H Z σ ts vs E S M =>
 wB (WL TF MT MT) (h H Z σ ts vs _ S fun H1 Z1 z1 k1 S1 => by
   cases p with
   | true => exact Gr (h1 rfl H1 Z1 σ ts vs E S1 (M.mono z1))
   | false => exact Gq (h2 rfl H1 Z1 σ ts vs E S1 (M.mono z1)))
theorem I0 (i : Nat) {x : Str} {pos' : Pos} (h : b9 X CL b e δ t δ1) (k : D.nx (δ1.set i (some t))) (hl : i < δ1.length := by decide) (hN : X.N.Nodup := by assumption) (hi : X.N[i]? = some x := by rfl) (hx : Loc X.env.scope x := by first | exact .inl rfl | exact .inr rfl)
   (hs : swapsWith e (some (.Name x pos')) pos.line X.env = pure false := by rfl) (hf : X.fn x = true \/ X.env.scope.names.lookup x = some .local := by first | exact .inl rfl | exact .inr rfl | assumption) : RA X CL b (.Assign [.Name x pos'] e pos) δ D := fun H Z σ ts vs E S M =>
 wB (SM hN hi hx d9 hs hf) (h H Z σ ts vs _ S fun v H1 Z1 z1 k1 S1 => M.nx _ _ H1 Z1 z1 (S1.set hl) k)
end
noncomputable def entry (N : List Str) (ds : List D) : List (Option T) := ds.map (fun d => some (T.sh d)) ++ List.replicate (N.length - ds.length) none
theorem iG {K : PySem.W.Frag} {CL : Str -> Addr} {H Z : Hp} : ∀ {ds : List D} {vs : List V} (n : Nat), aB K CL Z ds vs -> fq K CL H Z (ds.map (fun d => some (T.sh d)) ++ List.replicate n none) (vs.map some ++ List.replicate n none) []
 | _, _, 0, .nil => .nil
 | _, _, n + 1, .nil => .skip (iG (ds := []) (vs := []) n .nil)
 | _, _, n, .cons r t => .cons (fp := []) (gp := []) (.sh r) (iG n t)
theorem bq {P : Program} {w : World} {K : PySem.W.Frag} {mg : Str -> Option Value} {base : Heap} {CL : Str -> Addr} {x qual : Str} {st : Stmt} {f : Addr} {fd : FuncData} {N ps : List Str} {k : Nat} {A : Type} {arg : A -> List D} {Pre : A -> Prop} {res : A -> T} (F : iT K x qual st f fd) (S : aL N ps (ao st))
   (hb : ∀ (c9 : Value) (Ar : Around) (outer : List Env) (s : Shared) (H : Hp) (E : XK) (b : Bx) (a : A), d8 k (Ar.deeper (envOfC qual (ao st) s.heap.objs.size f c9)) -> Pre a →
     fF (uq fP P w K mg base N qual (ao st) f c9 Ar outer s H E).Ml CL b (fE st) (entry N (arg a)) { nx := fun _ => res a = .sh .non, rt := fun t _ => t = res a }) :
   bP P w K mg base fP (k + 1) f fd ps (jA K CL ps.length arg Pre res) := by
 refine F.ok S (fun vs H Q E h => ?_) (fun c9 Ar outer s H vs Q E hr h => ?_)
 . obtain ⟨W, a, _, _, r, hl, _⟩ := h
   rw [← r.length]; exact hl
 . obtain ⟨W, a, wh, tp, r, hl, hp, tb, kk⟩ := h
   refine ⟨_, MT, hb c9 Ar outer s H E ⟨H, W⟩ a hr hp H W _ [] [] _ ⟨⟨[], [], ?_, .nil, ags, fun a ha => by cases ha⟩, .refl _, .refl _, wh, fun a o q z => ?_, tp, tb⟩ ⟨fun δ' σ' H' Z' s' S' e => ?_, fun t v H' Z' δ' σ' s' S' e => ?_, fun _ _ _ _ _ _ e => e.elim, fun _ _ _ _ _ _ e => e.elim⟩⟩
   . unfold entry L2.start
     rw [← r.length]
     exact iG _ r
   . have q' : W a = some o := q
     have z' : W a = none := z
     rw [q'] at z'; cases z'
   . exact kk .non H' Z' [] S'.bh S'.zz S'.zh S'.new S'.tp (by rw [show res a = .sh .non from e]; exact .sh .non) ags fun a ha => by cases ha
   . have e' : t = res a := e
     subst e'
     obtain ⟨fp, gp, _, r', nd, own⟩ := S'.rep
     cases r' with
     | @cons _ _ _ _ f1 f2 r1 r2 =>
       have h1 := (afY.mp nd).2.1
       exact kk v H' Z' f1 S'.bh S'.zz S'.zh S'.new S'.tp r1 (afY.mp h1).1 fun a ha => own a (afh _ (afy _ ha))
section
variable {prog : Program} {w : World} {A : Around} {R : Result -> Shared -> Prop} {s : Shared}
theorem xV {elt target iter : Expr} {ifs : List Expr} {scope : Scope} {pos : Pos} {it acc : Value} {env : Env} (I : Nat -> Shared -> Prop)
   (turn : ∀ n s, I n s -> wpAny (model prog w) A (pyNext it) (fun r s₁ => match r with
     | none => R (.ok .next) s₁
     | some v => wpAny (model prog w) A (letOwnedTupleGo target it v) (fun _ RH => wpAny (model prog w) A (assign target env v) (fun _ s₂ =>
         wpAny (model prog w) A (forIn ifs true fun c r => if r = true then do let ok ← isTrue c env (eval c env); pure (ForInStep.yield ok) else pure (ForInStep.yield r)) (fun ok s₃ =>
           if ok = true then wpAny (model prog w) A (eval elt env) (fun x s₄ =>
             wpAny (model prog w) A (call (.builtin "list.append") [acc, x]) (fun _ s₅ => ∃ m, m < n /\ I m s₅) (fun _ _ => False) s₄) (fun _ _ => False) s₃
           else ∃ m, m < n /\ I m s₃) (fun _ _ => False) s₂) (fun _ _ => False) RH) (fun _ _ => False) s₁) (fun _ _ => False) s)
   (n : Nat) (h : I n s) :
   codeAny (model prog w) A (.compLoop (.ListComp elt [⟨target, iter, ifs, 0⟩] scope pos) 0 it acc env) R s := by
 refine codeAny_loop rfl I (fun n s hI => ?_) n h
 show wpAny _ A ((compTurn (.ListComp elt [⟨target, iter, ifs, 0⟩] scope pos) 0 it acc env).onRaise (fun x => do noteFrame x env; theTreesLotGoes x)) _ _ s
 refine wpAny_noted ?_
 rw [compTurn_list]
 refine afz (wpAny_standAt (afz (agn (turn n s hI) (fun r s₁ h₁ => ?_) fun _ _ h' => h'.elim)))
 cases r with
 | none => exact af1 h₁
 | some v =>
   refine afz (agn h₁ (fun _ RH Xl => ?_) fun _ _ h' => h'.elim)
   refine afz (agn Xl (fun _ s₂ h₂ => afz (agn h₂ (fun ok s₃ h₃ => ?_) fun _ _ h' => h'.elim)) fun _ _ h' => h'.elim)
   cases ok with
   | false => exact af1 ⟨rfl, h₃⟩
   | true =>
     exact afz (afz (agn h₃ (fun x s₄ h₄ => afz (agn h₄ (fun _ s₅ h₅ => af1 (af1 ⟨rfl, h₅⟩)) fun _ _ h' => h'.elim)) fun _ _ h' => h'.elim))
end
noncomputable def cy (env : Env) : List (Str × NameKind) -> List (Str × Addr) -> List (Str × Addr)
 | [], cs => cs
 | (n, k) :: r, cs => cy env r (if k == .free then (n, (env.cells.lookup n).getD 0) :: cs else cs)
theorem jh {scope : Scope} {env : Env} (h : ∀ x ∈ scope.names, x.2 = .free -> ∃ c, env.cells.lookup x.1 = some c) : closureFor scope env = pure (cy env scope.names []) := by
 have go : ∀ (l : List (Str × NameKind)) (cs : List (Str × Addr)), (∀ x ∈ l, x.2 = .free -> ∃ c, env.cells.lookup x.1 = some c) →
     (forIn l cs fun x r => match x with | (name, kind) => if (kind == NameKind.free) = true then do let a ← cellOf env name; pure (ForInStep.yield ((name, a) :: r)) else pure (ForInStep.yield r) : Sem (List (Str × Addr))) = pure (cy env l cs) := by
   intro l
   induction l with
   | nil => intro cs _; rfl
   | cons x r ih =>
     intro cs hx
     obtain ⟨n, k⟩ := x
     rw [List.forIn_cons]
     by_cases hk : k = .free
     . subst hk
       obtain ⟨c, hc⟩ := hx (n, .free) afo rfl
       have e : cellOf env n = pure c := by unfold cellOf; rw [hc]
       simp only [agp, agQ, e, pure_bind]
       rw [ih _ fun y hy => hx y (afq _ hy)]
       simp only [cy, agp, agQ]
       rw [hc]; rfl
     . have hb : (k == NameKind.free) = false := by simpa using hk
       simp only [hb, aga, agF, pure_bind]
       rw [ih _ fun y hy => hx y (afq _ hy)]
       simp only [cy, hb, aga, agF]
 unfold closureFor
 have := go scope.names [] h
 simp only [bind_pure] at this ⊢
 exact this
theorem jY {env : Env} : ∀ {l : List (Str × NameKind)} {cs : List (Str × Addr)} {y : Str} {c : Addr}, (∀ x ∈ l, x.2 = .free -> ∃ c, env.cells.lookup x.1 = some c) -> (∀ y c, cs.lookup y = some c -> env.cells.lookup y = some c) →
   (cy env l cs).lookup y = some c -> env.cells.lookup y = some c
 | [], cs, y, c, _, h, e => h y c e
 | (n, k) :: r, cs, y, c, hx, h, e => by
   refine jY (l := r) (fun z hz => hx z (afq _ hz)) (fun z d hz => ?_) e
   by_cases hk : k = .free
   . subst hk
     obtain ⟨c', hc⟩ := hx (n, .free) afo rfl
     simp only [agp, agQ, hc, Option.getD_some, afN] at hz
     by_cases hzn : (z == n) = true
     . rw [hzn] at hz
       have : z = n := by simpa using hzn
       subst this
       cases hz
       exact hc
     . have : (z == n) = false := by simpa using hzn
       rw [this] at hz
       exact h z d hz
   . have hb : (k == NameKind.free) = false := by simpa using hk
     rw [hb] at hz
     exact h z d hz
theorem r9 {env : Env} {y : Str} : ∀ {l : List (Str × NameKind)} {cs : List (Str × Addr)}, (∃ c, cs.lookup y = some c) -> ∃ c, (cy env l cs).lookup y = some c
 | [], cs, h => h
 | (n, k) :: r, cs, h => by
   refine r9 (l := r) ?_
   by_cases hk : (k == NameKind.free) = true
   . rw [afk hk, afN]
     by_cases hy : (y == n) = true
     . rw [hy]; exact ⟨_, rfl⟩
     . have : (y == n) = false := by simpa using hy
       rw [this]; exact h
   . rw [afi hk]; exact h
theorem iH {env : Env} {y : Str} : ∀ {l : List (Str × NameKind)} {cs : List (Str × Addr)}, l.lookup y = some .free -> ∃ c, (cy env l cs).lookup y = some c
 | [], _, h => by simp at h
 | (n, k) :: r, cs, h => by
   rw [afN] at h
   by_cases hy : (y == n) = true
   . rw [hy] at h
     cases h
     refine r9 (l := r) ?_
     rw [afk (by rfl), afN, hy]
     exact ⟨_, rfl⟩
   . have : (y == n) = false := by simpa using hy
     rw [this] at h
     exact iH (l := r) h
noncomputable def cT (X : Cx) (scope : Scope) (Nc : List Str) (C : Addr) (s : Shared) (H : Hp) (fp : List Addr) : Cx where
 prog := X.prog
 w := X.w
 K := X.K
 mg := X.mg
 base := X.base
 A := X.A
 N := Nc
 s₀ := s
 H₀ := H
 env := compEnvC scope (cy X.env scope.names []) C X.env
 outer := X.stack
 stack := X.stack
 ex := fp
 fn := fun _ => false
 calm := X.calm
 pn := []
 xe := fun _ _ => False
structure eZ (X : Cx) (scope : Scope) (x : Str) (Nc : List Str) (ix : List Nat) : Prop where
 kind : scope.kind = .function
 qO : ∀ y ∈ scope.names, y.2 ≠ .cell
 nd : Nc.Nodup
 names : ∀ y ∈ scope.names, y.2 = .local -> scope.names.lookup y.1 = some .local
 own : scope.names.lookup x = some .local
 frees : ∀ y ∈ scope.names, y.2 = .free -> scope.names.lookup y.1 = some .free /\ (X.env.kindOf y.1 = some .cell \/ X.env.kindOf y.1 = some .free)
 hd : Nc = x :: ix.filterMap (X.N[·]?)
 RJ : ∀ i ∈ ix, ∃ y, X.N[i]? = some y /\ scope.names.lookup y = some .free
theorem eL {env : Env} : ∀ {names : List (Str × NameKind)} {x : Str} {k : NameKind}, names.lookup x = some k -> 
   (names.map fun (n, k) => if (k == NameKind.free && env.scope.kind == .function && env.kindOf n == some .cell) then (n, NameKind.cell) else (n, k)).lookup x = some (if (k == NameKind.free && env.scope.kind == .function && env.kindOf x == some .cell) then .cell else k)
 | [], _, _, h => by simp at h
 | (n, k') :: r, x, k, h => by
   have ih := @eL env r x k
   show List.lookup x ((if (k' == NameKind.free && env.scope.kind == .function && env.kindOf n == some .cell) = true then (n, NameKind.cell) else (n, k')) :: _) = _
   cases hx : x == n with
   | true =>
     simp only [afN, hx] at h
     cases h
     have e : x = n := by simpa using hx
     subst e
     split <;> simp [afN]
   | false =>
     simp only [afN, hx] at h
     split
     . simp only [afN, hx]; exact ih h
     . simp only [afN, hx]; exact ih h
theorem gU {env : Env} : ∀ {names : List (Str × NameKind)} {x : Str}, names.lookup x = none -> 
   (names.map fun (n, k) => if (k == NameKind.free && env.scope.kind == .function && env.kindOf n == some .cell) then (n, NameKind.cell) else (n, k)).lookup x = none
 | [], _, _ => rfl
 | (n, k') :: r, x, h => by
   have ih := @gU env r x
   show List.lookup x ((if (k' == NameKind.free && env.scope.kind == .function && env.kindOf n == some .cell) = true then (n, NameKind.cell) else (n, k')) :: _) = _
   cases hx : x == n with
   | true => simp only [afN, hx] at h; cases h
   | false =>
     simp only [afN, hx] at h
     split
     . simp only [afN, hx]; exact ih h
     . simp only [afN, hx]; exact ih h
section
variable {X : Cx} {scope : Scope} {x : Str} {Nc : List Str} {ix : List Nat} {pins : List (Addr × Obj)} {σ : L2.St} {H : Hp} {s : Shared}
noncomputable def qP (σ : L2.St) (ix : List Nat) (o : Option V) : L2.St := o :: ix.map fun i => (σ[i]?).getD none
theorem Gw {fp : List Addr} {iE : List (Addr × Obj)} {σ' : L2.St} {H' : Hp} {s' : Shared} {Wb : Heap} (I : Inv X pins σ H s) (oM : ∀ b ∈ fp, gX X pins H b)
   (J : Inv (cT X scope Nc s.heap.objs.size s H fp) iE σ' H' s') (hs : Heap.SameBut s.heap.objs.size s'.heap Wb) : Inv X pins σ H' { s' with heap := Wb } := by
 have un : Un (HW X.stack) fp H H' s.heap s'.heap := J.base
 have un2 : Un (HW X.stack) fp H H' s.heap Wb := by
   have ne : ∀ b o, s.heap.get? b = some o -> b ≠ s.heap.objs.size := fun b o e => afX (afA e)
   refine ⟨fun b o e n hb hx => (hs.2 b (ne b o e)).trans (un.keep b o e n hb hx), fun b o e n hb hx => ?_, un.free, fun b o e hx => ?_, un.xG, un.gQ, un.xH⟩
   . obtain ⟨sl, q⟩ := un.slot b o e n hb hx
     exact ⟨sl, (hs.2 b (ne b o e)).trans q⟩
   . obtain ⟨o', q⟩ := un.there b o e hx
     exact ⟨o', (hs.2 b (ne b o e)).trans q⟩
 have nC : H' s.heap.objs.size = none := J.free
 have dO : sF X.prog X.w H' Wb := fun b u e => by
   refine (J.dO b u e).A5 (fun c v hc q => (hs.2 c ?_).trans q) (fun _ q => q) fun _ _ q => q
   rintro rfl
   rcases hc with z | z
   . subst z; rw [nC] at e; cases e
   . rw [nC] at z; cases z
 obtain ⟨hh, g, d, t, V8⟩ := s'
 obtain rfl : V8 = s.os := J.os
 show L2.Inv X pins σ H' { s with heap := Wb, gens := g, drawn := d, toks := t }
 exact I.call (h' := Wb) (g' := g) (d' := d) (t' := t) (ch := fp) un2 dO J.bare fun b hb => ⟨(oM b hb).2.2.2.1, (oM b hb).2.1, (oM b hb).2.2.2.2.1, (oM b hb).2.2.2.2.2⟩
noncomputable def T6 (X : Cx) : List Expr -> TT
 | [] => fun _ H Q => Q true H
 | [c] => MR X c
 | _ => fun _ _ _ => False
theorem Ja {ifs : List Expr} {Q : Bool -> Hp -> Prop} (I : Inv X pins σ H s) (h : T6 X ifs σ H Q) (hx : X.xe = fun _ _ => False) :
   wpAny (model X.prog X.w) X.A (forIn ifs true fun c r => if r = true then do let ok ← isTrue c X.env (eval c X.env); pure (ForInStep.yield ok) else pure (ForInStep.yield r)) (TP X pins σ Q) (fun _ _ => False) s := by
 match ifs, h with
 | [], h => exact wpAny_tests_nil ⟨H, I, h⟩
 | [c], h =>
   have := h pins s I
   rw [hx] at this
   exact wpAny_tests_one this
end
noncomputable def ZG (X : Cx) (CL : Str -> Addr) (b : Bx) (ifs : List Expr) (δ : List (Option T)) (p : Bool) : Prop :=
 match ifs with
 | [] => p = true
 | [c] => oX X CL b c δ p δ
 | _ => False
theorem ZG.sem {X : Cx} {CL : Str -> Addr} {b : Bx} {ifs : List Expr} {δ : List (Option T)} {p : Bool} (h : ZG X CL b ifs δ p) {H Z : Hp} {σ : L2.St} {Q : Bool -> Hp -> Prop} (S : bW X.K CL b H Z δ σ [] [])
   (k : ∀ H' Z', aC Z Z' -> aC H H' -> bW X.K CL b H' Z' δ σ [] [] -> Q p H') : T6 X ifs σ H Q := by
 match ifs, h with
 | [], h =>
   have e : p = true := h
   subst e
   exact k H Z (.refl _) (.refl _) S
 | [c], h => exact (show oX X CL b c δ p δ from h) H Z σ [] [] Q S k
theorem gu {ts : List T} : (T.lst ts).clean = T.eK ts := by rw [T.clean]
theorem uy {g : D -> T} : ∀ {ds : List D}, (∀ d ∈ ds, (g d).clean = true) -> T.eK (ds.map g) = true
 | [], _ => by rw [List.map_nil, T.eK]
 | d :: ds, h => by
   rw [afO, T.eK, h d afo, uy fun e he => h e (afq _ he)]
   rfl
section
variable {X : Cx} {CL : Str -> Addr} {b : Bx} {H Z W1 : Hp} {δ δc : List (Option T)} {σ : L2.St} {ts : List T} {vs us : List V} {ds : List D} {scope : Scope} {Nc : List Str} {ix : List Nat} {elt : Expr} {ifs : List Expr} {p : D -> Bool} {g : D -> T} {J : It}
end
section
variable {K : PySem.W.Frag} {CL : Str -> Addr} {b : Bx} {H H' Z Z' : Hp} {δ δ' : List (Option T)} {σ σ' : L2.St} {ts tl : List T} {vs us : List V} {t : T} {v : V}
theorem aX.at : ∀ {tl : List T} {us : List V} {fp : List Addr} {j : Nat} {t : T}, aX K CL H Z tl us fp -> tl[j]? = some t -> ∃ v f1 f2 f3, us[j]? = some v /\ fp = f1 ++ (f2 ++ f3) /\ cR K CL H Z t v f2 ∧
   ∀ {H' : Hp} {t' : T} {v' : V} {g : List Addr}, (∀ a ∈ f1 ++ f3, H' a = H a) -> cR K CL H' Z t' v' g -> aX K CL H' Z (tl.set j t') (us.set j v') (f1 ++ (g ++ f3))
 | _, _, _, _, _, .nil, e => by simp at e
 | _, _, _, 0, _, .cons (fp := fp) (gp := gp) r q, e => by
   simp at e
   subst e
   exact ⟨_, [], fp, gp, rfl, rfl, r, fun {H' t' v' g} k r' => aX.cons (fp := g) (gp := gp) r' (aX.mono (fp := gp) (.refl _) (fun a ha => k a (by simpa using ha)) q)⟩
 | _, _, _, j + 1, t, .cons (fp := fp) (gp := gp) r q, e => by
   obtain ⟨v, f1, f2, f3, h1, h2, h3, h4⟩ := aX.at (j := j) (t := t) q (by simpa using e)
   refine ⟨v, fp ++ f1, f2, f3, by simpa using h1, by rw [h2, List.append_assoc], h3, fun k r' => ?_⟩
   rw [afr]
   exact .cons (r.mono (.refl _) fun a ha => k a (by simp [ha])) (h4 (fun a ha => k a (by rw [afr]; exact afh _ ha)) r')
theorem lA {α : Type} {l : List α} {i : Nat} {x : α} (h : l[i]? = some x) : l.set i x = l := by
 apply agH
 intro j
 rw [List.getElem?_set]
 split
 . rename_i e; subst e
   split
   . exact h.symm
   . rename_i h2; rw [agR (by omega)]
 . rfl
theorem bW.write {a : Addr} {xs : List V} {f1 f2 f3 g gp T7 : List Addr} {δ2 : List (Option T)} (S : bW K CL b H Z δ σ ts vs) (nd : ((f1 ++ (f2 ++ f3)) ++ gp).Nodup) (own : ∀ c ∈ (f1 ++ (f2 ++ f3)) ++ gp, Z c = none /\ b.B c = none) (ha : a ∈ f2)
   (hH : ∃ o, H a = some o) (e' : fq K CL (upd H a (.lst xs)) Z δ2 σ (f1 ++ (g ++ f3))) (r' : aX K CL (upd H a (.lst xs)) Z tl us T7) (pm : ((f1 ++ (g ++ f3)) ++ T7).Nodup) (sub : ∀ c ∈ (f1 ++ (g ++ f3)) ++ T7, c ∈ (f1 ++ (f2 ++ f3)) ++ gp) :
   bW K CL b (upd H a (.lst xs)) Z δ2 σ tl us := by
 have oa := own a (by simp [ha])
 refine ⟨⟨_, _, e', r', pm, fun c hc => own c (sub c hc)⟩, fun c o q => ?_, S.zz, fun c o q => ?_, S.new, fun c o q i => ?_, S.tab⟩
 . rw [az (aG q oa.2)]; exact S.bh c o q
 . rw [az (aG q oa.1)]; exact S.zh c o q
 . by_cases hc : c = a
   . subst hc; rw [aQ] at q; cases q; cases i
   . rw [az hc] at q; exact S.tp c o q i
theorem bW.append {i : Nat} (S : bW K CL b H Z δ σ (t :: ts) (v :: vs)) (hi : δ[i]? = some (some (.lst tl))) :
   ∃ a us, σ[i]? = some (some (.ref a)) /\ H a = some (.lst us) /\ us.length = tl.length /\ bW K CL b (upd H a (.lst (us ++ [v]))) Z (δ.set i (some (.lst (tl ++ [t])))) σ ts vs := by
 obtain ⟨fp, gp, e, r, nd, k⟩ := S.rep
 obtain ⟨v0, f1, f2, f3, hv, oM, rt, put, _⟩ := e.get hi
 subst oM
 cases rt with
 | @lst a us _ g ha rs =>
   cases r with
   | @cons _ _ _ _ ft gr q1 q2 =>
     have ne : ∀ c ∈ (f1 ++ (g ++ f3)) ++ (ft ++ gr), c ≠ a := fun c hc e => by
       subst e
       have hp : ((f1 ++ ((c :: g) ++ f3)) ++ (ft ++ gr)).Perm (c :: ((f1 ++ (g ++ f3)) ++ (ft ++ gr))) := by
         rw [afS, ← afS]
         exact (List.perm_middle.append_right _)
       exact (agD.mp (hp.nodup_iff.mp nd)).1 hc
     refine ⟨a, us, hv, ha, rs.length.symm, ?_⟩
     have r1 : cR K CL (upd H a (.lst (us ++ [v]))) Z (.lst (tl ++ [t])) (.ref a) (a :: (g ++ (ft ++ []))) :=
       .lst aQ (aX.app (rs.mono (.refl _) fun c hc => az (ne c (by simp [hc]))) (.cons (q1.mono (.refl _) fun c hc => az (ne c (by simp [hc]))) .nil))
     have e2 := put (H' := upd H a (.lst (us ++ [v]))) (.refl _) (fun c hc => az (ne c (by
       rcases afu.mp hc with h | h
       . simp [h]
       . simp [h]))) r1
     rw [lA hv] at e2
     have hp : ((f1 ++ ((a :: (g ++ (ft ++ []))) ++ f3)) ++ gr).Perm ((f1 ++ ((a :: g) ++ f3)) ++ (ft ++ gr)) := by
       simp only [af2, afS, afr]
       refine af9 f1 (List.Perm.cons a (af9 g ?_))
       rw [← afr, ← afr]
       exact af3.append_right gr
     exact S.write nd k (afo) ⟨_, ha⟩ e2 (q2.mono (.refl _) fun c hc => az (ne c (by simp [hc]))) (hp.nodup_iff.mpr nd) fun c hc => hp.mem_iff.mp hc
theorem bW.setAt {i j : Nat} (S : bW K CL b H Z δ σ (t :: ts) (v :: vs)) (hi : δ[i]? = some (some (.lst tl))) (hj : j < tl.length) :
   ∃ a us, σ[i]? = some (some (.ref a)) /\ H a = some (.lst us) /\ us.length = tl.length /\ bW K CL b (upd H a (.lst (us.set j v))) Z (δ.set i (some (.lst (tl.set j t)))) σ ts vs := by
 obtain ⟨fp, gp, e, r, nd, k⟩ := S.rep
 obtain ⟨v0, f1, f2, f3, hv, oM, rt, put, _⟩ := e.get hi
 subst oM
 cases rt with
 | @lst a us _ g ha rs =>
   cases r with
   | @cons _ _ _ _ ft gr q1 q2 =>
     have ne : ∀ c ∈ (f1 ++ (g ++ f3)) ++ (ft ++ gr), c ≠ a := fun c hc e => by
       subst e
       have hp : ((f1 ++ ((c :: g) ++ f3)) ++ (ft ++ gr)).Perm (c :: ((f1 ++ (g ++ f3)) ++ (ft ++ gr))) := by
         rw [afS, ← afS]
         exact (List.perm_middle.append_right _)
       exact (agD.mp (hp.nodup_iff.mp nd)).1 hc
     refine ⟨a, us, hv, ha, rs.length.symm, ?_⟩
     obtain ⟨vj, g1, g2, g3, _, hg, _, set⟩ := rs.at (afn hj)
     subst hg
     have r1 : cR K CL (upd H a (.lst (us.set j v))) Z (.lst (tl.set j t)) (.ref a) (a :: (g1 ++ (ft ++ g3))) :=
       .lst aQ (set (fun c hc => az (ne c (by
         rcases afu.mp hc with h | h
         . simp [h]
         . simp [h]))) (q1.mono (.refl _) fun c hc => az (ne c (by simp [hc]))))
     have e2 := put (H' := upd H a (.lst (us.set j v))) (.refl _) (fun c hc => az (ne c (by
       rcases afu.mp hc with h | h
       . simp [h]
       . simp [h]))) r1
     rw [lA hv] at e2
     have hp : ((f1 ++ ((a :: (g1 ++ (ft ++ g3))) ++ f3)) ++ gr).Perm ((f1 ++ ((a :: (g1 ++ g3)) ++ f3)) ++ (ft ++ gr)) := by
       simp only [afS, afr]
       refine af9 f1 (List.Perm.cons a (af9 g1 ?_))
       have := (af3 (l₁ := ft) (l₂ := g3 ++ f3)).append_right gr
       simp only [afr] at this
       exact this
     have sb : ((f1 ++ ((a :: (g1 ++ g3)) ++ f3)) ++ (ft ++ gr)).Sublist ((f1 ++ ((a :: (g1 ++ (g2 ++ g3))) ++ f3)) ++ (ft ++ gr)) := by
       refine afW (afW (afQ _) (afW (List.Sublist.cons₂ a ?_) (afQ _))) (afQ _)
       exact afW (afQ _) (agj _ _)
     exact S.write nd k (afo) ⟨_, ha⟩ e2 (q2.mono (.refl _) fun c hc => az (ne c (by simp [hc]))) (hp.nodup_iff.mpr (nd.sublist sb)) fun c hc => sb.subset (hp.mem_iff.mp hc)
end
section
variable {X : Cx} {CL : Str -> Addr} {b : Bx} {δ δ1 δ2 : List (Option T)} {e e2 : Expr} {t : T} {tl M5 tt tt0 : List T} {D : cX} {pos pp pa pb : Pos}
theorem T8 (i : Nat) {x : Str} (h0 : δ[i]? = some (some (.lst M5))) (h : b9 X CL b e δ t δ1) (h1 : δ1[i]? = some (some (.lst tl))) (hl : tl.length < sizeLine) (k : D.nx (δ1.set i (some (.lst (tl ++ [t])))))
   (hi : X.N[i]? = some x := by rfl) (hv : Sg X.env.scope x := by first | exact Or.inl rfl | exact Or.inr (Or.inl rfl) | exact Or.inr (Or.inr rfl)) (hd : (x == ("__debug__" : Str)) = false := by decide) (gW : (x == ("__classdict__" : Str)) = false := by decide)
   (uv : attributeBase (.Name x pp) "append" X.env (eval (.Name x pp) X.env) = eval (.Name x pp) X.env := by rfl)
   (DJ : ((backTo pb (starEach [e] X.env)).all (fun x => !x.1) && (backToKw pb (keywordEach [] X.env)).all (fun x => x.1.isSome) && decide ([e].length + ([] : List Keyword).length + (if ([] : List Keyword).isEmpty then 0 else 1) < 30)) = true := by rfl)
   (hline : (pa.endLine == pb.line) = true := by rfl) (hs : starEach [e] X.env = (false, eval e X.env) :: starEach [] X.env := by exact bM rfl) (wC : swapsWith (.Call (.Attribute (.Name x pp) "append" pa) [e] [] pb) none pos.line X.env = pure false := by rfl) :
   RA X CL b (.Expr (.Call (.Attribute (.Name x pp) "append" pa) [e] [] pb) pos) δ D := fun H Z σ ts vs E S M =>
 wB (MA (Rx PySem.F.plainAttrs_list PySem.F.slot_list_append PySem.F.type_list_append wU (k8 hi hv hd gW) (cg d9 eH hs) uv DJ hline hs rfl) wC) (by
   obtain ⟨v0, e0, r0⟩ := S.look h0
   refine ⟨v0, e0, ?_, ?_⟩
   . rw [T.dY] at r0
     cases r0 with
     | lst hq _ => exact .inl ⟨rfl, _, hq⟩
   . refine h H Z σ ts vs _ S fun v H1 Z1 z1 k1 S1 => ?_
     obtain ⟨a, us, ea, ha, hu, S2⟩ := S1.append h1
     rw [e0] at ea
     cases ea
     exact ⟨a, us, v, rfl, rfl, ha, by rw [hu]; exact hl, M.nx _ σ _ Z1 z1 S2 k⟩)
end
noncomputable def Xm : Option (Option T) -> Option T
 | some (some t) => some (.sh t.dY)
 | _ => none
noncomputable def shO : Option (Option T) -> Option T
 | some (some (T.sh d)) => some (.sh d)
 | _ => none
noncomputable def uz (δ : List (Option T)) (ix : List Nat) : List (Option T) := ix.map fun i => Xm δ[i]?
noncomputable def Bo (δ : List (Option T)) (ix : List Nat) : List (Option T) := ix.map fun i => shO δ[i]?
section
variable {K : PySem.W.Frag} {CL : Str -> Addr} {b : Bx} {H Z : Hp} {δ : List (Option T)} {σ : L2.St} {ts : List T} {vs : List V}
theorem oZ (S : bW K CL b H Z δ σ ts vs) : ∀ (ix : List Nat) (H' : Hp), fq K CL H' H (uz δ ix) (ix.map fun i => (σ[i]?).getD none) []
 | [], _ => .nil
 | i :: r, H' => by
   have ih := oZ S r H'
   show fq K CL H' H (Xm δ[i]? :: uz δ r) (((σ[i]?).getD none) :: r.map fun i => (σ[i]?).getD none) []
   cases e : δ[i]? with
   | none => exact .skip ih
   | some o =>
     cases o with
     | none => exact .skip ih
     | some t =>
       obtain ⟨v, hv, rv⟩ := S.look e
       rw [hv]
       exact .cons (fp := []) (gp := []) (.sh rv) ih
theorem Bp (S : bW K CL b H Z δ σ ts vs) : ∀ (ix : List Nat) (H' : Hp), fq K CL H' Z (Bo δ ix) (ix.map fun i => (σ[i]?).getD none) []
 | [], _ => .nil
 | i :: r, H' => by
   have ih := Bp S r H'
   show fq K CL H' Z (shO δ[i]? :: Bo δ r) (((σ[i]?).getD none) :: r.map fun i => (σ[i]?).getD none) []
   cases e : δ[i]? with
   | none => exact .skip ih
   | some o =>
     cases o with
     | none => exact .skip ih
     | some t =>
       cases t with
       | sh d =>
         obtain ⟨v, hv, rv⟩ := S.Ry e
         rw [hv]
         exact .cons (fp := []) (gp := []) (.sh rv) ih
       | tup _ => exact .skip ih
       | lst _ => exact .skip ih
       | ins _ _ => exact .skip ih
       | wA _ => exact .skip ih
       | pin _ _ => exact .skip ih
end
section
variable {X : Cx} {CL : Str -> Addr} {b : Bx} {δ δ1 : List (Option T)} {scope : Scope} {x : Str} {Nc : List Str} {ix : List Nat} {elt iter : Expr} {ifs : List Expr} {px pos : Pos} {ds : List D}
structure Comes (X : Cx) (CL : Str -> Addr) (b : Bx) (δ1 : List (Option T)) (σ : L2.St) (ts : List T) (vs : List V) (Z H : Hp) (ds : List D) (J : It) (H1 : Hp) : Prop where
 ex : ∃ Z1 us, aC Z Z1 /\ aC H H1 /\ bW X.K CL b H1 Z1 δ1 σ ts vs /\ aB X.K CL Z1 ds us /\ (∀ i H2, aC Z1 H2 -> i < ds.length -> J.go i H2) ∧
   (∀ i H2 x H', aC Z1 H2 -> i < ds.length -> J.Mm i H2 x H' -> H' = H2 /\ us[i]? = some x) /\ (∀ H2, aC Z1 H2 -> J.stop ds.length H2)
noncomputable def RK (X : Cx) (CL : Str -> Addr) (b : Bx) (tg e : Expr) (δ : List (Option T)) (ds : List D) (δ1 : List (Option T)) : Prop :=
 ∃ wi, PI X tg e wi /\ ∀ (H Z : Hp) (σ : L2.St) (ts : List T) (vs : List V) (R : It -> Hp -> Prop), bW X.K CL b H Z δ σ ts vs -> (∀ J H1, Comes X CL b δ1 σ ts vs Z H ds J H1 -> R J H1) -> wi σ H R
theorem iI {tg : Expr} (h : b9 X CL b iter δ (.sh (.lst ds)) δ1) : RK X CL b tg iter δ ds δ1 := by
 refine ⟨_, xM d9, fun H Z σ ts vs R S k => h H Z σ ts vs _ S fun v H1 Z1 z1 k1 S1 => ?_⟩
 obtain ⟨fp, gp, _, r, _, _⟩ := S1.rep
 cases r with
 | cons r _ =>
   cases r with
   | sh r =>
     cases r with
     | @lst a us _ hq rr =>
       refine ⟨a, rfl, ⟨us, S1.zh.seq hq⟩, k _ _ ⟨Z1, us, z1, k1, S1.pop, rr, fun i H2 s hi => ?_, fun i H2 y H' s hi hy => ⟨hy.1, hy.2 us (s.seq hq)⟩, fun H2 s => ⟨us, s.seq hq, by rw [rr.length]; exact afp _⟩⟩⟩
       have HZ : i < us.length := by rw [← rr.length]; exact hi
       exact ⟨us, us[i], s.seq hq, by simp [HZ]⟩
noncomputable def bL (lo : Int) (n : Nat) : List D := (List.range n).map fun (i : Nat) => D.int (lo + i)
theorem Bq {K : PySem.W.Frag} {Z : Hp} (lo : Int) (n : Nat) : aB K CL Z (bL lo n) ((List.range n).map fun (i : Nat) => V.int (lo + i)) := by
 unfold bL
 generalize List.range n = l
 induction l with
 | nil => exact .nil
 | cons i r ih => exact .cons (.int _) ih
theorem fu {tg : Expr} {pr pc : Pos} {n : Int} (hm : X.mg "range" = none) (h : cG X CL b iter δ (.int n) δ1) (hn : -(2 ^ 62) <= n /\ n < 2 ^ 62) (hg : Gl X "range") (T9 : starEach [iter] X.env = [(false, eval iter X.env)] := by rfl) (Ua : starEach [iter] X.env = (false, eval iter X.env) :: starEach [] X.env := by exact bM rfl) :
   RK X CL b tg (.Call (.Name "range" pr) [iter] [] pc) δ (bL 0 n.toNat) δ1 := by
 refine ⟨_, Ga hg hm (cg d9 eH Ua) T9, fun H Z σ ts vs R S k => h H Z σ ts vs _ S fun v H1 Z1 z1 k1 S1 r => ⟨n, by rw [r.sc rfl], hn.1, hn.2, k _ _ ⟨Z1, _, z1, k1, S1, Bq 0 n.toNat, fun i H2 s hi => ?_, fun i H2 y H' s hi hy => ?_, fun H2 s => ?_⟩⟩⟩
 . show i < n.toNat
   have : (bL 0 n.toNat).length = n.toNat := by simp [bL]
   omega
 . have HZ : i < n.toNat := by simpa [bL] using hi
   refine ⟨hy.1, ?_⟩
   rw [afV, agx HZ, hy.2]
   rfl
 . show n.toNat <= (bL 0 n.toNat).length
   simp [bL]
theorem Gy {tg : Expr} {pr pc : Pos} {e1 e2 : Expr} {δ2 : List (Option T)} {m n : Int} (hm : X.mg "range" = none) (h1 : cG X CL b e1 δ (.int m) δ1) (h2 : cG X CL b e2 δ1 (.int n) δ2) (hn : -(2 ^ 62) <= m /\ m < 2 ^ 62 /\ -(2 ^ 62) <= n /\ n < 2 ^ 62) (hg : Gl X "range")
   (T9 : starEach [e1, e2] X.env = [(false, eval e1 X.env), (false, eval e2 X.env)] := by rfl) (Ua : starEach [e2] X.env = [(false, eval e2 X.env)] := by rfl) (aaQ : starEach [e1, e2] X.env = (false, eval e1 X.env) :: starEach [e2] X.env := by rfl) (aaR : starEach [e2] X.env = (false, eval e2 X.env) :: starEach [] X.env := by rfl) :
   RK X CL b tg (.Call (.Name "range" pr) [e1, e2] [] pc) δ (bL m (n - m).toNat) δ2 := by
 refine ⟨_, Gb hg hm (cg d9 (cg d9 eH aaR) aaQ) T9 Ua, fun H Z σ ts vs R S k => h1 H Z σ ts vs _ S fun v H1 Z1 z1 k1 S1 r => h2 H1 Z1 σ ts vs _ S1 fun v2 H2 Z2 z2 k2 S2 r2 => ⟨m, n, by rw [r.sc rfl, r2.sc rfl], hn, k _ _ ⟨Z2, _, z1.trans z2, k1.trans k2, S2, Bq m (n - m).toNat, fun i H2 s hi => ?_, fun i H2 y H' s hi hy => ?_, fun H2 s => ?_⟩⟩⟩
 . show i < (n - m).toNat
   have : (bL m (n - m).toNat).length = (n - m).toNat := by simp [bL]
   omega
 . have HZ : i < (n - m).toNat := by simpa [bL] using hi
   refine ⟨hy.1, ?_⟩
   rw [afV, agx HZ, hy.2]
   rfl
 . show (n - m).toNat <= (bL m (n - m).toNat).length
   simp [bL]
theorem Ub {D : cX} {gq : List Stmt} (i : Nat) {pos' : Pos} (P : Nat -> List (Option T) -> Prop) (h : RK X CL b (.Name x pos') iter δ ds δ1) (h0 : P 0 δ1) (hl : ∀ j δ, P j δ -> i < δ.length)
   (hs : ∀ j d δ, ds[j]? = some d -> P j δ -> fF X CL b gq (δ.set i (some (.sh d))) { nx := P (j + 1), rt := D.rt, bk := D.nx, ct := P (j + 1) }) (hd : ∀ δ, P ds.length δ -> D.nx δ)
   (hp : PassesOwn (model X.prog X.w) X.A X.env X.xe) (hc : X.calm = true) (hN : X.N.Nodup) (hi : X.N[i]? = some x) (hx : Loc X.env.scope x) (hf : X.fn x = true \/ X.env.scope.names.lookup x = some .local) (hq : ∀ x, foldedSetIterable iter X.env x = pure x := by intro _; rfl) :
   RA X CL b (.For (.Name x pos') iter gq [] pos) δ D := fun H Z σ ts vs E S M => by
 obtain ⟨wi, pi, hw⟩ := h
 refine wB (Iu hp hc pi (sQ hN hi hx hf) MT hq) (hw H Z σ ts vs _ S fun J H1 zz => ?_)
 obtain ⟨Z1, us, z1, k1, S1, rr, go, yl, st⟩ := zz
 refine ⟨fun j m σ H2 => m = ds.length - j /\ j <= ds.length /\ ∃ Z2 δ2, aC Z1 Z2 /\ bW X.K CL b H2 Z2 δ2 σ ts vs /\ P j δ2, ⟨_, rfl, afP _, Z1, δ1, .refl _, S1, h0⟩, ?_⟩
 rintro j m σ H2 ⟨rfl, hj, Z2, δ2, s, S2, p2⟩
 by_cases oz : j < ds.length
 . refine .inr ⟨go j H2 (s.trans S2.zh) oz, fun σ' H' => ∃ Z2 δ2, aC Z1 Z2 /\ bW X.K CL b H' Z2 δ2 σ' ts vs /\ P (j + 1) δ2, fun σ' H' h => ⟨ds.length - (j + 1), by omega, rfl, oz, h⟩, fun y H' hy => ?_⟩
   obtain ⟨e, hu⟩ := yl j H2 y H' (s.trans S2.zh) oz hy
   subst e
   obtain ⟨d, Mv, rd⟩ := rr.Gs hu
   have S3 := (S2.push (rd.mono s)).set (hl j δ2 p2)
   exact hs j d δ2 Mv p2 _ Z2 _ ts vs _ S3 ⟨fun δ' σ' H' Z' s' S' k => ⟨Z', δ', s.trans s', S', k⟩, fun t v H' Z' δ' σ' s' S' k => M.rt t v H' Z' δ' σ' (z1.trans (s.trans s')) S' k, fun δ' σ' H' Z' s' S' k => M.nx δ' σ' H' Z' (z1.trans (s.trans s')) S' k, fun δ' σ' H' Z' s' S' k => ⟨Z', δ', s.trans s', S', k⟩⟩
 . have e : j = ds.length := by omega
   subst e
   exact .inl ⟨st H2 (s.trans S2.zh), M.nx δ2 σ H2 Z2 (z1.trans s) S2 (hd δ2 p2)⟩
noncomputable def Block (X : Cx) (CL : Str -> Addr) (scope : Scope) (Nc : List Str) (ifs : List Expr) (elt : Expr) (δc : List (Option T)) (ds : List D) (p : D -> Bool) (g : D -> T) : Prop :=
 ∀ C s0 H0 f0 b' d, d ∈ ds -> ZG (cT X scope Nc C s0 H0 f0) CL b' ifs (some (.sh d) :: δc) (p d) /\ (p d = true -> b9 (cT X scope Nc C s0 H0 f0) CL b' elt (some (.sh d) :: δc) (g d) (some (.sh d) :: δc))
variable {p : D -> Bool} {g : D -> T} {δc : List (Option T)}
end
section
variable {X : Cx} {CL : Str -> Addr} {b : Bx} {δ δ1 : List (Option T)} {scope : Scope} {x : Str} {Nc : List Str} {ix : List Nat} {elt iter : Expr} {ifs : List Expr} {px pos : Pos} {ds : List D} {p : D -> Bool} {g : D -> T} {δc : List (Option T)}
noncomputable def isD : L3.D -> String -> Option Bool
 | .non, n => if n = "int" \/ n = "str" \/ n = "list" \/ n = "tuple" \/ n = "bool" \/ n = "dict" then some false else none
 | .bl _, n => if n = "int" \/ n = "bool" then some true else if n = "str" \/ n = "list" \/ n = "tuple" \/ n = "dict" then some false else none
 | .int _, n => if n = "int" then some true else if n = "str" \/ n = "list" \/ n = "tuple" \/ n = "bool" \/ n = "dict" then some false else none
 | .str _, n => if n = "str" then some true else if n = "int" \/ n = "list" \/ n = "tuple" \/ n = "bool" \/ n = "dict" then some false else none
 | .lst _, n => if n = "list" then some true else if n = "int" \/ n = "str" \/ n = "tuple" \/ n = "bool" \/ n = "dict" then some false else none
 | .tup _, n => if n = "tuple" then some true else if n = "int" \/ n = "str" \/ n = "list" \/ n = "bool" \/ n = "dict" then some false else none
 | _, _ => none
noncomputable def Uc (t n : String) : Option Bool := if (Value.type t == Value.type n) = true then some true else if PySem.W.kitMeta n = true then (fastBuiltinMro t).map (·.contains (.type n)) else none
theorem jB {K : PySem.W.Frag} {t n : String} : PySem.W.kitOne K (.type t) (.type n) = Uc t n := rfl
theorem Jb : (["NoneType", "bool", "int", "str", "list", "tuple"].all fun t => ["int", "str", "list", "tuple", "bool", "dict"].all fun n => Uc t n == some (t == n || (t == "bool" && n == "int"))) = true := by decide +kernel
theorem mL {t n : String} (ht : t ∈ ["NoneType", "bool", "int", "str", "list", "tuple"]) (hn : n ∈ ["int", "str", "list", "tuple", "bool", "dict"]) : Uc t n = some (t == n || (t == "bool" && n == "int")) := by
 have := Jb
 rw [agy] at this
 have h := this t ht
 rw [agy] at h
 simpa using h n hn
noncomputable def Xn : L3.D -> Option String
 | .non => some "NoneType"
 | .bl _ => some "bool"
 | .int _ => some "int"
 | .str _ => some "str"
 | .lst _ => some "list"
 | .tup _ => some "tuple"
 | _ => none
theorem Gz : kY X (.builtin "isinstance") (fun xs H Q => ∃ y n d t, xs = [y, .ty n] /\ bH X.K CL H d y /\ Xn d = some t /\ n ∈ ["int", "str", "list", "tuple", "bool", "dict"] /\ Q (.bl (t == n || (t == "bool" && n == "int"))) H) := by
 intro pins s σ H xs us Q I r h
 obtain ⟨y, n, d, t, rfl, rd, ht, hn, q⟩ := h
 obtain ⟨u, u2, rfl, ru, ru2⟩ := r.two
 cases (show u2 = Value.type n from ru2)
 have fin : ∀ tk, EP X pins σ Q (.bool (t == n || (t == "bool" && n == "int"))) { s with toks := tk } := fun tk => ⟨.bl _, H, I.tok tk, rfl, q⟩
 cases rd with
 | non => cases ht; cases (show u = Value.none from ru); exact agP PySem.W.kitx_none I.A4 True.intro (jB.trans (mL (by decide) hn)) (fun z => nomatch z) fin
 | bl c => cases ht; cases (show u = Value.bool c from ru); exact agP PySem.W.kitx_bool I.A4 True.intro (jB.trans (mL (by decide) hn)) (fun z => nomatch z) fin
 | int c => cases ht; obtain ⟨tt, e⟩ := (show ∃ t, u = Value.int c t from ru); cases e; exact agP PySem.W.kitx_int I.A4 True.intro (jB.trans (mL (by decide) hn)) (fun z => nomatch z) fin
 | str c => cases ht; obtain ⟨tt, e⟩ := (show ∃ t, u = Value.str c t from ru); cases e; exact agP PySem.W.kitx_str I.A4 True.intro (jB.trans (mL (by decide) hn)) (fun z => nomatch z) fin
 | @lst a ws _ hq rr =>
   cases ht
   cases (show u = Value.ref a from ru)
   obtain ⟨its, _, pl, _⟩ := I.list hq
   obtain ⟨o, n', e, c, _⟩ := pl
   exact agP PySem.W.kitx_list I.A4 ⟨o, e, c⟩ (jB.trans (mL (by decide) hn)) (fun z => nomatch z) fin
 | @tup a ws _ hq rr =>
   cases ht
   cases (show u = Value.ref a from ru)
   obtain ⟨its, _, pl, _⟩ := I.tuple hq
   obtain ⟨o, e, c, _⟩ := pl
   exact agP PySem.W.kitx_tuple I.A4 ⟨o, e, c⟩ (jB.trans (mL (by decide) hn)) (fun z => nomatch z) fin
 | ins _ _ => cases ht
 | any _ => cases ht
 | val _ => cases ht
 | wA _ _ => cases ht
theorem xW {e : Expr} {d : L3.D} {t n : String} {nm : Str} {pp pq : Pos} (hm : X.mg "isinstance" = none) (Ud : X.mg nm = none) (hg : Gl X "isinstance") (Ue : Gl X nm) (hbn : bootBuiltins nm = some (.type n)) (hnm : nm ≠ "__name__") (hnd : (nm == ("__debug__" : Str)) = false) (h : cG X CL b e δ d δ1) (ht : Xn d = some t) (hn : n ∈ ["int", "str", "list", "tuple", "bool", "dict"])
   (hs : starEach [e, .Name nm pq] X.env = (false, eval e X.env) :: starEach [.Name nm pq] X.env := by exact bM rfl) :
   b9 X CL b (.Call (.Name "isinstance" pp) [e, .Name nm pq] [] pos) δ (.sh (.bl (t == n || (t == "bool" && n == "int")))) δ1 := fun H Z σ ts vs Q S k =>
 cS (oR (Gz (CL := CL)) hg hm boot_isinstance (cg d9 (cg (Mx Ue Ud hbn (v := .ty n) rfl hnm hnd) eH) hs) (he := hs)) (h H Z σ ts vs _ S fun v H1 Z1 z1 k1 S1 r =>
   ⟨v, n, d, t, rfl, r, ht, hn, k _ H1 Z1 z1 k1 (S1.push (.bl _))⟩)
end
theorem aK {n : Nat} (h : Nat.ble n 1000 = true) : n <= sizeLine := age (dw (afl h))
structure Vn (X : Cx) (i : Nat) (x : Str) : Prop where
 hi : X.N[i]? = some x
 hv : Sg X.env.scope x
 hd : (x == ("__debug__" : Str)) = false
 gW : (x == ("__classdict__" : Str)) = false
structure Ln (X : Cx) (i : Nat) (x : Str) : Prop extends Vn X i x where
 loc : Loc X.env.scope x
 hf : X.fn x = true \/ X.env.scope.names.lookup x = some .local
structure Gx (X : Cx) : Prop where
 nd : X.N.Nodup
 calm : X.calm = true
 xe : X.xe = fun _ _ => False
structure Fc (X : Cx) (CL : Str -> Addr) (x : Str) (k n : Nat) {A : Type} (arg : A -> List D) (Pre : A -> Prop) (res : A -> T) : Prop where
 ex : ∃ f fd ps, bP X.prog X.w X.K X.mg X.base fP k f fd ps (jA X.K CL n arg Pre res) /\ X.mg x = some (.ref f) /\ PySem.W.keepIn X.K (.ref f) = true /\ Binds X.K fd ps []
 room : d8 k X.A
section
variable {X : Cx} {CL : Str -> Addr} {b : Bx} {δ δ1 δ2 : List (Option T)} {e e1 e2 : Expr} {es : List Expr} {d : L3.D} {t : T} {i : Nat} {x : Str} {pos pp : Pos} {D : cX} {gq : List Stmt} {ds : List L3.D}
theorem v_ (n : Vn X i x) (h : δ[i]? = some (some (.sh d)) := by rfl) : b9 X CL b (.Name x pos) δ (.sh d) δ := TL i n.hi n.hv n.hd n.gW h
theorem vF (n : Vn X i x) (h : δ[i]? = some (some t) := by rfl) : b9 X CL b (.Name x pos) δ (.sh t.dY) (δ.set i (some (.sh t.dY))) := MX i n.hi n.hv n.hd n.gW h
theorem vM (n : Vn X i x) (h : δ[i]? = some (some t) := by rfl) : b9 X CL b (.Name x pos) δ t (δ.set i none) := MY i n.hi n.hv n.hd n.gW h
theorem vB (n : Vn X i x) (h : δ[i]? = some (some t) := by rfl) : cG X CL b (.Name x pos) δ t.dY δ := TN i n.hi n.hv n.hd n.gW h
theorem dD {k : Int} (h : cG X CL b e δ (.int k) δ1) : b9 X CL b (.UnaryOp .USub e pos) δ (.sh (.int (-k))) δ1 := fun H Z σ ts vs Q S kk =>
 cS (WV S8 d9) (h H Z σ ts vs _ S fun v H1 Z1 z1 k1 S1 r => ⟨k, r.sc rfl, kk _ H1 Z1 z1 k1 (S1.push (.int _))⟩)
theorem vL (n : Vn X i x) (h : δ[i]? = some (some (.lst (ds.map T.sh))) := by rfl) : cG X CL b (.Name x pos) δ (.lst ds) δ := by
 have := vB (CL := CL) (b := b) (pos := pos) n h
 rwa [T.dY, gY] at this
theorem c_ {k n : Nat} {A : Type} {arg : A -> List L3.D} {Pre : A -> Prop} {res : A -> T} (a : A) (F : Fc X CL x k n arg Pre res) (hg : Gl X x) (h : Rz X CL b (e :: es) δ (arg a) δ1) (hp : Pre a) (hc : (res a).clean = true) (hn : (arg a).length = n := by rfl)
   (wj : (x == ("__debug__" : Str)) = false := by decide) (he : starEach (e :: es) X.env = (false, eval e X.env) :: starEach es X.env := by exact bM rfl) (wk : (backTo pos (starEach es X.env)).any (·.1) = false := by rfl) :
   b9 X CL b (.Call (.Name x pp) (e :: es) [] pos) δ (res a) δ1 := by
 obtain ⟨f, fd, ps, F1, m, k, b⟩ := F.ex
 exact M3 a F1 F.room m k b h hn hp hc hg wj he wk
theorem aO {pos' : Pos} (g : Gx X) (n : Ln X i x) (h : b9 X CL b e δ t δ1) (k : fF X CL b gq (δ1.set i (some t)) D) (hl : i < δ1.length := by exact afl rfl) (hs : swapsWith e (some (.Name x pos')) pos.line X.env = pure false := by rfl) :
   fF X CL b (.Assign [.Name x pos'] e pos :: gq) δ D := dW (I0 i h k hl g.nd n.hi n.loc hs n.hf)
theorem bu (h : b9 X CL b e δ t δ1) (k : D.rt t δ1) : fF X CL b (.Return (some e) pos :: gq) δ D := dW (T5 h k)
theorem dX {p : Bool} {a c : List Stmt} (h : oX X CL b e δ p δ1) (h1 : p = true -> fF X CL b a δ1 { D with nx := fun δ2 => fF X CL b gq δ2 D }) (h2 : p = false -> fF X CL b c δ1 { D with nx := fun δ2 => fF X CL b gq δ2 D }) : fF X CL b (.If e a c pos :: gq) δ D := dW (Xk h h1 h2)
theorem fF.to {D' : cX} (h : fF X CL b gq δ D') (h1 : ∀ δ, D'.nx δ -> D.nx δ) (h2 : ∀ t δ, D'.rt t δ -> D.rt t δ) (h3 : ∀ δ, D'.bk δ -> D.bk δ) (h4 : ∀ δ, D'.ct δ -> D.ct δ) : fF X CL b gq δ D := fun H Z σ ts vs E S M => h H Z σ ts vs E S (M.to h1 h2 h3 h4)
theorem wX {p : Bool} {a c : List Stmt} (J : List (Option T) -> Prop) (h : oX X CL b e δ p δ1) (h1 : p = true -> fF X CL b a δ1 { D with nx := J }) (h2 : p = false -> fF X CL b c δ1 { D with nx := J }) (k : ∀ δ2, J δ2 -> fF X CL b gq δ2 D) : fF X CL b (.If e a c pos :: gq) δ D :=
 dX h (fun hp => fF.to (h1 hp) k (fun _ _ q => q) (fun _ q => q) (fun _ q => q)) (fun hp => fF.to (h2 hp) k (fun _ _ q => q) (fun _ q => q) (fun _ q => q))
theorem iV {body : List Stmt} {pos' : Pos} (g : Gx X) (n : Ln X i x) (P : Nat -> List (Option T) -> Prop) (h : RK X CL b (.Name x pos') e δ ds δ1) (h0 : P 0 δ1) (hl : ∀ j δ, P j δ -> i < δ.length)
   (hs : ∀ j d δ, ds[j]? = some d -> P j δ -> fF X CL b body (δ.set i (some (.sh d))) { nx := P (j + 1), rt := D.rt, bk := fun δ2 => fF X CL b gq δ2 D, ct := P (j + 1) }) (hd : ∀ δ, P ds.length δ -> fF X CL b gq δ D) (hq : ∀ x, foldedSetIterable e X.env x = pure x := by intro _; rfl) :
   fF X CL b (.For (.Name x pos') e body [] pos :: gq) δ D :=
 dW (Ub (D := { D with nx := fun δ1 => fF X CL b gq δ1 D }) i P h h0 hl hs hd (by rw [g.xe]; exact PassesOwn.never) g.calm g.nd n.hi n.loc n.hf hq)
theorem iJ {e : Expr} {o : Option Expr} {l : Nat} {env : Env} (h : ∃ c, swapsWith e o l env = pure c) : swapsWith e o l env = pure true \/ swapsWith e o l env = pure false := by
 obtain ⟨c, h⟩ := h
 cases c
 . exact .inr h
 . exact .inl h
theorem fQ {scope : Scope} {Nc : List Str} {C : Addr} {s : Shared} {H : Hp} {fp : List Addr} (h1 : Nc[i]? = some x) (h2 : scope.names.lookup x = some .local) (hd : (x == ("__debug__" : Str)) = false := by decide) (gW : (x == ("__classdict__" : Str)) = false := by decide) : Vn (cT X scope Nc C s H fp) i x :=
 ⟨h1, .inl (lookup_relabel_local h2), hd, gW⟩
theorem fS {scope : Scope} {Nc : List Str} {C : Addr} {s : Shared} {H : Hp} {fp : List Addr} (h1 : Nc[i]? = some x) (h2 : scope.names.lookup x = some .free) (hd : (x == ("__debug__" : Str)) = false := by decide) (gW : (x == ("__classdict__" : Str)) = false := by decide) : Vn (cT X scope Nc C s H fp) i x := by
 refine ⟨h1, ?_, hd, gW⟩
 have q := eL (env := X.env) h2
 show (relabel scope X.env).names.lookup x = some .local \/ (relabel scope X.env).names.lookup x = some .cell \/ (relabel scope X.env).names.lookup x = some .free
 rw [show (relabel scope X.env).names.lookup x = _ from q]
 split
 . exact .inr (.inl rfl)
 . exact .inr (.inr rfl)
theorem gE {scope : Scope} {Nc : List Str} {C : Addr} {s : Shared} {H : Hp} {fp : List Addr} (h2 : scope.names.lookup x = some .globalImplicit) : Gl (cT X scope Nc C s H fp) x := by
 have q := eL (env := X.env) h2
 show (relabel scope X.env).names.lookup x = some .globalImplicit
 rw [show (relabel scope X.env).names.lookup x = _ from q]
 rfl
theorem jZ {scope : Scope} {Nc : List Str} {C : Addr} {s : Shared} {H : Hp} {fp : List Addr} {k n : Nat} {A : Type} {arg : A -> List L3.D} {Pre : A -> Prop} {res : A -> T} (F : Fc X CL x k n arg Pre res) : Fc (cT X scope Nc C s H fp) CL x k n arg Pre res := ⟨F.ex, F.room⟩
end
section
variable {X : Cx} {CL : Str -> Addr} {b : Bx} {δ δ1 δ2 : List (Option T)} {e e1 e2 : Expr} {es : List Expr} {ds : List L3.D} {pos : Pos}
theorem Jc {i j : Bool} (h1 : cG X CL b e1 δ (.bl i) δ1) (h2 : cG X CL b e2 δ1 (.bl j) δ2) : oX X CL b (.Compare e1 [.Eq] [e2] pos) δ (decide (i = j)) δ2 /\ b9 X CL b (.Compare e1 [.Eq] [e2] pos) δ (.sh (.bl (decide (i = j)))) δ2 :=
 uw Iz h1 h2 rfl rfl (fun _ _ q => ⟨rfl, by rw [show decide (V.bl i = V.bl j) = decide (i = j) by simp]; exact q⟩) (jV _)
theorem M6 (h : DM X CL b es δ (ds.map T.sh) δ1) (hl : ds.length <= sizeLine := by exact aK rfl) : b9 X CL b (.List es pos) δ (.sh (.lst ds)) δ1 := by
 have := DN (eB (pos := pos) h (by simpa using hl))
 rwa [T.dY, gY] at this
end
section
variable {X : Cx} {CL : Str -> Addr} {b : Bx} {δ δ1 : List (Option T)} {e : Expr} {d : L3.D} {t : String} {pos pp pq : Pos}
theorem wY : bootBuiltins "int" = some (.type "int") := by decide +kernel
theorem isI (hm : X.mg "isinstance" = none) (Ud : X.mg "int" = none) (hg : Gl X "isinstance") (Ue : Gl X "int") (h : cG X CL b e δ d δ1) (ht : Xn d = some t := by rfl) (hs : starEach [e, .Name "int" pq] X.env = (false, eval e X.env) :: starEach [.Name "int" pq] X.env := by exact bM rfl) :
   b9 X CL b (.Call (.Name "isinstance" pp) [e, .Name "int" pq] [] pos) δ (.sh (.bl (t == "int" || (t == "bool" && "int" == "int")))) δ1 := xW hm Ud hg Ue wY (by decide) (by decide) h ht (by decide) hs
theorem DR : bootBuiltins "bool" = some (.type "bool") := by decide +kernel
theorem isB (hm : X.mg "isinstance" = none) (Ud : X.mg "bool" = none) (hg : Gl X "isinstance") (Ue : Gl X "bool") (h : cG X CL b e δ d δ1) (ht : Xn d = some t := by rfl) (hs : starEach [e, .Name "bool" pq] X.env = (false, eval e X.env) :: starEach [.Name "bool" pq] X.env := by exact bM rfl) :
   b9 X CL b (.Call (.Name "isinstance" pp) [e, .Name "bool" pq] [] pos) δ (.sh (.bl (t == "bool" || (t == "bool" && "bool" == "int")))) δ1 := xW hm Ud hg Ue DR (by decide) (by decide) h ht (by decide) hs
theorem bN : bootBuiltins "list" = some (.type "list") := by decide +kernel
theorem isL (hm : X.mg "isinstance" = none) (Ud : X.mg "list" = none) (hg : Gl X "isinstance") (Ue : Gl X "list") (h : cG X CL b e δ d δ1) (ht : Xn d = some t := by rfl) (hs : starEach [e, .Name "list" pq] X.env = (false, eval e X.env) :: starEach [.Name "list" pq] X.env := by exact bM rfl) :
   b9 X CL b (.Call (.Name "isinstance" pp) [e, .Name "list" pq] [] pos) δ (.sh (.bl (t == "list" || (t == "bool" && "list" == "int")))) δ1 := xW hm Ud hg Ue bN (by decide) (by decide) h ht (by decide) hs
theorem Br : bootBuiltins "tuple" = some (.type "tuple") := by decide +kernel
end
noncomputable def jy (sc : Scope) (l : List (Str × NameKind)) : Bool := l.all fun p => sc.names.lookup p.1 == some p.2
theorem cY {sc : Scope} {l : List (Str × NameKind)} (h : jy sc l = true) (i : Nat) {x : Str} {k : NameKind} (hi : l[i]? = some (x, k)) : sc.names.lookup x = some k := by
 unfold jy at h
 rw [agy] at h
 exact beq_iff_eq.mp (h _ (af7 hi))
inductive M7 (X : Cx) : List Nat -> List Str -> Prop where
 | nil : M7 X [] []
 | cons {i : Nat} {y : Str} {ix : List Nat} {ys : List Str} (n : Vn X i y) (k : X.env.kindOf y = some .cell \/ X.env.kindOf y = some .free) (r : M7 X ix ys) : M7 X (i :: ix) (y :: ys)
noncomputable def Jd (scope : Scope) (x : Str) (Bs : List Str) : Bool :=
 scope.kind == .function && scope.names.lookup x == some .local && Bs.all (fun y => scope.names.lookup y == some .free) && decide ((x :: Bs).Nodup) &&
   scope.names.all fun y => y.2 != .cell && (y.2 != .local || scope.names.lookup y.1 == some .local) && (y.2 != .free || (Bs.contains y.1 && scope.names.lookup y.1 == some .free))
theorem cD {X : Cx} {scope : Scope} {x : Str} {ix : List Nat} {Bs : List Str} (c : M7 X ix Bs) (ok : Jd scope x Bs = true) : eZ X scope x (x :: Bs) ix := by
 unfold Jd at ok
 simp only [af4, agy, agJ, beq_iff_eq] at ok
 obtain ⟨⟨⟨⟨h1, h2⟩, h3⟩, h4⟩, h5⟩ := ok
 have kc : ∀ y ∈ Bs, X.env.kindOf y = some .cell \/ X.env.kindOf y = some .free := by
   clear h3 h4 h5
   induction c with
   | nil => intro y hy; cases hy
   | cons n k r ih =>
     intro y hy
     rcases afm.mp hy with e | hy
     . subst e; exact k
     . exact ih y hy
 refine ⟨h1, fun y hy e => ?_, h4, fun y hy e => ?_, h2, fun y hy e => ?_, ?_, fun i hi => ?_⟩
 . have := (h5 y hy).1.1
   rw [e] at this
   simp at this
 . have := (h5 y hy).1.2
   rw [e] at this
   simpa using this
 . have := (h5 y hy).2
   rw [e] at this
   simp at this
   exact ⟨this.2, kc _ this.1⟩
 . congr 1
   clear h3 h4 h5 kc
   induction c with
   | nil => rfl
   | cons n k r ih => rw [agg, n.hi, ← ih]
 . clear h4 h5 kc
   induction c with
   | nil => cases hi
   | @cons i' y ix ys n k r ih =>
     rcases afm.mp hi with e | hi
     . subst e; exact ⟨y, n.hi, h3 y afo⟩
     . exact ih (fun z hz => h3 z (afq _ hz)) hi
noncomputable def D.v9 : D -> Int
 | .int i => i
 | _ => 0
noncomputable def D.toS : D -> Str
 | .str x => x
 | _ => Str.empty
theorem eN {bs : List Int} {k : Int} (h0 : 0 <= k) (h1 : k < bs.length) : oS (bs.map D.int) k = some (.int (bs.getD k.toNat 0)) := by
 obtain ⟨j, rfl⟩ : ∃ j : Nat, k = j := ⟨k.toNat, by omega⟩
 refine fO ?_
 have hl : j < bs.length := by omega
 rw [afV, afn hl]
 simp [List.getD, hl]
theorem cK : ∀ (bs : List Int), D.bT (bs.map D.int) = true
 | [] => rfl
 | i :: r => by rw [afO, D.bT, cK r]; rfl
theorem iK {lo : Int} {n j : Nat} {d : D} (h : (bL lo n)[j]? = some d) : d = .int (lo + j) /\ j < n := by
 have hl : j < n := by
   have := (afC.mp h).1
   simpa [bL] using this
 refine ⟨?_, hl⟩
 unfold bL at h
 rw [afV, agx hl] at h
 exact (afF h).symm
theorem eO {α : Type} (l : List α) : l.filter (fun _ => true) = l := by simp
theorem Bt {K : PySem.W.Frag} {CL : Str -> Addr} {Z : Hp} : ∀ (ns : List Int), aB K CL Z (ns.map D.int) (ns.map V.int)
 | [] => .nil
 | n :: r => .cons (.int n) (Bt r)
mutual
noncomputable def D.toPy : D -> PyData
 | .non => .none
 | .bl b => .bool b
 | .int i => .int i
 | .str x => .str x
 | .tup ds => .tuple (D.lB ds)
 | .lst ds => .list (D.lB ds)
 | .ins _ _ => .none
 | .wA _ => .none
 | .any => .none
 | .val _ => .none
noncomputable def D.lB : List D -> List PyData
 | [] => []
 | d :: ds => d.toPy :: D.lB ds
end
inductive ji : Nat -> D -> Prop where
 | non (n : Nat) : ji n .non
 | bl (n : Nat) (b : Bool) : ji n (.bl b)
 | int (n : Nat) (i : Int) : ji n (.int i)
 | str (n : Nat) (x : Str) (h : PyData.strOk x = true) : ji n (.str x)
 | tup {n : Nat} {ds : List D} (h : ∀ d ∈ ds, ji n d) : ji (n + 1) (.tup ds)
 | lst {n : Nat} {ds : List D} (h : ∀ d ∈ ds, ji n d) : ji (n + 1) (.lst ds)
noncomputable def E7 (a b : D) : Bool := PyData.eqv a.toPy b.toPy
theorem ji.Ug {n : Nat} : ∀ {ds : List D}, (∀ d ∈ ds, d.toPy.canLay0 = true /\ d.toPy.depth <= n) -> PyData.canLayAll0 (D.lB ds) = true /\ PyData.depthAll (D.lB ds) <= n
 | [], _ => ⟨by rw [D.lB, PyData.canLayAll0], by rw [D.lB, PyData.depthAll]; exact afP _⟩
 | d :: ds, h => by
   have h1 := h d afo
   have h2 := ji.Ug (ds := ds) fun e he => h e (afq _ he)
   rw [D.lB, PyData.canLayAll0, PyData.depthAll, h1.1, h2.1]
   exact ⟨rfl, Nat.max_le.mpr ⟨h1.2, h2.2⟩⟩
theorem ji.lay {n : Nat} {d : D} (h : ji n d) : d.toPy.canLay0 = true /\ d.toPy.depth <= n := by
 induction h with
 | non n => exact ⟨by rw [D.toPy, PyData.canLay0], by rw [D.toPy, PyData.depth]; exact afP _⟩
 | bl n b => exact ⟨by rw [D.toPy, PyData.canLay0], by rw [D.toPy, PyData.depth]; exact afP _⟩
 | int n i => exact ⟨by rw [D.toPy, PyData.canLay0], by rw [D.toPy, PyData.depth]; exact afP _⟩
 | str n x hx => exact ⟨by rw [D.toPy, PyData.canLay0]; exact hx, by rw [D.toPy, PyData.depth]; exact afP _⟩
 | @tup n ds _ ih =>
   have := ji.Ug ih
   rw [D.toPy, PyData.canLay0, PyData.depth]
   exact ⟨this.1, by omega⟩
 | @lst n ds _ ih =>
   have := ji.Ug ih
   rw [D.toPy, PyData.canLay0, PyData.depth]
   exact ⟨this.1, by omega⟩
theorem lC {n : Nat} {d : D} (h : ji n d) : E7 d d = true := SeqAt.eqv_refl _ h.lay.1
section
variable {X : Cx} {CL : Str -> Addr} {pins : List (Addr × Obj)} {σ : L2.St} {H : Hp} {s : Shared}
theorem xX (I : L2.Inv X pins σ H s) {n : Nat} {d : D} {v : V} {u : Value} (hd : ji n d) (q : bH X.K CL H d v) (r : RelV v u) : ∃ as, Reads s.heap u d.toPy as := by
 refine bH.rec (motive_1 := fun d v _ => ∀ (n : Nat) (u : Value), ji n d -> RelV v u -> ∃ as, Reads s.heap u d.toPy as)
   (motive_2 := fun ds vs _ => ∀ (n : Nat) (us : List Value), (∀ d ∈ ds, ji n d) -> Vals vs us -> ∃ as, ReadsAll s.heap us (D.lB ds) as) (motive_3 := fun _ _ _ => True) (motive_4 := fun _ _ _ => True)
   (fun _ _ _ r => ?non) (fun b _ _ _ r => ?bl) (fun i _ _ _ r => ?int) (fun x _ _ _ r => ?str) (fun _ _ _ hd _ => by cases hd) (fun _ _ _ hd _ => by cases hd) (fun hq _ ih n u hd r => ?tup) (fun hq _ ih n u hd r => ?lst) (fun _ _ _ _ _ hd _ => by cases hd) (fun _ _ _ _ _ hd _ => by cases hd)
   (fun _ _ _ r => ?nil) (fun _ _ ih ihs n us h r => ?cons) trivial (fun _ _ _ _ => trivial) trivial (fun _ _ _ _ => trivial) q n u hd r
 case non => cases r; rw [D.toPy]; exact ⟨[], .none⟩
 case bl => cases r; rw [D.toPy]; exact ⟨[], .bool b⟩
 case int => obtain ⟨t, rfl⟩ := r; rw [D.toPy]; exact ⟨[], .int i t⟩
 case str => obtain ⟨t, rfl⟩ := r; rw [D.toPy]; exact ⟨[], .str x t⟩
 case tup =>
   cases hd with
   | tup hd =>
     cases r
     obtain ⟨its, rv, ⟨o, e, c, k, dt⟩, _⟩ := I.tuple hq
     obtain ⟨as, ra⟩ := ih _ _ hd rv
     rw [D.toPy]
     exact ⟨as, .tuple e c dt (by simpa using ra)⟩
 case lst =>
   cases hd with
   | lst hd =>
     cases r
     obtain ⟨its, rv, ⟨o, k, e, c, _, dt⟩, _⟩ := I.list hq
     obtain ⟨as, ra⟩ := ih _ _ hd rv
     rw [D.toPy]
     exact ⟨_, .list e c dt (by simpa using ra)⟩
 case nil => cases r; rw [D.lB]; exact ⟨[], .nil⟩
 case cons =>
   cases r with
   | cons r rs =>
     obtain ⟨as, ra⟩ := ih n _ (h _ afo) r
     obtain ⟨bs, rb⟩ := ihs n _ (fun e he => h e (afq _ he)) rs
     rw [D.lB]
     exact ⟨as ++ bs, .cons ra rb⟩
end
section
variable {X : Cx} {CL : Str -> Addr} {b : Bx} {δ δ1 δ2 δ3 : List (Option T)} {e e1 e2 e3 : Expr} {d1 d2 : D} {ds : List D} {pos p2 pp : Pos} {n m : Nat} {i : Nat} {x : Str} {t : T} {gq : List Stmt} {DD : cX}
theorem Uh (hu : X.A.units + 64 < cLine) : qJ X (compareOp .Eq) (fun x y H Q => ∃ a c, bH X.K CL H a x /\ bH X.K CL H c y /\ ji 60 a /\ ji 60 c /\ Q (.bl (E7 a c)) H) := by
 intro pins s σ H x y v u Q I rx ry h
 obtain ⟨a, c, ra, rc, da, dc, q⟩ := h
 obtain ⟨as, r1⟩ := xX I da ra rx
 obtain ⟨bs, r2⟩ := xX I dc rc ry
 exact SeqAt.rcAt_reads r1 r2 da.lay.1 dc.lay.1 (by have := da.lay.2; omega) X.prog X.w X.xe _ ⟨.bl _, H, I, rfl, q⟩
theorem Ui (hu : X.A.units + 64 < cLine) : qJ X (compareOp .NotEq) (fun x y H Q => ∃ a c, bH X.K CL H a x /\ bH X.K CL H c y /\ ji 60 a /\ ji 60 c /\ Q (.bl (!E7 a c)) H) := by
 intro pins s σ H x y v u Q I rx ry h
 obtain ⟨a, c, ra, rc, da, dc, q⟩ := h
 obtain ⟨as, r1⟩ := xX I da ra rx
 obtain ⟨bs, r2⟩ := xX I dc rc ry
 exact SeqAt.rcNeAt_reads r1 r2 da.lay.1 dc.lay.1 (by have := da.lay.2; omega) X.prog X.w X.xe _ ⟨.bl _, H, I, rfl, q⟩
theorem Xo {op : CmpOp} {f : Bool -> Bool} (ho : qJ X (compareOp op) (fun x y H Q => ∃ a c, bH X.K CL H a x /\ bH X.K CL H c y /\ ji 60 a /\ ji 60 c /\ Q (.bl (f (E7 a c))) H)) (h1 : cG X CL b e1 δ d1 δ1) (h2 : cG X CL b e2 δ1 d2 δ2) (k1 : ji 60 d1) (k2 : ji 60 d2)
   (hm : behindInMarks op e2 = false) : oX X CL b (.Compare e1 [op] [e2] pos) δ (f (E7 d1 d2)) δ2 /\ b9 X CL b (.Compare e1 [op] [e2] pos) δ (.sh (.bl (f (E7 d1 d2)))) δ2 := by
 constructor
 . intro H Z σ ts vs Q S k
   refine DL (oQ ho d9 d9 hm) (h1 H Z σ ts vs _ S fun v1 H1 Z1 z1 k1' S1 r1 => h2 H1 Z1 σ ts vs _ S1 fun v2 H2 Z2 z2 Xp S2 r2 => ?_)
   exact ⟨d1, d2, r1.mono Xp, r2, k1, k2, _, rfl, k H2 Z2 (z1.trans z2) (k1'.trans Xp) S2⟩
 . intro H Z σ ts vs Q S k
   refine cS (oO ho d9 d9 hm) (h1 H Z σ ts vs _ S fun v1 H1 Z1 z1 k1' S1 r1 => h2 H1 Z1 σ ts vs _ S1 fun v2 H2 Z2 z2 Xp S2 r2 => ?_)
   exact ⟨d1, d2, r1.mono Xp, r2, k1, k2, k _ H2 Z2 (z1.trans z2) (k1'.trans Xp) (S2.push (.bl _))⟩
theorem Je (hu : X.A.units + 64 < cLine) (h1 : cG X CL b e1 δ d1 δ1) (h2 : cG X CL b e2 δ1 d2 δ2) (k1 : ji 60 d1) (k2 : ji 60 d2) : oX X CL b (.Compare e1 [.Eq] [e2] pos) δ (E7 d1 d2) δ2 /\ b9 X CL b (.Compare e1 [.Eq] [e2] pos) δ (.sh (.bl (E7 d1 d2))) δ2 :=
 Xo (f := fun b => b) (Uh hu) h1 h2 k1 k2 (jV _)
theorem uA (hu : X.A.units + 64 < cLine) (h1 : cG X CL b e1 δ d1 δ1) (h2 : cG X CL b e2 δ1 d2 δ2) (k1 : ji 60 d1) (k2 : ji 60 d2) : oX X CL b (.Compare e1 [.NotEq] [e2] pos) δ (!E7 d1 d2) δ2 /\ b9 X CL b (.Compare e1 [.NotEq] [e2] pos) δ (.sh (.bl (!E7 d1 d2))) δ2 :=
 Xo (f := fun b => !b) (Ui hu) h1 h2 k1 k2 (jV _)
noncomputable def cutD {α : Type} (xs : List α) (lo hi : Option Int) : List α := (xs.drop (HT.qF xs.length 0 lo)).take (HT.qF xs.length xs.length hi - HT.qF xs.length 0 lo)
theorem aB.drop {K : PySem.W.Frag} {Z : Hp} : ∀ {ds : List L3.D} {vs : List V} (n : Nat), aB K CL Z ds vs -> aB K CL Z (ds.drop n) (vs.drop n)
 | _, _, 0, r => r
 | _, _, _ + 1, .nil => .nil
 | _, _, n + 1, .cons _ t => aB.drop n t
theorem aB.take {K : PySem.W.Frag} {Z : Hp} : ∀ {ds : List L3.D} {vs : List V} (n : Nat), aB K CL Z ds vs -> aB K CL Z (ds.take n) (vs.take n)
 | _, _, 0, _ => .nil
 | _, _, _ + 1, .nil => .nil
 | _, _, n + 1, .cons r t => .cons r (aB.take n t)
theorem aB.cut {K : PySem.W.Frag} {Z : Hp} {ds : List L3.D} {vs : List V} (r : aB K CL Z ds vs) (lo hi : Option Int) : aB K CL Z (cutD ds lo hi) (Gk vs lo hi) := by
 unfold cutD Gk
 rw [r.length]
 exact (r.drop _).take _
theorem Bu : ∀ {ds : List L3.D}, D.bT ds = true -> ∀ d ∈ ds, d.jz = true
 | [], _, _, h => by cases h
 | d :: ds, k, e, h => by
   rw [D.bT, af4] at k
   rcases afm.mp h with h | h
   . subst h; exact k.1
   . exact Bu k.2 e h
theorem o9 : ∀ {ds : List L3.D}, (∀ d ∈ ds, d.jz = true) -> D.bT ds = true
 | [], _ => rfl
 | d :: ds, h => by rw [D.bT, h d afo, o9 fun e he => h e (afq _ he)]; rfl
theorem M8 {α : Type} {xs : List α} {lo hi : Option Int} {x : α} (h : x ∈ cutD xs lo hi) : x ∈ xs := List.mem_of_mem_drop (List.mem_of_mem_take h)
noncomputable def Wc (X : Cx) (CL : Str -> Addr) (b : Bx) (e : Option Expr) (δ : List (Option T)) (k : Option Int) (δ' : List (Option T)) : Prop :=
 ∃ t, PO X e t /\ ∀ (H Z : Hp) (σ : L2.St) (ts : List T) (vs : List V) (Q : Option Int -> Hp -> Prop), bW X.K CL b H Z δ σ ts vs -> (∀ H' Z', aC Z Z' -> aC H H' -> bW X.K CL b H' Z' δ' σ ts vs -> Q k H') -> t σ H Q
theorem sS : Wc X CL b none δ none δ := ⟨_, MK, fun H Z σ ts vs Q S k => k H Z (.refl _) (.refl _) S⟩
theorem sU {k : Int} (h : cG X CL b e δ (.int k) δ1) : Wc X CL b (some e) δ (some k) δ1 := ⟨_, ML d9, fun H Z σ ts vs Q S kk => h H Z σ ts vs _ S fun v H1 Z1 z1 k1 S1 r => ⟨k, r.sc rfl, kk H1 Z1 z1 k1 S1⟩⟩
theorem uB {lo hi : Option Expr} {l h : Option Int} (h1 : cG X CL b e δ (.lst ds) δ1) (hi1 : D.bT ds = true) (h2 : Wc X CL b lo δ1 l δ2) (h3 : Wc X CL b hi δ2 h δ3) : b9 X CL b (.Subscript e (.Slice lo hi none p2) pos) δ (.lst ((cutD ds l h).map T.sh)) δ3 := fun H Z σ ts vs Q S k => by
 obtain ⟨t2, po2, w2⟩ := h2
 obtain ⟨t3, po3, w3⟩ := h3
 refine cS (Be MN d9 po2 po3) (h1 H Z σ ts vs _ S fun v H1 Z1 z1 k1 S1 r => w2 H1 Z1 σ ts vs _ S1 fun H2 Z2 z2 k2 S2 => w3 H2 Z2 σ ts vs _ S2 fun H3 Z3 z3 k3 S3 => ?_)
 have r' := r.mono (k2.trans k3)
 cases r' with
 | lst hq rr =>
   refine ⟨_, _, rfl, hq, fun p hp => ?_⟩
   have rc := aB.jz S3.tp (o9 fun d hd => Bu hi1 d (M8 hd)) (rr.cut l h)
   obtain ⟨c, S4⟩ := (bW.oY rc S3).lz (g0 := []) (by simp [rc.length]) hp
   exact k _ _ _ (z1.trans (z2.trans z3)) (k1.trans (k2.trans (k3.trans c))) S4
theorem GA (hm : X.mg "tuple" = none) (h : cG X CL b e δ (.lst ds) δ1) (hi : D.bT ds = true) (hg : Gl X "tuple") (hs : starEach [e] X.env = (false, eval e X.env) :: starEach [] X.env := by exact bM rfl) : b9 X CL b (.Call (.Name "tuple" pp) [e] [] pos) δ (.sh (.tup ds)) δ1 := fun H Z σ ts vs Q S k =>
 cS (iA wu hg hm Br (cg d9 eH hs) (he := hs)) (h H Z σ ts vs _ S fun v H1 Z1 z1 k1 S1 r => by
   cases r with
   | lst hq rr =>
     refine ⟨_, _, rfl, .inl ⟨hq, fun l hl => ?_⟩⟩
     obtain ⟨a, c, S2⟩ := (bW.oY (aB.jz S1.tp hi rr) S1).IY (by simp [rr.length]) hl
     obtain ⟨Z3, z3, S3⟩ := S2.IV
     rw [T.dY, gY] at S3
     exact k _ _ Z3 (z1.trans (a.trans z3)) (k1.trans c) S3)
theorem iW {tl M5 : List T} {pa pb : Pos} (n : Vn X i x) (h0 : δ[i]? = some (some (.lst M5))) (h : b9 X CL b e δ t δ1) (h1 : δ1[i]? = some (some (.lst tl))) (hl : tl.length <= 1000000) (k : fF X CL b gq (δ1.set i (some (.lst (tl ++ [t])))) DD)
   (uv : attributeBase (.Name x pp) "append" X.env (eval (.Name x pp) X.env) = eval (.Name x pp) X.env := by rfl)
   (DJ : ((backTo pb (starEach [e] X.env)).all (fun x => !x.1) && (backToKw pb (keywordEach [] X.env)).all (fun x => x.1.isSome) && decide ([e].length + ([] : List Keyword).length + (if ([] : List Keyword).isEmpty then 0 else 1) < 30)) = true := by rfl)
   (hline : (pa.endLine == pb.line) = true := by rfl) (hs : starEach [e] X.env = (false, eval e X.env) :: starEach [] X.env := by exact bM rfl) (wC : swapsWith (.Call (.Attribute (.Name x pp) "append" pa) [e] [] pb) none pos.line X.env = pure false := by rfl) :
   fF X CL b (.Expr (.Call (.Attribute (.Name x pp) "append" pa) [e] [] pb) pos :: gq) δ DD :=
 dW (T8 i h0 h h1 (Nat.lt_of_le_of_lt hl (by rw [afU]; decide)) k n.hi n.hv n.hd n.gW uv DJ hline hs wC)
theorem RL {tl : List T} {k : Int} {j : Nat} {ps : Pos} (n : Vn X i x) (h : b9 X CL b e δ t δ1) (h2 : cG X CL b e2 δ1 (.int k) δ1) (h1 : δ1[i]? = some (some (.lst tl))) (hk : Gm tl.length k = some j) (kk : fF X CL b gq (δ1.set i (some (.lst (tl.set j t)))) DD)
   (ha : ∀ v, assign (.Subscript (.Name x pp) e2 ps) X.env v = (do
     let ov ← holding [v] (eval (.Name x pp) X.env)
     let iv ← holding [v, ov] (eval e2 X.env)
     standAt ps
     holding [v, ov, iv] (setItem ov iv v)
     release [v, ov, iv] []) := by intro _; rfl)
   (hs : swapsWithSole [.Subscript (.Name x pp) e2 ps] e pos.line X.env = pure false := by rfl) (hw : swappedStores [.Subscript (.Name x pp) e2 ps] e X.env = pure none := by rfl) (ha1 : (assignEach [.Subscript (.Name x pp) e2 ps] X.env).map (·.2) = [assign (.Subscript (.Name x pp) e2 ps) X.env] := by rfl) :
   fF X CL b (.Assign [.Subscript (.Name x pp) e2 ps] e pos :: gq) δ DD := by
 refine dW fun H Z σ ts vs E S M => wB (SK d9 (SJ (k8 n.hi n.hv n.hd n.gW) d9 set_list ha) hs hw ha1) (h H Z σ ts vs _ S fun v H1 Z1 z1 k1 S1 => ?_)
 have hj : j < tl.length := (xO hk).2.1
 obtain ⟨v0, e0, _⟩ := S1.look h1
 refine ⟨v0, e0, ?_⟩
 refine h2 H1 Z1 σ _ _ _ S1 fun v2 H2 Z2 z2 k2 S2 r2 => ?_
 obtain ⟨a, us, ea, IW, hu, S3⟩ := S2.setAt h1 hj
 rw [e0] at ea
 cases ea
 exact ⟨a, us, k, j, rfl, r2.sc rfl, IW, by rw [hu]; exact hk, M.nx _ σ _ Z2 (z1.trans z2) S3 kk⟩
theorem cj {n : Nat} (hn : ds.length = n) (hm : X.mg "len" = none) (h : cG X CL b e δ (.lst ds) δ1) (hg : Gl X "len") (hs : starEach [e] X.env = (false, eval e X.env) :: starEach [] X.env := by exact bM rfl) : b9 X CL b (.Call (.Name "len" pp) [e] [] pos) δ (.sh (.int n)) δ1 := by
 subst hn
 exact E6 hm h hg hs
theorem dh (h : b9 X CL b e δ (.lst (ds.map T.sh)) δ1) : cG X CL b e δ (.lst ds) δ1 := by
 have := RB h
 rwa [T.dY, gY] at this
end
theorem fJ {α : Type} {f : α -> D} {l : List α} {k : Int} (z : α) (h0 : 0 <= k) (h1 : k < l.length) : oS (l.map f) k = some (f (l.getD k.toNat z)) := by
 obtain ⟨j, rfl⟩ : ∃ j : Nat, k = j := ⟨k.toNat, by omega⟩
 refine fO ?_
 have hl : j < l.length := by omega
 rw [afV, afn hl]
 simp [List.getD, hl]
theorem Bv {α β : Type} {f : α -> β} {l : List α} {lo hi : Option Int} : cutD (l.map f) lo hi = (cutD l lo hi).map f := by
 unfold cutD
 rw [afj, List.map_take, List.map_drop]
theorem jC {α : Type} {f : α -> D} (h : ∀ a, (f a).jz = true) : ∀ (l : List α), D.bT (l.map f) = true
 | [] => rfl
 | a :: l => by rw [afO, D.bT, h a, jC h l]; rfl
section
variable {X : Cx} {CL : Str -> Addr} {b : Bx} {δ δ1 δ2 δ3 : List (Option T)} {e e1 e2 e3 : Expr} {es : List Expr} {d d1 d2 : D} {ds : List D} {pos p2 pp : Pos} {n m : Nat} {i : Nat} {x : Str} {t : T} {gq : List Stmt} {DD : cX}
theorem M9 {k : Int} {u : Tok} (hm : X.mg x = some (.int k u)) (hg : Gl X x) (hd : (x == ("__debug__" : Str)) = false := by decide) : b9 X CL b (.Name x pos) δ (.sh (.int k)) δ := fun H Z σ ts vs Q S kk =>
 cS (Mw (v := .int k) hg hm ⟨u, rfl⟩ hd) (kk _ H Z (.refl _) (.refl _) (S.push (.int k)))
theorem pe {k : Int} (hm : ∃ u, X.mg x = some (.int k u)) (hg : Gl X x) (hd : (x == ("__debug__" : Str)) = false := by decide) : b9 X CL b (.Name x pos) δ (.sh (.int k)) δ := by
 obtain ⟨u, hm⟩ := hm
 exact M9 hm hg hd
theorem vE (n : Vn X i x) (h : δ[i]? = some (some t)) (e : t.dY = d) : cG X CL b (.Name x pos) δ d δ := e ▸ vB n h
theorem xY (x : Str) : ∀ l : List Str, Rw (.str x) (l.map V.str) = decide (x ∈ l)
 | [] => by simp [Rw]
 | y :: l => by
   have ih := xY x l
   unfold Rw at ih ⊢
   rw [afO, agV, ih]
   have e : ∀ a c : Str, IK (.str a) (.str c) = (a == c) := fun _ _ => rfl
   rw [e]
   by_cases h : y = x
   . subst h; simp
   . have h' : ¬ x = y := fun e => h e.symm
     simp [h, h']
theorem aB.strs {K : PySem.W.Frag} {Z : Hp} : ∀ {l : List Str} {vs : List V}, aB K CL Z (l.map D.str) vs -> vs = l.map V.str
 | [], _, r => by
   have r' : aB K CL Z [] _ := r
   cases r'; rfl
 | y :: l, _, r => by
   have r' : aB K CL Z (D.str y :: l.map D.str) _ := r
   cases r' with
   | cons r1 r2 => rw [r1.sc rfl, aB.strs r2]; rfl
theorem j3 : ∀ l : List Str, (l.map V.str).all nY = true
 | [] => rfl
 | y :: l => by rw [afO, List.all_cons, j3 l]; rfl
theorem Xq {l : List Str} (h1 : cG X CL b e1 δ (.str x) δ1) (h2 : cG X CL b e2 δ1 (.tup (l.map .str)) δ2) (hm : behindInMarks .In e2 = false) :
   oX X CL b (.Compare e1 [.In] [e2] pos) δ (decide (x ∈ l)) δ2 /\ b9 X CL b (.Compare e1 [.In] [e2] pos) δ (.sh (.bl (decide (x ∈ l)))) δ2 := by
 constructor
 . intro H Z σ ts vs Q S k
   refine DL (oQ mJ d9 d9 hm) (h1 H Z σ ts vs _ S fun v1 H1 Z1 z1 k1 S1 r1 => h2 H1 Z1 σ ts vs _ S1 fun v2 H2 Z2 z2 k2 S2 r2 => ?_)
   cases r2 with
   | tup hq rr =>
     have e := rr.strs
     subst e
     refine ⟨_, _, rfl, .inr hq, by rw [r1.sc rfl]; rfl, j3 l, _, rfl, ?_⟩
     rw [afi afx, r1.sc rfl, xY]
     exact k H2 Z2 (z1.trans z2) (k1.trans k2) S2
 . intro H Z σ ts vs Q S k
   refine cS (oO mJ d9 d9 hm) (h1 H Z σ ts vs _ S fun v1 H1 Z1 z1 k1 S1 r1 => h2 H1 Z1 σ ts vs _ S1 fun v2 H2 Z2 z2 k2 S2 r2 => ?_)
   cases r2 with
   | tup hq rr =>
     have e := rr.strs
     subst e
     refine ⟨_, _, rfl, .inr hq, by rw [r1.sc rfl]; rfl, j3 l, ?_⟩
     rw [afi afx, r1.sc rfl, xY]
     exact k _ H2 Z2 (z1.trans z2) (k1.trans k2) (S2.push (.bl _))
theorem Jf {l : List Str} {j : Nat} (h1 : cG X CL b e1 δ (.str x) δ1) (h2 : DM X CL b es δ1 ((l.map D.str).map T.sh) δ2) (hl : (l.map D.str).length <= sizeLine := by exact aK rfl) :
   oX X CL b (.Compare e1 [.In] [.Tuple es j p2] pos) δ (decide (x ∈ l)) δ2 /\ b9 X CL b (.Compare e1 [.In] [.Tuple es j p2] pos) δ (.sh (.bl (decide (x ∈ l)))) δ2 := Xq h1 (ah (cO h2 hl)) rfl
theorem Nb {p : Bool} (hm : X.mg "int" = none) (h : cG X CL b e δ (.bl p) δ1) (hg : Gl X "int") (hs : starEach [e] X.env = (false, eval e X.env) :: starEach [] X.env := by exact bM rfl) : b9 X CL b (.Call (.Name "int" pp) [e] [] pos) δ (.sh (.int (if p then 1 else 0))) δ1 := fun H Z σ ts vs Q S k =>
 cS (iA Ge hg hm wY (cg d9 eH hs) (he := hs)) (h H Z σ ts vs _ S fun v H1 Z1 z1 k1 S1 r => .inr ⟨p, by rw [r.sc rfl], k _ H1 Z1 z1 k1 (S1.push (.int _))⟩)
noncomputable def uC : Expr -> Option Str
 | .Constant (.str x) _ _ => some x
 | _ => none
noncomputable def qQ : List Expr -> Option (List Str)
 | [] => some []
 | e :: es => (uC e).bind fun x => (qQ es).map (x :: ·)
theorem Bw {e : Expr} {x : Str} (h : uC e = some x) : ∃ j p, e = .Constant (.str x) j p := by
 unfold uC at h
 split at h
 . cases h; exact ⟨_, _, rfl⟩
 . cases h
theorem sV : ∀ {es : List Expr} {l : List Str}, qQ es = some l -> DM X CL b es δ ((l.map D.str).map T.sh) δ
 | [], l, h => by
   have e : l = [] := (afF h).symm
   subst e
   exact eu
 | e :: es, l, h => by
   rw [qQ] at h
   obtain ⟨x, hx, h⟩ := Option.bind_eq_some_iff.mp h
   obtain ⟨l', hl, rfl⟩ := Option.map_eq_some_iff.mp h
   obtain ⟨j, p, rfl⟩ := Bw hx
   exact gZ b8 (sV hl)
end
theorem Jg {α : Type} {l : List α} {k : Int} (z : α) (h0 : 0 <= k) (h1 : k < l.length) : oS l k = some (l.getD k.toNat z) := by
 obtain ⟨j, rfl⟩ : ∃ j : Nat, k = j := ⟨k.toNat, by omega⟩
 refine fO ?_
 have hl : j < l.length := by omega
 rw [afn hl]
 simp [List.getD, hl]
theorem str_len (x y : Str) : (x ++ y).length = x.length + y.length := by
 show (x.cps ++ y.cps).size = _
 rw [Array.size_append]; rfl
theorem qR (x y : Str) (h1 : PyData.strOk x = true) (h2 : PyData.strOk y = true) : PyData.strOk (x ++ y) = true := by
 unfold PyData.strOk at *
 show (x.cps ++ y.cps).all _ = true
 rw [Array.all_append, h1, h2]; rfl
theorem lD (l : List Int) : T.eK ((l.map D.int).map T.sh) = true := by
 rw [afT]
 induction l with
 | nil => rfl
 | cons i r ih => rw [afO, T.eK, ih]; rfl
section
variable {X : Cx} {tg : Expr}
end
section
variable {X : Cx} {CL : Str -> Addr} {b : Bx} {δ δ1 : List (Option T)} {e : Expr} {ds : List D} {tg : Expr} {pr pc : Pos}
end
section
variable {K : PySem.W.Frag} {CL : Str -> Addr} {b : Bx} {H Z : Hp} {δ : List (Option T)} {σ : L2.St} {ts tt : List T} {vs : List V} {t : T}
end
section
variable {X : Cx} {CL : Str -> Addr} {b : Bx} {δ : List (Option T)} {tt : List T} {t : T} {i : Nat} {x : Str} {pp pc ps : Pos} {kj : Nat}
end
section
variable {X : Cx} {CL : Str -> Addr} {b : Bx} {δ δ1 : List (Option T)} {e : Expr} {ds : List D} {t : T} {i : Nat} {x : Str} {pos pp p2 : Pos} {kj : Nat}
theorem vFL (n : Vn X i x) (h : δ[i]? = some (some (.lst (ds.map T.sh)))) : b9 X CL b (.Name x pos) δ (.sh (.lst ds)) (δ.set i (some (.sh (.lst ds)))) := by
 have := vF (CL := CL) (b := b) (pos := pos) n h
 rwa [T.dY, gY] at this
end
section
variable {K : PySem.W.Frag} {CL : Str -> Addr} {b : Bx} {H H' Z Z' : Hp} {δ δ' : List (Option T)} {σ σ' : L2.St} {ts tl : List T} {vs us : List V} {t : T} {v : V}
theorem lu.get : ∀ {fs : List (Str × D)} {gs : List (Str × V)} {f : Str} {d : D}, lu K CL Z fs gs -> fs.lookup f = some d -> ∃ v, gs.lookup f = some v /\ bH K CL Z d v
 | _, _, _, _, .nil, e => by simp at e
 | _, _, f, d, .cons (x := x) r t, e => by
   rw [afN] at e ⊢
   cases h : f == x with
   | true => rw [h] at e; cases e; exact ⟨_, rfl, r⟩
   | false => rw [h] at e; exact lu.get t e
noncomputable def wF (f : Str) (t : T) : List (Str × T) -> List (Str × T)
 | [] => [(f, t)]
 | (g, x) :: r => if g = f then (g, t) :: r else (g, x) :: wF f t r
theorem cW.length {fs : List (Str × T)} {gs : List (Str × V)} {fp : List Addr} (h : cW K CL H Z fs gs fp) : fs.length = gs.length :=
 cW.ind (P := fun d v _ => d.length = v.length) rfl (fun _ _ i => congrArg (· + 1) i) h
theorem cW.put {f : Str} {g : List Addr} (q : cR K CL H Z t v g) : ∀ {fs : List (Str × T)} {gs : List (Str × V)} {fp : List Addr}, cW K CL H Z fs gs fp →
   ∃ E8 f', cW K CL H Z (wF f t fs) (iF f v gs) E8 /\ f'.Sublist fp /\ E8.Perm (g ++ f')
 | _, _, _, .nil => ⟨g ++ [], [], .cons q .nil, afQ _, ag5 _⟩
 | _, _, _, .cons (x := x) (fp := fp) (gp := gp) r rs => by
   rw [wF, iF]
   by_cases h : x = f
   . rw [afk h, afk h]
     exact ⟨g ++ gp, gp, .cons q rs, agj _ _, ag5 _⟩
   . rw [afi h, afi h]
     obtain ⟨p, p', h1, h2, h3⟩ := cW.put (f := f) q rs
     refine ⟨fp ++ p, fp ++ p', .cons r h1, afW (afQ _) h2, (af9 fp h3).trans ?_⟩
     rw [← afr, ← afr]
     exact af3.append_right p'
theorem bW.Uj {a : Addr} {o : HO} {E8 gp fp T7 : List Addr} {δ2 : List (Option T)} (hm : gR o = false) (S : bW K CL b H Z δ σ ts vs) (own : ∀ c ∈ fp ++ gp, Z c = none /\ b.B c = none) (ha : a ∈ fp ++ gp)
   (e' : fq K CL (upd H a o) Z δ2 σ E8) (r' : aX K CL (upd H a o) Z tl us T7) (pm : (E8 ++ T7).Nodup) (sub : ∀ c ∈ E8 ++ T7, c ∈ fp ++ gp) :
   bW K CL b (upd H a o) Z δ2 σ tl us := by
 have oa := own a ha
 refine ⟨⟨_, _, e', r', pm, fun c hc => own c (sub c hc)⟩, fun c u q => ?_, S.zz, fun c u q => ?_, S.new, fun c u q i => ?_, S.tab⟩
 . rw [az (aG q oa.2)]; exact S.bh c u q
 . rw [az (aG q oa.1)]; exact S.zh c u q
 . by_cases hc : c = a
   . subst hc; rw [aQ] at q; cases q; rw [hm] at i; cases i
   . rw [az hc] at q; exact S.tp c u q i
theorem bW.setField {i : Nat} {x : Addr} {c f : Str} {fs : List (Str × T)} (S : bW K CL b H Z δ σ (t :: ts) (v :: vs)) (hi : δ[i]? = some (some (.pin x (.ins c fs)))) :
   ∃ dx gs, σ[i]? = some (some (.ref x)) /\ H x = some (.ins (CL c) dx gs) /\ gs.length = fs.length /\ bW K CL b (upd H x (.ins (CL c) dx (iF f v gs))) Z (δ.set i (some (.pin x (.ins c (wF f t fs))))) σ ts vs := by
 obtain ⟨fp, gp, e, r, nd, k⟩ := S.rep
 obtain ⟨v0, f1, f2, f3, hv, oM, rt, put, _⟩ := e.get hi
 subst oM
 cases rt with
 | pin rt =>
 cases rt with
 | @ins a dx _ gs _ g ha rs =>
   cases r with
   | @cons _ _ _ _ ft gr q1 q2 =>
     have ne : ∀ c ∈ (f1 ++ (g ++ f3)) ++ (ft ++ gr), c ≠ x := fun c hc e => by
       subst e
       have hp : ((f1 ++ ((c :: g) ++ f3)) ++ (ft ++ gr)).Perm (c :: ((f1 ++ (g ++ f3)) ++ (ft ++ gr))) := by
         rw [afS, ← afS]
         exact (List.perm_middle.append_right _)
       exact (agD.mp (hp.nodup_iff.mp nd)).1 hc
     refine ⟨dx, gs, hv, ha, rs.length.symm, ?_⟩
     have q1' := q1.mono (H' := upd H x (.ins (CL c) dx (iF f v gs))) (.refl _) fun c hc => az (ne c (by simp [hc]))
     have rs' := rs.mono (H' := upd H x (.ins (CL c) dx (iF f v gs))) (.refl _) fun c hc => az (ne c (by simp [hc]))
     obtain ⟨p, p', h1, h2, h3⟩ := cW.put (f := f) q1' rs'
     have r1 : cR K CL (upd H x (.ins (CL c) dx (iF f v gs))) Z (.pin x (.ins c (wF f t fs))) (.ref x) (x :: p) := .pin (.ins aQ h1)
     have e2 := put (H' := upd H x (.ins (CL c) dx (iF f v gs))) (.refl _) (fun c hc => az (ne c (by
       rcases afu.mp hc with h | h
       . simp [h]
       . simp [h]))) r1
     rw [lA hv] at e2
     have hp : ((f1 ++ ((x :: p) ++ f3)) ++ gr).Perm ((f1 ++ ((x :: p') ++ f3)) ++ (ft ++ gr)) := by
       have h4 : ((f1 ++ ((x :: p) ++ f3)) ++ gr).Perm ((f1 ++ ((x :: (ft ++ p')) ++ f3)) ++ gr) := ((h3.cons x).append_right f3).append_left f1 |>.append_right gr
       refine h4.trans ?_
       simp only [afS, afr]
       refine af9 f1 (List.Perm.cons x ?_)
       have := (af3 (l₁ := ft) (l₂ := p' ++ f3)).append_right gr
       simp only [afr] at this
       exact this
     have sb : ((f1 ++ ((x :: p') ++ f3)) ++ (ft ++ gr)).Sublist ((f1 ++ ((x :: g) ++ f3)) ++ (ft ++ gr)) :=
       afW (afW (afQ _) (afW (List.Sublist.cons₂ x h2) (afQ _))) (afQ _)
     exact S.Uj rfl k (by simp) e2 (q2.mono (.refl _) fun c hc => az (ne c (by simp [hc]))) (hp.nodup_iff.mpr (nd.sublist sb)) fun c hc => sb.subset (hp.mem_iff.mp hc)
end
section
variable {X : Cx} {CL : Str -> Addr} {b : Bx} {δ δ1 δ2 : List (Option T)} {e : Expr} {es : List Expr} {t : T} {d : D} {c f x : Str} {fs : List (Str × D)} {pos pp : Pos} {DD : cX} {i : Nat}
theorem gT (hc : v8 X.K (CL c)) (n : bw X.K (CL c) f) (h : cG X CL b e δ (.ins c fs) δ1) (hl : fs.lookup f = some d) (hb : attributeBase e f X.env (eval e X.env) = eval e X.env := by rfl) :
   cG X CL b (.Attribute e f pos) δ d δ1 := fun H Z σ ts vs Q S k =>
 cS (IB d9 hb) (h H Z σ ts vs _ S fun v H' Z' z s S' r => by
   cases r with
   | @ins a dx _ gs _ ha rf =>
     obtain ⟨w, hw, Tg⟩ := rf.get hl
     exact ⟨a, CL c, dx, gs, w, rfl, ha, hc, n, hw, k w H' Z' z s S' Tg⟩)
theorem Jh (hc : v8 X.K (CL c)) (n : bw X.K (CL c) f) (h : b9 X CL b e δ (.sh (.ins c fs)) δ1) (hl : fs.lookup f = some d) (hb : attributeBase e f X.env (eval e X.env) = eval e X.env := by rfl) :
   b9 X CL b (.Attribute e f pos) δ (.sh d) δ1 := fun H Z σ ts vs Q S k =>
 cS (IB d9 hb) (h H Z σ ts vs _ S fun v H' Z' z s S' => by
   obtain ⟨fp, gp, _, r, _, _⟩ := S'.rep
   cases r with
   | cons r _ =>
     cases r with
     | sh r =>
       cases r with
       | @ins a dx _ gs _ ha rf =>
         obtain ⟨w, hw, Tg⟩ := rf.get hl
         exact ⟨a, CL c, dx, gs, w, rfl, S'.zh _ _ ha, hc, n, hw, k w H' Z' z s (S'.pop.push Tg)⟩)
theorem pA {gq : List Stmt} {a : Addr} {gs : List (Str × T)} {pa pb pc : Pos} (hc : v8 X.K (CL c)) (n : bw X.K (CL c) f) (nm : Vn X i x) (h : b9 X CL b e δ t δ1) (h1 : δ1[i]? = some (some (.pin a (.ins c gs)))) (hl : gs.length < 1000)
   (k : fF X CL b gq (δ1.set i (some (.pin a (.ins c (wF f t gs))))) DD) (hs : swapsWith e (some (.Attribute (.Name x pa) f pb)) pc.line X.env = pure false := by rfl) :
   fF X CL b (.Assign [.Attribute (.Name x pa) f pb] e pc :: gq) δ DD := dW fun H Z σ ts vs E S M =>
 wB (S9 (k8 nm.hi nm.hv nm.hd nm.gW) d9 hs) (h H Z σ ts vs _ S fun v H' Z' z s S' => by
   obtain ⟨dx, ws, hv, hx, hlen, S2⟩ := S'.setField (f := f) h1
   exact ⟨.ref a, hv, a, CL c, dx, ws, rfl, hx, hc, n, by rw [hlen]; exact hl, M.nx _ σ _ Z' z S2 k⟩)
end
noncomputable def Xr (K : PySem.W.Frag) (CL : Str -> Addr) {A : Type} (c : Str) (n : Nat) (arg : A -> List D) (Pre : A -> Prop) (res : A -> List (Str × T)) : Sp := fun vs H Q _ =>
 ∃ (W H0 : Hp) (a : A) (x dx : Addr) (us : List V), vs = .ref x :: us /\ H0 x = none /\ H0 dx = none /\ dx ≠ x /\ H = upd (upd H0 dx (.own x)) x (.ins (CL c) dx []) ∧
   aC W H0 /\ (∀ c o, H0 c = some o -> gR o = true -> W c = some o) /\ aB K CL W (arg a) us /\ (arg a).length + 1 = n /\ Pre a /\ jW CL W ∧
   ∀ H' W' fp, aC H0 H' -> aC W W' -> aC W' H' -> (∀ c o, W' c = some o -> W c = none -> H0 c = none) -> (∀ c o, H' c = some o -> gR o = true -> W' c = some o) →
     cR K CL H' W' (.ins c (res a)) (.ref x) fp -> fp.Nodup -> (∀ c ∈ fp, W' c = none /\ H0 c = none) -> Q .non H'
section
variable {X : Cx} {CL : Str -> Addr} {b : Bx} {δ δ1 δ2 : List (Option T)} {e o : Expr} {es : List Expr} {pos pp apos : Pos}
variable {A : Type} {k n : Nat} {f : Addr} {fd : FuncData} {ps : List Str} {arg : A -> List D} {Pre : A -> Prop} {x c m : Str}
theorem Nf {res : A -> List (Str × T)} (a : A) (M : Mk X.K (CL c) f) (F : bP X.prog X.w X.K X.mg X.base fP k f fd ps (Xr X.K CL c n arg Pre res)) (hr : d8 (k + 1) X.A) (hm : X.mg x = some (.ref (CL c))) (hb : Binds X.K fd ps [])
   (h : Rz X CL b (e :: es) δ (arg a) δ1) (hn : (arg a).length + 1 = n) (hp : Pre a) (hc : T.bD (res a) = true) (hg : Gl X x)
   (wj : (x == ("__debug__" : Str)) = false := by decide) (he : starEach (e :: es) X.env = (false, eval e X.env) :: starEach es X.env := by exact bM rfl) (wk : (backTo pos (starEach es X.env)).any (·.1) = false := by rfl) :
   b9 X CL b (.Call (.Name x pp) (e :: es) [] pos) δ (.ins c (res a)) δ1 := fun H Z σ ts vs Q S kk =>
 cS (E1 M F hr hg hm hb .nil E4 MS wj he wk) (h H Z σ ts vs _ S fun us H1 Z1 z1 k1 S1 r x dx hx Xs ne => by
   rw [af2]
   refine ⟨H1, H1, a, x, dx, us, rfl, hx, Xs, ne, rfl, .refl _, fun _ _ q _ => q, r, hn, hp, S1.Gv, fun H' W' fp hh ww wh nw tp rt nd own => ⟨rfl, ?_⟩⟩
   obtain ⟨Z', z', S'⟩ := S1.back hh S1.zh ww wh nw tp rt nd own (.inr (by rw [T.clean]; exact hc))
   exact kk _ H' Z' (z1.trans z') (k1.trans hh) S')
end
theorem E9 {P : Program} {w : World} {K : PySem.W.Frag} {mg : Str -> Option Value} {base : Heap} {CL : Str -> Addr} {x qual c : Str} {st : Stmt} {f : Addr} {fd : FuncData} {N ps : List Str} {k : Nat} {A : Type} {arg : A -> List D} {Pre : A -> Prop} {res : A -> List (Str × T)} (F : iT K x qual st f fd) (S : aL N ps (ao st))
   (hb : ∀ (c9 : Value) (Ar : Around) (outer : List Env) (s : Shared) (H : Hp) (E : XK) (b : Bx) (a : A) (y : Addr), d8 k (Ar.deeper (envOfC qual (ao st) s.heap.objs.size f c9)) -> Pre a →
     fF (uq fP P w K mg base N qual (ao st) f c9 Ar outer s H E).Ml CL b (fE st) (some (.pin y (.ins c [])) :: ((arg a).map (fun d => some (T.sh d)) ++ List.replicate (N.length - ((arg a).length + 1)) none))
       { nx := fun δ => δ[0]? = some (some (.pin y (.ins c (res a)))), rt := fun _ _ => False }) :
   bP P w K mg base fP (k + 1) f fd ps (Xr K CL c ps.length arg Pre res) := by
 refine F.ok S (fun vs H Q E h => ?_) (fun c9 Ar outer s H vs Q E hr h => ?_)
 . obtain ⟨W, H0, a, y, dx, us, rfl, _, _, _, _, _, _, r, hl, _⟩ := h
   rw [afM, ← r.length]; exact hl
 . obtain ⟨W, H0, a, y, dx, us, rfl, hy, Xs, ne, rfl, wh, tp, r, hl, hp, tb, kk⟩ := h
   have old : ∀ {d : Addr} {o : HO}, H0 d = some o -> upd (upd H0 dx (.own y)) y (.ins (CL c) dx []) d = some o := fun {d o} q => by
     rw [az (aG q hy), az (aG q Xs)]; exact q
   refine ⟨_, MT, hb c9 Ar outer s _ E ⟨H0, W⟩ a y hr hp _ W _ [] [] _ ⟨⟨[y] ++ [], [], ?_, .nil, by simp, fun d hd => ?_⟩, fun d o q => old q, .refl _, fun d o q => old (wh d o q), fun d o q z => ?_, fun d o q i => ?_, tb⟩ ⟨fun δ' σ' H' Z' s' S' e => ?_, fun t v H' Z' δ' σ' s' S' e => e.elim, fun _ _ _ _ _ _ e => e.elim, fun _ _ _ _ _ _ e => e.elim⟩⟩
   . unfold L2.start
     rw [afO, afM, afS, ← r.length]
     exact .cons (.pin (.ins aQ .nil)) (iG _ r)
   . have : d = y := by simpa using hd
     subst this
     exact ⟨TH wh hy, hy⟩
   . have q' : W d = some o := q
     have z' : W d = none := z
     rw [q'] at z'; cases z'
   . by_cases h1 : d = y
     . subst h1; rw [aQ] at q; cases q; cases i
     . rw [az h1] at q
       by_cases h2 : d = dx
       . subst h2; rw [aQ] at q; cases q; cases i
       . rw [az h2] at q; exact tp d o q i
   . obtain ⟨fp, gp, eE, _, nd, own⟩ := S'.rep
     obtain ⟨v, f1, f2, f3, hv, oM, rt, _, _⟩ := eE.get e
     subst oM
     cases rt with
     | pin rt =>
       refine kk H' Z' f2 S'.bh S'.zz S'.zh S'.new S'.tp rt ?_ fun d hd => own d (by simp [hd])
       have h1 := (afY.mp nd).1
       exact (afY.mp (afY.mp h1).2.1).1
section
variable {X : Cx} {CL : Str -> Addr} {b : Bx} {δ δ1 δ2 : List (Option T)} {e e1 e2 : Expr} {es : List Expr} {t : T} {d : D} {ds Mp : List D} {x : Str} {pos pp : Pos} {DD : cX} {i : Nat} {gq body : List Stmt}
theorem Fb (g : Gx X) (P : Nat -> List (Option T) -> Prop) (m : Nat) (h0 : P m δ)
   (hs : ∀ m δ, P m δ -> ∃ p δ1, oX X CL b e δ p δ1 ∧
     (p = true -> fF X CL b body δ1 { nx := fun δ2 => ∃ m', m' < m /\ P m' δ2, rt := DD.rt, bk := fun δ2 => fF X CL b gq δ2 DD, ct := fun δ2 => ∃ m', m' < m /\ P m' δ2 }) /\ (p = false -> fF X CL b gq δ1 DD)) :
   fF X CL b (.While e body [] pos :: gq) δ DD := dW fun H Z σ ts vs E S M =>
 wB (Iq (by rw [g.xe]; exact PassesOwn.never) TF MT) (by
   refine ⟨fun m σ H => ∃ Z2 δ2, aC Z Z2 /\ bW X.K CL b H Z2 δ2 σ ts vs /\ P m δ2, ⟨m, Z, δ, .refl _, S, h0⟩, ?_⟩
   rintro m σ H ⟨Z2, δ2, z2, S2, p2⟩
   obtain ⟨p, δ3, ht, h1, h2⟩ := hs m δ2 p2
   refine ht H Z2 σ ts vs _ S2 fun H3 Z3 z3 k3 S3 => ?_
   cases p with
   | true =>
     rw [afk rfl]
     refine ⟨fun σ' H' => ∃ m', m' < m /\ ∃ Z2 δ2, aC Z Z2 /\ bW X.K CL b H' Z2 δ2 σ' ts vs /\ P m' δ2, fun σ' H' q => q, ?_⟩
     refine h1 rfl H3 Z3 σ ts vs _ S3 ⟨fun δ' σ' H' Z' s' S' ⟨m', l, q⟩ => ⟨m', l, Z', δ', z2.trans (z3.trans s'), S', q⟩, fun t v H' Z' δ' σ' s' S' q => M.rt t v H' Z' δ' σ' (z2.trans (z3.trans s')) S' q,
       fun δ' σ' H' Z' s' S' q => M.nx δ' σ' H' Z' (z2.trans (z3.trans s')) S' q, fun δ' σ' H' Z' s' S' ⟨m', l, q⟩ => ⟨m', l, Z', δ', z2.trans (z3.trans s'), S', q⟩⟩
   | false =>
     rw [afi (by decide)]
     exact M.nx δ3 σ H3 Z3 (z2.trans z3) S3 (h2 rfl))
noncomputable def Xu (K : PySem.W.Frag) : R2 := fun x y H Q => ∃ l b xs zs, x = .ref l /\ y = .ref b /\ nX K H l xs /\ nX K H b zs /\ xs.length + zs.length <= sizeLine /\ ∀ p, H p = none -> Q (.ref p) (upd H p (.lst (xs ++ zs)))
theorem Ng : qJ X (binaryOp .Add) (Xu X.K) := by
 intro pins s σ H x y v u Q I rx ry h
 obtain ⟨l, b, xs, zs, rfl, rfl, hH, hB, hz, q⟩ := h
 cases rx
 cases ry
 obtain ⟨its, r, pl, _⟩ := I.list hH
 obtain ⟨Uk, r2, pl2, _⟩ := I.list hB
 have e1 := r.length
 have e2 := r2.length
 obtain ⟨⟨c1, dd, da1, sl⟩, ho, hc, n, hd⟩ := pl.isList
 obtain ⟨⟨c2, dd2, da2, sl2⟩, ho2, Ul, n2, hd2⟩ := pl2.isList
 cases hc; cases Ul; cases hd; cases hd2
 refine concat_meets ⟨_, ho, rfl⟩ ⟨_, ho2, rfl⟩ noFill_list_add seq_list_add PySem.F.slot_list_add PySem.F.entry_list_add (PySem.F.args_list_add_2 (Value.ref l) (Value.ref b))
   (list_addW l b its.toArray Uk.toArray n n2 dd dd2 sl sl2 (by rw [afH, afH]; omega)) ⟨ho, ho2, ?_⟩
 have ea : its.toArray ++ Uk.toArray = (its ++ Uk).toArray := by simp
 rw [ea]
 exact ⟨.ref _, _, I.Xc (t' := s.toks) (r.append r2) (by rw [afK]; omega), rfl, q _ I.fresh⟩
theorem aB.app {K : PySem.W.Frag} {Z : Hp} {ds Mp : List L3.D} {vs vs2 : List V} (h : aB K CL Z ds vs) (r2 : aB K CL Z Mp vs2) : aB K CL Z (ds ++ Mp) (vs ++ vs2) :=
 aB.ind (P := fun ds vs => aB K CL Z (ds ++ Mp) (vs ++ vs2)) r2 (fun r _ i => .cons r i) h
theorem Nh (h1 : cG X CL b e1 δ (.lst ds) δ1) (h2 : cG X CL b e2 δ1 (.lst Mp) δ2) (i1 : D.bT ds = true) (i2 : D.bT Mp = true) (hz : ds.length + Mp.length <= sizeLine) :
   b9 X CL b (.BinOp e1 .Add e2 pos) δ (.lst ((ds ++ Mp).map T.sh)) δ2 := fun H Z σ ts vs Q S k =>
 cS (Iv Ng d9 d9) (h1 H Z σ ts vs _ S fun v1 H1 Z1 z1 k1 S1 r1 => h2 H1 Z1 σ ts vs _ S1 fun v2 H2 Z2 z2 k2 S2 r2 => by
   have T3 := r1.mono k2
   cases T3 with
   | lst hq1 Wd =>
     cases r2 with
     | lst hq2 Wf =>
       refine ⟨_, _, _, _, rfl, rfl, hq1, hq2, by rw [← Wd.length, ← Wf.length]; exact hz, fun p hp => ?_⟩
       have rc := aB.app (aB.jz S2.tp i1 Wd) (aB.jz S2.tp i2 Wf)
       obtain ⟨c, S4⟩ := (bW.oY rc S2).lz (g0 := []) (by simp [rc.length, Wd.length, Wf.length]) hp
       exact k _ _ _ (z1.trans z2) (k1.trans (k2.trans c)) S4)
theorem boot_str : bootBuiltins "str" = some (.type "str") := by decide +kernel
theorem Fd {i : Int} (hm : X.mg "str" = none) (hg : Gl X "str") (h : cG X CL b e δ (.int i) δ1) (hi : i.natAbs.log2 < 1920) (hs : starEach [e] X.env = (false, eval e X.env) :: starEach [] X.env := by exact bM rfl) :
   b9 X CL b (.Call (.Name "str" pp) [e] [] pos) δ (.sh (.str (toString i))) δ1 := fun H Z σ ts vs Q S k =>
 cS (iA xN hg hm boot_str (cg d9 eH hs) (he := hs)) (h H Z σ ts vs _ S fun v H1 Z1 z1 k1 S1 r => by
   rw [r.sc rfl]
   exact ⟨i, rfl, hi, k _ H1 Z1 z1 k1 (S1.push (.str _))⟩)
end
structure Fm (X : Cx) (CL : Str -> Addr) (x : Str) (k n : Nat) {A : Type} (arg : A -> List D) (Pre : A -> Prop) (res : A -> List (Str × T)) : Prop where
 ex : ∃ f fd ps, Mk X.K (CL x) f /\ bP X.prog X.w X.K X.mg X.base fP k f fd ps (Xr X.K CL x n arg Pre res) /\ X.mg x = some (.ref (CL x)) /\ Binds X.K fd ps []
 room : d8 (k + 1) X.A
noncomputable def Ji (N : List Str) (y : Addr) (c : Str) (ds : List D) : List (Option T) := some (.pin y (.ins c [])) :: (ds.map (fun d => some (T.sh d)) ++ List.replicate (N.length - (ds.length + 1)) none)
section
variable {X : Cx} {CL : Str -> Addr} {b : Bx} {δ δ1 δ2 : List (Option T)} {e e1 e2 o : Expr} {es : List Expr} {d : L3.D} {t : T} {i : Nat} {x c m : Str} {pos pp apos : Pos} {D : cX} {gq : List Stmt} {ds : List L3.D}
theorem mk_ {k n : Nat} {A : Type} {arg : A -> List L3.D} {Pre : A -> Prop} {res : A -> List (Str × T)} (a : A) (F : Fm X CL x k n arg Pre res) (hg : Gl X x) (h : Rz X CL b (e :: es) δ (arg a) δ1) (hp : Pre a) (hc : T.bD (res a) = true) (hn : (arg a).length + 1 = n := by rfl)
   (wj : (x == ("__debug__" : Str)) = false := by decide) (he : starEach (e :: es) X.env = (false, eval e X.env) :: starEach es X.env := by exact bM rfl) (wk : (backTo pos (starEach es X.env)).any (·.1) = false := by rfl) :
   b9 X CL b (.Call (.Name x pp) (e :: es) [] pos) δ (.ins x (res a)) δ1 := by
 obtain ⟨f, fd, ps, M, F1, m, b⟩ := F.ex
 exact Nf a M F1 F.room m b h hn hp hc hg wj he wk
end
theorem pB {α : Type} {f : Str} {d : α} {fs : List (Str × α)} : ((f, d) :: fs).lookup f = some d := by
 rw [afN, agp]
theorem gF {α : Type} {f g : Str} {d : α} {fs : List (Str × α)} (h : (f == g) = false) : ((g, d) :: fs).lookup f = fs.lookup f := by
 rw [afN, h]
theorem fT {f : Str} {t : T} : wF f t [] = [(f, t)] := rfl
theorem bJ {f g : Str} {t u : T} {fs : List (Str × T)} (h : ¬ g = f) : wF f t ((g, u) :: fs) = (g, u) :: wF f t fs := by
 rw [wF, afi h]
section
variable {X : Cx} {CL : Str -> Addr} {b : Bx} {δ δ1 δ2 : List (Option T)} {e1 e2 : Expr} {x : Str} {pos : Pos} {d : L3.D}
theorem pC (x : Int) : ∀ l : List Int, Rw (.int x) (l.map V.int) = decide (x ∈ l)
 | [] => by simp [Rw]
 | y :: l => by
   have ih := pC x l
   unfold Rw at ih ⊢
   rw [afO, agV, ih]
   by_cases h : y = x
   . subst h; simp [IK]
   . have h' : ¬ x = y := fun e => h e.symm
     simp [IK, h, h']
theorem aB.ints {K : PySem.W.Frag} {Z : Hp} : ∀ {l : List Int} {vs : List V}, aB K CL Z (l.map D.int) vs -> vs = l.map V.int
 | [], _, r => by
   have r' : aB K CL Z [] _ := r
   cases r'; rfl
 | y :: l, _, r => by
   have r' : aB K CL Z (D.int y :: l.map D.int) _ := r
   cases r' with
   | cons r1 r2 => rw [r1.sc rfl, aB.ints r2]; rfl
theorem fU : ∀ l : List Int, (l.map V.int).all nY = true
 | [] => rfl
 | y :: l => by rw [afO, List.all_cons, fU l]; rfl
noncomputable def By (d : L3.D) : Option (List L3.D) := match d with
 | .lst ds => some ds
 | .tup ds => some ds
 | _ => none
theorem bH.By {K : PySem.W.Frag} {Z : Hp} {v : V} {ds : List L3.D} (r : bH K CL Z d v) (h : L3.By d = some ds) : ∃ p us, v = .ref p /\ (nX K Z p us \/ Dv K Z p us) /\ aB K CL Z ds us := by
 cases r with
 | tup hq rr => cases h; exact ⟨_, _, rfl, .inr hq, rr⟩
 | lst hq rr => cases h; exact ⟨_, _, rfl, .inl hq, rr⟩
 | non => cases h
 | bl => cases h
 | int => cases h
 | str => cases h
 | any => cases h
 | val => cases h
 | wA => cases h
 | ins => cases h
theorem gG {l : List Int} {i : Int} (h1 : cG X CL b e1 δ (.int i) δ1) (h2 : cG X CL b e2 δ1 d δ2) (hd : L3.By d = some (l.map .int)) (hm : behindInMarks .In e2 = false) :
   oX X CL b (.Compare e1 [.In] [e2] pos) δ (decide (i ∈ l)) δ2 /\ b9 X CL b (.Compare e1 [.In] [e2] pos) δ (.sh (.bl (decide (i ∈ l)))) δ2 := by
 constructor
 . intro H Z σ ts vs Q S k
   refine DL (oQ mJ d9 d9 hm) (h1 H Z σ ts vs _ S fun v1 H1 Z1 z1 k1 S1 r1 => h2 H1 Z1 σ ts vs _ S1 fun v2 H2 Z2 z2 k2 S2 r2 => ?_)
   obtain ⟨p, us, rfl, hq, rr⟩ := bH.By r2 hd
   have e := rr.ints
   subst e
   refine ⟨_, _, rfl, hq, by rw [r1.sc rfl]; rfl, fU l, _, rfl, ?_⟩
   rw [afi afx, r1.sc rfl, pC]
   exact k H2 Z2 (z1.trans z2) (k1.trans k2) S2
 . intro H Z σ ts vs Q S k
   refine cS (oO mJ d9 d9 hm) (h1 H Z σ ts vs _ S fun v1 H1 Z1 z1 k1 S1 r1 => h2 H1 Z1 σ ts vs _ S1 fun v2 H2 Z2 z2 k2 S2 r2 => ?_)
   obtain ⟨p, us, rfl, hq, rr⟩ := bH.By r2 hd
   have e := rr.ints
   subst e
   refine ⟨_, _, rfl, hq, by rw [r1.sc rfl]; rfl, fU l, ?_⟩
   rw [afi afx, r1.sc rfl, pC]
   exact k _ H2 Z2 (z1.trans z2) (k1.trans k2) (S2.push (.bl _))
theorem xZ {l : List Int} {i : Int} (h1 : cG X CL b e1 δ (.int i) δ1) (h2 : cG X CL b e2 δ1 d δ2) (hd : L3.By d = some (l.map .int)) (hm : behindInMarks .NotIn e2 = false) :
   oX X CL b (.Compare e1 [.NotIn] [e2] pos) δ (!decide (i ∈ l)) δ2 /\ b9 X CL b (.Compare e1 [.NotIn] [e2] pos) δ (.sh (.bl (!decide (i ∈ l)))) δ2 := by
 constructor
 . intro H Z σ ts vs Q S k
   refine DL (oQ oW d9 d9 hm) (h1 H Z σ ts vs _ S fun v1 H1 Z1 z1 k1 S1 r1 => h2 H1 Z1 σ ts vs _ S1 fun v2 H2 Z2 z2 k2 S2 r2 => ?_)
   obtain ⟨p, us, rfl, hq, rr⟩ := bH.By r2 hd
   have e := rr.ints
   subst e
   refine ⟨_, _, rfl, hq, by rw [r1.sc rfl]; rfl, fU l, _, rfl, ?_⟩
   rw [afk rfl, r1.sc rfl, pC]
   exact k H2 Z2 (z1.trans z2) (k1.trans k2) S2
 . intro H Z σ ts vs Q S k
   refine cS (oO oW d9 d9 hm) (h1 H Z σ ts vs _ S fun v1 H1 Z1 z1 k1 S1 r1 => h2 H1 Z1 σ ts vs _ S1 fun v2 H2 Z2 z2 k2 S2 r2 => ?_)
   obtain ⟨p, us, rfl, hq, rr⟩ := bH.By r2 hd
   have e := rr.ints
   subst e
   refine ⟨_, _, rfl, hq, by rw [r1.sc rfl]; rfl, fU l, ?_⟩
   rw [afk rfl, r1.sc rfl, pC]
   exact k _ H2 Z2 (z1.trans z2) (k1.trans k2) (S2.push (.bl _))
end
section
variable {X : Cx} {CL : Str -> Addr} {b : Bx} {δ δ1 δ2 : List (Option T)} {e : Expr} {es : List Expr} {d : L3.D} {ds : List L3.D} {t : T} {i : Nat} {x : Str} {pos pp : Pos} {DD : cX} {gq : List Stmt}
theorem cE : DM X CL b [] δ (([] : List L3.D).map T.sh) δ := eu
theorem aJ (h1 : b9 X CL b e δ (.sh d) δ1) (h2 : DM X CL b es δ1 (ds.map T.sh) δ2) (hs : starEach (e :: es) X.env = (false, eval e X.env) :: starEach es X.env := by exact bM rfl) : DM X CL b (e :: es) δ ((d :: ds).map T.sh) δ2 := gZ h1 h2 hs
theorem iX (h : DM X CL b es δ (ds.map T.sh) δ1) (hl : ds.length <= sizeLine) : b9 X CL b (.List es pos) δ (.lst (ds.map T.sh)) δ1 := eB h (by simpa using hl)
theorem lE (l : List Str) : D.bT (l.map L3.D.str) = true := jC (fun _ => rfl) _
theorem pD (h : b9 X CL b e δ (.lst (ds.map T.sh)) δ1) : b9 X CL b e δ (.sh (.lst ds)) δ1 := by
 have := DN h
 rwa [T.dY, gY] at this
theorem Um (h : DD.ct δ) : fF X CL b (.Continue pos :: gq) δ DD := dW (M4 h)
theorem Jj {d2 : L3.D} (h : cG X CL b e δ d δ1) (q : d = d2) : cG X CL b e δ d2 δ1 := q ▸ h
theorem aW {t2 : T} (h : b9 X CL b e δ t δ1) (q : t = t2) : b9 X CL b e δ t2 δ1 := q ▸ h
end
structure Jk (Z H Z' H' : Hp) : Prop where
 z : aC Z Z'
 h : aC H H'
 zh : aC Z' H'
 new : ∀ a o, Z' a = some o -> Z a = none -> H a = none
 tp : ∀ a o, H' a = some o -> gR o = true -> Z' a = some o
theorem Jk.refl {Z H : Hp} (zh : aC Z H) (tp : ∀ a o, H a = some o -> gR o = true -> Z a = some o) : Jk Z H Z H := ⟨.refl _, .refl _, zh, fun a o q z => (by rw [q] at z; cases z), tp⟩
section
variable {K : PySem.W.Frag} {CL : Str -> Addr} {b : Bx} {H H' Z Z' : Hp} {δ : List (Option T)} {σ : L2.St} {ts : List T} {vs : List V}
noncomputable def Xv (δ : List (Option T)) : List Nat -> List D -> List (Option T)
 | i :: is, d :: ds => Xv (δ.set i (some (.sh d))) is ds
 | _, _ => δ
noncomputable def BD (σ : L2.St) : List Nat -> List V -> L2.St
 | i :: is, v :: vs => BD (σ.set i (some v)) is vs
 | _, _ => σ
end
section
variable {X : Cx} {CL : Str -> Addr} {b : Bx} {δ δ1 : List (Option T)} {ds : List D} {iter tg : Expr} {pos : Pos}
structure x6 (X : Cx) (CL : Str -> Addr) (b : Bx) (δ1 : List (Option T)) (σ : L2.St) (ts : List T) (vs : List V) (Z H : Hp) (ds : List D) (J : It) (H1 : Hp) : Prop where
 ex : ∃ Z1, aC Z Z1 /\ aC H H1 /\ bW X.K CL b H1 Z1 δ1 σ ts vs /\ (∀ i H2, aC Z1 H2 -> i < ds.length -> J.go i H2) ∧
   (∀ i Z2 H2 x H', aC Z1 Z2 -> aC Z2 H2 -> (∀ a o, H2 a = some o -> gR o = true -> Z2 a = some o) -> i < ds.length -> J.Mm i H2 x H' -> ∃ Z3 d, ds[i]? = some d /\ Jk Z2 H2 Z3 H' /\ bH X.K CL Z3 d x) /\ (∀ H2, aC Z1 H2 -> J.stop ds.length H2)
noncomputable def ZH (X : Cx) (CL : Str -> Addr) (b : Bx) (tg e : Expr) (δ : List (Option T)) (ds : List D) (δ1 : List (Option T)) : Prop :=
 ∃ wi, PI X tg e wi /\ ∀ (H Z : Hp) (σ : L2.St) (ts : List T) (vs : List V) (R : It -> Hp -> Prop), bW X.K CL b H Z δ σ ts vs -> (∀ J H1, x6 X CL b δ1 σ ts vs Z H ds J H1 -> R J H1) -> wi σ H R
theorem RM (h : RK X CL b tg iter δ ds δ1) : ZH X CL b tg iter δ ds δ1 := by
 obtain ⟨wi, pi, hw⟩ := h
 refine ⟨wi, pi, fun H Z σ ts vs R S k => hw H Z σ ts vs R S fun J H1 zz => ?_⟩
 obtain ⟨Z1, us, z1, k1, S1, rr, go, yl, st⟩ := zz
 refine k J H1 ⟨Z1, z1, k1, S1, go, fun i Z2 H2 x H' s1 s2 tp hi hy => ?_, st⟩
 obtain ⟨e, hu⟩ := yl i H2 x H' (s1.trans s2) hi hy
 subst e
 obtain ⟨d, hd, rd⟩ := rr.Gs hu
 exact ⟨Z2, d, hd, .refl s2 tp, rd.mono s1⟩
noncomputable def Tgt (X : Cx) (CL : Str -> Addr) (tg : Expr) (is : List Nat) (parts : D -> Option (List D)) : Prop :=
 ∃ t : TG, PG X tg t /\ ∀ (Z H : Hp) (d : D) (ps : List D) (x : V) (σ : L2.St) (Q : L2.St -> Hp -> Prop), aC Z H -> bH X.K CL Z d x -> parts d = some ps -> (∀ ys, aB X.K CL Z ps ys -> Q (BD σ is ys) H) -> t x σ H Q
noncomputable def part1 (d : D) : Option (List D) := some [d]
theorem Jl {i : Nat} {x : Str} {px : Pos} (hN : X.N.Nodup) (n : Ln X i x) : Tgt X CL (.Name x px) [i] part1 :=
 ⟨ER i, sQ hN n.hi n.loc n.hf, fun Z H d ps x σ Q zh r e k => by
   cases e
   exact k [x] (.cons r .nil)⟩
end
structure lF (X : Cx) (scope : Scope) (xs : List Str) (Nc : List Str) (ix : List Nat) : Prop where
 kind : scope.kind = .function
 qO : ∀ y ∈ scope.names, y.2 ≠ .cell
 nd : Nc.Nodup
 names : ∀ y ∈ scope.names, y.2 = .local -> scope.names.lookup y.1 = some .local
 own : ∀ x ∈ xs, scope.names.lookup x = some .local
 frees : ∀ y ∈ scope.names, y.2 = .free -> scope.names.lookup y.1 = some .free /\ (X.env.kindOf y.1 = some .cell \/ X.env.kindOf y.1 = some .free)
 hd : Nc = xs ++ ix.filterMap (X.N[·]?)
 RJ : ∀ i ∈ ix, ∃ y, X.N[i]? = some y /\ scope.names.lookup y = some .free
noncomputable def GB (σ : L2.St) (ix : List Nat) (os : List (Option V)) : L2.St := os ++ ix.map fun i => (σ[i]?).getD none
section
variable {X : Cx} {scope : Scope} {xs : List Str} {Nc : List Str} {ix : List Nat} {pins : List (Addr × Obj)} {σ : L2.St} {H : Hp} {s : Shared}
theorem BE {fp : List Addr} (sc : lF X scope xs Nc ix) (I : Inv X pins σ H s) (oM : ∀ b ∈ fp, gX X pins H b /\ b < s.heap.objs.size) {h' : Heap} {m : Str -> Option Value} {tk : Nat}
   (hn : h'.Ns s.heap.objs.size m) (hk : ∀ b o, s.heap.get? b = some o -> h'.get? b = some o) :
   Inv (cT X scope Nc s.heap.objs.size s H fp) [] (GB σ ix (List.replicate xs.length none)) H { s with heap := h', toks := tk } := by
 have frees : ∀ y ∈ scope.names, y.2 = .free -> ∃ c, X.env.cells.lookup y.1 = some c := fun y hy e => I.ok.has y.1 (sc.frees y hy e).2
 have sub : ∀ {y : Str} {c : Addr}, (cy X.env scope.names []).lookup y = some c -> X.env.cells.lookup y = some c := fun {y c} e => jY frees (fun _ _ z => by cases z) e
 have hlen : (GB σ ix (List.replicate xs.length none)).length = Nc.length := by
   have all : ∀ l : List Nat, (∀ i ∈ l, ∃ y, X.N[i]? = some y /\ scope.names.lookup y = some .free) -> (l.filterMap (X.N[·]?)).length = l.length := by
     intro l
     induction l with
     | nil => intro _; rfl
     | cons i r ih =>
       intro h
       obtain ⟨y, e, _⟩ := h i afo
       rw [agg, e]
       show _ + 1 = _ + 1
       rw [ih fun j hj => h j (afq _ hj)]
   unfold GB
   rw [sc.hd, afK, afK, afj, agq, all ix sc.RJ]
 have C0 : s.heap.get? s.heap.objs.size = none := Heap.get?_none_of_le (afp _)
 refine ⟨⟨I.ok.mod, sc.kind, I.ok.glob, I.ok.blt, afp _, fun y z c h1 h2 => I.ok.inj y z c (sub h1) (sub h2), fun y hy => ?_, fun y c hf _ => (by cases (show false = true from hf)), I.ok.hd, I.ok.frames, .inl rfl, fun b hb => ⟨afX (oM b hb).2, fun y c e => (oM b hb).1.2.2.2.2.1 y c (sub e)⟩, I.bs, afZ I.ok.Mj I.sz, fun b o e hb => ?_, fun b hb hf => ?_, I.stack, I.xK⟩,
   rfl, I.bare, Un.kept hk, ⟨m, hn, fun i y v h1 h2 h3 => ?_⟩, fun y c e => ?_, I.dO.fresh (afp _), fun y c e => I.k7 y c (sub e), fun p hp => absurd (show p ∈ ([] : List (Addr × Obj)) from hp) (by simp), I.dO.kept hk, hlen⟩
 . 
   have ZI : (relabel scope X.env).names.lookup y = some .cell \/ (relabel scope X.env).names.lookup y = some .free := hy
   cases e : scope.names.lookup y with
   | none => 
     have := gU (env := X.env) e
     rcases ZI with q | q <;> (rw [show (relabel scope X.env).names.lookup y = none from this] at q; cases q)
   | some k =>
     have q := eL (env := X.env) e
     have hk : k = .free := by
       by_cases hk : k = .free
       . exact hk
       . have hb : (k == NameKind.free) = false := by simpa using hk
         rw [afi (by rw [hb]; simp)] at q
         have nc : k ≠ .cell := fun z => by
           subst z
           exact sc.qO _ (agd e) rfl
         rcases ZI with z | z
         . rw [show (relabel scope X.env).names.lookup y = some k from q] at z
           exact absurd (afF z) nc
         . rw [show (relabel scope X.env).names.lookup y = some k from q] at z
           exact absurd (afF z) hk
     subst hk
     exact iH e
 . 
   rcases (oM b hb).1.2.2.2.1 with z | z
   . exact I.ok.Ij b o e z
   . exact absurd (afR (afA e) (afZ I.ok.Mj z)) (agO _)
 . rcases afm.mp (I.xJ b hf) with z | z
   . exact (oM b hb).1.2.1 z
   . exact (oM b hb).1.2.2.1 z
 . 
   unfold GB at h2
   by_cases hi : i < xs.length
   . rw [agZ (by rw [agq]; exact hi), List.getElem?_replicate, afk hi] at h2
     cases h2
   . obtain ⟨n, rfl⟩ : ∃ n, i = xs.length + n := ⟨i - xs.length, by omega⟩
     rw [ago (by rw [agq]; omega), agq, Nat.add_sub_cancel_left, afV] at h2
     cases ei : ix[n]? with
     | none => rw [ei] at h2; cases h2
     | some j =>
       rw [ei] at h2
       have Jm : (σ[j]?).getD none = some v := afF h2
       have hj : σ[j]? = some (some v) := by
         cases q : σ[j]? with
         | none => rw [q] at Jm; cases Jm
         | some o => rw [q] at Jm; exact congrArg some Jm
       obtain ⟨y', RN, Ni⟩ := sc.RJ j (af7 ei)
       have hNc : Nc[xs.length + n]? = some y' := by
         have all : ∀ (l : List Nat) (i : Nat), (∀ j ∈ l, ∃ y, X.N[j]? = some y /\ scope.names.lookup y = some .free) -> l[i]? = some j -> (l.filterMap (X.N[·]?))[i]? = some y' := by
           intro l
           induction l with
           | nil => intro i _ h; simp at h
           | cons a r ih =>
             intro i h hi
             obtain ⟨ya, ea, _⟩ := h a afo
             rw [agg, ea]
             cases i with
             | zero =>
               simp at hi
               subst hi
               rw [RN] at ea
               cases ea
               rfl
             | succ i => exact ih i (fun j hj => h j (List.mem_cons_of_mem _ hj)) (by simpa using hi)
         rw [sc.hd, ago (by omega), Nat.add_sub_cancel_left]
         exact all ix n sc.RJ ei
       have ey : y' = y := by
         have RP : Nc[xs.length + n]? = some y := h1
         rw [hNc] at RP
         exact afF RP
       subst ey
       have ur := (sc.frees (y', .free) (agd Ni) rfl).2
       have Uo : Sg X.env.scope y' := ur.elim (fun z => .inr (.inl z)) (fun z => .inr (.inr z))
       obtain ⟨m0, hn0, ZJ⟩ := I.loc
       obtain ⟨u, ru, lk⟩ := ZJ j y' v RN hj Uo
       refine ⟨u, ru, ?_⟩
       rcases lk with ⟨kk, _⟩ | ⟨_, c, hc, rX⟩
       . rcases ur with z | z
         . rw [kk] at z; cases z
         . rw [kk] at z; cases z
       . obtain ⟨c', Ik⟩ := iH (env := X.env) (cs := []) Ni
         have : c' = c := by
           have := sub Ik
           rw [hc] at this
           exact (afF this).symm
         subst this
         obtain ⟨o, ho, hd⟩ := rX
         refine .inr ⟨?_, c', Ik, o, hk _ _ ho, hd⟩
         have q := eL (env := X.env) Ni
         show (relabel scope X.env).names.lookup y' = some .cell \/ (relabel scope X.env).names.lookup y' = some .free
         rw [show (relabel scope X.env).names.lookup y' = _ from q]
         split
         . exact .inl rfl
         . exact .inr rfl
 . obtain ⟨v, o, ho, hd⟩ := I.cell y c (sub e)
   exact ⟨v, o, hk _ _ ho, hd⟩
noncomputable def Jo (X : Cx) (tg elt : Expr) (ifs : List Expr) (n : Nat) (σ : L2.St) (ix : List Nat) (D : Addr) (N : Hp -> Prop) (xv : V) (os : List (Option V)) (H3 : Hp) : Prop :=
 ∃ t : TG, PG X tg t /\ t xv (GB σ ix os) H3 fun σ8 H4 => ∃ V8, V8.length = n /\ σ8 = GB σ ix V8 /\ T6 X ifs σ8 H4 fun ok H5 =>
   if ok = true then Bj X elt σ8 H5 fun y H6 => ∃ acc, H6 D = some (.lst acc) /\ acc.length < sizeLine /\ N (upd H6 D (.lst (acc ++ [y]))) else N H5
theorem uD {elt iter tg : Expr} {pos : Pos} {ifs : List Expr} {J : It} {fp : List Addr} {it : Addr} {tn : Nat -> Heap -> Prop} {G : Addr -> Hp -> Prop} {RR : Value -> Addr -> Result -> Shared -> Prop} {E : Value -> Shared -> Prop}
   (sc : lF X scope xs Nc ix) (hc : X.calm = true) (I : Inv X pins σ H s) (Tn : Turn X.prog X.w X.K tg J fp it tn) (st : tn 0 s.heap) (hf : ∀ b ∈ fp, gX X pins H b)
   (loop : ∀ D, H D = none -> ∃ W : Nat -> Nat -> Hp -> Prop, (∃ m, W 0 m (upd H D (.lst []))) /\ ∀ i m H2, W i m H2 -> (J.stop i H2 /\ G D H2) ∨
     (J.go i H2 /\ ∃ N : Hp -> Prop, (∀ H', N H' -> ∃ m', m' < m /\ W (i + 1) m' H') /\ ∀ xv H3, J.Mm i H2 xv H3 -> ∀ C s0 H0 f0 os, os.length = xs.length -> Jo (cT X scope Nc C s0 H0 f0) tg elt ifs xs.length σ ix D N xv os H3))
   (hRR : ∀ D C s' H', (∃ m, s'.heap.Ns C m) -> (∃ o, s'.heap.get? C = some o /\ ∀ v, o.data ≠ .cell v) -> H' C = none -> (C ≠ X.env.locals /\ C ∉ X.fs /\ X.s₀.heap.objs.size <= C /\ (∀ y c, X.env.cells.lookup y = some c -> c ≠ C) /\ ∀ q ∈ X.pn ++ pins, q.1 ≠ C) -> (∀ h', Heap.SameBut C s'.heap h' -> Inv X pins σ H' { s' with heap := h' }) -> G D H' -> RR (.ref D) C (.ok .next) s') :
   wpAny (model X.prog X.w) X.A (newList []) (fun acc s₃ => wpAny (model X.prog X.w) X.A (newFunctionEnv scope X.env.globals (cy X.env scope.names []) [] X.env.qual none .none (some X.env)) (fun Jp s₄ =>
     codeAny (model X.prog X.w) X.A (.compStart (.ListComp elt [⟨tg, iter, ifs, 0⟩] scope pos) 0 (.ref it) acc { Jp with scope := relabel scope X.env }) (RR acc Jp.locals) s₄) E s₃) E s := by
 refine wpAny_newObj_type ?_
 have I3 : Inv X pins σ (upd H s.heap.objs.size (.lst [])) { s with heap := s.heap.push { cls := .type "list", dict := none, data := .seq ([] : List Value).toArray } } :=
   I.laid (t' := s.toks) (fun b u e => afv _ e) (afp _) ⟨by show 0 <= sizeLine; exact afP _, [], 0, .nil, afL _ rfl⟩
 have hD : H s.heap.objs.size = none := I.dO.fresh (afp _)
 obtain ⟨W, ⟨m0, w0⟩, turn⟩ := loop _ hD
 have Jq : ∀ b ∈ fp, gX X pins (upd H s.heap.objs.size (.lst [])) b /\ b < (s.heap.push { cls := .type "list", dict := none, data := .seq ([] : List Value).toArray }).objs.size := fun b hb => by
   obtain ⟨f0, f1⟩ := hf b hb
   obtain ⟨o, ho, _⟩ := Tn.obj 0 _ st b hb
   have oz := afA ho
   refine ⟨⟨by rw [az (afX oz)]; exact f0, f1⟩, ?_⟩
   rw [Heap.size_push]; exact Nat.lt_succ_of_lt oz
 have WU : tn 0 (s.heap.push { cls := .type "list", dict := none, data := .seq ([] : List Value).toArray }) := Tn.keep 0 _ _ st fun b _ o e => afv _ e
 generalize hs3 : ({ s with heap := s.heap.push { cls := .type "list", dict := none, data := .seq ([] : List Value).toArray } } : Shared) = s3 at I3 ⊢
 have Up : s3.heap = s.heap.push { cls := .type "list", dict := none, data := .seq ([] : List Value).toArray } := by rw [← hs3]
 rw [← Up] at Jq WU
 refine wpAny_newFunctionEnv sc.qO (by intro y hy; simp at hy) (fun h₁ Uq Ur => ?_) sc.kind
 have old : ∀ b o, s3.heap.get? b = some o -> h₁.get? b = some o := fun b o e => (Ur.2 b (afX (afA e))).trans (afv _ e)
 have J0 := BE (tk := s3.toks + ([] : List (Str × Value)).length) sc I3 Jq Uq old
 have st4 : tn 0 h₁ := Tn.keep 0 _ _ WU fun b _ o e => old b o e
 have RQ : ∀ s4 : Shared, s4 = { s3 with heap := h₁, toks := s3.toks + ([] : List (Str × Value)).length } -> codeAny (model X.prog X.w) X.A (.compLoop (.ListComp elt [⟨tg, iter, ifs, 0⟩] scope pos) 0 (.ref it) (.ref s.heap.objs.size) (compEnvC scope (cy X.env scope.names []) s3.heap.objs.size X.env)) (RR (.ref s.heap.objs.size) s3.heap.objs.size) s4 := by
   rintro s4 rfl
   have stat : ∀ {H' : Hp}, (∀ b ∈ fp, H' b = none) -> ∀ b ∈ fp, gX (cT X scope Nc s3.heap.objs.size s3 (upd H s.heap.objs.size (.lst [])) fp) [] H' b := fun {H'} hn b hb => by
     obtain ⟨⟨f0, f1, f2, f3, f4, f5⟩, oz⟩ := Jq b hb
     refine ⟨hn b hb, afX oz, fun z => ?_, .inl hb, fun y c e => f4 y c (jY (fun y hy e => I.ok.has y.1 (sc.frees y hy e).2) (fun _ _ z => by cases z) e), fun p hp => absurd (show p ∈ ([] : List (Addr × Obj)) from hp) (by simp)⟩
     rcases afm.mp (I3.xJ b z) with q | q
     . exact f1 q
     . exact f2 q
   refine xV (fun n s' => ∃ i o H', o.length = xs.length /\ Inv (cT X scope Nc s3.heap.objs.size s3 (upd H s.heap.objs.size (.lst [])) fp) [] (GB σ ix o) H' s' /\ tn i s'.heap /\ (∀ b ∈ fp, H' b = none) /\ W i n H') ?_ m0 ⟨0, _, _, agq, J0, st4, fun b hb => (Jq b hb).1.1, w0⟩
   rintro n s5 ⟨i, o5, H5, ol5, I5, V7, Zz, w5⟩
   rcases turn i n H5 w5 with ⟨stop, g⟩ | ⟨go, N, hN, step⟩
   . refine eG (Tn.done (cT X scope Nc s3.heap.objs.size s3 (upd H s.heap.objs.size (.lst [])) fp) rfl rfl rfl hc i [] s5 _ H5 _ I5 (stat Zz) V7 stop) fun r s6 zz => ?_
     obtain ⟨hr, I6⟩ := zz
     subst hr
     obtain ⟨m6, hn6, _⟩ := I6.loc
     obtain ⟨oc, esc, epc, V6, hdc, _⟩ := id hn6
     have ZK := I3.Ir (afp s3.heap.objs.size) (H' := fun _ => none) rfl
     refine hRR _ _ s6 H5 ⟨m6, hn6⟩ ⟨oc, V6, fun v z => by rw [hdc] at z; cases z⟩ I6.free ⟨ZK.2.1, ZK.2.2.1, ?_, ZK.2.2.2.2.1, ZK.2.2.2.2.2⟩ (fun h' Us => Gw I3 (fun b hb => (Jq b hb).1) I6 Us) g
     exact I3.sz
   . refine eG (Tn.item (cT X scope Nc s3.heap.objs.size s3 (upd H s.heap.objs.size (.lst [])) fp) rfl rfl rfl hc i [] s5 _ H5 _ I5 (stat Zz) V7 go) fun r s6 zz => ?_
     obtain ⟨u, hr, h6⟩ := zz
     subst hr
     refine eG h6 fun _ s7 zz => ?_
     obtain ⟨xv, H7, I7, r7, y7, st7, fr7⟩ := zz
     have I7' := I7.pinned (stat fr7) (Tn.obj _ _ st7)
     obtain ⟨t, hg, ht⟩ := step xv _ y7 s3.heap.objs.size s3 (upd H s.heap.objs.size (.lst [])) fp o5 ol5
     refine eG (hg _ s7 _ H7 xv u _ I7' r7 ht) fun _ s8 zz => ?_
     obtain ⟨σ8, H8, I8, os8, ol8, e8, h8⟩ := zz
     subst e8
     refine eG (Ja I8 h8 rfl) fun ok s9 zz => ?_
     obtain ⟨H9, I9, q9⟩ := zz
     have again : ∀ {Ha : Hp} {sa : Shared}, Inv (cT X scope Nc s3.heap.objs.size s3 (upd H s.heap.objs.size (.lst [])) fp) ([] ++ um fp s7.heap) (GB σ ix os8) Ha sa -> N Ha -> ∃ m, m < n /\ ∃ i o H', o.length = xs.length /\ Inv (cT X scope Nc s3.heap.objs.size s3 (upd H s.heap.objs.size (.lst [])) fp) [] (GB σ ix o) H' sa /\ tn i sa.heap /\ (∀ b ∈ fp, H' b = none) /\ W i m H' := fun {Ha sa} Ia na => by
       obtain ⟨m', hm, wa⟩ := hN Ha na
       refine ⟨m', hm, i + 1, os8, Ha, ol8, Ia.lg, Tn.keep _ _ _ st7 fun b hb o e => (Ia.pin (b, o) (afh _ (afh _ (gn hb e)))).1, fun b hb => ?_, wa⟩
       obtain ⟨o, e, d⟩ := Tn.obj _ _ st7 b hb
       exact (Ia.pin (b, o) (afh _ (afh _ (gn hb e)))).2.1
     cases ok with
     | false =>
       rw [afi afx] at q9 ⊢
       exact again I9 q9
     | true =>
       rw [afk rfl] at q9 ⊢
       refine eG (q9 _ s9 I9) fun v sa zz => ?_
       obtain ⟨y, Ha, Ia, ra, acc, aa2, hlen, na⟩ := zz
       refine eG (wU (X := cT X scope Nc s3.heap.objs.size s3 (upd H s.heap.objs.size (.lst [])) fp) _ sa _ Ha (.ref s.heap.objs.size) [y] (.ref s.heap.objs.size) [v] (fun _ Hb => Hb = upd Ha s.heap.objs.size (.lst (acc ++ [y]))) Ia rfl (.cons ra .nil) ⟨_, acc, y, rfl, rfl, aa2, hlen, rfl⟩) fun _ sb zz => ?_
       obtain ⟨_, Hb, Ib, _, eb⟩ := zz
       subst eb
       exact again Ib na
 exact codeAny_compStart_list (RQ _ rfl) (Tn.self _ 0 _ _ _ st4 (RQ _ rfl))
end
noncomputable def GC (ps : List D) : List (Option T) := ps.map fun p => some (.sh p)
theorem wZ : ∀ {ys : List V} {os : List (Option V)} {pre r : L2.St}, os.length = ys.length -> BD (pre ++ (os ++ r)) (List.range' pre.length ys.length) ys = pre ++ (ys.map some ++ r)
 | [], os, pre, r, h => by
   have : os = [] := List.length_eq_zero_iff.mp h
   subst this
   rfl
 | y :: ys, os, pre, r, h => by
   match os, h with
   | o :: os, h =>
     show BD ((pre ++ (o :: (os ++ r))).set pre.length (some y)) (List.range' (pre.length + 1) ys.length) ys = _
     rw [List.set_append_right _ _ (afp _), Nat.sub_self, List.set_cons_zero]
     have := wZ (ys := ys) (os := os) (pre := pre ++ [some y]) (r := r) (by simpa using h)
     simp only [afK, afM, agu, afr, List.singleton_append] at this
     rw [this]
     simp
theorem Nj {K : PySem.W.Frag} {CL : Str -> Addr} {H Z : Hp} : ∀ {ps : List D} {ys : List V} {δc : List (Option T)} {σc : L2.St}, aB K CL Z ps ys -> fq K CL H Z δc σc [] -> fq K CL H Z (GC ps ++ δc) (ys.map some ++ σc) [] := fun {ps ys δc σc} h e =>
 aB.ind (P := fun ps ys => fq K CL H Z (GC ps ++ δc) (ys.map some ++ σc) []) e (fun r _ i => .cons (fp := []) (gp := []) (.sh r) i) h
section
variable {X : Cx} {CL : Str -> Addr} {b : Bx} {H Z W1 : Hp} {δ δc : List (Option T)} {σ : L2.St} {ts : List T} {vs : List V} {ds : List D} {scope : Scope} {Nc : List Str} {n : Nat} {ix : List Nat} {elt tg : Expr} {ifs : List Expr} {p : D -> Bool} {g : D -> T} {J : It} {parts : D -> Option (List D)}
noncomputable def qS (X : Cx) (CL : Str -> Addr) (scope : Scope) (Nc : List Str) (n : Nat) (tg : Expr) (parts : D -> Option (List D)) (ifs : List Expr) (elt : Expr) (δc : List (Option T)) (ds : List D) (p : D -> Bool) (g : D -> T) : Prop :=
 ∀ C s0 H0 f0 b', Tgt (cT X scope Nc C s0 H0 f0) CL tg (List.range' 0 n) parts /\ ∀ d, d ∈ ds -> ∃ ps, parts d = some ps /\ ps.length = n /\ ZG (cT X scope Nc C s0 H0 f0) CL b' ifs (GC ps ++ δc) (p d) /\ (p d = true -> b9 (cT X scope Nc C s0 H0 f0) CL b' elt (GC ps ++ δc) (g d) (GC ps ++ δc))
theorem oA (S : bW X.K CL b H Z δ σ ts vs) (zw : aC Z W1) (wh : aC W1 H) (tp : ∀ a o, H a = some o -> gR o = true -> W1 a = some o)
   (cap : ∀ H', fq X.K CL H' W1 δc (ix.map fun i => (σ[i]?).getD none) []) (inner : qS X CL scope Nc n tg parts ifs elt δc ds p g)
   (hgo : ∀ i H2, aC W1 H2 -> i < ds.length -> J.go i H2)
   (hy : ∀ i Z2 H2 x H', aC W1 Z2 -> aC Z2 H2 -> (∀ a o, H2 a = some o -> gR o = true -> Z2 a = some o) -> i < ds.length -> J.Mm i H2 x H' -> ∃ Z3 d, ds[i]? = some d /\ Jk Z2 H2 Z3 H' /\ bH X.K CL Z3 d x)
   (T9 : ∀ H2, aC W1 H2 -> J.stop ds.length H2) (hlen : ds.length <= sizeLine) (c : W1 = Z \/ ∀ d ∈ ds, (g d).clean = true) :
   ∀ D, H D = none -> ∃ W : Nat -> Nat -> Hp -> Prop, (∃ m, W 0 m (upd H D (.lst []))) /\ ∀ i m H2, W i m H2 -> (J.stop i H2 /\ ∃ Z2, aC Z Z2 /\ aC H H2 /\ bW X.K CL b H2 Z2 δ σ (.lst ((ds.filter p).map g) :: ts) (.ref D :: vs)) ∨
     (J.go i H2 /\ ∃ N : Hp -> Prop, (∀ H', N H' -> ∃ m', m' < m /\ W (i + 1) m' H') /\ ∀ xv H3, J.Mm i H2 xv H3 -> ∀ C s0 H0 f0 os, os.length = n -> Jo (cT X scope Nc C s0 H0 f0) tg elt ifs n σ ix D N xv os H3) := by
 intro D hD
 have wD : W1 D = none := wh.free hD
 refine ⟨fun i m H2 => m = ds.length - i /\ i <= ds.length /\ ∃ Z2 Dr fp, aC H H2 /\ aC W1 Z2 /\ aC Z2 H2 /\ Z2 D = none /\ (∀ a o, Z2 a = some o -> W1 a = none -> H a = none) /\ (∀ a o, H2 a = some o -> gR o = true -> Z2 a = some o) ∧
   H2 D = some (.lst Dr) /\ aX X.K CL H2 Z2 (((ds.take i).filter p).map g) Dr fp /\ fp.Nodup /\ D ∉ fp /\ (∀ a ∈ fp, Z2 a = none /\ H a = none) /\ Dr.length <= i, ⟨ds.length, rfl, afP _, W1, [], [], aC.upd hD, .refl _, wh.trans (aC.upd hD), wD, fun a o q z => ?_, fun a o q i => ?_, aQ, .nil, ags, by simp, by simp, by simp⟩, ?_⟩
 . rw [q] at z; cases z
 . by_cases ha : a = D
   . subst ha; rw [aQ] at q; cases q; cases i
   . rw [az ha] at q; exact tp a o q i
 . rintro i m H2 ⟨rfl, hi, Z2, Dr, fp, hh, wz, zh, zD, nw, tp2, ZL, ra, nd, nD, own, hav⟩
   by_cases oz : i < ds.length
   . refine .inr ⟨hgo i H2 (wz.trans zh) oz, fun H' => ∃ Z2 Dr fp, aC H H' /\ aC W1 Z2 /\ aC Z2 H' /\ Z2 D = none /\ (∀ a o, Z2 a = some o -> W1 a = none -> H a = none) /\ (∀ a o, H' a = some o -> gR o = true -> Z2 a = some o) ∧
       H' D = some (.lst Dr) /\ aX X.K CL H' Z2 (((ds.take (i + 1)).filter p).map g) Dr fp /\ fp.Nodup /\ D ∉ fp /\ (∀ a ∈ fp, Z2 a = none /\ H a = none) /\ Dr.length <= i + 1, fun H' h => ⟨ds.length - (i + 1), by omega, rfl, oz, h⟩, fun xv H3 y C s0 H0 f0 os hos => ?_⟩
     obtain ⟨Z3, d, hd, gr, rd⟩ := hy i Z2 H2 xv H3 wz zh tp2 oz y
     have Ut : ∀ a, Z2 a = none -> (∃ o, H2 a = some o) -> Z3 a = none := fun a e ⟨o, e2⟩ => by
       cases q : Z3 a with
       | none => rfl
       | some u => rw [gr.new a u q e] at e2; cases e2
     have nw3 : ∀ a o, Z3 a = some o -> W1 a = none -> H a = none := fun a o q z => by
       cases e : Z2 a with
       | none => exact hh.free (gr.new a o q e)
       | some u =>
         have := gr.z a u e
         rw [q] at this; cases this
         exact nw a o e z
     have Uu : aX X.K CL H3 Z3 (((ds.take i).filter p).map g) Dr fp := ra.mono gr.z fun a ha => by
       obtain ⟨o, e⟩ := ra.there a ha
       rw [e]; exact gr.h a o e
     have ZM : ∀ a ∈ fp, Z3 a = none /\ H a = none := fun a ha => ⟨Ut a (own a ha).1 (ra.there a ha), (own a ha).2⟩
     have zD3 : Z3 D = none := Ut D zD ⟨_, ZL⟩
     have RT : H3 D = some (.lst Dr) := gr.h D _ ZL
     have Up := hh.trans gr.h
     have ZN := wz.trans gr.z
     have zh3 := gr.zh
     have tp3 := gr.tp
     clear own nw ra zD ZL hh wz zh tp2 gr Ut
     have aa5 : d ∈ ds := af7 hd
     have Ic : ds.take (i + 1) = ds.take i ++ [d] := by rw [agK, hd]; rfl
     obtain ⟨tgt, inn⟩ := inner C s0 H0 f0 ⟨H3, Z3⟩
     obtain ⟨ps, hps, wk, it, ie⟩ := inn d aa5
     obtain ⟨t, pg, ht⟩ := tgt
     refine ⟨t, pg, ht Z3 H3 d ps xv _ _ zh3 rd hps fun ys rys => ?_⟩
     have hyl : ys.length = n := by rw [← rys.length]; exact wk
     have es : BD (GB σ ix os) (List.range' 0 n) ys = GB σ ix (ys.map some) := by
       have := wZ (ys := ys) (os := os) (pre := []) (r := ix.map fun i => (σ[i]?).getD none) (by rw [hos, hyl])
       rw [hyl] at this
       exact this
     refine ⟨ys.map some, by rw [afj]; exact hyl, es, ?_⟩
     rw [es]
     have S0 : bW X.K CL ⟨H3, Z3⟩ H3 Z3 (GC ps ++ δc) (GB σ ix (ys.map some)) [] [] :=
       ⟨⟨[], [], Nj rys ((cap H3).mono ZN fun a ha => by cases ha), .nil, ags, fun a ha => by cases ha⟩, .refl _, .refl _, zh3, fun a o q z => (by have z' : Z3 a = none := z; rw [show Z3 a = some o from q] at z'; cases z'), tp3, (S.Xg.mono zw).mono ZN⟩
     refine it.sem S0 fun H4 Z4 z4 k4 S4 => ?_
     have aa7 : ∀ a ∈ fp, H4 a = H3 a := fun a ha => by
       obtain ⟨o, e⟩ := Uu.there a ha
       rw [e]; exact k4 a o e
     have Jr : ∀ a, Z3 a = none -> (∃ o, H3 a = some o) -> Z4 a = none := fun a e ⟨o, e2⟩ => by
       cases q : Z4 a with
       | none => rfl
       | some u =>
         have := S4.new a u q e
         rw [show H3 a = none from this] at e2; cases e2
     cases hp : p d with
     | false =>
       refine Gq ⟨Z4, Dr, fp, Up.trans k4, ZN.trans z4, S4.zh, Jr D zD3 ⟨_, RT⟩, fun a o q z => ?_, S4.tp, k4 D _ RT, ?_, nd, nD, fun a ha => ⟨Jr a (ZM a ha).1 (Uu.there a ha), (ZM a ha).2⟩, by omega⟩
       . cases e : Z3 a with
         | none => exact Up.free (S4.new a o q e)
         | some u => 
           have := z4 a u e
           rw [q] at this; cases this
           exact nw3 a o e z
       . rw [Ic, agt, List.filter_cons_of_neg (by simp [hp]), List.filter_nil, af2]
         exact Uu.mono z4 aa7
     | true =>
       refine Gr ((ie hp) H4 Z4 (GB σ ix (ys.map some)) [] [] _ S4 fun yv H5 Z5 z5 k5 S5 => ⟨Dr, k5 D _ (k4 D _ RT), by omega, ?_⟩)
       obtain ⟨f1, g1, e1, r1, Xh, Xw⟩ := S5.rep
       cases r1 with
       | @cons _ _ _ _ fy fn ry rn =>
         cases rn
         rw [af2] at Xh Xw
         have ndy : fy.Nodup := (afY.mp Xh).2.1
         have Nk : ∀ a ∈ fy, Z5 a = none /\ H3 a = none := fun a ha => Xw a (afh _ ha)
         have DS : ∀ a, Z3 a = none -> (∃ o, H3 a = some o) -> Z5 a = none := fun a e ⟨o, e2⟩ => by
           cases q : Z5 a with
           | none => rfl
           | some u =>
             have := S5.new a u q e
             rw [show H3 a = none from this] at e2; cases e2
         have yD : ∀ a ∈ fy, a ≠ D := fun a ha e => by
           subst e
           rw [(Nk a ha).2] at RT; cases RT
         have h5D : H5 D = some (.lst Dr) := k5 D _ (k4 D _ RT)
         have sD : aC H (upd H5 D (.lst (Dr ++ [yv]))) := fun a o q => by
           rw [az (aG q hD)]
           exact k5 a o (k4 a o (Up a o q))
         refine ⟨Z5, Dr ++ [yv], fp ++ fy, sD, ZN.trans (z4.trans z5), fun a o q => ?_, DS D zD3 ⟨_, RT⟩, fun a o q z => ?_, fun a o q im => ?_, aQ, ?_, ?_, ?_, fun a ha => ?_, ?_⟩
         . rw [az (aG q (DS D zD3 ⟨_, RT⟩))]; exact S5.zh a o q
         . cases e : Z3 a with
           | none => exact Up.free (S5.new a o q e)
           | some u =>
             have := z5 a u (z4 a u e)
             rw [q] at this; cases this
             exact nw3 a o e z
         . by_cases ha : a = D
           . subst ha; rw [aQ] at q; cases q; cases im
           . rw [az ha] at q; exact S5.tp a o q im
         . rw [Ic, agt, ag6 hp, List.filter_nil, List.map_append]
           refine aX.app (Uu.mono (z4.trans z5) fun a ha => ?_) (by
             have := aX.cons (fp := fy) (gp := []) (ry.mono (.refl _) fun a ha => az (yD a ha)) (aX.nil (H := upd H5 D (.lst (Dr ++ [yv]))) (Z := Z5))
             rwa [af2] at this)
           have : a ≠ D := fun e => nD (e ▸ ha)
           rw [az this]
           obtain ⟨o, e⟩ := Uu.there a ha
           rw [e]; exact k5 a o (k4 a o e)
         . refine afY.mpr ⟨nd, ndy, fun a ha a' IW e => ?_⟩
           subst e
           obtain ⟨o, e⟩ := Uu.there a ha
           rw [(Nk a IW).2] at e; cases e
         . intro h
           rcases afu.mp h with h | h
           . exact nD h
           . exact yD D h rfl
         . rcases afu.mp ha with h | h
           . exact ⟨DS a (ZM a h).1 (Uu.there a h), (ZM a h).2⟩
           . exact ⟨(Nk a h).1, Up.free (Nk a h).2⟩
         . rw [afK, List.length_singleton]; omega
   . have e : i = ds.length := by omega
     subst e
     refine .inl ⟨T9 H2 (wz.trans zh), ?_⟩
     rw [agz] at ra
     obtain ⟨Z', z', S'⟩ := S.back (H' := H2) (W := W1) (W' := Z2) (t := .lst ((ds.filter p).map g)) (v := .ref D) (fp := D :: fp) hh zw wz zh nw tp2 (.lst ZL ra) (agD.mpr ⟨nD, nd⟩) (fun a ha => by
       rcases afm.mp ha with h | h
       . subst h; exact ⟨zD, hD⟩
       . exact own a h) (c.imp id fun c => by
         rw [gu]
         exact uy fun d hd => c d (agi.mp hd).1)
     exact ⟨Z', z', hh, S'⟩
end
section
variable {X : Cx} {CL : Str -> Addr} {b : Bx} {δ δ1 : List (Option T)} {scope : Scope} {xs : List Str} {Nc : List Str} {ix : List Nat} {elt iter tg : Expr} {ifs : List Expr} {pos : Pos} {ds : List D} {p : D -> Bool} {g : D -> T} {δc : List (Option T)} {parts : D -> Option (List D)}
theorem w4 {J : It} {fp : List Addr} {it : Addr} {tn : Nat -> Heap -> Prop} {pins : List (Addr × Obj)} {σ : L2.St} {H H1 Z : Hp} {s : Shared} {ts : List T} {vs : List V} {RR : Value -> Addr -> Result -> Shared -> Prop} {E : Value -> Shared -> Prop}
   (sc : lF X scope xs Nc ix) (hc : X.calm = true) (C : x6 X CL b δ1 σ ts vs Z H ds J H1) (I : L2.Inv X pins σ H1 s) (Tn : Turn X.prog X.w X.K tg J fp it tn) (st : tn 0 s.heap) (hf : ∀ b ∈ fp, gX X pins H1 b)
   (hb : (δc = uz δ1 ix /\ ∀ d ∈ ds, (g d).clean = true) \/ δc = Bo δ1 ix) (inner : qS X CL scope Nc xs.length tg parts ifs elt δc ds p g) (hlen : ds.length <= sizeLine)
   (hRR : ∀ D C s' H' Z', (∃ m, s'.heap.Ns C m) -> (∃ o, s'.heap.get? C = some o /\ ∀ v, o.data ≠ .cell v) -> H' C = none -> (C ≠ X.env.locals /\ C ∉ X.fs /\ X.s₀.heap.objs.size <= C /\ (∀ y c, X.env.cells.lookup y = some c -> c ≠ C) /\ ∀ q ∈ X.pn ++ pins, q.1 ≠ C) -> (∀ h', Heap.SameBut C s'.heap h' -> L2.Inv X pins σ H' { s' with heap := h' }) -> aC Z Z' -> aC H H' -> bW X.K CL b H' Z' δ1 σ (.lst ((ds.filter p).map g) :: ts) (.ref D :: vs) -> RR (.ref D) C (.ok .next) s') :
   wpAny (model X.prog X.w) X.A (newList []) (fun acc s₃ => wpAny (model X.prog X.w) X.A (newFunctionEnv scope X.env.globals (cy X.env scope.names []) [] X.env.qual none .none (some X.env)) (fun Jp s₄ =>
     codeAny (model X.prog X.w) X.A (.compStart (.ListComp elt [⟨tg, iter, ifs, 0⟩] scope pos) 0 (.ref it) acc { Jp with scope := relabel scope X.env }) (RR acc Jp.locals) s₄) E s₃) E s := by
 obtain ⟨Z1, z1, k1, S1, go, yl, ZO⟩ := C.ex
 have lp : ∀ D, H1 D = none -> ∃ W : Nat -> Nat -> Hp -> Prop, (∃ m, W 0 m (upd H1 D (.lst []))) /\ ∀ i m H2, W i m H2 -> (J.stop i H2 /\ ∃ Z2, aC Z1 Z2 /\ aC H1 H2 /\ bW X.K CL b H2 Z2 δ1 σ (.lst ((ds.filter p).map g) :: ts) (.ref D :: vs)) ∨
     (J.go i H2 /\ ∃ N : Hp -> Prop, (∀ H', N H' -> ∃ m', m' < m /\ W (i + 1) m' H') /\ ∀ xv H3, J.Mm i H2 xv H3 -> ∀ C s0 H0 f0 os, os.length = xs.length -> Jo (cT X scope Nc C s0 H0 f0) tg elt ifs xs.length σ ix D N xv os H3) := by
   rcases hb with ⟨e, cl⟩ | e
   . subst e
     exact oA (W1 := H1) S1 S1.zh (.refl _) (fun _ _ q _ => q) (oZ S1 ix) inner (fun i H2 s => go i H2 (S1.zh.trans s)) (fun i Z2 H2 y H' s => yl i Z2 H2 y H' (S1.zh.trans s)) (fun H2 s => ZO H2 (S1.zh.trans s)) hlen (.inr cl)
   . subst e
     exact oA (W1 := Z1) S1 (.refl _) S1.zh S1.tp (Bp S1 ix) inner go yl ZO hlen (.inl rfl)
 exact uD sc hc I Tn st hf lp fun D C s' H' m io nC ch ci ⟨Z', z', k', S'⟩ => hRR D C s' H' Z' m io nC ch ci (z1.trans z') (k1.trans k') S'
theorem lG (sc : lF X scope xs Nc ix) {pins : List (Addr × Obj)} {σ : L2.St} {H : Hp} {s : Shared} (I : L2.Inv X pins σ H s) : closureFor scope X.env = pure (cy X.env scope.names []) :=
 jh fun y hy e => I.ok.has y.1 (sc.frees y hy e).2
theorem BF (sc : lF X scope xs Nc ix) (hc : X.calm = true) (h : ZH X CL b tg iter δ ds δ1) (hb : (δc = uz δ1 ix /\ ∀ d ∈ ds, (g d).clean = true) \/ δc = Bo δ1 ix) (inner : qS X CL scope Nc xs.length tg parts ifs elt δc ds p g) (hlen : ds.length <= sizeLine)
   (hs : ∀ x, foldedSetIterable iter X.env x = pure x := by intro _; rfl) : b9 X CL b (.ListComp elt [⟨tg, iter, ifs, 0⟩] scope pos) δ (.lst ((ds.filter p).map g)) δ1 := fun H Z σ ts vs Q S k pins s I => by
 obtain ⟨wi, pi, hw⟩ := h
 rw [eval_ListComp]
 refine ag2 (use := none) rfl hs (lG sc I) sc.kind sc.names ?_
 refine eG (pi pins s σ H _ I (hw H Z σ ts vs (fun J H1 => x6 X CL b δ1 σ ts vs Z H ds J H1) S fun J H1 C => C)) fun v s1 h1 => eG h1 fun WO s2 zz => ?_
 obtain ⟨it, fp, tn, J, H1, e, I1, Tn, st, hf, C⟩ := zz
 subst e
 refine w4 (RR := fun acc C => compPost (model X.prog X.w) X.A X.xe none (EP X pins σ Q) acc C) sc hc C I1 Tn st hf hb inner hlen fun D C' s' H' Z' m io nC ch ci z' k' S' => ?_
 obtain ⟨m, hn⟩ := m
 exact ⟨m, hn, fun h' Us => ⟨.ref D, H', ci h' Us, rfl, k _ H' Z' z' k' S'⟩⟩
theorem Nm {D : cX} {y : Str} {py Xx : Pos} (i : Nat) (sc : lF X scope xs Nc ix) (hc : X.calm = true) (h : ZH X CL b tg iter δ ds δ1) (hb : (δc = uz δ1 ix /\ ∀ d ∈ ds, (g d).clean = true) \/ δc = Bo δ1 ix) (inner : qS X CL scope Nc xs.length tg parts ifs elt δc ds p g) (hlen : ds.length <= sizeLine)
   (k : D.nx (δ1.set i (some (.lst ((ds.filter p).map g))))) (hl : i < δ1.length) (hN : X.N.Nodup) (hi : X.N[i]? = some y) (hx : Loc X.env.scope y) (hf' : X.fn y = true \/ X.env.scope.names.lookup y = some .local)
   (wC : swapsWith (.ListComp elt [⟨tg, iter, ifs, 0⟩] scope pos) (some (.Name y py)) Xx.line X.env = pure true)
   (hs : ∀ x, foldedSetIterable iter X.env x = pure x := by intro _; rfl) : RA X CL b (.Assign [.Name y py] (.ListComp elt [⟨tg, iter, ifs, 0⟩] scope pos) Xx) δ D := fun H Z σ ts vs E S M pins s I => by
 obtain ⟨wi, pi, hw⟩ := h
 rw [exec_Assign_Name_used _ _ _ _ wC]
 refine afz (wpAny_standAt (afz ?_))
 show wpAny _ X.A (do let _ ← comprehension (.ListComp elt [⟨tg, iter, ifs, 0⟩] scope pos) scope X.env _ (newList []) false (eval iter X.env) (some (assign (.Name y py) X.env))) _ _ s
 refine afz (agn (ag2 (use := some (assign (.Name y py) X.env)) (Q := fun _ s' => SP X pins E .next s') rfl hs (lG sc I) sc.kind sc.names ?_) (fun _ s' hq => af1 (af1 hq)) fun _ _ e => e)
 refine eG (pi pins s σ H _ I (hw H Z σ ts vs (fun J H1 => x6 X CL b δ1 σ ts vs Z H ds J H1) S fun J H1 C => C)) fun v s1 h1 => eG h1 fun WO s2 zz => ?_
 obtain ⟨it, fp, tn, J, H1, e, I1, Tn, st, hf, C⟩ := zz
 subst e
 refine w4 (RR := fun acc C => compPost (model X.prog X.w) X.A X.xe (some (assign (.Name y py) X.env)) (fun _ s' => SP X pins E .next s') acc C) sc hc C I1 Tn st hf hb inner hlen fun D' C' s' H' Z' m io nC ch ci z' k' S' => ?_
 obtain ⟨m, hn⟩ := m
 obtain ⟨o, ho, rX⟩ := io
 have I' : L2.Inv X pins σ H' s' := ci s'.heap (.refl ..)
 have I2 : L2.Inv X (pins ++ [(C', o)]) σ H' s' := I'.sO fun q hq => by
   rcases afu.mp hq with z | z
   . exact I'.pin q (afh _ z)
   . have e : q = (C', o) := by simpa using z
     subst e
     exact ⟨ho, nC, ch.1, ch.2.1, rX⟩
 show wpAny _ X.A (assign (.Name y py) X.env (.ref D')) _ _ s'
 have hg : PG X (.Name y py) (ER i) := sQ hN hi hx hf'
 refine eG (hg _ s' σ H' (.ref D') (.ref D') (fun σ8 H8 => σ8 = σ.set i (some (.ref D')) /\ H8 = H') I2 rfl ⟨rfl, rfl⟩) fun _ s8 zz => ?_
 obtain ⟨σ8, H8, I8, e8, e8'⟩ := zz
 subst e8
 subst e8'
 obtain ⟨hC8, nC8, _⟩ := I8.pin (C', o) (afh _ (afh _ (by simp)))
 refine ⟨m, hn.at' fun o' e' => by rw [ho] at e'; cases e'; exact hC8, fun h' Us => ?_⟩
 have I9 : L2.Inv X pins (σ.set i (some (.ref D'))) _ s8 := I8.sO fun q hq => I8.pin q (afh _ (afy _ hq))
 have I10 := I9.turned (it := C') (h' := h') (t' := s8.toks) (fun b o hb e => (Us.2 b hb).trans e) nC8 ch.1.symm.symm (.inr ch.2.2.1) ch.2.2.2.1 ch.2.2.2.2
 exact ⟨_, _, I10, M.nx _ _ _ Z' z' (S'.set hl) k⟩
theorem Uv {D : cX} {gq : List Stmt} {i : Nat} {x : Str} {pos' pc : Pos} (gx : Gx X) (n : Ln X i x) (sc : lF X scope xs Nc ix) (h : ZH X CL b tg iter δ ds δ1)
   (hb : (δc = uz δ1 ix /\ ∀ d ∈ ds, (g d).clean = true) \/ δc = Bo δ1 ix) (inner : qS X CL scope Nc xs.length tg parts ifs elt δc ds p g) (hlen : ds.length <= sizeLine) (k : fF X CL b gq (δ1.set i (some (.lst ((ds.filter p).map g)))) D) (hl : i < δ1.length)
   (wC : swapsWith (.ListComp elt [⟨tg, iter, ifs, 0⟩] scope pc) (some (.Name x pos')) pos.line X.env = pure true \/ swapsWith (.ListComp elt [⟨tg, iter, ifs, 0⟩] scope pc) (some (.Name x pos')) pos.line X.env = pure false) (hs : ∀ x, foldedSetIterable iter X.env x = pure x := by intro _; rfl) :
   fF X CL b (.Assign [.Name x pos'] (.ListComp elt [⟨tg, iter, ifs, 0⟩] scope pc) pos :: gq) δ D := by
 rcases wC with wC | wC
 . exact dW (Nm i sc gx.calm h hb inner hlen k hl gx.nd n.hi n.loc n.hf wC hs)
 . exact dW (I0 i (BF sc gx.calm h hb inner hlen hs) k hl gx.nd n.hi n.loc wC n.hf)
theorem Uw {i : Nat} {x : Str} {C : Addr} {s : Shared} {H : Hp} {fp : List Addr} (h1 : Nc[i]? = some x) (h2 : scope.names.lookup x = some .local) (hd : (x == ("__debug__" : Str)) = false := by decide) (gW : (x == ("__classdict__" : Str)) = false := by decide) : Ln (cT X scope Nc C s H fp) i x :=
 ⟨fQ h1 h2 hd gW, .inl (lookup_relabel_local h2), .inr (lookup_relabel_local h2)⟩
end
section
variable {X : Cx} {elts : List Expr} {kk : Nat} {pt : Pos}
end
section
variable {X : Cx} {CL : Str -> Addr} {b : Bx} {δ δ1 : List (Option T)} {e : Expr} {ds : List D} {elts : List Expr} {kk : Nat} {pt pr pc : Pos}
end
noncomputable def insI (x : Int) : List Int -> List Int
 | [] => [x]
 | y :: l => if x <= y then x :: y :: l else y :: insI x l
noncomputable def sortI : List Int -> List Int
 | [] => []
 | x :: l => insI x (sortI l)
theorem insI_perm (x : Int) : ∀ l, (insI x l).Perm (x :: l)
 | [] => .refl _
 | y :: l => by
   rw [insI]
   split
   . exact .refl _
   . exact ((insI_perm x l).cons y).trans (.swap x y l)
theorem sortI_perm : ∀ l, (sortI l).Perm l
 | [] => .refl _
 | x :: l => (insI_perm x (sortI l)).trans ((sortI_perm l).cons x)
theorem GD {l : List Int} {x : Int} : x ∈ sortI l ↔ x ∈ l := (sortI_perm l).mem_iff
theorem w9 (l : List Int) : (sortI l).length = l.length := (sortI_perm l).length_eq
theorem se (x : Int) : ∀ {l : List Int}, l.Pairwise (· <= ·) -> (insI x l).Pairwise (· <= ·)
 | [], _ => List.pairwise_singleton _ _
 | y :: l, h => by
   rw [insI]
   obtain ⟨h1, h2⟩ := agb.mp h
   split
   . rename_i e
     refine agb.mpr ⟨fun z hz => ?_, h⟩
     rcases afm.mp hz with rfl | hz
     . exact e
     . exact Int.le_trans e (h1 z hz)
   . rename_i e
     refine agb.mpr ⟨fun z hz => ?_, se x h2⟩
     rcases afm.mp ((insI_perm x l).mem_iff.mp hz) with rfl | hz
     . omega
     . exact h1 z hz
theorem j4 : ∀ l, (sortI l).Pairwise (· <= ·)
 | [] => .nil
 | x :: l => se x (j4 l)
theorem sf : ∀ {a b : List Int}, a.Perm b -> a.Pairwise (· <= ·) -> b.Pairwise (· <= ·) -> a = b
 | [], b, p, _, _ => (List.nil_perm.mp p).symm
 | x :: a, [], p, _, _ => absurd p.length_eq (by simp)
 | x :: a, y :: b, p, ha, hb => by
   obtain ⟨a1, a2⟩ := agb.mp ha
   obtain ⟨b1, b2⟩ := agb.mp hb
   have e : x = y := by
     have h1 : x ∈ y :: b := p.mem_iff.mp afo
     have h2 : y ∈ x :: a := p.mem_iff.mpr afo
     rcases afm.mp h1 with e | h1
     . exact e
     . rcases afm.mp h2 with e | h2
       . exact e.symm
       . exact Int.le_antisymm (a1 y h2) (b1 x h1)
   subst e
   rw [sf (List.Perm.cons_inv p) a2 b2]
theorem Js {l z : List Int} (p : z.Perm l) (s : z.Pairwise (· <= ·)) : z = sortI l := sf (p.trans (sortI_perm l).symm) s (j4 l)
theorem pF : ∀ {us : List Value} {ns : List Int}, IntsAre us ns -> Vals (ns.map V.int) us
 | _, _, .nil => .nil
 | _, _, .cons n t r => .cons ⟨t, rfl⟩ (pF r)
section
variable {X : Cx}
theorem x8 : kY X (.builtin "sorted") (fun xs H Q => ∃ p ns, xs = [.ref p] /\ nX X.K H p (ns.map .int) /\ ns.length < 64 /\ ∀ l, H l = none -> Q (.ref l) (upd H l (.lst ((sortI ns).map .int)))) := by
 intro pins s σ H xs us Q I r h
 obtain ⟨p, ns, rfl, hq, hl, q⟩ := h
 obtain ⟨u, rfl, rx⟩ := vals1 r
 cases rx
 obtain ⟨its, r', pl, hz⟩ := I.list hq
 have hlen := r'.length
 rw [afj] at hlen
 refine sorted_ints pl.isList (intsAre_of r') (by omega) fun out ns' a1 a2 a3 => ?_
 obtain ⟨e, he⟩ := sortedAll_at s.heap its out
 have e2 : ns' = sortI ns := Js a2 a3
 subst e2
 refine ⟨.ref (s.heap.objs.size + 1), _, I.laid (t' := s.toks) (fun _ _ => sortedAll_old) (agW _) (show gk X.prog X.w _ _ _ (.lst ((sortI ns).map .int)) from ⟨?_, out.toList, e, pF a1, ?_⟩), rfl, q _ (I.dO.fresh (agW _))⟩
 . rw [afj, w9]
   rw [afj] at hz
   exact hz
 . simpa using he
theorem pG : bootBuiltins "sorted" = some (.builtin "sorted") := by decide +kernel
end
section
variable {X : Cx} {CL : Str -> Addr} {b : Bx} {δ δ1 : List (Option T)} {e : Expr} {pos pp : Pos}
theorem xg {K : PySem.W.Frag} {Z : Hp} {l : List Int} {us : List V} (h : aB K CL Z (l.map D.int) us) : us = l.map V.int := by
 refine aB.ind (P := fun ds us => ∀ l : List Int, ds = l.map D.int -> us = l.map V.int) ?_ ?_ h l rfl
 . intro l e
   cases l with
   | nil => rfl
   | cons => cases e
 . intro d v ds vs r _ i l e
   cases l with
   | nil => cases e
   | cons a l =>
     injection e with e1 e2
     subst e1
     rw [i l e2]
     cases r
     rfl
theorem ints_rep {K : PySem.W.Frag} {Z : Hp} : ∀ (l : List Int), aB K CL Z (l.map D.int) (l.map V.int)
 | [] => .nil
 | _ :: l => .cons (.int _) (ints_rep l)
theorem DT {l : List Int} (hm : X.mg "sorted" = none) (h : cG X CL b e δ (.lst (l.map .int)) δ1) (hl : l.length < 64) (hg : Gl X "sorted") (hs : starEach [e] X.env = (false, eval e X.env) :: starEach [] X.env := by exact bM rfl) : b9 X CL b (.Call (.Name "sorted" pp) [e] [] pos) δ (.lst (((sortI l).map D.int).map T.sh)) δ1 := fun H Z σ ts vs Q S k =>
 cS (oR x8 hg hm pG (cg d9 eH hs) (he := hs)) (h H Z σ ts vs _ S fun v H1 Z1 z1 k1 S1 r => by
   cases r with
   | @lst a us _ hq rr =>
     have := xg rr
     subst this
     refine ⟨a, l, rfl, hq, hl, fun p hp => ?_⟩
     obtain ⟨c, S2⟩ := (bW.oY (ints_rep (sortI l)) S1).lz (g0 := []) (by simp) hp
     exact k _ _ _ z1 (k1.trans c) S2)
end
section
variable {X : Cx}
end
section
variable {X : Cx} {CL : Str -> Addr} {b : Bx} {δ δ1 : List (Option T)} {e : Expr} {pos pp : Pos}
end
section
variable {prog : Program} {w : World} {A : Around} {s : Shared}
end
section
variable {prog : Program} {w : World} {A : Around} {s : Shared}
end
section
variable {X : Cx}
end
section
variable {X : Cx} {CL : Str -> Addr} {b : Bx} {δ δ1 : List (Option T)} {e : Expr} {ds : List D} {pos pp pq pr : Pos}
end
theorem lH {α β : Type} {f : α -> β} {l : List α} {j : Nat} {d : β} (h : (l.map f)[j]? = some d) : ∃ x, d = f x /\ l[j]? = some x /\ x ∈ l /\ j < l.length /\ l.drop j = x :: l.drop (j + 1) /\ l.take (j + 1) = l.take j ++ [x] := by
 rw [afV] at h
 cases hx : l[j]? with
 | none => rw [hx] at h; cases h
 | some x =>
   rw [hx] at h
   cases h
   have hj : j < l.length := (afC.mp hx).1
   have e : l[j] = x := (afC.mp hx).2
   exact ⟨x, rfl, rfl, af7 hx, hj, by rw [ag0 hj, e], by rw [agK, hx]; rfl⟩
theorem Ux (n : Nat) {l : List Str} (h : ∀ x ∈ l, PyData.strOk x = true) : ji (n + 1) (.lst (l.map L3.D.str)) := .lst fun d hd => by
 obtain ⟨i, hi, rfl⟩ := afJ.mp hd
 exact .str _ _ (h i hi)
noncomputable def D.ZP : L3.D -> L3.D
 | .tup (a :: _) => a
 | d => d
section
variable {X : Cx} {CL : Str -> Addr} {b : Bx} {δ δ1 : List (Option T)} {e : Expr} {elts : List Expr} {kk : Nat} {pt pr pc : Pos}
end
section
variable {K : PySem.W.Frag} {CL : Str -> Addr} {b : Bx} {H H' Z Z' : Hp} {δ δ' : List (Option T)} {σ σ' : L2.St} {ts tl : List T} {vs us : List V} {t : T} {v : V}
end
section
variable {X : Cx} {CL : Str -> Addr} {b : Bx} {δ δ1 δ2 : List (Option T)} {e e2 : Expr} {t : T} {tl M5 tt tt0 : List T} {D : cX} {pos pp pa pb : Pos}
end
section
variable {X : Cx} {CL : Str -> Addr} {b : Bx} {δ δ1 : List (Option T)} {e : Expr} {t : T} {i : Nat} {x : Str} {pos pp : Pos} {DD : cX} {gq : List Stmt}
end
section
variable {X : Cx}
end
section
variable {K : PySem.W.Frag} {CL : Str -> Addr} {b : Bx} {H Z : Hp} {δ : List (Option T)} {σ : L2.St} {ts tl : List T} {vs : List V} {t : T} {v : V}
end
section
variable {X : Cx} {CL : Str -> Addr} {b : Bx} {δ δ1 : List (Option T)} {e : Expr} {t : T} {tl M5 : List T} {D : cX} {pos pp pa pb pc : Pos} {kj i : Nat} {x : Str} {gq : List Stmt}
end
section
variable {X : Cx} {CL : Str -> Addr} {b : Bx} {δ δ1 : List (Option T)} {e : Expr} {pos pp : Pos}
end
section
variable {K : PySem.W.Frag} {CL : Str -> Addr} {b : Bx} {H Z : Hp} {δ : List (Option T)} {σ : L2.St} {ts tl tl2 : List T} {vs : List V} {v : V}
end
section
variable {X : Cx} {CL : Str -> Addr} {b : Bx} {δ δ1 : List (Option T)} {e : Expr} {tl M5 tl2 : List T} {D : cX} {pos pp pa pb : Pos} {i : Nat} {x : Str} {gq : List Stmt}
end
section
variable {X : Cx} {CL : Str -> Addr} {b : Bx} {e1 e2 : Expr} {δ δ1 δ2 : List (Option T)} {ds : List L3.D} {pos : Pos}
noncomputable def Xy (K : PySem.W.Frag) : R2 := fun x y H Q => ∃ l k xs, x = .ref l /\ y = .int k /\ nX K H l xs /\ -(2 ^ 63) <= k /\ k < 2 ^ 63 /\ xs.length * k.toNat <= sizeLine ∧
 ∀ p, H p = none -> Q (.ref p) (upd H p (.lst (List.replicate k.toNat xs).flatten))
theorem Nn : qJ X (binaryOp .Mult) (Xy X.K) := by
 intro pins s σ H x y v u Q I rx ry h
 obtain ⟨l, k, xs, rfl, rfl, hH, h1, h2, hz, q⟩ := h
 cases rx
 obtain ⟨t, rfl⟩ := ry
 obtain ⟨its, r, pl, _⟩ := I.list hH
 have hl := r.length
 obtain ⟨⟨c1, dd, da1, sl⟩, e, hc, n, hd⟩ := pl.isList
 cases hc; cases hd
 have hlen : its.toArray.size * k.toNat <= sizeLine := by rw [afH, ← hl]; exact hz
 have aa8 : ¬ its.toArray.size * k.toNat > (2 ^ 63 - 1) / 8 := by
   have : (sizeLine : Nat) <= (2 ^ 63 - 1) / 8 := by decide
   omega
 have aa9 : ¬ (!Builtin.List.listFitsIndex k) = true := by
   rw [fitsIndex_both h1 h2]
   exact afx
 have Xz : ¬ Builtin.List.listTooLong (its.toArray.size * k.toNat) = true := by
   rw [IQ hlen]
   exact afx
 have abb : List.foldl (fun x1 x2 => x1 ++ x2) #[] (List.replicate (if its.toArray.isEmpty = true then 0 else k.toNat) its.toArray) = (List.replicate k.toNat its).flatten.toArray := by
   have f0 : ∀ m : Nat, List.foldl (fun x1 x2 => x1 ++ x2) #[] (List.replicate m its.toArray) = (List.replicate m its).flatten.toArray := fun m => by
     have := foldl_rep its m []
     rw [agv] at this
     exact this
   rw [f0]
   cases its with
   | nil => simp
   | cons a r' => rw [afi (by simp)]
 refine wpAny_binaryOp_repeat_ref (T := "list") (U := "int") (by decide) ⟨_, e, rfl⟩ (fun s' => typeIs_int s' k t) noFill_list_mul F.fills_int_mul F.slot_int_rmul repeat_list F.slot_int_index.lookup
   (call_meets F.slot_int_rmul (typeIs_int s k t) F.entry_int_rmul (F.args_int_rmul_2 _ _) (lm_int_rmul_list_any k t l its.toArray n dd sl)
     ⟨e, rfl, ⟨_, e, rfl⟩, call_meets F.slot_list_mul ⟨_, e, rfl⟩ F.entry_list_mul (F.args_list_mul_2 _ _) (lm_list_mul_any l its.toArray n dd sl k t aa9 aa8 Xz) ⟨e, ?_⟩⟩)
 rw [abb]
 exact ⟨.ref _, _, I.Xc (t' := s.toks) (r.rep k.toNat) (by rw [len_rep, Nat.mul_comm]; exact hz), rfl, q _ I.fresh⟩
theorem aB.rep {K : PySem.W.Frag} {Z : Hp} {ds : List L3.D} {vs : List V} (r : aB K CL Z ds vs) : ∀ k : Nat, aB K CL Z (List.replicate k ds).flatten (List.replicate k vs).flatten
 | 0 => .nil
 | k + 1 => by
   rw [agl, agl, agG, agG]
   exact aB.app r (aB.rep r k)
theorem Fe {k : Int} (h1 : cG X CL b e1 δ (.lst ds) δ1) (h2 : cG X CL b e2 δ1 (.int k) δ2) (i1 : D.bT ds = true) (k1 : -(2 ^ 63) <= k) (k2 : k < 2 ^ 63) (hz : ds.length * k.toNat <= sizeLine) :
   b9 X CL b (.BinOp e1 .Mult e2 pos) δ (.lst ((List.replicate k.toNat ds).flatten.map T.sh)) δ2 := fun H Z σ ts vs Q S kk =>
 cS (Iv Nn d9 d9) (h1 H Z σ ts vs _ S fun v1 H1 Z1 z1 q1 S1 r1 => h2 H1 Z1 σ ts vs _ S1 fun v2 H2 Z2 z2 q2 S2 r2 => by
   have T3 := r1.mono q2
   cases T3 with
   | lst hq1 Wd =>
     cases r2 with
     | int =>
       refine ⟨_, _, _, rfl, rfl, hq1, k1, k2, by rw [← Wd.length]; exact hz, fun p hp => ?_⟩
       have rc := aB.rep (aB.jz S2.tp i1 Wd) k.toNat
       obtain ⟨c, S4⟩ := (bW.oY rc S2).lz (g0 := []) (by rw [afj, rc.length]) hp
       exact kk _ _ _ (z1.trans z2) (q1.trans (q2.trans c)) S4)
end
section
variable {X : Cx} {CL : Str -> Addr} {b : Bx} {δ : List (Option T)} {x : Str} {pos : Pos}
end
section
variable {X : Cx} {CL : Str -> Addr} {b : Bx} {e1 e2 e iter : Expr} {δ δ1 δ2 : List (Option T)} {pos : Pos}
end
section
variable {X : Cx} {CL : Str -> Addr} {b : Bx} {e : Expr} {δ δ1 δ2 δ3 : List (Option T)} {pos p2 : Pos}
noncomputable def abd : V -> Option Int -> Option Int -> Hp -> VK -> Prop := fun x lo hi H Q => ∃ z, x = .str z /\ z.length <= sizeLine /\ Q (.str (Txt.slice z lo hi)) H
theorem Uy : SlR X abd := by
 intro pins s σ H x v vl vu lo hi sl Q I rx hs pl pu h
 obtain ⟨z, rfl, hz, q⟩ := h
 obtain ⟨t, rfl⟩ := rx
 obtain ⟨o, ho, hc, hd⟩ := hs
 have fin : ∀ t' k, EP X pins σ Q (.str (Txt.slice z lo hi) t') { s with toks := k } := fun t' k => ⟨.str _, H, I.tok k, ⟨t', rfl⟩, q⟩
 refine ⟨"str", _, F.slot_str_getitem.lookup, typeIs_str _ _ _, ?_⟩
 cases pl with
 | none =>
   cases pu with
   | none => exact agN (l := none) (u := none) (st := none) ⟨o, ho, hc, hd⟩ rfl (post_val_or_str ⟨afZ (Txt.slice_le z _ _) hz, fin⟩)
   | int j uj => exact agN (l := none) (u := some (j, uj)) (st := none) ⟨o, ho, hc, hd⟩ rfl (post_val_or_str ⟨afZ (Txt.slice_le z _ _) hz, fin⟩)
 | int i ui =>
   cases pu with
   | none => exact agN (l := some (i, ui)) (u := none) (st := none) ⟨o, ho, hc, hd⟩ rfl (post_val_or_str ⟨afZ (Txt.slice_le z _ _) hz, fin⟩)
   | int j uj => exact agN (l := some (i, ui)) (u := some (j, uj)) (st := none) ⟨o, ho, hc, hd⟩ rfl (post_val_or_str ⟨afZ (Txt.slice_le z _ _) hz, fin⟩)
theorem GF {lo hi : Option Expr} {l h : Option Int} {z : Str} (h1 : cG X CL b e δ (.str z) δ1) (hz : z.length <= sizeLine) (h2 : Wc X CL b lo δ1 l δ2) (h3 : Wc X CL b hi δ2 h δ3) : b9 X CL b (.Subscript e (.Slice lo hi none p2) pos) δ (.sh (.str (Txt.slice z l h))) δ3 := fun H Z σ ts vs Q S k => by
 obtain ⟨t2, po2, w2⟩ := h2
 obtain ⟨t3, po3, w3⟩ := h3
 refine cS (Be Uy d9 po2 po3) (h1 H Z σ ts vs _ S fun v H1 Z1 z1 k1 S1 r => w2 H1 Z1 σ ts vs _ S1 fun H2 Z2 z2 k2 S2 => w3 H2 Z2 σ ts vs _ S2 fun H3 Z3 z3 k3 S3 => ?_)
 exact ⟨z, r.sc rfl, hz, k _ H3 Z3 (z1.trans (z2.trans z3)) (k1.trans (k2.trans k3)) (S3.push (.str _))⟩
end
end L3
namespace L3
open PySem PySem.Spec PyProof.Rows L2 PySem.Builtin PySem.Builtin.Str
section
variable {X : Cx} {CL : Str -> Addr} {b : Bx} {e o : Expr} {δ δ1 δ2 : List (Option T)} {pos apos : Pos}
end
end L3
namespace L3
open PySem PySem.Spec PyProof.Rows L2
section
variable {X : Cx} {CL : Str -> Addr} {b : Bx} {δ : List (Option T)} {pos pp : Pos} {x : Str}
theorem c0 {k n : Nat} {A : Type} {arg : A -> List L3.D} {Pre : A -> Prop} {res : A -> T} (a : A) (F : Fc X CL x k n arg Pre res) (hg : Gl X x) (ha : arg a = []) (hp : Pre a) (hc : (res a).clean = true) (hn : (arg a).length = n := by rfl)
   (wj : (x == ("__debug__" : Str)) = false := by decide) : b9 X CL b (.Call (.Name x pp) [] [] pos) δ (res a) δ := by
 obtain ⟨f, fd, ps, F1, m, kk, bb⟩ := F.ex
 intro H Z σ ts vs Q S k
 refine cS (II F1 F.room hg m kk bb .nil E4 wj) ?_
 refine ⟨H, a, .refl _, fun _ _ q _ => q, by rw [ha]; exact .nil, hn, hp, S.Gv, fun v H' W' fp hh ww wh nw tp rt nd own => ?_⟩
 obtain ⟨Z', z', S'⟩ := S.back hh S.zh ww wh nw tp rt nd own (.inr hc)
 exact k v H' Z' z' hh S'
end
section
variable {K : PySem.W.Frag} {CL : Str -> Addr} {b : Bx} {H Z : Hp} {δ : List (Option T)} {σ : L2.St} {ts tl : List T} {vs : List V} {t : T} {v : V} {d : D} {k6 : List (Key × D)} {gs : List (Key × V)}
end
section
variable {X : Cx} {CL : Str -> Addr} {b : Bx} {δ δ1 δ2 : List (Option T)} {e e1 e2 : Expr} {t : T} {d : L3.D} {D : cX} {pos pp ps : Pos} {i : Nat} {x : Str} {gq : List Stmt} {k6 : List (Key × L3.D)} {k : Key}
end
section
variable {K : PySem.W.Frag} {CL : Str -> Addr} {b : Bx} {H Z : Hp} {δ : List (Option T)} {σ : L2.St} {ts : List T} {vs : List V} {t : T} {v w : V} {f c : Str} {Ie : List (Str × T)}
theorem cW.Np {ft : List Addr} (rt : cR K CL H Z t v ft) : ∀ {BG : List (Str × T)} {gs : List (Str × V)} {fp : List Addr}, cW K CL H Z (BG ++ (f, .sh (.val v)) :: Ie) gs fp -> ∃ E8, cW K CL H Z (BG ++ (f, t) :: Ie) gs E8 /\ E8.Perm (fp ++ ft)
 | [], _, _, r => by
   cases r with
   | @cons _ _ v' _ _ f1 gp h r =>
     cases h with
     | sh h =>
       cases h
       exact ⟨ft ++ gp, .cons rt r, af3⟩
 | (y, u) :: BG, _, _, r => by
   cases r with
   | @cons _ _ v' _ _ f1 gp h r =>
     obtain ⟨E8, r', p⟩ := cW.Np rt (BG := BG) r
     refine ⟨f1 ++ E8, .cons h r', ?_⟩
     rw [afr]
     exact p.append_left f1
theorem bW.Np {BG : List (Str × T)} (S : bW K CL b H Z δ σ (.ins c (BG ++ (f, .sh (.val v)) :: Ie) :: t :: ts) (w :: v :: vs)) : bW K CL b H Z δ σ (.ins c (BG ++ (f, t) :: Ie) :: ts) (w :: vs) := by
 obtain ⟨fp, gp, e, r, nd, k⟩ := S.rep
 cases r with
 | @cons _ _ _ _ g1 g2 r1 r2 =>
   cases r2 with
   | @cons _ _ _ _ g3 g4 r3 r4 =>
     cases r1 with
     | @ins a dx _ gs _ fp1 ha rf =>
       obtain ⟨E8, rf', p⟩ := cW.Np r3 rf
       have pm : (fp ++ ((a :: E8) ++ g4)).Perm (fp ++ ((a :: fp1) ++ (g3 ++ g4))) := by
         refine af9 fp ?_
         rw [← afr]
         refine List.Perm.append_right g4 ?_
         rw [afS]
         exact List.Perm.cons a p
       exact ⟨⟨fp, (a :: E8) ++ g4, e, .cons (.ins ha rf') r4, pm.nodup_iff.mpr nd, fun c hc => k c (pm.mem_iff.mp hc)⟩, S.bh, S.zz, S.zh, S.new, S.tp, S.tab⟩
end
noncomputable def ZQ (X : Cx) (CL : Str -> Addr) (b : Bx) (es : List Expr) (δ : List (Option T)) (dv : V -> List D) (t : T) (δ' : List (Option T)) : Prop :=
 ∀ (H Z : Hp) (σ : L2.St) (ts : List T) (vs : List V) (Q : List V -> Hp -> Prop), bW X.K CL b H Z δ σ ts vs →
   (∀ us H' Z' v, aC Z Z' -> aC H H' -> bW X.K CL b H' Z' δ' σ (t :: ts) (v :: vs) -> aB X.K CL H' (dv v) us -> Q us H') -> IU X es σ H Q
theorem T.uE {f : Str} {v : V} {Ie : List (Str × T)} (h2 : T.bD Ie = true) : ∀ {BG : List (Str × T)}, T.bD BG = true -> T.bD (BG ++ (f, .sh (.val v)) :: Ie) = true
 | [], _ => by rw [agv, T.bD, h2]; rfl
 | (x, t) :: BG, h => by
   rw [T.bD, af4] at h
   rw [afS, T.bD, h.1, T.uE h2 h.2]; rfl
section
variable {X : Cx} {CL : Str -> Addr} {b : Bx} {δ δ1 δ2 : List (Option T)} {e o : Expr} {es : List Expr} {pos pp apos : Pos} {t : T} {ds : List D} {d : D} {dv : V -> List D}
theorem Jt (h : b9 X CL b e δ t δ1) (r : Rz X CL b es δ1 ds δ2) (hs : notStar e = true := by rfl) : ZQ X CL b (e :: es) δ (fun v => .val v :: ds) t δ2 := fun H Z σ ts vs Q S k =>
 Gu (cg d9 MS (bM hs)) (h H Z σ ts vs _ S fun v H1 Z1 z1 k1 S1 => r H1 Z1 σ _ _ _ S1 fun us H2 Z2 z2 k2 S2 r2 => k (v :: us) H2 Z2 v (z1.trans z2) (k1.trans k2) S2 (.cons (.val v) r2))
theorem BH (h : cG X CL b e δ d δ1) (r : ZQ X CL b es δ1 dv t δ2) (hs : notStar e = true := by rfl) : ZQ X CL b (e :: es) δ (fun v => d :: dv v) t δ2 := fun H Z σ ts vs Q S k =>
 Gu (cg d9 MS (bM hs)) (h H Z σ ts vs _ S fun v H1 Z1 z1 k1 S1 r1 => r H1 Z1 σ ts vs _ S1 fun us H2 Z2 v2 z2 k2 S2 r2 => k (v :: us) H2 Z2 v2 (z1.trans z2) (k1.trans k2) S2 (.cons (r1.mono k2) r2))
variable {A : Type} {k n : Nat} {arg : A -> List D} {Pre : A -> Prop} {x c m f : Str}
theorem mkP {res : A -> List (Str × T)} (a : V -> A) {BG Ie : List (Str × T)} (F : Fm X CL x k n arg Pre res) (hg : Gl X x) (h : ZQ X CL b (e :: es) δ dv t δ1) (ha : ∀ v, arg (a v) = dv v) (hp : ∀ v, Pre (a v)) (hr : ∀ v, res (a v) = BG ++ (f, .sh (.val v)) :: Ie) (hc : T.bD BG = true) (Ul : T.bD Ie = true) (hn : ∀ v, (arg (a v)).length + 1 = n := by exact fun _ => rfl)
   (wj : (x == ("__debug__" : Str)) = false := by decide) (he : starEach (e :: es) X.env = (false, eval e X.env) :: starEach es X.env := by exact bM rfl) (wk : (backTo pos (starEach es X.env)).any (·.1) = false := by rfl) :
   b9 X CL b (.Call (.Name x pp) (e :: es) [] pos) δ (.ins x (BG ++ (f, t) :: Ie)) δ1 := fun H Z σ ts vs Q S kk => by
 obtain ⟨f', fd, ps, M, F1, hm, hb⟩ := F.ex
 exact cS (E1 M F1 F.room hg hm hb .nil E4 MS wj he wk) (h H Z σ ts vs _ S fun us H1 Z1 v z1 k1 S1 r y dx hx Xs ne => by
   rw [af2]
   refine ⟨H1, H1, a v, y, dx, us, rfl, hx, Xs, ne, rfl, .refl _, fun _ _ q _ => q, by rw [ha]; exact r, hn v, hp v, S1.Gv, fun H' W' fp hh ww wh nw tp rt nd own => ⟨rfl, ?_⟩⟩
   obtain ⟨Z', z', S'⟩ := S1.back hh S1.zh ww wh nw tp rt nd own (.inr (by rw [T.clean, hr]; exact T.uE Ul hc))
   rw [hr] at S'
   exact kk _ H' Z' (z1.trans z') (k1.trans hh) S'.Np)
end
section
variable {X : Cx}
theorem x9 (bs : List Bool) : (List.range bs.length).any (fun i => bs.getD i true) = bs.any id := by
 induction bs with
 | nil => rfl
 | cons x bs ih =>
   rw [afM, List.range_succ_eq_map, agV, agV, List.any_map]
   have : ((fun i => (x :: bs).getD i true) ∘ Nat.succ) = fun i => bs.getD i true := by funext i; simp
   rw [this, ih]
   rfl
theorem Ju {bs : List Bool} {its : List Value} (r : Vals (bs.map V.bl) its) {i : Nat} {v : Value} (h : its.toArray[i]? = some v) : v = .bool (bs.getD i true) := by
 have h' : its[i]? = some v := by simpa using h
 have hl := r.length
 have hi : i < (bs.map V.bl).length := by
   rw [hl]
   exact (afC.mp h').1
 obtain ⟨u, hu, ru⟩ := r.get (afn hi)
 rw [h'] at hu
 cases hu
 have HZ : i < bs.length := by simpa using hi
 have e : bs.getD i true = bs[i] := by simp [HZ]
 rw [e]
 rw [List.getElem_map] at ru
 exact ru
theorem GH (hc : X.calm = true) : kY X (.builtin "any") (fun xs H Q => ∃ (p : Addr) (bs : List Bool), xs = [.ref p] /\ nX X.K H p (bs.map V.bl) /\ Q (.bl (bs.any id)) H) := by
 intro pins s σ H xs us Q I r h
 obtain ⟨p, bs, rfl, hq, q⟩ := h
 obtain ⟨u, rfl, rx⟩ := vals1 r
 cases rx
 obtain ⟨its, r', pl, hz⟩ := I.list hq
 have hl := pl.isList
 have oz : p < s.heap.objs.size := by obtain ⟨o, e, _⟩ := id hl; exact afA e
 have hlen : its.toArray.size = bs.length := by rw [afH, ← r'.length, afj]
 refine call_any_walk (wpAny_pyIter_list hl ⟨_, _, _, _, _, _, fun i => bs.getD i true, rfl, Walks.list (A := X.A.in1) (show X.A.in1.handled = none from I.ok.hd hc) _ p (afX oz) its.toArray, ⟨⟨_, afL _ rfl, rfl, rfl⟩, hl.at fun o e => afv _ e⟩, fun i v s Q E hP hQ => ?_, fun h' tk hk => ?_⟩)
 . rw [Ju r' hP]; exact agw hQ
 . rw [hlen, x9]
   refine ⟨.bl _, H, I.kept (t' := tk) (fun b o e => hk b o (fun z => ?_) (afv _ e)), rfl, q⟩
   have := afG.mp z
   subst this
   exact absurd (afA e) (agO _)
theorem GJ : bootBuiltins "any" = some (.builtin "any") := by decide +kernel
theorem BI {K : PySem.W.Frag} {CL : Str -> Addr} {H : Hp} : ∀ {l : List Bool} {us : List V}, aB K CL H (l.map D.bl) us -> us = l.map V.bl
 | [], _, r => by
   have r' : aB K CL H [] _ := r
   cases r'; rfl
 | y :: l, _, r => by
   have r' : aB K CL H (D.bl y :: l.map D.bl) _ := r
   cases r' with
   | cons r1 r2 => rw [r1.sc rfl, BI r2]; rfl
end
section
variable {X : Cx} {CL : Str -> Addr} {b : Bx} {δ δ1 : List (Option T)} {e : Expr} {pos pp : Pos} {l : List Bool}
theorem Uz (g : Gx X) (hm : X.mg "any" = none) (h : cG X CL b e δ (.lst (l.map .bl)) δ1) (hg : Gl X "any") (hs : starEach [e] X.env = (false, eval e X.env) :: starEach [] X.env := by exact bM rfl) : b9 X CL b (.Call (.Name "any" pp) [e] [] pos) δ (.sh (.bl (l.any id))) δ1 := fun H Z σ ts vs Q S k =>
 cS (oR (GH g.calm) hg hm GJ (cg d9 eH hs) (he := hs)) (h H Z σ ts vs _ S fun v H1 Z1 z1 k1 S1 r => by
   cases r with
   | @lst a us _ hq rr =>
     have := BI rr
     subst this
     exact ⟨a, l, rfl, hq, k _ H1 Z1 z1 k1 (S1.push (.bl _))⟩)
end
namespace Rv
theorem GK : PySem.Slot "reversed" "__init__" "object.__init__" :=
 .of (owner := "object") (n := "__init__") (by rw [typeLookup_type, builtinLookup_eq_fast]; kernel_rfl) (by decide +kernel) (by decide +kernel) (by decide +kernel)
   (by first | exact .inl (by decide +kernel) | exact .inr (by decide +kernel)) (by rw [isSubtype_type]; kernel_rfl)
theorem called : TypeCalled "reversed" "reversed.__new__" "object.__init__" :=
 ⟨by decide +kernel, by decide +kernel, ⟨_, _, PySem.F.mro_reversed⟩, PySem.F.made_reversed, by decide +kernel, PySem.F.sub_reversed_self, GK⟩
noncomputable def obj (t : Addr) (i : Int) : Obj := { cls := .type "reversed", data := .fields #[.ref t, rawInt i] }
section
variable {prog : Program} {w : World} {A : Around} {E : Value -> Shared -> Prop} {s : Shared}
end
end Rv
namespace Rv
section
variable {prog : Program} {w : World} {A : Around} {E : Value -> Shared -> Prop} {s : Shared}
end
end Rv
section
variable {X : Cx} {tg : Expr}
end
section
variable {X : Cx} {CL : Str -> Addr} {b : Bx} {δ δ1 : List (Option T)} {e : Expr} {ds : List D} {tg : Expr} {pr pc : Pos}
end
section
variable {X : Cx} {CL : Str -> Addr} {b : Bx} {δ δ1 : List (Option T)} {e : Expr} {t : T} {tl M5 tt tt0 : List T} {D : cX} {pos pp pa pb : Pos}
variable {gq : List Stmt} {i i2 : Nat} {x y : Str} {DD : cX}
end
section
variable {X : Cx} {CL : Str -> Addr} {b : Bx} {δ δ1 : List (Option T)} {e : Expr} {ds : List D} {tg : Expr} {pr pc : Pos} {l : Bool}
end
section
variable {X : Cx} {CL : Str -> Addr} {b : Bx} {δ : List (Option T)}
end
section
variable {K : PySem.W.Frag} {CL : Str -> Addr} {b : Bx} {H Z : Hp} {δ : List (Option T)} {σ : L2.St} {ts tl : List T} {vs : List V} {ds : List D} {us : List V}
end
section
variable {X : Cx} {CL : Str -> Addr} {b : Bx} {δ δ1 : List (Option T)} {e : Expr} {tl M5 : List T} {ds : List L3.D} {D : cX} {pos pp pa pb : Pos} {i : Nat} {x : Str} {gq : List Stmt}
end
section
variable {X : Cx} {CL : Str -> Addr} {b : Bx} {δ δ1 δ2 δ3 : List (Option T)} {e e1 e2 : Expr} {ds Mp : List L3.D} {pos p2 : Pos}
end
section
variable {a₀ xs : Array Keyed} {ι : Nat -> Nat} {n : Nat}
structure Tag (a₀ xs : Array Keyed) (ι : Nat -> Nat) (n : Nat) : Prop where
 pl : ∀ k, k < a₀.size -> xs[k]? = a₀[ι k]?
 lo : ∀ k, k < n -> ι k < n
 hi : ∀ k, n <= k -> ι k = k
noncomputable def lI (xs : Array Keyed) (ι : Nat -> Nat) (n : Nat) : Prop := ∀ i j, i < j -> j < n -> PyProof.Rows.K xs i < PyProof.Rows.K xs j \/ (PyProof.Rows.K xs i = PyProof.Rows.K xs j /\ ι i < ι j)
noncomputable def wG (xs : Array Keyed) (ι : Nat -> Nat) (n : Nat) : Prop := ∀ i j, i < j -> j < n -> PyProof.Rows.K xs j < PyProof.Rows.K xs i \/ (PyProof.Rows.K xs j = PyProof.Rows.K xs i /\ ι j < ι i)
theorem Tag.grow (h : Tag a₀ xs ι n) : Tag a₀ xs ι (n + 1) := ⟨h.pl, fun k hk => by
   by_cases e : k < n
   . have := h.lo k e
     omega
   . have := h.hi k (by omega)
     omega, fun k hk => h.hi k (by omega)⟩
theorem Tag.abe (h : Tag a₀ xs ι n) {m : Nat} (hm : n <= m) : Tag a₀ xs ι m := ⟨h.pl, fun k hk => by
   by_cases e : k < n
   . have := h.lo k e
     omega
   . have := h.hi k (by omega)
     omega, fun k hk => h.hi k (by omega)⟩
noncomputable def turned (ι : Nat -> Nat) (i j : Nat) : Nat -> Nat := fun k => if i <= k /\ k < j then ι (i + j - 1 - k) else ι k
theorem Tag.turn (h : Tag a₀ xs ι n) {i j : Nat} (hj : j <= n) (hn : n <= a₀.size) (hs : xs.size = a₀.size) : Tag a₀ (mirror xs i j ((j - i) / 2)) (turned ι i j) n := by
 refine ⟨fun k hk => ?_, fun k hk => ?_, fun k hk => ?_⟩
 . rw [getElem?_mirror_all (by omega)]
   unfold turned
   split
   . exact h.pl _ (by omega)
   . exact h.pl _ hk
 . unfold turned
   split
   . exact h.lo _ (by omega)
   . exact h.lo _ hk
 . unfold turned
   rw [afi (by omega)]
   exact h.hi k hk
noncomputable def GL (ι : Nat -> Nat) (k l : Nat) : Nat -> Nat := fun p => if p = l then ι k else if l < p /\ p <= k then ι (p - 1) else ι p
theorem Tag.sink (h : Tag a₀ xs ι n) {l : Nat} (hl : l <= n) (hn : n < a₀.size) (hs : xs.size = a₀.size) : Tag a₀ (bubble xs n (n - l)) (GL ι n l) (n + 1) := by
 have hg := h.grow
 refine ⟨fun k hk => ?_, fun k hk => ?_, fun k hk => ?_⟩
 . rw [getElem?_bubble (by omega) (n - l) (by omega), show n - (n - l) = l by omega]
   unfold GL
   split
   . exact h.pl _ (by omega)
   . split
     . exact h.pl _ (by omega)
     . exact h.pl _ hk
 . unfold GL
   split
   . exact hg.lo _ (by omega)
   . split
     . exact hg.lo _ (by omega)
     . exact hg.lo _ hk
 . unfold GL
   rw [afi (by omega), afi (by omega)]
   exact hg.hi k hk
theorem lI.le (h : lI xs ι n) {i j : Nat} (BJ : i <= j) (hj : j < n) : PyProof.Rows.K xs i <= PyProof.Rows.K xs j := by
 by_cases e : i = j
 . subst e; exact Int.le_refl _
 . rcases h i j (by omega) hj with z | z <;> omega
end
section
variable {prog : Program} {w : World} {A : Around} {E : Value -> Shared -> Prop} {s : Shared} {a₀ : Array Keyed}
theorem BK {st : SortSt} {ι : Nat -> Nat} {a fz : Nat} {Q : AscSt -> SortSt -> Prop} (h0 : IntKeys a₀) (hn : fz <= a₀.size) (ha : 1 <= a) (han : a <= fz) (hB : SBase a₀ st)
   (ht : Tag a₀ (arrOf st) ι a) (hs : lI (arrOf st) ι a)
   (h : ∀ n, a <= n -> n <= fz -> Tag a₀ (arrOf st) ι n -> lI (arrOf st) ι n -> (n = fz \/ PyProof.Rows.K (arrOf st) n < PyProof.Rows.K (arrOf st) (n - 1)) -> Q (none, n) st) :
   wpS (model prog w) A E s (ascLoop a fz) Q st := by
 unfold ascLoop
 refine ag3 (I := fun x c z => z = st /\ c = (none, x) /\ Tag a₀ (arrOf st) ι x /\ lI (arrOf st) ι x) ?one ?all ⟨rfl, rfl, ht, hs⟩
 case all =>
   rintro c z ⟨rfl, rfl, t, o⟩
   have e : max a fz = fz := by omega
   rw [e] at t o ⊢
   exact h fz han (afp _) t o (.inl rfl)
 case one =>
   rintro x c z Wg hxn ⟨rfl, rfl, t, o⟩
   dsimp only
   refine af8 (wpS_ltK hB h0 (by omega) (by omega) ?_)
   by_cases hl : PyProof.Rows.K (arrOf z) x < PyProof.Rows.K (arrOf z) (x - 1)
   . simp only [hl, decide_true, agQ]
     exact agh (h x Wg (by omega) t o (.inr hl))
   . simp only [hl, decide_false, aga, agF]
     refine agh ⟨rfl, rfl, t.grow, fun i j BJ hj => ?_⟩
     by_cases hjx : j < x
     . exact o i j BJ hjx
     . have e : j = x := by omega
       subst e
       have q := o.le (i := i) (j := j - 1) (by omega) (by omega)
       have l1 := t.lo i BJ
       have l2 := t.hi j (afp _)
       omega
theorem BL {st : SortSt} {ι : Nat -> Nat} {n fz : Nat} {Q : Option Nat -> SortSt -> Prop} (h0 : IntKeys a₀) (hn : fz <= a₀.size) (h1 : 1 <= n) (Nq : n <= fz) (hB : SBase a₀ st)
   (ht : Tag a₀ (arrOf st) ι n) (hs : wG (arrOf st) ι n)
   (h : ∀ m z κ, SBase a₀ z -> 1 <= m -> m <= fz -> Tag a₀ (arrOf z) κ m -> lI (arrOf z) κ m -> Q (some m) z) :
   wpS (model prog w) A E s (tail3 n fz) Q st := by
 unfold tail3
 have hz : n <= (arrOf st).size := by rw [hB.size]; omega
 have hB2 : SBase a₀ (setArr st (mirror (arrOf st) 0 n ((n - 0) / 2))) := hB.setArr (mirror_perm _ _ _ _)
 refine af8 (wpS_reverse ?_)
 refine af8 (BK (ι := turned ι 0 n) h0 hn h1 Nq hB2 (ht.turn (afp _) (by omega) hB.size) ?_ fun m m1 m2 t o _ => agh (h m _ _ hB2 (by omega) m2 t o))
 intro i j BJ hj
 show PyProof.Rows.K (mirror (arrOf st) 0 n ((n - 0) / 2)) i < PyProof.Rows.K (mirror (arrOf st) 0 n ((n - 0) / 2)) j \/ _
 rw [K_mirror hz, K_mirror hz, afk (by omega), afk (by omega)]
 unfold turned
 rw [afk (by omega), afk (by omega)]
 exact hs _ _ (by omega) (by omega)
structure sL (xs : Array Keyed) (ι : Nat -> Nat) (p x : Nat) : Prop where
 f : wG xs ι p
 l : ∀ i j, i < p -> p <= j -> j < x -> PyProof.Rows.K xs j < PyProof.Rows.K xs i
 e : ∀ i j, p <= i -> i < j -> j < x -> PyProof.Rows.K xs i = PyProof.Rows.K xs j /\ ι i < ι j
theorem sL.one {xs : Array Keyed} {ι : Nat -> Nat} {p : Nat} (h : sL xs ι p (p + 1)) : wG xs ι (p + 1) := fun i j BJ hj => by
 by_cases e : j < p
 . exact h.f i j BJ e
 . exact .inl (h.l i j (by omega) (by omega) hj)
theorem sL.turn {xs : Array Keyed} {ι : Nat -> Nat} {p x : Nat} (h : sL xs ι p x) (hx : x <= xs.size) : wG (mirror xs p x ((x - p) / 2)) (turned ι p x) x := by
 intro i j BJ hj
 rw [K_mirror hx, K_mirror hx]
 unfold turned
 by_cases hi : p <= i
 . rw [afk (by omega), afk (by omega), afk (by omega), afk (by omega)]
   have q := h.e (p + x - 1 - j) (p + x - 1 - i) (by omega) (by omega) (by omega)
   exact .inr ⟨q.1, q.2⟩
 . rw [afi (show ¬ (p <= i /\ i < x) by omega), afi (show ¬ (p <= i /\ i < x) by omega)]
   by_cases hjp : p <= j
   . rw [afk (by omega), afk (by omega)]
     exact .inl (h.l _ _ (by omega) (by omega) (by omega))
   . rw [afi (by omega), afi (by omega)]
     exact h.f i j BJ (by omega)
theorem wG.le {xs : Array Keyed} {ι : Nat -> Nat} {n : Nat} (h : wG xs ι n) {i j : Nat} (BJ : i <= j) (hj : j < n) : PyProof.Rows.K xs j <= PyProof.Rows.K xs i := by
 by_cases e : i = j
 . subst e; exact Int.le_refl _
 . rcases h i j (by omega) hj with z | z <;> omega
theorem wG.half {xs : Array Keyed} {ι : Nat -> Nat} {x : Nat} (h : wG xs ι x) (hx : 0 < x) (hl : PyProof.Rows.K xs x < PyProof.Rows.K xs (x - 1)) : sL xs ι x (x + 1) :=
 ⟨h, fun i j hi h1 h2 => by
   have e : j = x := by omega
   subst e
   have := h.le (i := i) (j := j - 1) (by omega) (by omega)
   omega, fun i j h1 h2 h3 => by omega⟩
theorem GN {st : SortSt} {ι : Nat -> Nat} {n fz : Nat} {Q : DescSt -> SortSt -> Prop} (h0 : IntKeys a₀) (hn : fz <= a₀.size) (Nq : n + 1 <= fz) (hB : SBase a₀ st)
   (ht : Tag a₀ (arrOf st) ι (n + 1)) (hs : sL (arrOf st) ι n (n + 1))
   (h : ∀ m wc z κ, SBase a₀ z -> n + 1 <= m -> m <= fz -> wc + 1 <= m -> Tag a₀ (arrOf z) κ m -> sL (arrOf z) κ (m - (wc + 1)) m -> Q (none, m, wc) z) :
   wpS (model prog w) A E s (descLoop (n + 1) fz) Q st := by
 unfold descLoop
 refine ag3 (I := fun x c z => ∃ wc κ, c = (none, x, wc) /\ SBase a₀ z /\ wc + 1 <= x /\ Tag a₀ (arrOf z) κ x /\ sL (arrOf z) κ (x - (wc + 1)) x) ?one ?all ⟨0, ι, rfl, hB, by omega, ht, hs⟩
 case all =>
   rintro c z ⟨wc, κ, rfl, b2, q, t, o⟩
   have e : max (n + 1) fz = fz := by omega
   rw [e] at q t o ⊢
   exact h fz wc z κ b2 Nq (afp _) q t o
 case one =>
   rintro x c z Wg hxn ⟨wc, κ, rfl, b2, q, t, o⟩
   dsimp only
   have hz : x <= (arrOf z).size := by rw [b2.size]; omega
   refine af8 (wpS_ltK b2 h0 (by omega) (by omega) ?_)
   by_cases hl : PyProof.Rows.K (arrOf z) x < PyProof.Rows.K (arrOf z) (x - 1)
   . simp only [hl, decide_true, agQ]
     by_cases hq : wc > 0
     . rw [afk hq]
       have hm : ∀ k, PyProof.Rows.K (mirror (arrOf z) (x - (wc + 1)) x ((x - (x - (wc + 1))) / 2)) k = PyProof.Rows.K (arrOf z) k := K_mirror_equal hz fun k k1 k2 => by
         by_cases e : k = x - 1
         . rw [e]
         . exact (o.e k (x - 1) k1 (by omega) (by omega)).1
       refine af8 (wpS_reverse (agh ⟨0, turned κ (x - (wc + 1)) x, rfl, b2.setArr (mirror_perm _ _ _ _), by omega, (t.turn (afp _) (by omega) b2.size).grow, ?_⟩))
       have hf := o.turn hz
       refine hf.half (by omega) ?_
       rw [hm, hm]
       exact hl
     . rw [afi hq]
       have e0 : wc = 0 := by omega
       subst e0
       obtain ⟨y, rfl⟩ : ∃ y, x = y + 1 := ⟨x - 1, by omega⟩
       have hf : wG (arrOf z) κ (y + 1) := sL.one o
       exact agh ⟨0, κ, rfl, b2, by omega, t.grow, hf.half (by omega) hl⟩
   . simp only [hl, decide_false, aga, agF]
     refine af8 (wpS_ltK b2 h0 (by omega) (by omega) ?_)
     by_cases hg : PyProof.Rows.K (arrOf z) (x - 1) < PyProof.Rows.K (arrOf z) x
     . simp only [hg, decide_true, agQ]
       exact agh (h x wc z κ b2 Wg (by omega) q t o)
     . simp only [hg, decide_false, aga, agF]
       have he : PyProof.Rows.K (arrOf z) x = PyProof.Rows.K (arrOf z) (x - 1) := Int.le_antisymm (Int.not_lt.mp hg) (Int.not_lt.mp hl)
       refine agh ⟨wc + 1, κ, rfl, b2, by omega, t.grow, ?_⟩
       rw [show x + 1 - (wc + 1 + 1) = x - (wc + 1) by omega]
       refine ⟨o.f, fun i j hi h1 h2 => ?_, fun i j h1 h2 h3 => ?_⟩
       . by_cases e : j = x
         . rw [e, he]
           exact o.l i (x - 1) hi (by omega) (by omega)
         . exact o.l i j hi h1 (by omega)
       . by_cases e : j = x
         . subst e
           have l1 := t.lo i h2
           have l2 := t.hi j (afp _)
           refine ⟨?_, by omega⟩
           rw [he]
           by_cases e2 : i = j - 1
           . rw [e2]
           . exact (o.e i (j - 1) h1 (by omega) (by omega)).1
         . exact o.e i j h1 h2 (by omega)
theorem xh {st : SortSt} {ι : Nat -> Nat} {n fz : Nat} {Q : Option Nat -> SortSt -> Prop} (h0 : IntKeys a₀) (hn : fz <= a₀.size) (Nq : n + 1 <= fz) (hB : SBase a₀ st)
   (ht : Tag a₀ (arrOf st) ι (n + 1)) (hs : sL (arrOf st) ι n (n + 1))
   (h : ∀ m z κ, SBase a₀ z -> 1 <= m -> m <= fz -> Tag a₀ (arrOf z) κ m -> lI (arrOf z) κ m -> Q (some m) z) :
   wpS (model prog w) A E s (descPart n fz) Q st := by
 unfold descPart
 refine af8 (wpS_lift (wpAny_rule ⟨rfl, ?_⟩))
 refine af8 (GN h0 hn Nq hB ht hs fun m wc z κ b2 m1 m2 q t o => ?_)
 dsimp only
 have hz : m <= (arrOf z).size := by rw [b2.size]; omega
 by_cases hq : wc > 0
 . rw [afk hq]
   exact af8 (wpS_reverse (BL h0 hn (by omega) m2 (b2.setArr (mirror_perm _ _ _ _)) (t.turn (afp _) (by omega) b2.size) (o.turn hz) h))
 . rw [afi hq]
   have e0 : wc = 0 := by omega
   subst e0
   obtain ⟨y, rfl⟩ : ∃ y, m = y + 1 := ⟨m - 1, by omega⟩
   exact BL h0 hn (by omega) m2 b2 t (sL.one o) h
theorem Jv {st : SortSt} {fz : Nat} {Q : Option Nat -> SortSt -> Prop} (h0 : IntKeys a₀) (hn : fz <= a₀.size) (h1 : 1 <= fz) (hB : SBase a₀ st) (ht : Tag a₀ (arrOf st) id 0)
   (h : ∀ m z κ, SBase a₀ z -> 1 <= m -> m <= fz -> Tag a₀ (arrOf z) κ m -> lI (arrOf z) κ m -> Q (some m) z) :
   wpS (model prog w) A E s (countRun' 0 fz) Q st := by
 rw [countRun0_eq]
 refine af8 (BK (ι := id) h0 hn (afp 1) h1 hB (ht.abe (by omega)) (fun i j BJ hj => by omega) fun n n1 n2 t o hor => ?_)
 dsimp only
 by_cases Nq : n = fz
 . rw [if_pos (by simpa using Nq)]
   exact agh (h n st id hB n1 n2 t o)
 . rw [if_neg (by simpa using Nq)]
   have oz := hor.resolve_left Nq
   have hz : n <= (arrOf st).size := by rw [hB.size]; omega
   by_cases hgt : n > 1
   . rw [afk hgt]
     refine af8 (wpS_ltK hB h0 (by omega) (by omega) ?_)
     by_cases hr : PyProof.Rows.K (arrOf st) 0 < PyProof.Rows.K (arrOf st) (n - 1)
     . simp only [hr, decide_true, agQ]
       exact agh (h n st id hB n1 n2 t o)
     . simp only [hr, decide_false, aga, agF]
       have hal : ∀ k, 0 <= k -> k < n -> PyProof.Rows.K (arrOf st) k = PyProof.Rows.K (arrOf st) (n - 1) := fun k _ hk => by
         have a1 := o.le (i := 0) (j := k) (by omega) hk
         have a2 := o.le (i := k) (j := n - 1) (by omega) (by omega)
         omega
       have hm := K_mirror_equal (i := 0) hz hal
       refine af8 (wpS_reverse (xh (ι := turned id 0 n) h0 hn (by omega) (hB.setArr (mirror_perm _ _ _ _)) (t.turn (afp _) (by omega) hB.size).grow ?_ h))
       have hh : sL (arrOf st) id 0 n := ⟨fun i j _ hj => by omega, fun i j hi => by omega, fun i j i1 i2 i3 => ⟨by rw [hal i (by omega) (by omega), hal j (by omega) i3], i2⟩⟩
       refine (hh.turn hz).half (by omega) ?_
       rw [hm, hm]
       exact oz
   . rw [afi hgt]
     have e1 : n = 1 := by omega
     subst e1
     exact xh h0 hn (by omega) hB t.grow ((show wG (arrOf st) id 1 from fun i j BJ hj => by omega).half (by omega) oz) h
theorem UA {l r k x : Nat} (h1 : l <= r) (h2 : r <= k) (h3 : r - l <= k - x) (h4 : ¬ l ≥ r) : l <= (l + r) / 2 /\ (l + r) / 2 <= k /\ (l + r) / 2 - l <= k - (x + 1) /\ (l + r) / 2 + 1 <= r /\ r - ((l + r) / 2 + 1) <= k - (x + 1) /\ (l + r) / 2 < k := by
 have a : l <= (l + r) / 2 := by omega
 have b : (l + r) / 2 < r := by omega
 generalize (l + r) / 2 = m at a b
 clear h1
 refine ⟨a, ?_, ?_, b, ?_, ?_⟩ <;> omega
theorem Jw {st : SortSt} {ι : Nat -> Nat} {n ok : Nat} {Q : Bool -> SortSt -> Prop} (h0 : IntKeys a₀) (hn : n <= a₀.size) (dO : ok <= n) (ho1 : 1 <= ok) (hB : SBase a₀ st) (ht : Tag a₀ (arrOf st) ι ok) (hs : lI (arrOf st) ι ok)
   (h : ∀ z κ, SBase a₀ z -> Tag a₀ (arrOf z) κ n -> lI (arrOf z) κ n -> Q true z) : wpS (model prog w) A E s (binarySort' 0 n ok) Q st := by
 rw [binarySort'_eq]
 simp only [Nat.zero_add]
 refine af8 (wpS_mono (ag3 (I := fun k c z => c = (none, ()) /\ SBase a₀ z /\ ∃ κ, Tag a₀ (arrOf z) κ k /\ lI (arrOf z) κ k)
   (Q := fun c z => c = (none, ()) /\ SBase a₀ z /\ ∃ κ, Tag a₀ (arrOf z) κ n /\ lI (arrOf z) κ n) ?one ?all ?new) ?post)
 case post =>
   rintro c z ⟨rfl, b2, κ, t, o⟩
   exact agh (h z κ b2 t o)
 case new =>
   rw [show max ok 1 = ok by omega]
   exact ⟨rfl, hB, ι, ht, hs⟩
 case all =>
   rintro c z ⟨hc, b2, κ, t, o⟩
   rw [show max (max ok 1) n = n by omega] at t o
   exact ⟨hc, b2, κ, t, o⟩
 case one =>
   rintro k c z hak hkn ⟨rfl, b2, κ, t, o⟩
   have hk : k < a₀.size := by omega
   refine af8 (wpS_mono (ag3 (I := fun x c y => y = z /\ ∃ l r, c = (none, l, r) /\ l <= r /\ r <= k /\ r - l <= k - x /\ (∀ i, i < l -> PyProof.Rows.K (arrOf z) i <= PyProof.Rows.K (arrOf z) k) /\ (∀ i, r <= i -> i < k -> PyProof.Rows.K (arrOf z) k < PyProof.Rows.K (arrOf z) i))
     (Q := fun c y => y = z /\ ∃ l r, c = (none, l, r) /\ l <= k /\ (∀ i, i < l -> PyProof.Rows.K (arrOf z) i <= PyProof.Rows.K (arrOf z) k) /\ (∀ i, l <= i -> i < k -> PyProof.Rows.K (arrOf z) k < PyProof.Rows.K (arrOf z) i)) ?two ?fin ?beg) ?aft)
   case beg => exact ⟨rfl, 0, k, rfl, by omega, by omega, by omega, fun i hi => by omega, fun i g1 g2 => by omega⟩
   case fin =>
     rintro c y ⟨rfl, l, r, rfl, g1, g2, g3, g4, g5⟩
     have e : l = r := by omega
     subst e
     exact ⟨rfl, l, l, rfl, g2, g4, g5⟩
   case two =>
     rintro x c y _ hxk ⟨rfl, l, r, rfl, g1, g2, g3, g4, g5⟩
     dsimp only
     by_cases Wh : l ≥ r
     . rw [afk Wh]
       have e : l = r := by omega
       subst e
       exact agh ⟨rfl, l, l, rfl, g2, g4, g5⟩
     . rw [afi Wh]
       have M := UA g1 g2 g3 Wh
       refine af8 (wpS_ltK b2 h0 hk (Nat.lt_trans M.2.2.2.2.2 hk) ?_)
       by_cases hl : PyProof.Rows.K (arrOf y) k < PyProof.Rows.K (arrOf y) ((l + r) / 2)
       . simp only [hl, decide_true, agQ]
         exact agh ⟨rfl, l, (l + r) / 2, rfl, M.1, M.2.1, M.2.2.1, g4, fun i i1 i2 => Int.lt_of_lt_of_le hl (o.le i1 i2)⟩
       . simp only [hl, decide_false, aga, agF]
         exact agh ⟨rfl, (l + r) / 2 + 1, r, rfl, M.2.2.2.1, g2, M.2.2.2.2.1, fun i i1 => Int.le_trans (o.le (i := i) (j := (l + r) / 2) (Nat.lt_succ_iff.mp i1) M.2.2.2.2.2) (Int.not_lt.mp hl), g5⟩
   case aft =>
     rintro c y ⟨rfl, l, r, rfl, g2, g4, g5⟩
     show wpS _ _ _ _ (do moveDown' k l; pure (ForInStep.yield (none, ()))) _ _
     rw [moveDown'_eq]
     have hks : k < (arrOf y).size := by rw [b2.size]; exact hk
     refine af8 (wpS_modify (agh ⟨rfl, b2.setArr (bubble_perm _ _ _), GL κ k l, t.sink g2 hk b2.size, ?_⟩))
     intro i j BJ hj
     show PyProof.Rows.K (bubble (arrOf y) k (k - l)) i < PyProof.Rows.K (bubble (arrOf y) k (k - l)) j \/ (PyProof.Rows.K (bubble (arrOf y) k (k - l)) i = PyProof.Rows.K (bubble (arrOf y) k (k - l)) j /\ _)
     rw [K_bubble hks (by omega), K_bubble hks (by omega), show k - (k - l) = l by omega]
     unfold GL
     have tk := t.hi k (afp _)
     by_cases ei : i = l
     . rw [afk ei, afk ei, afi (show ¬ j = l by omega), afi (show ¬ j = l by omega), afk (by omega), afk (by omega)]
       exact .inl (g5 _ (by omega) (by omega))
     . rw [afi ei, afi ei]
       by_cases ej : j = l
       . rw [afk ej, afk ej, afi (by omega), afi (by omega)]
         have := g4 i (by omega)
         have := t.lo i (by omega)
         omega
       . rw [afi ej, afi ej]
         by_cases hi : l < i /\ i <= k
         . rw [afk hi, afk hi, afk (by omega), afk (by omega)]
           exact o _ _ (by omega) (by omega)
         . rw [afi hi, afi hi]
           by_cases ZR : l < j /\ j <= k
           . rw [afk ZR, afk ZR]
             exact o _ _ (by omega) (by omega)
           . rw [afi ZR, afi ZR]
             exact o _ _ (by omega) (by omega)
noncomputable def Jx (a₀ : Array Keyed) (st : SortSt) : Prop := failedOf st = none /\ pendingOf st = #[(0, a₀.size, 0)] /\ ∃ κ, Tag a₀ (arrOf st) κ a₀.size /\ lI (arrOf st) κ a₀.size /\ (arrOf st).size = a₀.size
theorem RV {st : SortSt} {κ : Nat -> Nat} (hB : SBase a₀ st) (t : Tag a₀ (arrOf st) κ a₀.size) (o : lI (arrOf st) κ a₀.size) : Jx a₀ (setPending st ((pendingOf st).push (0, a₀.size, 0))) :=
 ⟨hB.failed, by show (pendingOf st).push _ = _; rw [hB.pend]; rfl, κ, t, o, hB.size⟩
theorem GO {st : SortSt} {Q : Unit -> SortSt -> Prop} (h0 : IntKeys a₀) (hB : SBase a₀ st) (ht : Tag a₀ (arrOf st) id 0) (h2 : 2 <= a₀.size) (RW : a₀.size < 64)
   (h : ∀ z κ, failedOf z = none -> Tag a₀ (arrOf z) κ a₀.size -> lI (arrOf z) κ a₀.size -> (arrOf z).size = a₀.size -> Q () z) : wpS (model prog w) A E s sortRuns' Q st := by
 rw [sortRuns'_eq]
 refine af8 (wpS_get ?_)
 dsimp only
 have hmr : minRun' a₀.size a₀.size 0 = a₀.size := by
   obtain ⟨f, hf⟩ : ∃ f, a₀.size = f + 1 := ⟨a₀.size - 1, by omega⟩
   have q : minRun' (f + 1) a₀.size 0 = a₀.size := by
     rw [minRun'_succ, afk RW]
     rfl
   rwa [← hf] at q
 simp only [hB.size, hmr]
 refine af8 (wpS_mono (ag3 (I := fun x c z => (x = 0 /\ c = (none, 0) /\ SBase a₀ z /\ Tag a₀ (arrOf z) id 0) \/ (1 <= x /\ c = (none, a₀.size) /\ Jx a₀ z))
   (Q := fun c z => c = (none, a₀.size) /\ Jx a₀ z) ?one ?all (.inl ⟨rfl, rfl, hB, ht⟩)) ?aft)
 case all =>
   rintro c z (⟨hx, _⟩ | ⟨_, hc, hD⟩)
   . omega
   . exact ⟨hc, hD⟩
 case one =>
   rintro x c z _ hx (⟨rfl, rfl, b2, t0⟩ | ⟨hx1, rfl, hD⟩)
   . dsimp only
     rw [afi (by omega)]
     simp only [Nat.sub_zero, Nat.min_self, Nat.zero_add]
     refine af8 (Jv h0 (afp _) (by omega) b2 t0 fun m z2 κ b3 m1 m2 t o => ?_)
     dsimp only
     by_cases hl : m < a₀.size
     . rw [afk hl]
       refine af8 (wpS_lift (wpAny_rule ⟨rfl, ?_⟩))
       refine af8 (Jw h0 (afp _) m2 m1 b3 t o fun z3 κ3 b4 t4 o4 => ?_)
       simp only [Bool.not_true, aga, agF]
       refine af8 (wpS_get ?_)
       have hb : (pendingOf z3).back? = none := by rw [b4.pend]; rfl
       rw [hb]
       dsimp only
       exact af8 (wpS_modify (agh (.inr ⟨by omega, rfl, RV b4 t4 o4⟩)))
     . rw [afi hl]
       have hm : m = a₀.size := by omega
       subst hm
       refine af8 (wpS_get ?_)
       have hb : (pendingOf z2).back? = none := by rw [b3.pend]; rfl
       rw [hb]
       dsimp only
       exact af8 (wpS_modify (agh (.inr ⟨by omega, rfl, RV b3 t o⟩)))
   . dsimp only
     rw [afk (afp _)]
     exact agh ⟨rfl, hD⟩
 case aft =>
   rintro c z ⟨rfl, hD⟩
   dsimp only
   refine af8 (wpS_mono (ag3 (I := fun _ c y => y = z /\ c = (none, ())) (Q := fun c y => y = z /\ c = (none, ())) ?_ (fun _ _ q => q) ⟨rfl, rfl⟩) ?_)
   . rintro x c y _ _ ⟨rfl, rfl⟩
     refine af8 (wpS_get ?_)
     rw [afk (by rw [hD.2.1]; exact afp 1)]
     exact agh ⟨rfl, rfl⟩
   . rintro c y ⟨rfl, rfl⟩
     obtain ⟨κ, t, o, z1⟩ := hD.2.2
     exact agh (h _ κ hD.1 t o z1)
end
section
variable {X : Cx}
end
section
variable {X : Cx} {CL : Str -> Addr} {b : Bx} {δ δ1 : List (Option T)} {e : Expr} {pos pp p1 p2 : Pos} {kj : Nat}
end
section
variable {X : Cx} {i : Nat} {x : Str}
theorem mkL (hi : X.N[i]? = some x) (h : X.env.scope.names.lookup x = some .local) (hf : X.fn x = true) (hd : (x == ("__debug__" : Str)) = false := by decide) (hc : (x == ("__classdict__" : Str)) = false := by decide) : Ln X i x := ⟨⟨hi, .inl h, hd, hc⟩, .inl h, .inl hf⟩
theorem mkC (hi : X.N[i]? = some x) (h : X.env.scope.names.lookup x = some .cell) (hf : X.fn x = true) (hd : (x == ("__debug__" : Str)) = false := by decide) (hc : (x == ("__classdict__" : Str)) = false := by decide) : Ln X i x := ⟨⟨hi, .inr (.inl h), hd, hc⟩, .inr h, .inl hf⟩
end
theorem cA {P : Program} {w : World} {K : PySem.W.Frag} {mg : Str -> Option Value} {base : Heap} {k : Nat} {f : Addr} {fd : FuncData} {ps : List Str} {sp : Sp} {x : Str} (G : bP P w K mg base fP k f fd ps sp) (m : mg x = some (.ref f)) (q : PySem.W.keepIn K (.ref f) = true) (b : Binds K fd ps []) :
   ∃ f fd ps, bP P w K mg base fP k f fd ps sp /\ mg x = some (.ref f) /\ PySem.W.keepIn K (.ref f) = true /\ Binds K fd ps [] := ⟨_, _, _, G, m, q, b⟩
section
variable {X : Cx} {CL : Str -> Addr} {b : Bx} {δ δ1 δc : List (Option T)} {scope : Scope} {y : Str} {Nc : List Str} {ix : List Nat} {elt iter : Expr} {ifs : List Expr} {px pc pos : Pos} {p : L3.D -> Bool} {g : L3.D -> T} {ds : List L3.D}
theorem Nr (sc : eZ X scope y Nc ix) : lF X scope [y] Nc ix := ⟨sc.kind, sc.qO, sc.nd, sc.names, (fun x hx => by rw [afG] at hx; subst hx; exact sc.own), sc.frees, sc.hd, sc.RJ⟩
theorem UB (sc : eZ X scope y Nc ix) (h : Block X CL scope Nc ifs elt δc ds p g) (h1 : (y == ("__debug__" : Str)) = false) (h2 : (y == ("__classdict__" : Str)) = false) : qS X CL scope Nc [y].length (.Name y px) part1 ifs elt δc ds p g := fun C s0 H0 f0 b' =>
 ⟨Jl (i := 0) sc.nd (Uw (by rw [sc.hd]; rfl) sc.own h1 h2), fun d hd => ⟨[d], rfl, rfl, (h C s0 H0 f0 b' d hd).1, (h C s0 H0 f0 b' d hd).2⟩⟩
theorem Nt (sc : eZ X scope y Nc ix) (hc : X.calm = true) (h : RK X CL b (.Name y px) iter δ ds δ1) (hb : (δc = uz δ1 ix /\ ∀ d ∈ ds, (g d).clean = true) \/ δc = Bo δ1 ix) (inner : Block X CL scope Nc ifs elt δc ds p g) (hlen : ds.length <= sizeLine)
   (hs : ∀ x, foldedSetIterable iter X.env x = pure x := by intro _; rfl) (h1 : (y == ("__debug__" : Str)) = false := by decide) (h2 : (y == ("__classdict__" : Str)) = false := by decide) : b9 X CL b (.ListComp elt [⟨.Name y px, iter, ifs, 0⟩] scope pos) δ (.lst ((ds.filter p).map g)) δ1 :=
 BF (xs := [y]) (Nr sc) hc (RM h) hb (UB sc inner h1 h2) hlen hs
theorem oB {D : cX} {gq : List Stmt} {i : Nat} {x : Str} {pos' : Pos} {gg : L3.D -> T} (g : Gx X) (n : Ln X i x) (sc : eZ X scope y Nc ix) (h : RK X CL b (.Name y px) iter δ ds δ1) (hb : (δc = uz δ1 ix /\ ∀ d ∈ ds, (gg d).clean = true) \/ δc = Bo δ1 ix) (inner : Block X CL scope Nc ifs elt δc ds p gg)
   (hlen : ds.length <= sizeLine) (k : fF X CL b gq (δ1.set i (some (.lst ((ds.filter p).map gg)))) D) (hl : i < δ1.length)
   (wC : swapsWith (.ListComp elt [⟨.Name y px, iter, ifs, 0⟩] scope pc) (some (.Name x pos')) pos.line X.env = pure true \/ swapsWith (.ListComp elt [⟨.Name y px, iter, ifs, 0⟩] scope pc) (some (.Name x pos')) pos.line X.env = pure false) (hs : ∀ x, foldedSetIterable iter X.env x = pure x := by intro _; rfl)
   (h1 : (y == ("__debug__" : Str)) = false := by decide) (h2 : (y == ("__classdict__" : Str)) = false := by decide) : fF X CL b (.Assign [.Name x pos'] (.ListComp elt [⟨.Name y px, iter, ifs, 0⟩] scope pc) pos :: gq) δ D :=
 Uv (xs := [y]) g n (Nr sc) (RM h) hb (UB sc inner h1 h2) hlen k hl wC hs
end
section
variable {X : Cx} {CL : Str -> Addr} {b : Bx} {δ : List (Option T)} {i : Nat} {x : Str} {d : L3.D} {pos : Pos}
theorem aH (n : Ln X i x) (h : δ[i]? = some (some (.sh d)) := by rfl) : cG X CL b (.Name x pos) δ d δ := ah (v_ n.1 h)
end
structure bZ (X : Cx) : Prop where
 g : Gx X
 u : X.A.units + 64 < cLine
noncomputable abbrev ay (X : Cx) (CL : Str -> Addr) (b : Bx) (st : Stmt) (N : List Str) (l : List L3.D) (r : T) : Prop := fF X CL b (fE st) (entry N l) { nx := fun _ => r = .sh .non, rt := fun DU _ => DU = r }
noncomputable abbrev aA : NameKind := .globalImplicit
noncomputable abbrev au : NameKind := .local
theorem aU {N P : List Str} {sc : Scope} (h1 : sc.kind = .function := by rfl) (h2 : sc.isCoroutine = false := by rfl) (h3 : sc.isGenerator = false := by rfl) (h4 : N.Nodup := by decide +kernel) (h5 : N.take P.length = P := by rfl) (h6 : ∀ x ∈ P, sc.names.lookup x = some .local \/ sc.names.lookup x = some .cell := by decide +kernel) (h7 : ∀ y ∈ sc.names, y.2 ≠ .free := by decide +kernel) : aL N P sc := ⟨h1, h2, h3, h4, h5, h6, h7⟩
section
variable {X : Cx} {i : Nat} {x : Str} {tb : List (Str × NameKind)}
theorem bF (c : jy X.env.scope tb = true) (j : Nat) (hj : tb[j]? = some (x, .local) := by rfl) (hi : X.N[i]? = some x := by rfl) (hf : X.fn x = true := by rfl) (hd : (x == ("__debug__" : Str)) = false := by decide) (hc : (x == ("__classdict__" : Str)) = false := by decide) : Ln X i x := mkL hi (cY c j hj) hf hd hc
theorem Ff (c : jy X.env.scope tb = true) (j : Nat) (hj : tb[j]? = some (x, .cell) := by rfl) (hi : X.N[i]? = some x := by rfl) (hf : X.fn x = true := by rfl) (hd : (x == ("__debug__" : Str)) = false := by decide) (hc : (x == ("__classdict__" : Str)) = false := by decide) : Ln X i x := mkC hi (cY c j hj) hf hd hc
theorem di (c : jy X.env.scope tb = true) (j : Nat) (hj : tb[j]? = some (x, .globalImplicit) := by rfl) : Gl X x := cY c j hj
theorem cF {CL : Str -> Addr} {k n m : Nat} {A : Type} {arg : A -> List D} {Pre : A -> Prop} {res : A -> T} (F : ∃ f fd ps, bP X.prog X.w X.K X.mg X.base fP k f fd ps (jA X.K CL n arg Pre res) /\ X.mg x = some (.ref f) /\ PySem.W.keepIn X.K (.ref f) = true /\ Binds X.K fd ps []) (r : d8 m X.A) (h : k <= m := by decide) : Fc X CL x k n arg Pre res := ⟨F, r.mono h⟩
end
section
variable {K : PySem.W.Frag} {CL : Str -> Addr} {b : Bx} {H H' Z Z' : Hp} {δ δ' : List (Option T)} {σ σ' : L2.St} {ts tl : List T} {vs us : List V} {t : T} {v : V} {y : Addr} {i : Nat}
theorem bW.XA (S : bW K CL b H Z δ σ ts vs) (hi : δ[i]? = some (some (.pin y t))) : σ[i]? = some (some (.ref y)) /\ bW K CL b H Z (δ.set i (some t)) σ ts vs := by
 obtain ⟨fp, gp, e, r, nd, k⟩ := S.rep
 obtain ⟨v0, f1, f2, f3, hv, oM, rt, put, _⟩ := e.get hi
 subst oM
 cases rt with
 | pin rt =>
   have e2 := put (.refl _) (fun _ _ => rfl) rt
   rw [lA hv] at e2
   exact ⟨hv, ⟨⟨_, gp, e2, r, nd, k⟩, S.bh, S.zz, S.zh, S.new, S.tp, S.tab⟩⟩
theorem bW.XC (S : bW K CL b H Z δ σ ts vs) (hi : δ[i]? = some (some t)) (hv : σ[i]? = some (some (.ref y))) : bW K CL b H Z (δ.set i (some (.pin y t))) σ ts vs := by
 obtain ⟨fp, gp, e, r, nd, k⟩ := S.rep
 obtain ⟨v0, f1, f2, f3, hv0, oM, rt, put, _⟩ := e.get hi
 subst oM
 rw [hv] at hv0
 cases hv0
 have e2 := put (.refl _) (fun _ _ => rfl) (.pin rt)
 rw [lA hv] at e2
 exact ⟨⟨_, gp, e2, r, nd, k⟩, S.bh, S.zz, S.zh, S.new, S.tp, S.tab⟩
noncomputable def Nu (H : Hp) (gp : List Addr) : Hp := fun c => if c ∈ gp then none else H c
noncomputable def DV (K : PySem.W.Frag) (CL : Str -> Addr) {A : Type} (n : Nat) (arg : A -> List T) (Pre : A -> Prop) (res : A -> T) (out : A -> List T) : Sp := fun vs H Q _ =>
 ∃ (W : Hp) (a : A) (gp : List Addr), aC W (Nu H gp) /\ (∀ c o, H c = some o -> gR o = true -> W c = some o) /\ aX K CL H W (arg a) vs gp /\ gp.Nodup /\ (arg a).length = n /\ Pre a /\ jW CL W ∧
   ∀ v H' W' fp, aC (Nu H gp) H' -> aC W W' -> aC W' H' -> (∀ c o, W' c = some o -> W c = none -> Nu H gp c = none) -> (∀ c o, H' c = some o -> gR o = true -> W' c = some o) →
     aX K CL H' W' (res a :: out a) (v :: vs) fp -> fp.Nodup -> (∀ c ∈ fp, W' c = none /\ Nu H gp c = none) -> Q v H'
end
section
variable {K : PySem.W.Frag} {CL : Str -> Addr} {b : Bx} {H Z : Hp} {σ : L2.St} {ts : List T} {vs : List V}
end
section
variable {X : Cx} {CL : Str -> Addr} {b : Bx} {δ δ1 δ2 : List (Option T)} {e : Expr} {es : List Expr} {t : T} {d : L3.D} {pos pp : Pos} {D : cX} {i : Nat} {x : Str} {is : List Nat} {fx : List Addr -> Prop} {al : List Addr -> List T} {y : Addr}
variable {gq : List Stmt}
end
section
variable {X : Cx} {CL : Str -> Addr} {b : Bx} {δ δ1 δ2 : List (Option T)} {e e2 : Expr} {t : T} {tl M5 tl2 : List T} {D : cX} {pos pp pa pb : Pos} {y : Addr} {gq : List Stmt}
section
variable {i : Nat} {x : Str}
end
end
noncomputable def pH {α : Type} (g : α -> Int) (x : α) : List α -> List α
 | [] => [x]
 | y :: l => if g x <= g y then x :: y :: l else y :: pH g x l
noncomputable def bB {α : Type} (g : α -> Int) : List α -> List α
 | [] => []
 | x :: l => pH g x (bB g l)
section
variable {α β : Type} {g : α -> Int}
theorem qT (x : α) : ∀ l, (pH g x l).Perm (x :: l)
 | [] => .refl _
 | y :: l => by
   rw [pH]
   split
   . exact .refl _
   . exact ((qT x l).cons y).trans (.swap x y l)
theorem gw : ∀ l : List α, (bB g l).Perm l
 | [] => .refl _
 | x :: l => (qT x (bB g l)).trans ((gw l).cons x)
theorem dF {l : List α} {x : α} : x ∈ bB g l ↔ x ∈ l := (gw l).mem_iff
theorem fN (l : List α) : (bB g l).length = l.length := (gw l).length_eq
theorem BO (f : β -> α) (x : β) : ∀ l, pH g (f x) (l.map f) = (pH (fun y => g (f y)) x l).map f
 | [] => rfl
 | y :: l => by
   rw [afO, pH, pH]
   split
   . rfl
   . rw [afO, BO f x l]
theorem iB (f : β -> α) : ∀ l : List β, bB g (l.map f) = (bB (fun y => g (f y)) l).map f
 | [] => rfl
 | x :: l => by rw [afO, bB, bB, iB f l, BO]
noncomputable def DW (g : Nat -> Int) (i j : Nat) : Prop := g i < g j \/ (g i = g j /\ i < j)
theorem DW.trans {g : Nat -> Int} {i j k : Nat} (a : DW g i j) (b : DW g j k) : DW g i k := by
 unfold DW at *; omega
theorem DW.irr {g : Nat -> Int} {i : Nat} (a : DW g i i) : False := by unfold DW at a; omega
theorem BP {g : Nat -> Int} {x : Nat} : ∀ {l : List Nat}, l.Pairwise (DW g) -> (∀ y ∈ l, x < y) -> (pH g x l).Pairwise (DW g)
 | [], _, _ => List.pairwise_singleton _ _
 | y :: l, h, hx => by
   obtain ⟨h1, h2⟩ := agb.mp h
   rw [pH]
   split
   . rename_i e
     refine agb.mpr ⟨fun z hz => ?_, h⟩
     have a1 : DW g x y := by have := hx y afo; unfold DW; omega
     rcases afm.mp hz with rfl | hz
     . exact a1
     . exact a1.trans (h1 z hz)
   . rename_i e
     refine agb.mpr ⟨fun z hz => ?_, BP h2 fun z hz => hx z (afq _ hz)⟩
     rcases afm.mp ((qT x l).mem_iff.mp hz) with rfl | hz
     . left; omega
     . exact h1 z hz
theorem qU {g : Nat -> Int} : ∀ {l : List Nat}, l.Pairwise (· < ·) -> (bB g l).Pairwise (DW g)
 | [], _ => .nil
 | x :: l, h => by
   obtain ⟨h1, h2⟩ := agb.mp h
   exact BP (qU h2) fun y hy => h1 y (dF.mp hy)
theorem yb {g : Nat -> Int} : ∀ {S A : List Nat}, S.Pairwise (DW g) -> A.Pairwise (DW g) -> (∀ a ∈ A, a ∈ S) -> A.length <= S.length /\ (A.length = S.length -> A = S)
 | [], A, _, _, h => by
   cases A with
   | nil => exact ⟨afp _, fun _ => rfl⟩
   | cons a A => exact absurd (h a afo) (by simp)
 | s :: S, [], _, _, _ => ⟨afP _, fun e => by simp at e⟩
 | s :: S, a :: A, hS, hA, h => by
   obtain ⟨s1, s2⟩ := agb.mp hS
   obtain ⟨a1, a2⟩ := agb.mp hA
   by_cases e : a = s
   . subst e
     have q := yb s2 a2 fun z hz => (afm.mp (h z (afq _ hz))).resolve_left fun e => by subst e; exact (a1 _ hz).irr
     refine ⟨by simpa using q.1, fun e => by rw [q.2 (by simpa using e)]⟩
   . have ha : a ∈ S := (afm.mp (h a afo)).resolve_left e
     have q := yb (A := a :: A) s2 hA fun z hz => by
       rcases afm.mp hz with rfl | hz
       . exact ha
       . refine (afm.mp (h z (afq _ hz))).resolve_left fun e2 => ?_
         subst e2
         exact ((s1 a ha).trans (a1 _ hz)).irr
     exact ⟨by have := q.1; simp at this ⊢; omega, fun e3 => by have := q.1; simp at this e3; omega⟩
theorem Jy {l r : List α} {κ : Nat -> Nat} (hn : r.length = l.length) (pl : ∀ k, k < l.length -> r[k]? = l[κ k]?) (lo : ∀ k, k < l.length -> κ k < l.length)
   (st : ∀ i j x y, i < j -> r[i]? = some x -> r[j]? = some y -> g x < g y \/ (g x = g y /\ κ i < κ j)) : r = bB g l := by
 cases l with
 | nil => cases r with
   | nil => rfl
   | cons a r => simp at hn
 | cons d l0 =>
   generalize hl : d :: l0 = l at *
   let f : Nat -> α := fun i => (l[i]?).getD d
   have hf : ∀ i, i < l.length -> l[i]? = some (f i) := fun i hi => by
     show _ = some ((l[i]?).getD d)
     rw [afn hi]; rfl
   have el : l = (List.range l.length).map f := agH fun i => by
     rw [afV]
     by_cases hi : i < l.length
     . rw [hf i hi, agx hi]; rfl
     . rw [List.getElem?_eq_none (by omega), List.getElem?_eq_none (by simpa using hi)]; rfl
   have er : r = ((List.range l.length).map κ).map f := agH fun i => by
     rw [afV, afV]
     by_cases hi : i < l.length
     . rw [pl i hi, hf _ (lo i hi), agx hi]; rfl
     . rw [List.getElem?_eq_none (by omega), List.getElem?_eq_none (by simpa using hi)]; rfl
   have gr : ∀ k, k < l.length -> r[k]? = some (f (κ k)) := fun k hk => (pl k hk).trans (hf _ (lo k hk))
   have eA : (List.range l.length).map κ = bB (fun i => g (f i)) (List.range l.length) := by
     refine (yb (qU (List.pairwise_lt_range)) (List.pairwise_map.mpr ?_) fun a ha => ?_).2 ?_
     . refine List.Pairwise.imp_of_mem (R := (· < ·)) (fun {i j} hi hj BJ => ?_) List.pairwise_lt_range
       exact st i j _ _ BJ (gr i (agf.mp hi)) (gr j (agf.mp hj))
     . obtain ⟨k, hk, rfl⟩ := afJ.mp ha
       exact dF.mpr (agf.mpr (lo k (agf.mp hk)))
     . rw [afj, fN]
   rw [er, eA, ← iB, ← el]
end
theorem DX {pos pos' : Pos} {c cv : Value} (l : List Value) (h : TriplesOk l) (e : codeAmong pos (l ++ [rawInt pos'.line, rawInt pos'.col, c]) = some cv) : codeAmong pos l = some cv \/ cv = c := by
 fun_induction TriplesOk l with
 | case1 =>
   simp only [agv, codeAmong, rawInt] at e
   split at e
   . exact .inr (afF e).symm
   . cases e
 | case2 a t b u x rest ih =>
   simp only [afS, codeAmong] at e ⊢
   split at e
   . rename_i hc; rw [afk hc]; exact .inl e
   . rename_i hc; rw [afi hc]; exact ih h e
 | case3 l h1 h2 => exact h.elim
noncomputable def Jz (f : Addr) (q : Str) (ps : Arguments) (body : Expr) (sc : Scope) (cl : List (Str × Addr)) (c : Addr) : Heap -> Prop := fun h =>
 ∃ pm Wi, h.get? f = some (PySem.W.kla_obj "<lambda>" q ps body sc cl pm c Wi)
structure GP (X : Cx) (CL : Str -> Addr) (x q : Str) : Prop where
 code : ∃ c, X.env.code = .ref c /\ PySem.W.CodeHd X.base c (CL x)
 blt : ∃ bm o, X.mg "__builtins__" = some (.ref bm) /\ bm ≠ builtinsNs /\ bm ≠ mainGlobals /\ X.base.get? bm = some o /\ o.cls = .type "module" /\ o.dict = some builtinsNs /\ o.data = .plain
 qual : X.env.qual ++ "<lambda>" = q
 tab : Bk x = true /\ CL x ≠ 0 /\ Bl x = q
section
variable {X : Cx} {CL : Str -> Addr} {pins : List (Addr × Obj)} {σ : L2.St} {H : Hp} {s : Shared} {x q : Str} {params : Arguments} {body : Expr} {scope : Scope} {pos : Pos}
theorem UC {Q : Value -> Shared -> Prop} (L : GP X CL x q) (I : L2.Inv X pins σ H s) (ht : H (CL x) = some (.tabs q)) (A7 : ∀ y ∈ scope.names, y.2 = .free -> ∃ c, X.env.cells.lookup y.1 = some c)
   (UD : defaultsOf params X.env = ([], []))
   (k : ∀ f c H' s', L2.Inv X pins σ H' s' -> aC H H' -> H' f = some (.ext (Jz f q params body scope (cy X.env scope.names []) c)) -> H' c = some (.F6 q) -> (∀ b o, H' b = some o -> gR o = true -> H b = some o) -> Q (.ref f) s') :
   wpAny (model X.prog X.w) X.A (eval (.Lambda params body scope pos) X.env) Q X.xe s := by
 obtain ⟨c, hc, hd⟩ := L.code
 obtain ⟨bm, ob, b1, b2, b3, b4, b5, b6, b7⟩ := L.blt
 obtain ⟨ps, hP, tr, cs⟩ := I.dO _ _ ht
 have qG : ∀ {b : Addr} {o : Obj}, X.base.get? b = some o -> b ≠ CL x := fun {b o} e z => by
   have := (I.bs _ _ e).2
   rw [z, ht] at this; cases this
 have hg : s.heap.Ns mainGlobals X.mg := by
   obtain ⟨o, es, ep, e, r⟩ := I.mod.glob
   exact ⟨o, es, ep, I.bk _ _ e, r⟩
 have hgP : mainGlobals ≠ CL x := by
   obtain ⟨o, _, _, e, _⟩ := I.mod.glob
   exact qG e
 have hb : s.heap.BuiltinsAt X.mg (CL x) := ⟨bm, ob, b1, b2, b3, qG b4, I.bk _ _ b4, b5, b6, b7⟩
 refine PySem.W.kla_eval UD ?_
 rw [L.qual]
 cases hf : codeAmong pos ps.toList with
 | none =>
   refine PySem.W.kla_makeFunction (jh A7) I.ok.glob hg hc (hd.keeps I.bk) hP tr hf hgP hb fun c' Wi h' tk hx Wh oz abm htb => ?_
   obtain ⟨c₂, oc, vs, t, e2, V6, hdc, hv⟩ := abm
   cases e2
   have hn : H c' = none := I.dO.fresh Wh
   have neP : ∀ {b : Addr}, H b = none -> b ≠ CL x := fun {b} e z => by rw [z, ht] at e; cases e
   have ne' : ∀ {b : Addr} {o : Obj}, s.heap.get? b = some o -> b ≠ c' := fun {b o} e => afX (afR (afA e) Wh)
   have cP : CL x ≠ c' := ne' hP
   have un : Un X.fs [] H (upd H c' (.F6 q)) s.heap h' := by
     refine ⟨fun b o e n _ _ => hx b o (neP n) e, fun b o e n _ _ => ⟨o.slots, hx b o (neP n) e⟩, fun b o e n _ => by rw [az (ne' e)]; exact n, fun b o e _ => ?_, fun b xs e => by rw [az (aG e hn)]; exact e, fun b o u e => by rw [az (aG e hn)]; exact e, fun b ps e => ⟨#[], by rw [az (aG e hn), e]; simp⟩⟩
     by_cases z : b = CL x
     . exact ⟨_, z ▸ htb⟩
     . exact ⟨o, hx b o z e⟩
   have dO : sF X.prog X.w (upd H c' (.F6 q)) h' := fun b u e => by
     by_cases z : b = c'
     . subst z
       rw [aQ] at e
       cases e
       exact ⟨oc, vs, t, V6, hdc, hv⟩
     . rw [az z] at e
       by_cases z2 : b = CL x
       . subst z2
         rw [ht] at e
         cases e
         refine ⟨_, htb, ?_, fun pos' cv ec => ?_⟩
         . rw [Array.toList_append]
           exact TriplesOk_snoc _ _ _ _ tr
         . rw [Array.toList_append] at ec
           rcases DX _ tr ec with q1 | q1
           . obtain ⟨c3, e3, e4⟩ := cs pos' cv q1
             exact ⟨c3, e3, by rw [az (aG e4 hn)]; exact e4⟩
           . exact ⟨c', q1, aQ⟩
       . refine (I.dO b u e).A5 (fun d v Mv r => hx d v ?_ r) (fun d r => by rw [az (aG r hn)]; exact r) (fun d xs r => by rw [az (aG r hn)]; exact r) fun d z r => by rw [az (aG r hn)]; exact r
         rintro rfl
         rcases Mv with w | w
         . exact z2 w.symm
         . rw [ht] at w; cases w
   have I1 := I.un (t' := tk) un dO
   have f1 : (upd H c' (.F6 q)) h'.objs.size = none := dO.fresh (afp _)
   have I2 := I1.laid (t' := tk) (a := h'.objs.size) (o := .ext (Jz h'.objs.size q params body scope (cy X.env scope.names []) c')) (h' := h'.push (PySem.W.kla_obj "<lambda>" q params body scope (cy X.env scope.names []) ((X.mg "__name__").getD .none) c' Wi))
     (fun b u e => afv _ e) (afp _) ⟨⟨_, _, afL _ rfl⟩, ⟨_, afL _ rfl⟩, fun h1 h2 ⟨pm, ct, e⟩ kk => ⟨pm, ct, kk _ e⟩⟩
   refine k _ c' _ _ I2 (fun b o e => ?_) aQ ?_ fun b o e im => ?_
   . have z1 := aG e hn
     have z2 : b ≠ h'.objs.size := fun z => by
       rw [← z, az z1, e] at f1; cases f1
     rw [az z2, az z1]; exact e
   . rw [az (afX oz), aQ]
   . by_cases z2 : b = h'.objs.size
     . subst z2; rw [aQ] at e; cases e; cases im
     . rw [az z2] at e
       by_cases z1 : b = c'
       . subst z1; rw [aQ] at e; cases e; cases im
       . rw [az z1] at e; exact e
 | some cv =>
   obtain ⟨c', rfl, Ik⟩ := cs pos cv hf
   refine PySem.W.kla_makeFunctionHit (jh A7) I.ok.glob hg hc (hd.keeps I.bk) hP tr hf hb fun Wi h' tk hk Gh => ?_
   have I2 := I.laid (t' := tk) (a := h'.objs.size) (o := .ext (Jz h'.objs.size q params body scope (cy X.env scope.names []) c')) (h' := h'.push (PySem.W.kla_obj "<lambda>" q params body scope (cy X.env scope.names []) ((X.mg "__name__").getD .none) c' Wi))
     (fun b u e => afv _ (hk _ _ e)) Gh ⟨⟨_, _, afL _ rfl⟩, ⟨_, afL _ rfl⟩, fun h1 h2 ⟨pm, ct, e⟩ kk => ⟨pm, ct, kk _ e⟩⟩
   have f1 : H h'.objs.size = none := I.dO.fresh Gh
   refine k _ c' _ _ I2 (fun b o e => by rw [az (aG e f1)]; exact e) aQ (by rw [az (aG Ik f1)]; exact Ik) fun b o e im => ?_
   by_cases z2 : b = h'.objs.size
   . subst z2; rw [aQ] at e; cases e; cases im
   . rw [az z2] at e; exact e
end
noncomputable def sj (X : Cx) (A : Around) (q : Str) (scope : Scope) (Nc : List Str) (f c : Addr) (s : Shared) (H : Hp) : Cx where
 prog := X.prog
 w := X.w
 K := X.K
 mg := X.mg
 base := X.base
 A := A.deeper (PySem.W.envX q scope s.heap.objs.size f (.ref c) (cy X.env scope.names []))
 N := Nc
 s₀ := s
 H₀ := H
 env := PySem.W.envX q scope s.heap.objs.size f (.ref c) (cy X.env scope.names [])
 outer := X.stack
 stack := PySem.W.envX q scope s.heap.objs.size f (.ref c) (cy X.env scope.names []) :: X.stack
 ex := []
 fn := fun _ => false
 calm := true
 pn := []
 xe := fun _ _ => False
section
variable {X : Cx} {scope : Scope} {x q : Str} {Nc : List Str} {ix : List Nat} {pins : List (Addr × Obj)} {σ : L2.St} {H : Hp} {s : Shared} {A : Around} {f c : Addr}
theorem GQ (sc : eZ X scope x Nc ix) (I : L2.Inv X pins σ H s) (hA : A.frames = some X.stack) (hh : A.handled = none) {h' : Heap} {tk : Nat} {u : Value} {v : V} (r : RelV v u)
   (hn : h'.Ns s.heap.objs.size (fun y => ([(x, u)] : List (Str × Value)).reverse.lookup y)) (hk : ∀ b o, s.heap.get? b = some o -> h'.get? b = some o) :
   L2.Inv (sj X A q scope Nc f c s H) [] (qP σ ix (some v)) H { s with heap := h', toks := tk } := by
 have frees : ∀ y ∈ scope.names, y.2 = .free -> ∃ c, X.env.cells.lookup y.1 = some c := fun y hy e => I.ok.has y.1 (sc.frees y hy e).2
 have sub : ∀ {y : Str} {c : Addr}, (cy X.env scope.names []).lookup y = some c -> X.env.cells.lookup y = some c := fun {y c} e => jY frees (fun _ _ z => by cases z) e
 have hlen : (qP σ ix (some v)).length = Nc.length := by
   have all : ∀ l : List Nat, (∀ i ∈ l, ∃ y, X.N[i]? = some y /\ scope.names.lookup y = some .free) -> (l.filterMap (X.N[·]?)).length = l.length := by
     intro l
     induction l with
     | nil => intro _; rfl
     | cons i r ih =>
       intro h
       obtain ⟨y, e, _⟩ := h i afo
       rw [agg, e]
       show _ + 1 = _ + 1
       rw [ih fun j hj => h j (afq _ hj)]
   unfold qP
   rw [sc.hd, afM, afM, afj, all ix sc.RJ]
 have nil : ∀ b : Addr, b ∉ (sj X A q scope Nc f c s H).ex := fun b z => absurd (show b ∈ ([] : List Addr) from z) (by simp)
 refine ⟨⟨I.ok.mod, sc.kind, rfl, rfl, afp _, fun y z c h1 h2 => I.ok.inj y z c (sub h1) (sub h2), fun y hy => ?_, fun y c hf _ => (by cases (show false = true from hf)), fun _ => hh, Around.frames_deeper hA, .inr ⟨rfl, rfl⟩, fun b hb => absurd hb (nil b), I.bs, afZ I.ok.Mj I.sz, fun b o _ => nil b, fun b hb => absurd hb (nil b), I.stack, I.xK⟩,
   rfl, I.bare, Un.kept hk, ⟨_, hn, fun i y w h1 h2 h3 => ?_⟩, fun y c e => ?_, I.dO.fresh (afp _), fun y c e => I.k7 y c (sub e), fun p hp => absurd (show p ∈ ([] : List (Addr × Obj)) from hp) (by simp), I.dO.kept hk, hlen⟩
 . have ZI : scope.names.lookup y = some .cell \/ scope.names.lookup y = some .free := hy
   rcases ZI with z | z
   . exact absurd rfl (sc.qO _ (agd z))
   . exact iH z
 . unfold qP at h2
   cases i with
   | zero =>
     have Jm : some (some v) = some (some w) := h2
     cases Jm
     have e : y = x := by
       have RP : Nc[0]? = some y := h1
       rw [sc.hd] at RP
       exact (afF RP).symm
     subst e
     refine ⟨u, r, .inl ⟨sc.own, ?_⟩⟩
     simp
   | succ i =>
     rw [List.getElem?_cons_succ, afV] at h2
     cases ei : ix[i]? with
     | none => rw [ei] at h2; cases h2
     | some j =>
       rw [ei] at h2
       have Jm : (σ[j]?).getD none = some w := afF h2
       have hj : σ[j]? = some (some w) := by
         cases q : σ[j]? with
         | none => rw [q] at Jm; cases Jm
         | some o => rw [q] at Jm; exact congrArg some Jm
       obtain ⟨y', RN, Ni⟩ := sc.RJ j (af7 ei)
       have hNc : Nc[i + 1]? = some y' := by
         have all : ∀ (l : List Nat) (i : Nat), (∀ j ∈ l, ∃ y, X.N[j]? = some y /\ scope.names.lookup y = some .free) -> l[i]? = some j -> (l.filterMap (X.N[·]?))[i]? = some y' := by
           intro l
           induction l with
           | nil => intro i _ h; simp at h
           | cons a r ih =>
             intro i h hi
             obtain ⟨ya, ea, _⟩ := h a afo
             rw [agg, ea]
             cases i with
             | zero =>
               simp at hi
               subst hi
               rw [RN] at ea
               cases ea
               rfl
             | succ i => exact ih i (fun j hj => h j (List.mem_cons_of_mem _ hj)) (by simpa using hi)
         rw [sc.hd, List.getElem?_cons_succ]
         exact all ix i sc.RJ ei
       have ey : y' = y := by
         have RP : Nc[i + 1]? = some y := h1
         rw [hNc] at RP
         exact afF RP
       subst ey
       have ur := (sc.frees (y', .free) (agd Ni) rfl).2
       have Uo : Sg X.env.scope y' := ur.elim (fun z => .inr (.inl z)) (fun z => .inr (.inr z))
       obtain ⟨m0, hn0, ZJ⟩ := I.loc
       obtain ⟨u', ru, lk⟩ := ZJ j y' w RN hj Uo
       refine ⟨u', ru, ?_⟩
       rcases lk with ⟨kk, _⟩ | ⟨_, c', hc, rX⟩
       . rcases ur with z | z
         . rw [kk] at z; cases z
         . rw [kk] at z; cases z
       . obtain ⟨c2, Ik⟩ := iH (env := X.env) (cs := []) Ni
         have : c2 = c' := by
           have := sub Ik
           rw [hc] at this
           exact (afF this).symm
         subst this
         obtain ⟨o, ho, hd⟩ := rX
         exact .inr ⟨.inr Ni, c2, Ik, o, hk _ _ ho, hd⟩
 . obtain ⟨v, o, ho, hd⟩ := I.cell y c (sub e)
   exact ⟨v, o, hk _ _ ho, hd⟩
theorem JA {params : Arguments} {body : Expr} {u : Value} {v : V} {Q : VK} (sc : eZ X scope x Nc ix) (I : L2.Inv X pins σ H s) (hA : A.frames = some X.stack) (hh : A.handled = none) (XD : A.depth < recursionLimit)
   (hf : H f = some (.ext (Jz f q params body scope (cy X.env scope.names []) c))) (hc : H c = some (.F6 q)) (r : RelV v u)
   (BQ : ∀ cl pm cd ct u, bindArgs (PySem.W.kla_fn "<lambda>" q params body scope cl pm cd ct) ⟨[u], []⟩ = pure [(x, u)]) (hco : scope.isCoroutine = false) (UE : scope.isGenerator = false)
   (h : Bj (sj X A q scope Nc f c s H) body (qP σ ix (some v)) H Q) : wpAny (model X.prog X.w) A (call (.ref f) [u]) (EP X pins σ Q) (fun _ _ => False) s := by
 obtain ⟨⟨pm, Wi, ho⟩, _⟩ := I.dO _ _ hf
 obtain ⟨oc, vs, t, e1, e2, e3⟩ := I.dO _ _ hc
 refine wpAny_call (PySem.W.kla_callFunE XD ho rfl hco UE rfl ⟨c, oc, vs, t, rfl, e1, e2, e3⟩ ?_)
 rw [BQ]
 refine af1 (wpAny_newFunctionEnv sc.qO (fun y hy => ?_) (fun h₁ ZS hsb => ?_) sc.kind)
 . rw [afG.mp hy]
   exact sc.own
 . have hk : ∀ b o, s.heap.get? b = some o -> h₁.get? b = some o := fun b o e => (hsb.2 b (afX (afA e))).trans (afv _ e)
   refine ⟨I.nolimit.keeps hk, ?_⟩
   show codeAny _ _ (.expr body (PySem.W.envX q scope s.heap.objs.size f (.ref c) (cy X.env scope.names []))) _ _
   have J := GQ (q := q) (f := f) (c := c) (tk := s.toks + ([(x, u)] : List (Str × Value)).length) sc I hA hh r ZS hk
   refine PySem.W.kla_codeExpr (agn (h [] _ J) (fun w s' hl => ?_) fun e s' hx => False.elim hx)
   obtain ⟨v', H', J', rv, hq⟩ := hl
   exact I.after ⟨v', H', J'.os, J'.bare, J'.base, J'.dO, rv, hq⟩
end
section
variable {X : Cx} {pins : List (Addr × Obj)} {σ : L2.St} {H : Hp} {s : Shared}
theorem GR {a : Addr} {o : HO} (I : L2.Inv X pins σ H s) (fp : gX X pins H a) (new : gk X.prog X.w (upd H a o) s.heap a o) : L2.Inv X pins σ (upd H a o) s := by
 have hn := fp.1
 refine I.step (H' := upd H a o) (h' := s.heap) (g' := s.gens) (d' := s.drawn) (t' := s.toks) (ch := [a]) (fun b hb => ?_) (fun b o _ _ _ e _ => e) (fun b o _ _ _ e _ => ⟨o.slots, e⟩) (fun b o hc _ n => by rw [az fun z => hc (by simp [z])]; exact n)
   (fun b o _ e => ⟨o, e⟩) (fun b xs e => by rw [az (aG e hn)]; exact e) (fun b o u e => by rw [az (aG e hn)]; exact e) (fun b ps e => ⟨#[], by rw [az (aG e hn), e]; simp⟩) (fun m hm => hm) (fun b u e => ?_) I.bare
 . have e : b = a := by simpa using hb
   subst e
   exact ⟨fp.2.2.2.1, fp.2.1, fp.2.2.2.2.1, fp.2.2.2.2.2⟩
 . by_cases z : b = a
   . subst z; rw [aQ] at e; cases e; exact new
   . rw [az z] at e
     exact (I.dO b u e).A5 (fun _ _ _ q => q) (fun c q => by rw [az (aG q hn)]; exact q) (fun c xs q => by rw [az (aG q hn)]; exact q) fun c z q => by rw [az (aG q hn)]; exact q
end
noncomputable def n6 (kz : List Int) (xs : List V) : List V := (bB Prod.fst (kz.zip xs)).map Prod.snd
section
variable {α β : Type} {F : α -> β -> Prop} {g1 : α -> Int} {g2 : β -> Int}
theorem BR (hg : ∀ p q, F p q -> g1 p = g2 q) {x : α} {y : β} (hx : F x y) {l1 : List α} {l2 : List β} (h : Paired F l1 l2) : Paired F (pH g1 x l1) (pH g2 y l2) := by
 induction h with
 | nil => exact .cons hx .nil
 | @cons p q l1 l2 r t i =>
   rw [pH, pH, hg x y hx, hg p q r]
   split
   . exact .cons hx (.cons r t)
   . exact .cons r i
theorem pI (hg : ∀ p q, F p q -> g1 p = g2 q) {l1 : List α} {l2 : List β} (h : Paired F l1 l2) : Paired F (bB g1 l1) (bB g2 l2) := by
 induction h with
 | nil => exact .nil
 | cons r _ i => exact BR hg r i
end
theorem uF : ∀ {ks us : List Value} {kz : List Int} {xs : List V}, IntsAre ks kz -> Vals xs us -> Paired (fun (p : Int × V) (q : Value × Value) => p.1 = numOf q.1 /\ RelV p.2 q.2) (kz.zip xs) (ks.zip us)
 | _, _, _, _, .nil, _ => by simp only [List.zip_nil_left]; exact .nil
 | _, _, _, _, .cons n t h, .nil => by simp only [List.zip_nil_right]; exact .nil
 | _, _, _, _, .cons n t h, .cons r rr => .cons ⟨rfl, r⟩ (uF h rr)
theorem JB {ps : List (Int × V)} {qs : List (Value × Value)} (h : Paired (fun (p : Int × V) (q : Value × Value) => p.1 = numOf q.1 /\ RelV p.2 q.2) ps qs) : Vals (ps.map Prod.snd) (qs.map Prod.snd) := by
 induction h with
 | nil => exact .nil
 | cons r _ i => exact .cons r.2 i
theorem BU {keys : Array Value} {us : List Value} {xs : List V} {kz : List Int} (hk : IntsAre keys.toList kz) (r : Vals xs us) {arr : Array Keyed} {κ : Nat -> Nat}
   (t : Tag (keys.zip us.toArray) arr κ (keys.zip us.toArray).size) (o : lI arr κ (keys.zip us.toArray).size) (hz : arr.size = (keys.zip us.toArray).size) : Vals (n6 kz xs) (arr.map (·.2)).toList := by
 have ez := ksk_zip keys us
 have el : (keys.toList.zip us).length = (keys.zip us.toArray).size := by rw [← ez, agk]
 have e : arr.toList = bB (fun p : Keyed => numOf p.1) (keys.toList.zip us) := by
   refine Jy (κ := κ) (by rw [el, agk, hz]) (fun k hk => ?_) (fun k hk => ?_) fun i j x y BJ hx hy => ?_
   . rw [el] at hk
     rw [agE, t.pl k hk, ← ez, agE]
   . rw [el] at hk ⊢
     exact t.lo k hk
   . rw [agE] at hx hy
     have hj : j < arr.size := (Array.getElem?_eq_some_iff.mp hy).1
     have q := o i j BJ (by rw [← hz]; exact hj)
     unfold PyProof.Rows.K at q
     rw [hx, hy] at q
     exact q
 rw [Array.toList_map, e]
 exact JB (pI (fun p q h => h.1) (uF hk r))
section
variable {X : Cx} {pins : List (Addr × Obj)} {σ : L2.St} {H : Hp} {s : Shared} {a kS f l : Addr} {us : List Value} {xs : List V} {kz : List Int} {J : Hp -> Prop} {e1 : Nat} {A : Around} {E : Value -> Shared -> Prop} {P : PySem.Fin -> Shared -> Prop}
theorem sW {it : Addr} (I : L2.Inv X pins σ H s) (fp : gX X pins H it) (g : Obj -> Obj) : L2.Inv X pins σ H { s with heap := s.heap.update it g } := by
 have s1 := Heap.SameBut.update s.heap it g
 exact I.turned (t' := s.toks) (fun b o n q => (s1.2 b n).trans q) fp.1 fp.2.1 fp.2.2.2.1 fp.2.2.2.2.1 fp.2.2.2.2.2
theorem Fg {st : SortSt} {keys : Array Value} {e : Nat} (I : L2.Inv X pins σ H s) (fk : gX X pins H kS) (fa : gX X pins H a) (UG : kS ≠ a) (ok : s.heap.get? kS = some (seqObj "list" keys e)) (oa : s.heap.get? a = some (seqObj "list" #[] e1))
   (hks : keys.size < 64) (Gh : (arrOf st).size < 64) (hfl : failedOf st = none)
   (h : ∀ s' c, L2.Inv X pins σ H s' -> s'.heap.get? a = some (seqObj "list" ((arrOf st).map (·.2)) c) -> P (.done (.ret .none)) s') :
   wpAny (model X.prog X.w) A (ksk_tail a false e1 (.ref kS) st) P E s := by
 have s1 := Heap.SameBut.update s.heap kS (Obj.mapSeq fun _ => (#[] : Array Value))
 have I1 := sW I fk (Obj.mapSeq fun _ => (#[] : Array Value))
 have na1 : (s.heap.update kS (Obj.mapSeq fun _ => (#[] : Array Value))).get? a = some (seqObj "list" #[] e1) := (s1.2 a UG.symm).trans oa
 have I2 := sW I1 fa (Obj.mapSeq fun _ => (arrOf st).map (·.2))
 obtain ⟨c2, Ul⟩ : ∃ c2, ((s.heap.update kS (Obj.mapSeq fun _ => (#[] : Array Value))).update a (Obj.mapSeq fun _ => (arrOf st).map (·.2))).get? a = some (seqObj "list" ((arrOf st).map (·.2)) c2) :=
   ⟨_, get?_update_seq na1 fun _ => (arrOf st).map (·.2)⟩
 unfold ksk_tail
 try dsimp only
 refine afz (listUpdate_at ok rfl ?_ (by rw [afU]; omega) (afP _))
 refine afz (wpAny_letGo ?_)
 refine afz (seqEpoch_at na1 rfl ?_)
 refine afz (listUpdate_at na1 rfl ?_ (afP _) (by simp only [aga, agF, Array.size_map]; rw [afU]; omega))
 rw [hfl]
 simp only [bne_self_eq_false, aga, agF]
 exact af1 (h _ c2 I2 Ul)
theorem UH {keys : Array Value} {e : Nat} (I : L2.Inv X pins σ H s) (fk : gX X pins H kS) (fa : gX X pins H a) (UG : kS ≠ a) (ok : s.heap.get? kS = some (seqObj "list" keys e)) (oa : s.heap.get? a = some (seqObj "list" #[] e1))
   (hk : IntsAre keys.toList kz) (hlen : kz.length = us.length) (RW : us.length < 64) (r : Vals xs us)
   (h : ∀ s' out c, L2.Inv X pins σ H s' -> s'.heap.get? a = some (seqObj "list" out c) -> Vals (n6 kz xs) out.toList -> P (.done (.ret .none)) s') :
   wpAny (model X.prog X.w) A (ksk_end a false us.toArray e1 (.ref kS) keys) P E s := by
 have Gh : keys.size = us.length := by
   have h1 := hk.length
   rw [agk] at h1
   omega
 have hzs : (keys.zip us.toArray).size = us.length := by rw [Array.size_zip, Gh, afH, Nat.min_self]
 have t0 : ∀ n, Tag (keys.zip us.toArray) (keys.zip us.toArray) id n := fun n => ⟨fun _ _ => rfl, fun _ q => q, fun _ _ => rfl⟩
 unfold ksk_end
 try dsimp only
 simp only [aga, agF]
 by_cases h2 : us.toArray.size < 2
 . rw [afk h2, afk h2]
   refine afz (af1 ?_)
   rw [StateT.run_pure]
   refine afz (af1 ?_)
   try dsimp only
   rw [afH] at h2
   refine Fg (st := SortSt.mk' general' (keys.zip us.toArray) #[] 7 none) I fk fa UG ok oa (by omega) (by show (keys.zip us.toArray).size < 64; omega) rfl fun s' c I' o' => h s' _ c I' o' ?_
   exact BU hk r (arr := keys.zip us.toArray) (κ := id) (t0 _) (fun i j BJ hj => by omega) rfl
 . rw [afi h2, afi h2]
   rw [afH] at h2
   rw [ksk_kind hk (by rw [Gh]; omega)]
   refine afz (af1 ?_)
   refine afz (agn (GO (a₀ := keys.zip us.toArray) (st := SortSt.mk' oneType' (keys.zip us.toArray) #[] 7 none)
     (Q := fun _ HX => failedOf HX = none /\ ∃ κ, Tag (keys.zip us.toArray) (arrOf HX) κ (keys.zip us.toArray).size /\ lI (arrOf HX) κ (keys.zip us.toArray).size /\ (arrOf HX).size = (keys.zip us.toArray).size)
     (ksk_intKeys hk) ⟨Array.Perm.refl _, rfl, rfl, rfl⟩ (t0 _) (by rw [hzs]; omega) (by rw [hzs]; exact RW) fun z κ a1 a2 a3 a4 => ⟨a1, κ, a2, a3, a4⟩) ?_ fun _ _ e => e)
   rintro ⟨⟨⟩, HX⟩ s' ⟨rfl, hf, κ, t, o, hz⟩
   try dsimp only
   have hz' : (arrOf HX).size = (keys.zip us.toArray).size := hz
   exact Fg I fk fa UG ok oa (by omega) (by omega) hf fun s' c I' o' => h s' _ c I' o' (BU hk r t o hz)
theorem XE {b : Addr} {H' : Hp} (fp : gX X pins H b) (h : H' b = none) : gX X pins H' b := ⟨h, fp.2⟩
theorem Nv (I : L2.Inv X pins σ H s) (fk : gX X pins H kS) (fa : gX X pins H a) (UG : kS ≠ a) (ok : s.heap.get? kS = some (seqObj "list" #[] 0)) (oa : s.heap.get? a = some (seqObj "list" #[] e1)) (j0 : J H)
   (hlen : kz.length = us.length) (RW : us.length < 64) (r : Vals xs us)
   (turn : ∀ (i : Nat) (x : V) (k : Int), xs[i]? = some x -> kz[i]? = some k -> ∀ (iE : List (Addr × Obj)) (s' : Shared) (u : Value) (H' : Hp), L2.Inv X iE σ H' s' -> J H' -> RelV x u →
     wpAny (model X.prog X.w) A (call (.ref f) [u]) (EP X iE σ fun v XF => v = .int k /\ J XF) (fun _ _ => False) s')
   (h : ∀ s' H' out c, L2.Inv X pins σ H' s' -> J H' -> H' a = none -> s'.heap.get? a = some (seqObj "list" out c) -> Vals (n6 kz xs) out.toList -> P (.done (.ret .none)) s') :
   wpAny (model X.prog X.w) A (ksk_rest a (.ref f) false us.toArray e1 (.ref kS)) P E s := by
 unfold ksk_rest
 refine afz (wpAny_rule ?_)
 first
   | rw [List.forIn_toArray]
   | (rw [← Array.forIn_toList]; simp only [List.toList_toArray])
   | rw [← Array.forIn_toList]
 refine afz (ksk_fold (fun i s' => ∃ H' kA e, L2.Inv X pins σ H' s' /\ J H' /\ H' kS = none /\ H' a = none /\ s'.heap.get? kS = some (seqObj "list" kA e) /\ s'.heap.get? a = some (seqObj "list" #[] e1) /\ IntsAre kA.toList (kz.take i)) us 0 s
   ⟨H, #[], 0, I, j0, fk.1, fa.1, ok, oa, by simpa using IntsAre.nil⟩ ?step ?done)
 case step =>
   rintro j u s' hx ⟨H', kA, e, I', jj, nk, na, XG, ZT, hk⟩
   simp only [Nat.zero_add] at hk ⊢
   have hj : j < us.length := (afC.mp hx).1
   obtain ⟨k, hkj⟩ : ∃ k, kz[j]? = some k := ⟨_, afn (by omega)⟩
   obtain ⟨x, hxx⟩ : ∃ x, xs[j]? = some x := ⟨_, afn (by rw [r.length]; exact hj)⟩
   have rx : RelV x u := by
     obtain ⟨u', e1, e2⟩ := r.get hxx
     rw [hx] at e1; cases e1; exact e2
   have hz : kA.size <= us.length := by
     have h1 := hk.length
     rw [agk, agU] at h1
     omega
   have Ip := I'.pinned (fp := [kS, a]) (fun b hb => by
     rcases afm.mp hb with rfl | hb
     . exact XE fk nk
     . rw [afG.mp hb]; exact XE fa na) (fun b hb => by
     rcases afm.mp hb with rfl | hb
     . exact ⟨_, XG, fun v z => by cases z⟩
     . rw [afG.mp hb]; exact ⟨_, ZT, fun v z => by cases z⟩)
   refine afz (wpAny_attempt (agn (turn j x k hxx hkj _ _ u H' Ip jj rx) (fun v V9 he => ?_) fun _ _ hF => hF.elim))
   obtain ⟨w, H2, I2, rw2, rfl, j2⟩ := he
   obtain ⟨t2, rfl⟩ := rw2
   try dsimp only
   have pk := I2.pin (kS, seqObj "list" kA e) (afh _ (afh _ (gn (by simp) XG)))
   have pa := I2.pin (a, seqObj "list" #[] e1) (afh _ (afh _ (gn (by simp) ZT)))
   have I3 := sW I2.lg (XE fk pk.2.1) (Obj.mapSeq (·.push (.int k t2)))
   have s1 := Heap.SameBut.update V9.heap kS (Obj.mapSeq (·.push (.int k t2)))
   obtain ⟨c2, Ul⟩ : ∃ c2, (V9.heap.update kS (Obj.mapSeq (·.push (.int k t2)))).get? kS = some (seqObj "list" (kA.push (.int k t2)) c2) := ⟨_, get?_update_seq pk.1 (·.push (.int k t2))⟩
   have ek : kz.take (j + 1) = kz.take j ++ [k] := by rw [agK, hkj]; simp
   have ea : (kA.push (Value.int k t2)).toList = kA.toList ++ [Value.int k t2] := by simp
   refine afz (listUpdate_at pk.1 rfl ?_ (by rw [afU]; omega) (afZ (Nat.le_of_eq (Array.size_push ..)) (by rw [afU]; omega)))
   exact af1 ⟨rfl, H2, kA.push (.int k t2), c2, I3, j2, pk.2.1, pa.2.1, Ul, (s1.2 a UG.symm).trans pa.1, by rw [ea, ek]; exact ksk_snoc hk⟩
 case done =>
   rintro s' ⟨H', kA, e, I', jj, nk, na, XG, ZT, hk⟩
   have hk' : IntsAre kA.toList kz := by
     have e3 : kz.take (0 + us.length) = kz := List.take_of_length_le (by omega)
     rw [e3] at hk
     exact hk
   try dsimp only
   refine afz (listItems_at XG rfl ?_)
   exact UH I' (XE fk nk) (XE fa na) UG XG ZT hk' hlen RW r fun s2 out c I2 o2 v2 => h s2 H' out c I2 jj na o2 v2
theorem Nx {n : Nat} (I : L2.Inv X pins σ H s) (fa : gX X pins H a) (oa : s.heap.get? a = some (seqObj "list" us.toArray n)) (j0 : J H)
   (hlen : kz.length = us.length) (RW : us.length < 64) (r : Vals xs us)
   (turn : ∀ (i : Nat) (x : V) (k : Int), xs[i]? = some x -> kz[i]? = some k -> ∀ (iE : List (Addr × Obj)) (s' : Shared) (u : Value) (H' : Hp), L2.Inv X iE σ H' s' -> J H' -> RelV x u →
     wpAny (model X.prog X.w) A (call (.ref f) [u]) (EP X iE σ fun v XF => v = .int k /\ J XF) (fun _ _ => False) s')
   (h : ∀ s' H' out c, L2.Inv X pins σ H' s' -> J H' -> H' a = none -> s'.heap.get? a = some (seqObj "list" out c) -> Vals (n6 kz xs) out.toList -> P (.done (.ret .none)) s') :
   wpAny (model X.prog X.w) A (ksk_tree a (.ref f) false) P E s := by
 have ha : a < s.heap.objs.size := afA oa
 obtain ⟨e1, ho1⟩ : ∃ e1, (s.heap.update a (Obj.mapSeq fun _ => (#[] : Array Value))).get? a = some (seqObj "list" #[] e1) := ⟨_, get?_update_seq oa fun _ => #[]⟩
 have I1 := sW I fa (Obj.mapSeq fun _ => (#[] : Array Value))
 have hkS : ((s.heap.update a (Obj.mapSeq fun _ => (#[] : Array Value))).push (seqObj "tuple" us.toArray 0)).objs.size = s.heap.objs.size + 1 := by rw [size_push', Heap.size_update]
 have I2 : L2.Inv X pins σ H { s with heap := ((s.heap.update a (Obj.mapSeq fun _ => (#[] : Array Value))).push (seqObj "tuple" us.toArray 0)).push (seqObj "list" #[] 0) } :=
   I1.kept (t' := s.toks) fun b o e => afv _ (afv _ e)
 unfold ksk_tree
 refine afz (listItems_at oa rfl ?_)
 refine afz (listUpdate_at oa rfl ?_ (by rw [afH, afU]; omega) (afP _))
 refine afz (seqEpoch_at ho1 rfl ?_)
 refine afz (wpAny_newTuple ?_ (by show us.length <= _; rw [afU]; omega))
 refine afz (wpAny_newList ?_ (afP _))
 refine ag7 ?_
 refine Nv (s := { s with heap := ((s.heap.update a (Obj.mapSeq fun _ => (#[] : Array Value))).push (seqObj "tuple" us.toArray 0)).push (seqObj "list" #[] 0) }) (kS := ((s.heap.update a (Obj.mapSeq fun _ => (#[] : Array Value))).push (seqObj "tuple" us.toArray 0)).objs.size)
   I2 (I.Ir (by rw [hkS]; exact agW _) (I.dO.fresh (by rw [hkS]; exact agW _))) fa (by rw [hkS]; exact Nat.ne_of_gt (Nat.lt_succ_of_lt ha)) (afL _ rfl) (afv _ (afv _ ho1)) j0 hlen RW r turn h
theorem GU {Q : VK} (I : L2.Inv X pins σ H s) (hq : nX X.K H l xs) (hlen : kz.length = xs.length) (RW : xs.length < 64) (j0 : J H)
   (turn : ∀ (i : Nat) (x : V) (k : Int), xs[i]? = some x -> kz[i]? = some k -> ∀ (iE : List (Addr × Obj)) (s' : Shared) (u : Value) (H' : Hp), L2.Inv X iE σ H' s' -> J H' -> RelV x u →
     wpAny (model X.prog X.w) X.A.in1.in1 (call (.ref f) [u]) (EP X iE σ fun v XF => v = .int k /\ J XF) (fun _ _ => False) s')
   (h : ∀ D H', J H' -> H' D = none -> Q (.ref D) (upd H' D (.lst (n6 kz xs)))) :
   wpAny (model X.prog X.w) X.A (call (.builtin "sorted") [.ref l] [(Str.ofString "key", .ref f)]) (EP X pins σ Q) E s := by
 obtain ⟨us, r, pl, hz⟩ := I.list hq
 have el := r.length
 have hl : s.heap.IsList l us.toArray := pl.isList
 refine call_function_entry_kw kind_sorted plain_sorted entry_sorted (ksk_s1 _ _) ?_
 unfold Builtin.«sorted»
 refine afz (m := checkCount "sorted" 1 1 _) (af1 ?_)
 refine afz (collect_list hl ?_ (by rw [afU]; omega))
 refine afz (wpAny_newList ?_ (by rw [afU]; omega))
 have Gh : ((s.heap.push (seqObj "list" #[] 0)).update s.heap.objs.size (Obj.mapSeq (· ++ us.toArray))).objs.size = s.heap.objs.size + 1 := by
   rw [Heap.size_update, size_push']
 have Zw : (((s.heap.push (seqObj "list" #[] 0)).update s.heap.objs.size (Obj.mapSeq (· ++ us.toArray))).push (seqObj "list" us.toArray 0)).get? (s.heap.objs.size + 1) = some (seqObj "list" us.toArray 0) := by
   rw [← Gh]; exact afL _ rfl
 have keep : ∀ b o, s.heap.get? b = some o -> (((s.heap.push (seqObj "list" #[] 0)).update s.heap.objs.size (Obj.mapSeq (· ++ us.toArray))).push (seqObj "list" us.toArray 0)).get? b = some o := fun b o q => by
   have oz : b < s.heap.objs.size := afA q
   rw [Heap.get?_push_ne _ _ _ (by rw [Gh]; exact afX (Nat.lt_succ_of_lt oz)), Heap.get?_update_ne _ _ _ _ (afX oz), Heap.get?_push_ne _ _ _ (afX oz)]
   exact q
 show wpAny _ _ _ _ _ { s with heap := ((s.heap.push (seqObj "list" #[] 0)).update s.heap.objs.size (Obj.mapSeq (· ++ us.toArray))).push (seqObj "list" us.toArray 0) }
 rw [Gh]
 have I2 : L2.Inv X pins σ H { s with heap := ((s.heap.push (seqObj "list" #[] 0)).update s.heap.objs.size (Obj.mapSeq (· ++ us.toArray))).push (seqObj "list" us.toArray 0) } := I.kept (t' := s.toks) keep
 have fa : ∀ {H' : Hp}, H' (s.heap.objs.size + 1) = none -> gX X pins H' (s.heap.objs.size + 1) := fun {H'} e => I.Ir (agW _) e
 refine afz (ag7 (wpAny_call_entry_kw slot_list_sort ⟨_, Zw, rfl⟩ entry_list_sort ?body (ksk_l1 _ _)))
 case body =>
   have XH := ksk_t1 f (s.heap.objs.size + 1)
   show wpAny (model X.prog X.w) X.A.in1.in1 (Builtin.«list.sort» ⟨[.ref (s.heap.objs.size + 1)], [(Str.ofString "key", .ref f)]⟩) _ _ _
   rw [XH]
   refine Nx I2 (fa (I.dO.fresh (agW _))) Zw j0 (by omega) (by omega) r turn fun s' H' out c I' jj na o' v' => ⟨_, rfl, ?_⟩
   refine af1 ⟨_, rfl, .ref (s.heap.objs.size + 1), _, GR I' (fa na) (o := .lst (n6 kz xs)) ⟨?_, out.toList, c, v', ?_⟩, rfl, h _ H' jj na⟩
   . have : (n6 kz xs).length = xs.length := by
       unfold n6
       rw [afj, fN, List.length_zip, hlen, Nat.min_self]
     rw [this]; exact hz
   . simpa using o'
end
section
variable {K : PySem.W.Frag} {CL : Str -> Addr} {Z : Hp} {g : D -> Int}
theorem GV {ds : List D} {us : List V} (h : aB K CL Z ds us) : Paired (fun (d : D) (p : Int × V) => g d = p.1 /\ bH K CL Z d p.2) ds ((ds.map g).zip us) :=
 aB.ind (P := fun ds us => Paired (fun (d : D) (p : Int × V) => g d = p.1 /\ bH K CL Z d p.2) ds ((ds.map g).zip us)) .nil (fun r _ i => .cons ⟨rfl, r⟩ i) h
theorem GW {ds : List D} {ps : List (Int × V)} (h : Paired (fun (d : D) (p : Int × V) => g d = p.1 /\ bH K CL Z d p.2) ds ps) : aB K CL Z ds (ps.map Prod.snd) := by
 induction h with
 | nil => exact .nil
 | cons r _ i => exact .cons r.2 i
theorem GX {ds : List D} {us : List V} (r : aB K CL Z ds us) : aB K CL Z (bB g ds) (n6 (ds.map g) us) := GW (pI (fun p q h => h.1) (GV (g := g) r))
end
noncomputable def XI (X : Cx) (CL : Str -> Addr) (q : Str) (scope : Scope) (Nc : List Str) (body : Expr) (δc : List (Option T)) (ds : List D) (g : D -> Int) : Prop :=
 ∀ f c s0 H0 b' d, d ∈ ds -> cG (sj X X.A.in1.in1 q scope Nc f c s0 H0) CL b' body (some (.sh d) :: δc) (.int (g d)) (some (.sh d) :: δc)
section
variable {X : Cx} {CL : Str -> Addr} {b : Bx} {δ δ1 : List (Option T)} {e body : Expr} {ds : List L3.D} {g : L3.D -> Int} {scope : Scope} {y q tx : Str} {Nc : List Str} {ix : List Nat} {params : Arguments} {pos pp lp p2 : Pos}
theorem oE (L : GP X CL tx q) (g0 : Gx X) (dp : X.A.depth < recursionLimit) (hm : X.mg "sorted" = none) (hg : Gl X "sorted") (sc : eZ X scope y Nc ix) (h : cG X CL b e δ (.lst ds) δ1) (hi : D.bT ds = true) (hl : ds.length < 64)
   (inner : XI X CL q scope Nc body (uz δ1 ix) ds g) (UD : defaultsOf params X.env = ([], []) := by rfl)
   (BQ : ∀ cl pm cd ct u, bindArgs (PySem.W.kla_fn "<lambda>" q params body scope cl pm cd ct) ⟨[u], []⟩ = pure [(y, u)] := by intros; rfl) (hco : scope.isCoroutine = false := by rfl) (UE : scope.isGenerator = false := by rfl)
   (hs : starEach [e] X.env = (false, eval e X.env) :: starEach [] X.env := by exact bM rfl) :
   b9 X CL b (.Call (.Name "sorted" pp) [e] [⟨some "key", .Lambda params body scope lp, p2⟩] pos) δ (.lst ((bB g ds).map T.sh)) δ1 := by
 intro H Z σ ts vs Q S k pins s I
 have ha : PA X [e] (EZ (Bj X e) IC) := cg d9 eH hs
 have hk : PK X [⟨some "key", .Lambda params body scope lp, p2⟩] (EZ (Bj X (.Lambda params body scope lp)) IC) := MH d9 Te
 refine agB (qI I hg hm pG ?_)
 refine callWith_kw (eG (ha pos pins s σ H (fun vs' H1 => ∃ v Z1, vs' = [v] /\ aC Z Z1 /\ aC H H1 /\ bW X.K CL b H1 Z1 δ1 σ ts vs /\ bH X.K CL H1 (.lst ds) v) I (h H Z σ ts vs _ S fun v H1 Z1 z1 k1 S1 r => ⟨v, Z1, rfl, z1, k1, S1, r⟩)) fun us s1 zz => ?_) (by rw [hs]; rfl) (by rw [hs]; rfl) rfl rfl
 obtain ⟨vs1, H1, I1, r1, v1, Z1, e1, z1, k1, S1, rep1⟩ := zz
 subst e1
 have abr : H1 (CL tx) = some (.tabs q) := by
   have := S1.Gv tx L.tab.1 L.tab.2.1
   rw [L.tab.2.2] at this
   exact this
 refine eG (hk pos pins s1 σ H1 (fun zs H2 => ∃ f c, zs = [.ref f] /\ aC H1 H2 /\ H2 f = some (.ext (Jz f q params body scope (cy X.env scope.names []) c)) /\ H2 c = some (.F6 q)) I1
   (fun iE s' I' => UC L I' abr (fun y hy e => I'.ok.has y.1 (sc.frees y hy e).2) UD fun f c H2 s2 I2 k2 hf hc _ => ⟨.ref f, H2, I2, rfl, f, c, rfl, k2, hf, hc⟩)) fun ws s2 zz => ?_
 obtain ⟨zs, H2, I2, rz, f, c, e2, k2, hf, hc⟩ := zz
 subst e2
 obtain ⟨u, rfl, ru⟩ := rz.one
 cases ru
 obtain ⟨v, rfl, rv⟩ := r1.one
 cases rep1 with
 | @lst p us' _ hq rr =>
   cases rv
   show wpAny _ _ (call (.builtin "sorted") [.ref p] [(Str.ofString "key", .ref f)]) _ _ s2
   have hlen := rr.length
   refine GU (J := fun H3 => ∃ Z3, aC H2 H3 /\ aC H2 Z3 /\ aC Z3 H3 /\ ∀ a o, H3 a = some o -> gR o = true -> Z3 a = some o) (kz := ds.map g) I2 (k2.seq hq) (by rw [afj, hlen]) (by omega)
     ⟨H2, .refl _, .refl _, .refl _, fun _ _ q _ => q⟩ (fun i x kk hx hkk iE s' u H3 I3 zz rx => ?_) fun D H3 zz hD => ?_
   . obtain ⟨Z3, a1, a2, a3, a4⟩ := zz
     obtain ⟨d, hd, rd⟩ := rr.Gs hx
     have ek : kk = g d := by
       rw [afV, hd] at hkk
       exact (afF hkk).symm
     subst ek
     refine JA sc I3 I3.ok.frames (I3.ok.hd g0.calm) dp (a1 _ _ hf) (a1 _ _ hc) rx BQ hco UE ?_
     have S0 : bW X.K CL ⟨H3, Z3⟩ H3 Z3 (some (.sh d) :: uz δ1 ix) (qP σ ix (some x)) [] [] :=
       ⟨⟨[] ++ [], [], .cons (.sh (rd.mono (k2.trans a2))) ((oZ S1 ix H3).mono (k2.trans a2) fun a ha => by cases ha), .nil, ags, fun a ha => by cases ha⟩, .refl _, .refl _, a3, fun a o q z => (by have z' : Z3 a = none := z; rw [show Z3 a = some o from q] at z'; cases z'), a4, S1.Gv.mono (k2.trans a2)⟩
     refine inner f c s' H3 ⟨H3, Z3⟩ d (af7 hd) H3 Z3 _ [] [] _ S0 fun v H5 Z5 z5 k5 S5 r5 => ⟨?_, Z5, a1.trans k5, a2.trans z5, S5.zh, S5.tp⟩
     cases r5
     rfl
   . obtain ⟨Z3, a1, a2, a3, a4⟩ := zz
     obtain ⟨Z', z', S4⟩ := S1.back (t := .sh (.int 0)) (v := .int 0) (fp := []) (k2.trans a1) S1.zh (k2.trans a2) a3 (fun a o q z => z) a4 (.sh (.int 0)) ags (fun a ha => by cases ha) (.inr rfl)
     obtain ⟨c5, S5⟩ := (bW.oY (GX (g := g) ((aB.jz S1.tp hi rr).mono z')) S4.pop).lz (g0 := []) (by simp [n6, fN, hlen]) hD
     exact k _ _ _ (z1.trans z') ((k1.trans (k2.trans a1)).trans c5) S5
variable {A : Around} {f c : Addr} {s : Shared} {H : Hp} {i : Nat} {x : Str}
theorem yc (h1 : Nc[i]? = some x) (h2 : scope.names.lookup x = some .local) (hd : (x == ("__debug__" : Str)) = false := by decide) (gW : (x == ("__classdict__" : Str)) = false := by decide) : Vn (sj X A q scope Nc f c s H) i x := ⟨h1, .inl h2, hd, gW⟩
theorem DY (h1 : Nc[i]? = some x) (h2 : scope.names.lookup x = some .free) (hd : (x == ("__debug__" : Str)) = false := by decide) (gW : (x == ("__classdict__" : Str)) = false := by decide) : Vn (sj X A q scope Nc f c s H) i x := ⟨h1, .inr (.inr h2), hd, gW⟩
theorem yd (h2 : scope.names.lookup x = some .globalImplicit) : Gl (sj X A q scope Nc f c s H) x := h2
theorem DZ {k n : Nat} {B : Type} {arg : B -> List L3.D} {Pre : B -> Prop} {res : B -> T} (F : Fc X CL x k n arg Pre res) (r : d8 (k + 1) X.A) : Fc (sj X X.A.in1.in1 q scope Nc f c s H) CL x k n arg Pre res :=
 ⟨F.ex, ⟨r.hd, by have := r.dp; show X.A.depth + 1 + 3 * k + 5 < _; omega, by have := r.un; show X.A.units + 1 + 1 + 3 + 16 * k + 200 < _; omega⟩⟩
end
theorem Ny {P : Program} {w : World} {K : PySem.W.Frag} {mg : Str -> Option Value} {base : Heap} {x qual : Str} {st : Stmt} {f : Addr} {fd : FuncData} {N ps : List Str} {k : Nat} {sp : Sp} (F : iT K x qual st f fd) (S : aL N ps (ao st)) (len : ∀ vs H Q E, sp vs H Q E -> vs.length = ps.length)
   (Bd : ∀ (c9 : Value) (A : Around) (outer : List Env) (s : Shared) (H : Hp) (vs : List V) (Q : VK) (E : XK), fd.code = c9 -> d8 k (A.deeper (envOfC qual (ao st) s.heap.objs.size f c9)) -> sp vs H Q E →
     ∃ t, Du (uq fP P w K mg base N qual (ao st) f c9 A outer s H E).Ml (fE st) t /\ t { nx := fun _ H' => Q .non H', rt := Q } (L2.start N vs) H) : bP P w K mg base fP (k + 1) f fd ps sp := by
 obtain ⟨oc, od, kV, doc, pm, an, c9, ct, HY, rfl, lk, gW⟩ := F.ex
 refine Ru lk gW S len fun A outer s H vs Q E hr DG => ?_
 obtain ⟨t, h, q⟩ := Bd c9 A outer s H vs Q E rfl hr DG
 exact ⟨t, h.Ml, q⟩
theorem uG {P : Program} {w : World} {K : PySem.W.Frag} {mg : Str -> Option Value} {base : Heap} {CL : Str -> Addr} {x qual : Str} {st : Stmt} {f : Addr} {fd : FuncData} {N ps : List Str} {k : Nat} {A : Type} {arg : A -> List D} {Pre : A -> Prop} {res : A -> T} (F : iT K x qual st f fd) (S : aL N ps (ao st))
   (hb : ∀ (c9 : Value) (Ar : Around) (outer : List Env) (s : Shared) (H : Hp) (E : XK) (b : Bx) (a : A), fd.code = c9 -> d8 k (Ar.deeper (envOfC qual (ao st) s.heap.objs.size f c9)) -> Pre a →
     fF (uq fP P w K mg base N qual (ao st) f c9 Ar outer s H E).Ml CL b (fE st) (entry N (arg a)) { nx := fun _ => res a = .sh .non, rt := fun t _ => t = res a }) :
   bP P w K mg base fP (k + 1) f fd ps (jA K CL ps.length arg Pre res) := by
 refine Ny F S (fun vs H Q E h => ?_) (fun c9 Ar outer s H vs Q E gW hr h => ?_)
 . obtain ⟨W, a, _, _, r, hl, _⟩ := h
   rw [← r.length]; exact hl
 . obtain ⟨W, a, wh, tp, r, hl, hp, tb, kk⟩ := h
   refine ⟨_, MT, hb c9 Ar outer s H E ⟨H, W⟩ a gW hr hp H W _ [] [] _ ⟨⟨[], [], ?_, .nil, ags, fun a ha => by cases ha⟩, .refl _, .refl _, wh, fun a o q z => ?_, tp, tb⟩ ⟨fun δ' σ' H' Z' s' S' e => ?_, fun t v H' Z' δ' σ' s' S' e => ?_, fun _ _ _ _ _ _ e => e.elim, fun _ _ _ _ _ _ e => e.elim⟩⟩
   . unfold entry L2.start
     rw [← r.length]
     exact iG _ r
   . have q' : W a = some o := q
     have z' : W a = none := z
     rw [q'] at z'; cases z'
   . exact kk .non H' Z' [] S'.bh S'.zz S'.zh S'.new S'.tp (by rw [show res a = .sh .non from e]; exact .sh .non) ags fun a ha => by cases ha
   . have e' : t = res a := e
     subst e'
     obtain ⟨fp, gp, _, r', nd, own⟩ := S'.rep
     cases r' with
     | @cons _ _ _ _ f1 f2 r1 r2 =>
       have h1 := (afY.mp nd).2.1
       exact kk v H' Z' f1 S'.bh S'.zz S'.zh S'.new S'.tp r1 (afY.mp h1).1 fun a ha => own a (afh _ (afy _ ha))
noncomputable def uH (mg : Str -> Option Value) (base : Heap) : Prop := ∃ bm o, mg "__builtins__" = some (.ref bm) /\ bm ≠ builtinsNs /\ bm ≠ mainGlobals /\ base.get? bm = some o /\ o.cls = .type "module" /\ o.dict = some builtinsNs /\ o.data = .plain
theorem UI {CX : IE} {P : Program} {w : World} {K : PySem.W.Frag} {mg : Str -> Option Value} {base : Heap} {N : List Str} {qual : Str} {scope : Scope} {f c : Addr} {c9 : Value} {A : Around} {outer : List Env} {s : Shared} {H : Hp} {E : XK} {CL : Str -> Addr} {tx q : Str} {fd : FuncData}
   (bl : uH mg base) (kb : K.In base) (hc : fd.code = c9) (hf : fd.code = .ref c) (hd : PySem.W.codeHdIn K c (CL tx) = true) (h0 : CL tx ≠ 0) (hq : Bl tx = q := by decide +kernel) (ht : Bk tx = true := by decide +kernel) (hn : qual ++ ".<locals>." ++ "<lambda>" = q := by decide +kernel) :
   GP (uq CX P w K mg base N qual scope f c9 A outer s H E).Ml CL tx q :=
 ⟨⟨c, hc.symm.trans hf, agX kb hd⟩, bl, hn, ht, h0, hq⟩
noncomputable def spT (K : PySem.W.Frag) (ts : List (Addr × Str)) {A : Type} (n : Nat) (arg : A -> List D) (Pre : A -> Prop) (res : A -> T) : Sp := fun vs H Q _ =>
 ∃ (W : Hp) (a : A), aC W H /\ (∀ c o, H c = some o -> gR o = true -> W c = some o) /\ aB K (fun _ => 0) W (arg a) vs /\ (arg a).length = n /\ Pre a /\ (∀ p ∈ ts, W p.1 = some (.tabs p.2)) ∧
   ∀ v H' W' fp, aC H H' -> aC W W' -> aC W' H' -> (∀ c o, W' c = some o -> W c = none -> H c = none) -> (∀ c o, H' c = some o -> gR o = true -> W' c = some o) →
     cR K (fun _ => 0) H' W' (res a) v fp -> fp.Nodup -> (∀ c ∈ fp, W' c = none /\ H c = none) -> Q v H'
theorem Nz {K : PySem.W.Frag} {CL : Str -> Addr} {ts : List (Addr × Str)} {arg : List Int -> List D} {pre : List Int -> Prop} {res : List Int -> T} (ha : ∀ a, arg a = [.lst (a.map .int)]) (hr : ∀ a, res a = .sh (.bl true)) (h0 : ∀ x, Bk x = true -> CL x ≠ 0 -> (CL x, Bl x) ∈ ts) :
   ∀ (vs : List V) (H : Hp) (Q : VK) (E : XK), spT K ts 1 arg pre res vs H Q E -> jA K CL 1 arg pre res vs H Q E := by
 rintro vs H Q E ⟨W, a, h1, h2, h3, h4, h5, h6, k⟩
 have UJ : ∀ {l : List Int} {us : List V}, aB K (fun _ => 0) W (l.map .int) us -> aB K CL W (l.map .int) us := by
   intro l
   induction l with
   | nil => intro us r; cases r; exact .nil
   | cons i l ih =>
     intro us r
     cases r with
     | cons r t => cases r; exact .cons (.int i) (ih t)
 refine ⟨W, a, h1, h2, ?_, h4, h5, fun x hx e => h6 _ (h0 x hx e), fun v H' W' fp a1 a2 a3 a4 a5 r nd own => k v H' W' fp a1 a2 a3 a4 a5 ?_ nd own⟩
 . rw [ha] at h3 ⊢
   cases h3 with
   | cons r t =>
     cases t
     cases r with
     | lst q rr => exact .cons (.lst q (UJ rr)) .nil
 . rw [hr] at r ⊢
   cases r with
   | sh r => cases r; exact .sh (.bl _)
theorem NB {K : PySem.W.Frag} {H : Hp} {a : Addr} {ts : List (Addr × Str)} {arg : List Int -> List D} {pre : List Int -> Prop} {res : List Int -> T} {ns : List Int} (ha : arg ns = [.lst (ns.map D.int)]) (hp : pre ns) (hr : res ns = .sh (.bl true)) (hS : nX K H a (ns.map V.int)) (ht : ∀ p ∈ ts, H p.1 = some (.tabs p.2)) :
   spT K ts 1 arg pre res [.ref a] H (fun v H' => v = .bl true /\ ∀ p ∈ ts, H' p.1 = some (.tabs p.2)) fun _ _ _ => False :=
 ⟨H, ns, .refl _, fun _ _ q _ => q, by rw [ha]; exact .cons (.lst hS (Bt ns)) .nil, by rw [ha]; rfl, hp, ht, fun v H' W' fp hh _ _ _ _ r _ _ => by
   refine ⟨?_, fun p hp => hh _ _ (ht p hp)⟩
   rw [hr] at r
   cases r with
   | sh r => exact r.sc rfl⟩
theorem jD : ∀ {ts : List (Addr × Str)} {b : Addr} {q : Str}, ts.lookup b = some q -> (b, q) ∈ ts
 | [], _, _, e => by cases e
 | (c, x) :: r, b, q, e => by
   rw [afN] at e
   cases hb : b == c with
   | true => rw [hb] at e; cases e; rw [eq_of_beq hb]; exact .head _
   | false => rw [hb] at e; exact .tail _ (jD e)
theorem GY {P : Program} {w : World} {K : PySem.W.Frag} {mg mb : Str -> Option Value} {k : Nat} {fa a : Addr} {fd : FuncData} {x : Str} {sp : Sp} {s₁ : Shared} {vs : List Value} {ns : List Int} {ts : List (Addr × Str)}
   (KX : K.In s₁.heap) (ZS : s₁.heap.Ns mainGlobals mg) (hb : s₁.heap.Ns builtinsNs mb) (hbb : ∀ x : Str, x ≠ "__name__" -> mb x = bootBuiltins x) (abt : s₁.heap.NoLimit) (hg : s₁.gens = #[]) (ZU : uH mg s₁.heap)
   (ha : s₁.heap.get? a = some { cls := .type "list", data := .seq vs.toArray }) (hi : IntsAre vs ns) (hl : ns.length <= sizeLine) (hr : d8 k callerA)
   (hT : ∀ p ∈ ts, s₁.heap.get? p.1 = some (PySem.W.tabObj #[]) /\ ts.lookup p.1 = some p.2 /\ K.lookup p.1 = none /\ ∃ c, PySem.W.CodeHd s₁.heap c p.1)
   (F : ∀ base : Heap, K.In base -> base.Ns mainGlobals mg -> uH mg base -> bP P w K mg base fP k fa fd [x] sp) (BQ : ∀ (s : Shared) (u : Value), BindsTo s fd ⟨[u], []⟩ [(x, u)])
   (DG : ∀ H : Hp, nX K H a (ns.map V.int) -> (∀ p ∈ ts, H p.1 = some (.tabs p.2)) -> sp [.ref a] H (fun v H' => v = .bl true /\ ∀ p ∈ ts, H' p.1 = some (.tabs p.2)) fun _ _ _ => False) :
   codeAny (model P w) callerA (.call (.ref fa) ⟨[.ref a], []⟩) (fun r s' => r = .ok (.ret (.bool true)) /\ OldK s₁.heap s'.heap /\ s'.os = s₁.os /\ AllBare s'.gens) s₁ := by
 have rv := wV hi
 have abu := hi.length
 have aT : ∀ p ∈ ts, p.1 ≠ a := fun p hp z => by
   have := (hT p hp).1
   rw [z, ha] at this; cases this
 have core : ∀ H : Hp, (∀ b, H b = none \/ (∃ o xs, b = a /\ H b = some (.dY o (.lst xs))) \/ ∃ p ∈ ts, b = p.1 /\ H b = some (.tabs p.2)) -> nX K H a (ns.map V.int) -> (∀ p ∈ ts, H p.1 = some (.tabs p.2)) -> sF P w H s₁.heap -> (H a ≠ none -> K.lookup a = none) →
     codeAny (model P w) callerA (.call (.ref fa) ⟨[.ref a], []⟩) (fun r s' => r = .ok (.ret (.bool true)) /\ OldK s₁.heap s'.heap /\ s'.os = s₁.os /\ AllBare s'.gens) s₁ := by
   intro H hO hS hH dO hK
   have Wa : ∀ {b : Addr} {o : Obj}, s₁.heap.get? b = some o -> o ≠ { cls := .type "list", data := .seq vs.toArray } -> o ≠ PySem.W.tabObj #[] -> H b = none := fun {b o} e d1 d2 => by
     rcases hO b with q | ⟨_, _, z, _⟩ | ⟨p, hp, z, _⟩
     . exact q
     . rw [z, ha] at e; exact absurd (afF e).symm d1
     . rw [z, (hT p hp).1] at e; exact absurd (afF e).symm d2
   have ye : ∀ {b : Addr} {o : Obj}, s₁.heap.get? b = some o -> H b = none -> (wg s₁.heap H).get? b = some o := fun e n => Ii e n
   have ZV : ∀ {b : Addr} {m : Str -> Option Value}, s₁.heap.Ns b m -> (wg s₁.heap H).Ns b m := fun {b m} ⟨o, es, ep, e, d, r⟩ => ⟨o, es, ep, ye e (Wa e (fun z => by rw [z] at d; cases d) fun z => by rw [z] at d; cases d), d, r⟩
   have hKb : K.In (wg s₁.heap H) := fun b o e => ye (KX b o e) (by
     rcases hO b with q | ⟨_, _, z, q⟩ | ⟨p, hp, z, _⟩
     . exact q
     . subst z
       rw [hK (by rw [q]; simp)] at e; cases e
     . rw [z, (hT p hp).2.2.1] at e; cases e)
   have hM : Mod K mg (wg s₁.heap H) := ⟨hKb, ZV ZS, ⟨mb, ZV hb, hbb⟩, let ⟨mc, h1, h2⟩ := abt; ⟨mc, ZV h1, h2⟩⟩
   have hBb : uH mg (wg s₁.heap H) := by
     obtain ⟨bm, o, b1, b2, b3, b4, b5, b6, b7⟩ := ZU
     exact ⟨bm, o, b1, b2, b3, ye b4 (Wa b4 (fun z => by rw [z] at b7; cases b7) fun z => by rw [z] at b7; cases b7), b5, b6, b7⟩
   have e0 : DF P w K mg (wg s₁.heap H) callerA [] s₁ H := ⟨rfl, hM, fun b o e => Ms e, Nat.le_of_eq (F7 _ _), trivial, fun b hb => absurd (show b ∈ ([] : List Addr) from hb) (by simp), dO, .of_eq hg⟩
   refine codeAny_mono ((F _ hKb (ZV ZS) hBb).run callerA [] s₁ H ⟨[.ref a], []⟩ [.ref a] [.ref a] _ _ hr e0 (BQ s₁ (.ref a)) (.cons rfl .nil) (DG H hS hH)) fun r s' h => ?_
   cases r with
   | error e => exact h.elim
   | ok fl =>
     cases fl with
     | next => exact False.elim h
     | brk => exact False.elim h
     | cont => exact False.elim h
     | ret u =>
       obtain ⟨v, H', os, bare, un, XJ, r', q, qt⟩ := h
       subst q
       obtain rfl : u = Value.bool true := r'
       have tabAt : ∀ p ∈ ts, ∃ ps : Array Value, s'.heap.get? p.1 = some (PySem.W.tabObj ps) := fun p hp => by
         obtain ⟨ps, e, _⟩ := XJ _ _ (qt p hp)
         exact ⟨ps, e⟩
       have keep : ∀ b o, s₁.heap.get? b = some o -> (∀ p ∈ ts, b ≠ p.1) -> s'.heap.get? b = some o := fun b o e nt => by
         rcases hO b with q | ⟨ob, xs, z, q⟩ | ⟨p, hp, z, _⟩
         . exact un.keep b o e q (by intro z; exact absurd (show b ∈ ([] : List Addr) from z) (by simp)) (by simp)
         . have z2 := un.gQ b ob _ q
           obtain ⟨e1, _⟩ := dO b _ q
           obtain ⟨e2, _⟩ := XJ b _ z2
           rw [e] at e1; cases e1
           exact e2
         . exact absurd z (nt p hp)
       refine ⟨rfl, ⟨fun b o e => ?_, fun b o e => ?_⟩, os, bare⟩
       . by_cases nt : ∀ p ∈ ts, b ≠ p.1
         . exact .inl (keep b o e nt)
         . obtain ⟨p, hp, rfl⟩ : ∃ p ∈ ts, b = p.1 := Classical.byContradiction fun q => nt fun p hp z => q ⟨p, hp, z⟩
           obtain ⟨h1, _, _, c, hc⟩ := hT p hp
           obtain ⟨ps, e2⟩ := tabAt p hp
           rw [h1] at e; cases e
           exact .inr (.inl ⟨(hc.tab h1).isCodeTable, rfl, #[], ps, rfl, by rw [Array.empty_append]; exact e2⟩)
       . by_cases nt : ∀ p ∈ ts, b ≠ p.1
         . exact ⟨o, keep b o e nt⟩
         . obtain ⟨p, hp, rfl⟩ : ∃ p ∈ ts, b = p.1 := Classical.byContradiction fun q => nt fun p hp z => q ⟨p, hp, z⟩
           obtain ⟨ps, e2⟩ := tabAt p hp
           exact ⟨_, e2⟩
 have tok : ∀ {H : Hp} {b : Addr} {q : Str}, ts.lookup b = some q -> gk P w H s₁.heap b (.tabs q) := fun {H b q} e => by
   obtain ⟨h1, _⟩ := hT (b, q) (jD e)
   exact ⟨#[], h1, trivial, fun pos cv z => by simp [codeAmong] at z⟩
 cases hk : K.lookup a with
 | some o =>
   have e := KX a o hk
   rw [ha] at e
   cases e
   refine core (fun b => (ts.lookup b).map HO.tabs) (fun b => ?_) (.inr ⟨_, vs.toArray, _, hk, rfl, rfl, rfl, by rw [List.size_toArray, abu]; exact hl, by simpa using rv⟩) (fun p hp => ?_) (fun b u z => ?_) fun z => ?_
   . cases q : List.lookup b ts with
     | none => left; rfl
     | some t => right; right; exact ⟨(b, t), jD q, rfl, rfl⟩
   . show (ts.lookup p.1).map HO.tabs = _
     rw [(hT p hp).2.1]; rfl
   . have z' : (ts.lookup b).map HO.tabs = some u := z
     cases q : List.lookup b ts with
     | none => rw [q] at z'; cases z'
     | some t => rw [q] at z'; cases z'; exact tok q
   . exfalso
     apply z
     show (ts.lookup a).map HO.tabs = none
     cases q : ts.lookup a with
     | none => rfl
     | some t => exact absurd rfl (aT (a, t) (jD q))
 | none =>
   refine core (fun b => if b = a then some (.dY { cls := .type "list", data := .seq vs.toArray } (.lst (ns.map V.int))) else (ts.lookup b).map HO.tabs) (fun b => ?_) (.inl (.inr ⟨{ cls := .type "list", data := .seq vs.toArray }, afk rfl⟩)) (fun p hp => ?_) (fun b u z => ?_) fun _ => hk
   . by_cases hb : b = a
     . exact .inr (.inl ⟨_, _, hb, afk hb⟩)
     . cases q : List.lookup b ts with
       | none => left; rw [afi hb]; rfl
       | some t => right; right; exact ⟨(b, t), jD q, rfl, by rw [afi hb]; rfl⟩
   . show (if p.1 = a then _ else (ts.lookup p.1).map HO.tabs) = _
     rw [afi (aT p hp), (hT p hp).2.1]; rfl
   . by_cases hb : b = a
     . have z' := (afk hb).symm.trans z
       cases z'
       subst hb
       exact ⟨ha, by rw [afj]; exact hl, vs, _, rv, ha⟩
     . have z' : (ts.lookup b).map HO.tabs = some u := (afi hb).symm.trans z
       cases q : List.lookup b ts with
       | none => rw [q] at z'; cases z'
       | some t => rw [q] at z'; cases z'; exact tok q
theorem JC {l : PySem.W.OpenLaw} {n k : Nat} {q : Program} {loose : List Str} {XP : (Str -> Option Value) -> Heap -> Prop} {YP : World -> Heap -> Prop} {d : DefRec} {K : Params -> PySem.W.Frag} {sp : World -> List (Addr × Str) -> Sp} {x : Str} {T0 : List Addr}
   (hn : l.most = some n) (ZE : n <= sizeLine) (Xd : d.params.defaults = []) (hr : d8 k callerA)
   (hY : ∀ (w : World) (h : Heap), YP w h -> (K w.params).In h) (hT : ∀ (w : World) (h : Heap), YP w h -> ∀ P ∈ T0, h.get? P = some (PySem.W.tabObj #[]))
   (F : ∀ (w : World) (mg : Str -> Option Value) (fa : Addr) (h : Heap), (K w.params).In h -> h.Ns mainGlobals mg -> mg d.name = some (.ref fa) →
     ∃ (fd : FuncData) (ts : List (Addr × Str)), (∀ p ∈ ts, p.1 ∈ T0 /\ ts.lookup p.1 = some p.2 /\ (K w.params).lookup p.1 = none /\ ∃ c, PySem.W.CodeHd h c p.1) /\ (∀ (s : Shared) (u : Value), BindsTo s fd ⟨[u], []⟩ [(x, u)]) ∧
       ∀ base : Heap, (K w.params).In base -> base.Ns mainGlobals mg -> uH mg base -> bP l.prog w (K w.params) mg base fP k fa fd [x] (sp w ts))
   (DG : ∀ (w : World) (ts : List (Addr × Str)) (H : Hp) (a : Addr) (ns : List Int), ns.length <= n -> nX (K w.params) H a (ns.map V.int) -> (∀ p ∈ ts, H p.1 = some (.tabs p.2)) -> sp w ts [.ref a] H (fun v H' => v = .bl true /\ ∀ p ∈ ts, H' p.1 = some (.tabs p.2)) fun _ _ _ => False) :
   PySem.W.WalkO q loose XP YP l.row.toRowW d [] (fun f vs => PySem.call f vs) := by
 refine Att.Bh hn Xd fun w s₀ s₁ mg mb fa o pm cd doc a vs ns G Y ho hd gW Xe Tv hints hlen hg => ?_
 have KX := hY w _ Y
 obtain ⟨fd, ts, hts, hb, hF⟩ := F w mg fa _ KX G.T.g Xe
 obtain ⟨bm, ob, b1, b2, b3, b4, b5, b6⟩ := G.T.bmain
 have hbG : bm ≠ mainGlobals := fun q => by
   obtain ⟨o, es, ep, e, hd, _⟩ := G.T.g
   rw [q, e] at b3; cases b3; rw [hd] at b6; cases b6
 exact GY KX G.T.g G.T.b G.T.builtins G.T.nolimit hg ⟨bm, ob, b1, b2, hbG, b3, b4, b5, b6⟩ Tv hints (afZ hlen ZE) hr (fun p hp => ⟨hT w _ Y _ (hts p hp).1, (hts p hp).2⟩) hF hb fun H hS ht => DG w ts H a ns hlen hS ht
noncomputable def abv (y : Int) : Value -> Bool
 | .int i _ => i == y
 | _ => false
section
variable {X : Cx}
theorem JD : MtR X "list.index" (fun x xs H Q => ∃ (p : Addr) (l : List Int) (y : Int) (j : Nat), x = .ref p /\ xs = [.int y] /\ nX X.K H p (l.map .int) /\ l[j]? = some y /\ (∀ i, i < j -> l[i]? ≠ some y) /\ Q (.int (j : Int)) H) := by
 intro pins s σ H x xs v us Q I rx rs h
 obtain ⟨p, l, y, j, rfl, rfl, hq, hj, hno, q⟩ := h
 cases rx
 obtain ⟨u, rfl, ru⟩ := rs.one
 obtain ⟨t, rfl⟩ := ru
 obtain ⟨its, r, ⟨⟨oc, od, oda, HY⟩, n, e, hc, hd, hs⟩, hz⟩ := I.list hq
 dsimp only at hc hd hs
 subst hc hd hs
 have hi := intsAre_of r
 have at' : ∀ {i : Nat} (hi : i < its.toArray.size), ∃ k t, its.toArray[i] = .int k t /\ l[i]? = some k := fun {i} oz => by
   have abx : i < its.length := by simpa using oz
   have hl : i < l.length := by have := r.length; rw [afj] at this; omega
   obtain ⟨u, e1, e2⟩ := r.get (i := i) (x := .int l[i]) (by rw [afV, afn hl]; rfl)
   obtain ⟨t, rfl⟩ := e2
   refine ⟨l[i], t, ?_, afn hl⟩
   rw [afn abx] at e1
   simpa using Option.some.inj e1
 have sX : j < its.toArray.size := by
   have h1 := (afC.mp hj).1
   have := r.length
   rw [afj] at this
   simp; omega
 have Gh : its.toArray.size <= sizeLine := by
   have := r.length
   rw [afH, ← this]; exact hz
 refine call_meets F.slot_list_index ⟨_, e, rfl⟩ F.entry_list_index (F.args_list_index_2 _ _) (SeqAt.list_indexAt p its.toArray n none HY (.int y t) (abv y) j sX (by rw [afU] at Gh; omega) ?hit fun m hm hmj => ?no) ⟨e, fun w hw => ?eqs, ?_⟩
 case hit =>
   obtain ⟨k, t', e1, e2⟩ := at' sX
   rw [e1]
   rw [hj] at e2
   cases e2
   exact agp y
 case no =>
   obtain ⟨k, t', e1, e2⟩ := at' hm
   rw [e1]
   exact agM.mpr fun z => hno m hmj (by rw [e2, z])
 case eqs =>
   obtain ⟨i, oz, rfl⟩ := Array.mem_iff_getElem.mp hw
   obtain ⟨k, t', e1, e2⟩ := at' oz
   rw [e1]
   exact SeqAt.EqAt.int_int k t' y t
 exact ⟨.int (j : Int), H, I.tok _, ⟨_, rfl⟩, q⟩
end
section
variable {X : Cx} {CL : Str -> Addr} {b : Bx} {δ δ1 δ2 : List (Option T)} {o e : Expr} {apos pos : Pos}
theorem BV {l : List Int} {y : Int} {j : Nat} (h1 : cG X CL b o δ (.lst (l.map .int)) δ1) (h2 : cG X CL b e δ1 (.int y) δ2) (hj : l[j]? = some y) (hno : ∀ i, i < j -> l[i]? ≠ some y)
   (uv : attributeBase o "index" X.env (eval o X.env) = eval o X.env := by rfl) (DJ : ((backTo pos (starEach [e] X.env)).all (fun x => !x.1) && (backToKw pos (keywordEach [] X.env)).all (fun x => x.1.isSome)
     && decide (([e] : List Expr).length + ([] : List Keyword).length + (if ([] : List Keyword).isEmpty then 0 else 1) < 30)) = true := by rfl)
   (hline : (apos.endLine == pos.line) = true := by rfl) (hs : starEach [e] X.env = (false, eval e X.env) :: starEach [] X.env := by exact bM rfl) (DK : (backTo pos (starEach [] X.env)).any (·.1) = false := by rfl) :
   b9 X CL b (.Call (.Attribute o "index" apos) [e] [] pos) δ (.sh (.int (j : Int))) δ2 := fun H Z σ ts vs Q S k =>
 cS (Rx (T := "list") (id := "list.index") F.plainAttrs_list F.slot_list_index F.type_list_index JD d9 (cg d9 eH hs) uv DJ hline hs DK) (h1 H Z σ ts vs _ S fun v1 H1 Z1 z1 k1 S1 r1 => by
   cases r1 with
   | @lst a us _ hq rr =>
     have := xg rr
     subst this
     refine ⟨?_, h2 H1 Z1 σ ts vs _ S1 fun v2 H2 Z2 z2 k2 S2 r2 => ?_⟩
     . exact .inl ⟨rfl, _, hq⟩
     . cases r2
       exact ⟨a, l, y, j, rfl, rfl, k2.seq hq, hj, hno, k _ H2 Z2 (z1.trans z2) (k1.trans k2) (S2.push (.int _))⟩)
end
section
variable {X : Cx} {CL : Str -> Addr} {b : Bx} {δ : List (Option T)} {e : Expr} {es : List Expr} {d : L3.D} {ds : List L3.D}
theorem pJ (h1 : b9 X CL b e δ (.sh d) δ) (h2 : DM X CL b es δ (ds.map T.sh) δ) (hs : starEach (e :: es) X.env = (false, eval e X.env) :: starEach es X.env := by exact bM rfl) : DM X CL b (e :: es) δ ((d :: ds).map T.sh) δ := aJ h1 h2 hs
end
theorem yf {k : Nat} {A : Around} (r : d8 k A) : A.depth < recursionLimit := by
 have := r.dp
 omega
section
variable {X : Cx} {CL : Str -> Addr} {b : Bx} {δ δ1 : List (Option T)} {scope : Scope} {y : Str} {Nc : List Str} {ix : List Nat} {elt iter : Expr} {ifs : List Expr} {px pos : Pos} {p : L3.D -> Bool} {g : L3.D -> T} {ds : List L3.D}
theorem JF (sc : eZ X scope y Nc ix) (hc : X.calm = true) (h : cG X CL b iter δ (.lst ds) δ1) (cl : ∀ d ∈ ds, (g d).clean = true) (inner : Block X CL scope Nc ifs elt (uz δ1 ix) ds p g) (hlen : ds.length <= sizeLine)
   (hs : ∀ x, foldedSetIterable iter X.env x = pure x := by intro _; rfl) (n1 : (y == ("__debug__" : Str)) = false := by decide) (n2 : (y == ("__classdict__" : Str)) = false := by decide) : b9 X CL b (.ListComp elt [⟨.Name y px, iter, ifs, 0⟩] scope pos) δ (.lst ((ds.filter p).map g)) δ1 := fun H Z σ ts vs Q S k pins s I => by
 rw [eval_ListComp]
 refine ag2 (use := none) rfl hs (lG (Nr sc) I) sc.kind sc.names ?_
 have hw := (xM (tg := .Name y px) (d9 (X := X) (e := iter))) pins s σ H (fun J H1 => ∃ Z1 us, aC Z Z1 /\ aC H H1 /\ bW X.K CL b H1 Z1 δ1 σ ts vs /\ aB X.K CL H1 ds us /\ (∀ i H2, aC H1 H2 -> i < ds.length -> J.go i H2) /\ (∀ i H2 x H', aC H1 H2 -> i < ds.length -> J.Mm i H2 x H' -> H' = H2 /\ us[i]? = some x) /\ ∀ H2, aC H1 H2 -> J.stop ds.length H2) I (h H Z σ ts vs _ S fun v H1 Z1 z1 k1 S1 r => by
   cases r with
   | @lst a us _ hq rr =>
     refine ⟨a, rfl, ⟨us, hq⟩, Z1, us, z1, k1, S1, rr, fun i H2 s hi => ?_, fun i H2 y H' s hi hy => ⟨hy.1, hy.2 us (s.seq hq)⟩, fun H2 s => ⟨us, s.seq hq, by rw [rr.length]; exact afp _⟩⟩
     have HZ : i < us.length := by rw [← rr.length]; exact hi
     exact ⟨us, us[i], s.seq hq, by simp [HZ]⟩)
 refine eG hw fun v s1 h1 => eG h1 fun WO s2 zz => ?_
 obtain ⟨it, fp, tn, J, H1, e, I1, Tn, st, hf, Z1, us, z1, k1, S1, rr, go, yl, ZO⟩ := zz
 subst e
 have yl2 : ∀ i Z2 H2 x H', aC H1 Z2 -> aC Z2 H2 -> (∀ a o, H2 a = some o -> gR o = true -> Z2 a = some o) -> i < ds.length -> J.Mm i H2 x H' -> ∃ Z3 d, ds[i]? = some d /\ Jk Z2 H2 Z3 H' /\ bH X.K CL Z3 d x := fun i Z2 H2 x H' s1 s2 tp hi hy => by
   obtain ⟨e, hx⟩ := yl i H2 x H' (s1.trans s2) hi hy
   subst e
   obtain ⟨d, hd, rd⟩ := rr.Gs hx
   exact ⟨Z2, d, hd, .refl s2 tp, rd.mono s1⟩
 refine uD (xs := [y]) (RR := fun acc C => compPost (model X.prog X.w) X.A X.xe none (EP X pins σ Q) acc C) (Nr sc) hc I1 Tn st hf (oA (W1 := H1) S1 S1.zh (.refl _) (fun _ _ q _ => q) (oZ S1 ix) (UB sc inner n1 n2) go yl2 ZO hlen (.inr cl)) fun D C' s' H' m io nC ch ci zz => ?_
 obtain ⟨Z', z', k', S'⟩ := zz
 obtain ⟨m, hn⟩ := m
 exact ⟨m, hn, fun h' Us => ⟨.ref D, H', ci h' Us, rfl, k _ H' Z' (z1.trans z') (k1.trans k') S'⟩⟩
end
section
variable {X : Cx}
theorem BW : bootBuiltins "range" = some (.type "range") := by decide +kernel
theorem BX : kY X (.type "range") (fun xs H Q => ∃ n, xs = [.int n] /\ ∀ r, H r = none -> Q (.ref r) (upd H r (.Sd 0 n))) := by
 intro pins s σ H xs us Q I r h
 obtain ⟨n, rfl, q⟩ := h
 obtain ⟨u, rfl, ru⟩ := vals1 r
 obtain ⟨t, rfl⟩ := ru
 exact call_range_1 ⟨.ref s.heap.objs.size, _, I.laid (t' := s.toks + 1 + 1) (o := .Sd 0 n) (fun b o e => afv _ e) (afp _) ⟨_, _, _, afL _ rfl⟩, rfl, q _ (I.dO.fresh (afp _))⟩
theorem xj : ∀ (l : List Value) (k : Nat), (∀ j v, l[j]? = some v -> ∃ t, v = Value.int ((k + j : Nat) : Int) t) -> Vals ((List.range' k l.length).map fun (i : Nat) => V.int (i : Int)) l
 | [], _, _ => .nil
 | v :: l, k, h => by
   rw [afM, List.range'_succ, afO]
   refine .cons (h 0 v rfl) (xj l (k + 1) fun j w e => ?_)
   obtain ⟨t, ht⟩ := h (j + 1) w (by simpa using e)
   exact ⟨t, by rw [ht]; congr 1; omega⟩
theorem D0 {acc : Array Value} {n : Nat} (h : ItemsOf (fun i v => ∃ t, v = Value.int (0 + i * 1) t) acc n) : Vals ((List.range n).map fun (i : Nat) => V.int (i : Int)) acc.toList := by
 have := xj acc.toList 0 fun j v e => by
   rw [agE] at e
   obtain ⟨t, ht⟩ := h.2 j v e
   exact ⟨t, by rw [ht]; congr 1; omega⟩
 rw [agk, h.1] at this
 rw [List.range_eq_range']
 exact this
theorem yg (hc : X.calm = true) : kY X (.type "list") (fun xs H Q => ∃ (p : Addr) (n : Nat), xs = [.ref p] /\ H p = some (.Sd 0 (n : Int)) /\ n <= 1000 /\ ∀ l, H l = none -> Q (.ref l) (upd H l (.lst ((List.range n).map fun (i : Nat) => V.int (i : Int))))) := by
 intro pins s σ H xs us Q I r h
 obtain ⟨p, n, rfl, hp, hn, q⟩ := h
 obtain ⟨u, rfl, ru⟩ := vals1 r
 cases ru
 obtain ⟨t, u, v, e⟩ := I.dO p _ hp
 refine call_list_range (n := n) (I.ok.hd hc) e (small_one (by omega) (by omega) (by omega) (by omega)) (by rw [rangeSize_one]; split <;> omega) (by omega) fun h' tk aby c' hk hS' items => ?_
 refine ⟨.ref s.heap.objs.size, _, I.laid (t' := tk) (o := .lst ((List.range n).map fun (i : Nat) => V.int (i : Int))) hk (Nat.le_refl _) ⟨?_, aby.toList, c', D0 items, by simpa using hS'⟩, rfl, q _ (I.dO.fresh (Nat.le_refl _))⟩
 rw [afj, agL]
 exact age (dw hn)
end
section
variable {X : Cx} {CL : Str -> Addr} {b : Bx} {δ δ1 : List (Option T)} {e : Expr} {pos pp pq pr : Pos}
theorem JG {n : Nat} (g : Gx X) (hm : X.mg "list" = none) (hmr : X.mg "range" = none) (h : cG X CL b e δ (.int (n : Int)) δ1) (hn : n <= 1000) (hg : Gl X "list") (hgr : Gl X "range") (hs : starEach [e] X.env = (false, eval e X.env) :: starEach [] X.env := by exact bM rfl) :
   b9 X CL b (.Call (.Name "list" pp) [.Call (.Name "range" pq) [e] [] pr] [] pos) δ (.lst ((((List.range n).map fun (i : Nat) => (i : Int)).map D.int).map T.sh)) δ1 := fun H Z σ ts vs Q S k =>
 cS (iA (yg g.calm) hg hm bN (cg (iA BX hgr hmr BW (cg d9 eH hs) (he := hs)) eH (bM rfl)) (he := bM rfl)) (h H Z σ ts vs _ S fun v H1 Z1 z1 k1 S1 r => by
   cases r
   refine ⟨_, rfl, fun r hr => ⟨r, n, rfl, aQ, hn, fun p hp => ?_⟩⟩
   have same : aC H1 (upd H1 r (.Sd 0 (n : Int))) := aC.upd hr
   obtain ⟨Z', z', S2⟩ := S1.back (t := .sh (.int 0)) (v := .int 0) (fp := []) (W := Z1) (W' := Z1) same (.refl _) (.refl _) (S1.zh.trans same) (fun a o q z => by rw [q] at z; cases z) (fun a o q im => by
     by_cases ha : a = r
     . subst ha; rw [aQ] at q; cases q; cases im
     . rw [az ha] at q; exact S1.tp a o q im) (.sh (.int 0)) ags (fun a ha => by cases ha) (.inl rfl)
   have ev : ((List.range n).map fun (i : Nat) => V.int (i : Int)) = ((List.range n).map fun (i : Nat) => (i : Int)).map V.int := by rw [afT]; rfl
   rw [ev]
   obtain ⟨c, S3⟩ := (bW.oY (ints_rep ((List.range n).map fun (i : Nat) => (i : Int))) S2.pop).lz (g0 := []) (by simp) hp
   exact k _ _ _ (z1.trans z') ((k1.trans same).trans c) S3)
end
theorem BZ {K : PySem.W.Frag} {CL : Str -> Addr} {H Z : Hp} : ∀ {ds : List D} {us : List V} {fp : List Addr}, aX K CL H Z (ds.map T.sh) us fp -> aB K CL Z ds us
 | [], _, _, .nil => .nil
 | _ :: _, _, _, .cons (.sh r) rr => .cons r (BZ rr)
section
variable {X : Cx} {CL : Str -> Addr} {b : Bx} {δ δ1 : List (Option T)} {ds : List L3.D} {i q : Nat} {x y : Str} {pos pp pos' : Pos}
theorem NC {K : PySem.W.Frag} {H Z : Hp} {σ : L2.St} {ts : List T} {vs : List V} {a : Addr} (S : bW K CL b H Z δ σ ts vs) (h : δ[q]? = some (some (.pin a (.lst (ds.map T.sh))))) : ∃ us, H a = some (.lst us) /\ aB K CL Z ds us := by
 obtain ⟨fp, gp, e, _, _, _⟩ := S.rep
 obtain ⟨v0, f1, f2, f3, hv, oM, rt, _⟩ := e.get h
 cases rt with
 | pin rt =>
   cases rt with
   | lst ha rr => exact ⟨_, ha, BZ rr⟩
theorem JH {D : cX} {body gq : List Stmt} (g : Gx X) (n : Ln X i x) (m : Vn X q y) (P : Addr -> Nat -> List (Option T) -> Prop) (hδ : δ[q]? = some (some (.lst (ds.map T.sh)))) (h0 : ∀ a, P a 0 (δ.set q (some (.pin a (.lst (ds.map T.sh))))))
   (hp : ∀ a j δ, P a j δ -> δ[q]? = some (some (.pin a (.lst (ds.map T.sh))))) (hl : ∀ a j δ, P a j δ -> i < δ.length)
   (hs : ∀ a j d δ, ds[j]? = some d -> P a j δ -> fF X CL b body (δ.set i (some (.sh d))) { nx := P a (j + 1), rt := D.rt, bk := fun _ => False, ct := P a (j + 1) })
   (hd : ∀ a δ, P a ds.length δ -> fF X CL b gq (δ.set q (some (.lst (ds.map T.sh)))) D) (hq : ∀ z, foldedSetIterable (.Name y pp) X.env z = pure z := by intro _; rfl) :
   fF X CL b (.For (.Name x pos') (.Name y pp) body [] pos :: gq) δ D := dW fun H Z σ ts vs E S M => by
 obtain ⟨fp, gp, e, _, _, _⟩ := S.rep
 obtain ⟨v0, f1, f2, f3, hv, oM, rt, _⟩ := e.get hδ
 cases rt with
 | @lst a us _ f4 ha rr =>
   have Sp := S.XC (y := a) hδ hv
   refine wB (Iu (by rw [g.xe]; exact PassesOwn.never) g.calm (xM (k8 m.hi m.hv m.hd m.gW)) (sQ g.nd n.hi n.loc n.hf) MT hq) ⟨_, hv, a, rfl, ⟨us, .inl (.inl ha)⟩, ?_⟩
   refine ⟨fun j w σ H2 => w = ds.length - j /\ j <= ds.length /\ ∃ Z2 δ2, aC Z Z2 /\ bW X.K CL b H2 Z2 δ2 σ ts vs /\ P a j δ2, ⟨_, rfl, afP _, Z, _, .refl _, Sp, h0 a⟩, ?_⟩
   rintro j w σ2 H2 ⟨rfl, hj, Z2, δ2, s, S2, p2⟩
   obtain ⟨XM, ha2, Wf⟩ := NC S2 (hp a j δ2 p2)
   have hlen := Wf.length
   by_cases oz : j < ds.length
   . refine .inr ⟨⟨XM, XM[j]'(by omega), .inl (.inl ha2), by simp [show j < XM.length by omega]⟩, fun σ' H' => ∃ Z2 δ2, aC Z Z2 /\ bW X.K CL b H' Z2 δ2 σ' ts vs /\ P a (j + 1) δ2, fun σ' H' h => ⟨ds.length - (j + 1), by omega, rfl, oz, h⟩, fun z H' hy => ?_⟩
     obtain ⟨e, hu⟩ := hy
     subst e
     obtain ⟨d, Mv, rd⟩ := Wf.Gs (hu XM (.inl (.inl ha2)))
     have S3 := (S2.push rd).set (hl a j δ2 p2)
     exact hs a j d δ2 Mv p2 _ Z2 _ ts vs _ S3 ⟨fun δ' σ' H' Z' s' S' k => ⟨Z', δ', s.trans s', S', k⟩, fun t v H' Z' δ' σ' s' S' k => M.rt t v H' Z' δ' σ' (s.trans s') S' k, fun δ' σ' H' Z' s' S' k => k.elim, fun δ' σ' H' Z' s' S' k => ⟨Z', δ', s.trans s', S', k⟩⟩
   . have e : j = ds.length := by omega
     subst e
     refine .inl ⟨⟨XM, .inl (.inl ha2), by omega⟩, ?_⟩
     exact M.nx _ σ2 H2 Z2 s (S2.XA (hp a _ δ2 p2)).2 (hd a δ2 p2)
theorem yh {a : Addr} (ds : List L3.D) (h : T.dY (.lst (ds.map T.sh)) = .lst ds) : T.dY (.pin a (.lst (ds.map T.sh))) = .lst ds := by rw [T.dY]; exact h
end
end L3
namespace Law
open PySem L2 L3
noncomputable def top (i : Nat) : Stmt := PySem.Challenge.pw_moodtree_k35_what_is_kept.main.body.getD i (.Pass ⟨0, 0, 0, 0⟩)
noncomputable def qH : Nat -> List Int -> Int -> List Int
 | 0, _, _ => []
 | n + 1, es, k => if k = -1 then [] else k :: qH n es (es.getD k.toNat 0)
noncomputable def bX (es : List Int) (m : Int) : List Int := qH (es.length + 1) es (es.getD m.toNat 0)
noncomputable def fK (es : List Int) : Prop := ∀ k : Nat, k < es.length -> -1 <= es.getD k 0 /\ es.getD k 0 < k
theorem fK.at {es : List Int} (h : fK es) {k : Int} (h0 : 0 <= k) (h1 : k < es.length) : -1 <= es.getD k.toNat 0 /\ es.getD k.toNat 0 < k := by
 have := h k.toNat (by omega)
 omega
noncomputable def iL (ks : List Str) (es ss : List Int) : L3.D := .ins "Tree" [("kinds", .lst (ks.map .str)), ("elders", .lst (es.map .int)), ("starts", .lst (ss.map .int))]
theorem uI {ks : List Str} {es ss : List Int} : List.lookup ("kinds" : Str) [(("kinds" : Str), L3.D.lst (ks.map .str)), ("elders", .lst (es.map .int)), ("starts", .lst (ss.map .int))] = some (.lst (ks.map .str)) := pB
theorem lJ {ks : List Str} {es ss : List Int} : List.lookup ("elders" : Str) [(("kinds" : Str), L3.D.lst (ks.map .str)), ("elders", .lst (es.map .int)), ("starts", .lst (ss.map .int))] = some (.lst (es.map .int)) := by
 rw [gF (by decide +kernel), pB]
theorem B3 {ks : List Str} {es ss : List Int} : List.lookup ("starts" : Str) [(("kinds" : Str), L3.D.lst (ks.map .str)), ("elders", .lst (es.map .int)), ("starts", .lst (ss.map .int))] = some (.lst (ss.map .int)) := by
 rw [gF (by decide +kernel), gF (by decide +kernel), pB]
theorem cZ (ds : List L3.D) : T.dY (.lst (ds.map T.sh)) = .lst ds := by rw [T.dY, gY]
theorem bI (l : List Int) : (T.lst ((l.map L3.D.int).map T.sh)).clean = true := by rw [gu]; exact lD _
theorem uJ (l : List Str) : (T.lst ((l.map L3.D.str).map T.sh)).clean = true := by
 rw [gu]
 induction l with
 | nil => rfl
 | cons x l ih => exact ih
noncomputable def jE (ks : List Str) (es ss : List Int) : List (Str × T) := [("kinds", .lst ((ks.map .str).map T.sh)), ("elders", .lst ((es.map .int).map T.sh)), ("starts", .lst ((ss.map .int).map T.sh))]
theorem GZ (ks : List Str) (es ss : List Int) : T.dY (.ins "Tree" (jE ks es ss)) = iL ks es ss := by
 unfold jE
 rw [T.dY, T.nT, T.nT, T.nT, T.nT, cZ, cZ, cZ]
 rfl
theorem sq (ks : List Str) (es ss : List Int) : T.bD (jE ks es ss) = true := by
 unfold jE
 rw [T.bD, T.bD, T.bD, T.bD, uJ, bI, bI]
 rfl
theorem yi {es : List Int} (h : fK es) : ∀ (n : Nat) {k x : Int}, -1 <= k -> k < es.length -> x ∈ qH n es k -> 0 <= x /\ x <= k
 | 0, k, x, _, _, hx => by rw [qH] at hx; cases hx
 | n + 1, k, x, h0, h1, hx => by
   rw [qH] at hx
   split at hx
   . cases hx
   . rename_i hk
     have ha := h.at (k := k) (by omega) h1
     rcases afm.mp hx with rfl | hx
     . omega
     . have := yi h n (by omega) (by omega) hx
       omega
theorem uK {es : List Int} (h : fK es) : ∀ (a b : Nat) {k : Int}, -1 <= k -> k < es.length -> k < a -> k < b -> qH a es k = qH b es k
 | 0, 0, _, _, _, _, _ => rfl
 | 0, b + 1, k, h0, _, ha, _ => by
   rw [qH, qH, afk (by omega)]
 | a + 1, 0, k, h0, _, _, hb => by
   rw [qH, qH, afk (by omega)]
 | a + 1, b + 1, k, h0, h1, ha, hb => by
   rw [qH, qH]
   split
   . rfl
   . have hk := h.at (k := k) (by omega) h1
     rw [uK h a b hk.1 (by omega) (by omega) (by omega)]
theorem JK {es : List Int} (h : fK es) {m : Int} (h0 : 0 <= m) (h1 : m < es.length) : bX es m = if es.getD m.toNat 0 = -1 then [] else es.getD m.toNat 0 :: bX es (es.getD m.toNat 0) := by
 have hm := h.at h0 h1
 unfold bX
 rw [qH]
 split
 . rfl
 . rename_i hk
   have hk2 := h.at (k := es.getD m.toNat 0) (by omega) (by omega)
   rw [uK h es.length (es.length + 1) hk2.1 (by omega) (by omega) (by omega)]
theorem sY {es : List Int} (h : fK es) {m x : Int} (h0 : 0 <= m) (h1 : m < es.length) (hx : x ∈ bX es m) : 0 <= x /\ x < m /\ x < es.length := by
 have hm := h.at h0 h1
 have := yi h _ hm.1 (by omega) hx
 omega
theorem qV {es : List Int} (h : fK es) : ∀ (n : Nat) {m x : Int}, 0 <= m -> m < es.length -> m < n -> x ∈ bX es m -> ∃ pre, bX es m = pre ++ x :: bX es x /\ ∀ y ∈ pre, y ∈ bX es m /\ x ∈ bX es y
 | 0, m, x, h0, _, hn, _ => by omega
 | n + 1, m, x, h0, h1, hn, hx => by
   have hm := h.at h0 h1
   have e := JK h h0 h1
   generalize hq : es.getD m.toNat 0 = k at hm e
   by_cases hk : k = -1
   . rw [e, afk hk] at hx; cases hx
   . rw [afi hk] at e
     rw [e] at hx
     rcases afm.mp hx with rfl | hx
     . exact ⟨[], by rw [e]; rfl, fun y hy => by cases hy⟩
     . obtain ⟨pre, p1, p2⟩ := qV h n (m := k) (by omega) (by omega) (by omega) hx
       refine ⟨k :: pre, by rw [e, p1]; rfl, fun y hy => ?_⟩
       rcases afm.mp hy with rfl | hy
       . exact ⟨by rw [e]; exact afo, hx⟩
       . exact ⟨by rw [e]; exact afq _ (p2 y hy).1, (p2 y hy).2⟩
theorem qW {es : List Int} (h : fK es) {m x y : Int} (h0 : 0 <= m) (h1 : m < es.length) (hx : x ∈ bX es m) (hy : y ∈ bX es x) : y ∈ bX es m := by
 obtain ⟨pre, p1, _⟩ := qV h (m.toNat + 1) h0 h1 (by omega) hx
 rw [p1]
 exact afh _ (afq _ hy)
theorem NF {es : List Int} (h : fK es) {m x y : Int} (h0 : 0 <= m) (h1 : m < es.length) (hx : x ∈ bX es m) (hy : y ∈ bX es m) : x = y \/ x ∈ bX es y \/ y ∈ bX es x := by
 obtain ⟨pre, p1, p2⟩ := qV h (m.toNat + 1) h0 h1 (by omega) hx
 rw [p1] at hy
 rcases afu.mp hy with hy | hy
 . exact .inr (.inl (p2 y hy).2)
 . rcases afm.mp hy with e | hy
   . exact .inl e.symm
   . exact .inr (.inr hy)
noncomputable def sr (es : List Int) : Prop := fK es /\ ∀ k : Nat, k + 1 < es.length -> es.getD (k + 1) 0 = k \/ es.getD (k + 1) 0 ∈ bX es k
theorem sr.down {es : List Int} (h : sr es) {k : Nat} {x : Int} (hk : k + 1 < es.length) (hx : x ∈ bX es ((k + 1 : Nat) : Int)) : x = k \/ x ∈ bX es k := by
 have e := JK h.1 (m := ((k + 1 : Nat) : Int)) (by omega) (by omega)
 rw [af6] at e
 have hp := h.2 k hk
 rw [e] at hx
 split at hx
 . cases hx
 . rename_i qG
   rcases afm.mp hx with hx | hx
   . rcases hp with hp | hp
     . exact .inl (hx.trans hp)
     . rw [hx]; exact .inr hp
   . rcases hp with hp | hp
     . rw [hp] at hx; exact .inr hx
     . exact .inr (qW h.1 (by omega) (by omega) hp hx)
noncomputable def pK (xm : Int -> Bool) (es : List Int) (a b : Int) : Int := ((bX es a).find? (fun x => xm x && decide (x ∈ bX es b))).getD (-1)
theorem Fi {es : List Int} {x : Int} (h : fK es) : ∀ (n : Nat) {k : Int}, -1 <= k -> k < es.length -> qH n (es ++ [x]) k = qH n es k
 | 0, _, _, _ => rfl
 | n + 1, k, h0, h1 => by
   rw [qH, qH]
   split
   . rfl
   . have hk := h.at (k := k) (by omega) h1
     have e : (es ++ [x]).getD k.toNat 0 = es.getD k.toNat 0 := by
       rw [afs, agZ (by omega), ← afs]
     rw [e, Fi h n hk.1 (by omega)]
theorem uL {es : List Int} {x : Int} {k : Nat} (h : k < es.length) : (es ++ [x]).getD k 0 = es.getD k 0 := by
 rw [afs, agZ h, ← afs]
theorem NK {es : List Int} {x : Int} (h : fK es) {m : Int} (h0 : 0 <= m) (h1 : m < es.length) : bX (es ++ [x]) m = bX es m := by
 have hm := h.at h0 h1
 unfold bX
 rw [uL (by omega), Fi h _ hm.1 (by omega), uK h _ (es.length + 1) hm.1 (by omega) (by rw [afK]; omega) (by omega)]
theorem fK.snoc {es : List Int} (h : fK es) {x : Int} (h0 : -1 <= x) (h1 : x < es.length) : fK (es ++ [x]) := fun k hk => by
 rw [afK] at hk
 simp only [afM, agu] at hk
 by_cases e : k < es.length
 . rw [uL e]
   exact h k e
 . have : k = es.length := by omega
   subst this
   rw [afs, ago (afp _)]
   simp
   omega
theorem sr.snoc {es : List Int} (h : sr es) {x : Int} {k : Nat} (hk : k + 1 = es.length) (hx : x = k \/ x ∈ bX es k) : sr (es ++ [x]) := by
 have hx' : -1 <= x /\ x < es.length := by
   rcases hx with e | e
   . omega
   . have := sY h.1 (m := (k : Int)) (by omega) (by omega) e
     omega
 refine ⟨h.1.snoc hx'.1 hx'.2, fun j hj => ?_⟩
 rw [afK] at hj
 simp only [afM, agu] at hj
 rw [NK h.1 (by omega) (by omega)]
 by_cases e : j + 1 < es.length
 . rw [uL e]
   exact h.2 j e
 . have : j = k := by omega
   subst this
   have e2 : (es ++ [x]).getD (j + 1) 0 = x := by
     rw [afs, ago (by omega), hk, Nat.sub_self]
     rfl
   rw [e2]
   exact hx
noncomputable def Ig (es : List Int) (m : Int) : List Int := ((List.range es.length).filter (fun (i : Nat) => decide (m = -1) || decide (m ∈ bX es i))).map (fun (i : Nat) => (i : Int))
theorem yj : ∀ (n : Nat) (es : List Int) (k : Int), (qH n es k).length <= n
 | 0, _, _ => afp _
 | n + 1, es, k => by
   rw [qH]
   split
   . exact afP _
   . exact Nat.succ_le_succ (yj n es _)
noncomputable def fV (ks : List Str) (x : Int) : Bool := decide (ks.getD x.toNat Str.empty = "one")
noncomputable def xo (es : List Int) (m : Int) : List Int := ((List.range es.length).filter (fun (i : Nat) => decide (es.getD i 0 = m))).map (fun (i : Nat) => (i : Int))
theorem NP (es : List Int) (m : Int) : (xo es m).length <= es.length := by
 unfold xo
 rw [afj]
 exact afZ (agS _ _) (by simp)
noncomputable def lK (bs nm : List L3.D) (tr : L3.D) (is os ws : List L3.D) : L3.D := .ins "Chart" [("boxes", .lst bs), ("names", .lst nm), ("tree", tr), ("ins", .lst is), ("outs", .lst os), ("ways", .lst ws)]
section
variable {bs nm is os ws : List L3.D} {tr : L3.D}
theorem j5 : List.lookup ("tree" : Str) [(("boxes" : Str), L3.D.lst bs), ("names", .lst nm), ("tree", tr), ("ins", .lst is), ("outs", .lst os), ("ways", .lst ws)] = some tr := by
 rw [gF (by decide +kernel), gF (by decide +kernel), pB]
theorem j6 : List.lookup ("ways" : Str) [(("boxes" : Str), L3.D.lst bs), ("names", .lst nm), ("tree", tr), ("ins", .lst is), ("outs", .lst os), ("ways", .lst ws)] = some (.lst ws) := by
 rw [gF (by decide +kernel), gF (by decide +kernel), gF (by decide +kernel), gF (by decide +kernel), gF (by decide +kernel), pB]
end
noncomputable def qX (bs nm : List L3.D) : List (Str × T) := [("boxes", .lst (bs.map T.sh)), ("names", .lst (nm.map T.sh))]
noncomputable def qY (is os ws : List L3.D) : List (Str × T) := [("ins", .lst (is.map T.sh)), ("outs", .lst (os.map T.sh)), ("ways", .lst (ws.map T.sh))]
noncomputable def gy (bs nm : List L3.D) (t : T) (is os ws : List L3.D) : List (Str × T) := qX bs nm ++ (("tree" : Str), t) :: qY is os ws
theorem D3 (bs nm : List L3.D) (t : T) (is os ws : List L3.D) : T.dY (.ins "Chart" (gy bs nm t is os ws)) = lK bs nm t.dY is os ws := by
 unfold gy qX qY
 rw [afS, afS, agv, T.dY, T.nT, T.nT, T.nT, T.nT, T.nT, T.nT, T.nT, cZ, cZ, cZ, cZ, cZ]
 rfl
theorem bO {ds : List L3.D} (h : D.bT ds = true) : (T.lst (ds.map T.sh)).clean = true := by
 rw [gu]
 induction ds with
 | nil => rfl
 | cons d ds ih =>
   rw [D.bT, af4] at h
   rw [afO, T.eK, ih h.2, T.clean, h.1]; rfl
theorem yk {bs nm : List L3.D} (h1 : D.bT bs = true) (h2 : D.bT nm = true) : T.bD (qX bs nm) = true := by
 unfold qX
 rw [T.bD, T.bD, T.bD, bO h1, bO h2]; rfl
theorem ym {is os ws : List L3.D} (h1 : D.bT is = true) (h2 : D.bT os = true) (h3 : D.bT ws = true) : T.bD (qY is os ws) = true := by
 unfold qY
 rw [T.bD, T.bD, T.bD, T.bD, bO h1, bO h2, bO h3]; rfl
structure e7 where
 src : Int
 sign : Str
 asks : List L3.D
 pL : List L3.D
 tgt : Int
 mode : Str
noncomputable def dP (w : e7) : L3.D := .tup [.int w.src, .str w.sign, .tup w.asks, .tup w.pL, .int w.tgt, .str w.mode]
noncomputable def bA (ns : List Int) (k : Int) : Int := if k < ns.length then ns.getD k.toNat 0 else 0
noncomputable def fW (c : Int) : Int := if c % 2 = 0 then c / 2 % 9 - 4 else if c % 4 = 1 then c / 4 * 48271 % 10 ^ 60 else -(c / 4 * 48271 % 10 ^ 60)
noncomputable def G0 : List Nat := (List.range 26).map (· + 97) ++ (List.range 10).map (· + 48)
theorem JL : ("abcdefghijklmnopqrstuvwxyz0123456789" : Str).cps.toList = G0 := by decide +kernel
noncomputable def sM (k : Int) : Str := ⟨#[G0.getD k.toNat 0]⟩
theorem UK : ∀ n ∈ G0, n < 1114112 := by decide +kernel
theorem JM (k : Int) : PyData.strOk (sM k) = true := by
 unfold PyData.strOk sM
 have : G0.getD k.toNat 0 < 1114112 := by
   rw [afs]
   cases e : G0[k.toNat]? with
   | none => decide
   | some n => exact UK n (af7 e)
 simpa [List.getD_eq_getElem?_getD] using this
noncomputable def NQ (m : Int) : Int := (m * 48271 + 11) % 2147483647
noncomputable def iM (p : Int × Str) : Nat -> Int × Str
 | 0 => p
 | n + 1 => (NQ (iM p n).1, (iM p n).2 ++ sM (NQ (iM p n).1 % 36))
noncomputable def nm0 (c : Int) : Int × Str := (c / 12 % 10 ^ (9 : Int).toNat, sM (c / 12 % 10 ^ (9 : Int).toNat % 26))
theorem JN (p : Int × Str) (n : Nat) : (iM p n).2.length = p.2.length + n := by
 induction n with
 | zero => rfl
 | succ n ih =>
   show ((iM p n).2 ++ sM _).length = _
   rw [str_len, ih]
   show _ + 1 = _
   omega
theorem XO (p : Int × Str) (h : PyData.strOk p.2 = true) (n : Nat) : PyData.strOk (iM p n).2 = true := by
 induction n with
 | zero => exact h
 | succ n ih => exact qR _ _ ih (JM _)
noncomputable def Mq (c : Int) : Str := (iM (nm0 c) (c % 12).toNat).2
theorem Fj (c : Int) : (Mq c).length <= 12 := by
 unfold Mq
 rw [JN]
 have h1 := afI c (show (12 : Int) ≠ 0 by decide)
 have h2 := afB c (show (0 : Int) < 12 by decide)
 show 1 + (c % 12).toNat <= 12
 omega
noncomputable def w13 : List Str := ["all", "and", "box", "call", "do", "far", "if", "in", "leaf", "near", "on", "one", "open"]
noncomputable def w6 : List Str := ["out", "put", "say", "shut", "then", "to"]
noncomputable def iN (c : Int) : Str := if Mq c ∈ w13 then Mq c ++ "0" else if Mq c ∈ w6 then Mq c ++ "0" else Mq c
theorem yo (c : Int) : PyData.strOk (iN c) = true := by
 have hb : PyData.strOk (Mq c) = true := XO _ (JM _) _
 have h0 : PyData.strOk ("0" : Str) = true := by decide +kernel
 unfold iN
 split
 . exact qR _ _ hb h0
 . split
   . exact qR _ _ hb h0
   . exact hb
theorem dG (l : List Int) : ji 60 (.lst (l.map .int)) := .lst fun d hd => by
 obtain ⟨i, _, rfl⟩ := afJ.mp hd
 exact .int _ _
noncomputable def lM (mk : Str) (i j : Int) : Bool := if mk = "<" then decide (i < j) else if mk = "<=" then decide (i <= j) else if mk = "=" then decide (i = j) else !decide (i = j)
noncomputable def oF (bx mo : Int) (bs : List Int) : Int := if bx = -1 then mo else bs.getD bx.toNat 0 + mo
noncomputable def XQ (c s : Int) : Int := (c % 2147483647 + s) * 48271 % 2147483647
noncomputable def cz (c s : Int) : Int := XQ c s * XQ c s % 2147483629
theorem XR (c s : Int) : 0 <= XQ c s /\ XQ c s < 2147483647 := ⟨afI _ (by decide), afB _ (by decide)⟩
theorem yp (c s : Int) : 0 <= cz c s := afI _ (by decide)
noncomputable def eF (c : Int) : Int := if c % 2 = 0 then c / 2 % 9 - 4 else if c % 4 = 1 then c / 4 * 48271 % (10 ^ 30 - 1) else -(c / 4 * 48271 % (10 ^ 30 - 1))
noncomputable def bU (es : List Int) (k : Nat) : List Int := if (12 : Int) < (([(k : Int)] ++ bX es k).length : Nat) then cutD ([(k : Int)] ++ bX es k) (some 1) none else [(k : Int)] ++ bX es k
theorem su {es : List Int} {k : Nat} (h : fK es) (hk : k + 1 = es.length) : 0 < (bU es k).length /\ (bU es k).length <= es.length + 2 /\ ∀ x ∈ bU es k, 0 <= x /\ x < es.length := by
 have hm : ∀ x ∈ [(k : Int)] ++ bX es k, 0 <= x /\ x < es.length := fun x hx => by
   rcases afu.mp hx with h1 | h1
   . have : x = k := by simpa using h1
     omega
   . have ha := h.at (k := (k : Int)) (by omega) (by omega)
     have := yi h _ ha.1 (by omega) h1
     omega
 have hl : ([(k : Int)] ++ bX es k).length <= es.length + 2 := by
   have := yj (es.length + 1) es (es.getD (k : Int).toNat 0)
   rw [afK]
   unfold bX
   simp only [afM, agu]
   omega
 unfold bU
 split
 . rename_i h12
   have e : cutD ([(k : Int)] ++ bX es k) (some 1) none = bX es k := by
     generalize bX es k = l at h12
     unfold cutD
     have h1 : HT.qF ([(k : Int)] ++ l).length 0 (some 1) = 1 := by
       rw [afK] at h12 ⊢
       simp only [afM, agu] at h12 ⊢
       unfold HT.qF
       simp
     have h2 : HT.qF ([(k : Int)] ++ l).length ([(k : Int)] ++ l).length none = ([(k : Int)] ++ l).length := by
       unfold HT.qF
       simp
     rw [h1, h2]
     simp
   rw [e]
   have hl2 := afK (as := [(k : Int)]) (bs := bX es k)
   simp only [afM, agu] at hl2
   exact ⟨by omega, by omega, fun x hx => hm x (afh _ hx)⟩
 . exact ⟨by simp, hl, hm⟩
theorem getD_mem {l : List Int} {n : Nat} (h : n < l.length) : l.getD n 0 ∈ l := by
 rw [afs, afn h]
 exact agA h
theorem yq {es : List Int} {k : Nat} {x : Int} (hx : x ∈ bU es k) : x = k \/ x ∈ bX es k := by
 have hm : x ∈ [(k : Int)] ++ bX es k := by
   unfold bU at hx
   split at hx
   . unfold cutD at hx
     exact List.mem_of_mem_drop (List.mem_of_mem_take hx)
   . exact hx
 rcases afu.mp hm with h | h
 . exact .inl (by simpa using h)
 . exact .inr h
noncomputable def XS (s es : List Int) (k : Nat) : Int := (bU es k).getD (cz (bA s ((k : Int) + 1)) (3 + (k : Int)) % ((bU es k).length : Nat)).toNat 0
noncomputable def nV (s : List Int) : Nat -> List Int
 | 0 => [-1]
 | j + 1 => nV s j ++ [XS s (nV s j) j]
theorem NR : sr [-1] := ⟨fun k hk => by
   have : k = 0 := by simpa using hk
   subst this
   exact ⟨Int.le_refl _, show (-1 : Int) < ((0 : Nat) : Int) by decide⟩, fun k hk => by simp at hk⟩
theorem yr (s : List Int) : ∀ j, (nV s j).length = j + 1 /\ sr (nV s j)
 | 0 => ⟨rfl, NR⟩
 | j + 1 => by
   obtain ⟨h1, h2⟩ := yr s j
   obtain ⟨r1, r2, r3⟩ := su (k := j) h2.1 h1.symm
   refine ⟨by show (nV s j ++ _).length = _; rw [afK, h1]; rfl, ?_⟩
   have hx := getD_mem (l := bU (nV s j) j) (n := (cz (bA s ((j : Int) + 1)) (3 + (j : Int)) % ((bU (nV s j) j).length : Nat)).toNat) (by
     have := afB (cz (bA s ((j : Int) + 1)) (3 + (j : Int))) (b := ((bU (nV s j) j).length : Nat)) (by omega)
     have := afI (cz (bA s ((j : Int) + 1)) (3 + (j : Int))) (b := ((bU (nV s j) j).length : Nat)) (by omega)
     omega)
   exact h2.snoc h1.symm (yq hx)
noncomputable def cntK (s : List Int) : Int := 1 + cz (bA s 0) 2 % 14
theorem JQ (s : List Int) : 1 <= cntK s /\ cntK s <= 30 := by
 unfold cntK
 omega
noncomputable def iU (s : List Int) : List Int := nV s (cntK s - 1).toNat
theorem Fl (s : List Int) : 1 <= (iU s).length /\ (iU s).length <= 30 /\ sr (iU s) := by
 obtain ⟨h1, h2⟩ := yr s (cntK s - 1).toNat
 have := JQ s
 unfold iU
 exact ⟨by omega, by omega, h2⟩
noncomputable def Ih (s : List Int) (k : Nat) : Int := cz (bA s (k : Int)) (101 + (k : Int))
noncomputable def Ds (s es : List Int) (k : Nat) : Str := if xo es (k : Int) = [] then "leaf" else (["all", "one"] : List Str).getD (Ih s k % 2).toNat Str.empty
noncomputable def stK (s es : List Int) (k : Nat) : Int := if Ds s es k = "one" then (xo es (k : Int)).getD (Ih s k / 2 % ((xo es (k : Int)).length : Nat)).toNat 0 else -1
noncomputable def Wj (s es : List Int) (k : Nat) : Int := if Ds s es k = "one" then (xo es (k : Int)).getD (Ih s k / 22 % ((xo es (k : Int)).length : Nat)).toNat 0 else -1
theorem UL (s es : List Int) (k : Nat) : PyData.strOk (Ds s es k) = true := by
 unfold Ds
 split
 . decide +kernel
 . have : Ih s k % 2 = 0 \/ Ih s k % 2 = 1 := by omega
   rcases this with e | e <;> rw [e] <;> decide +kernel
theorem NS {s es : List Int} {k : Nat} (h : Ds s es k = "one") : xo es (k : Int) ≠ [] := by
 intro e
 unfold Ds at h
 rw [afk e] at h
 exact absurd h (by decide +kernel)
noncomputable def pM (s es : List Int) (n : Nat) : List Str := (List.range n).map (Ds s es)
noncomputable def uM (s es : List Int) (n : Nat) : List Int := (List.range n).map (stK s es)
noncomputable def qZ (s es : List Int) (n : Nat) : List Int := (List.range n).map (Wj s es)
noncomputable def pN (ks : List Str) (es ss os : List Int) : L3.D := .lst [.lst (ks.map .str), .lst (es.map .int), .lst (ss.map .int), .lst (os.map .int)]
noncomputable def pO (ks : List Str) (es ss os : List Int) : T := .lst [.lst ((ks.map .str).map T.sh), .lst ((es.map .int).map T.sh), .lst ((ss.map .int).map T.sh), .lst ((os.map .int).map T.sh)]
theorem JR (ks : List Str) (es ss os : List Int) : (pO ks es ss os).dY = pN ks es ss os := by
 unfold pO pN
 rw [T.dY, T.gQ, T.gQ, T.gQ, T.gQ, T.gQ, cZ, cZ, cZ, cZ]
noncomputable def xq (es os : List Int) : Nat -> List Int
 | 0 => [0]
 | j + 1 => if es.getD (j + 1) 0 ∈ xq es os j /\ (os.getD (es.getD (j + 1) 0).toNat 0 = -1 \/ os.getD (es.getD (j + 1) 0).toNat 0 = ((j + 1 : Nat) : Int)) then xq es os j ++ [((j + 1 : Nat) : Int)] else xq es os j
theorem sZ {es os : List Int} : ∀ (j : Nat) {x : Int}, x ∈ xq es os j -> 0 <= x /\ x <= j
 | 0, x, h => by
   have : x = 0 := by simpa [xq] using h
   omega
 | j + 1, x, h => by
   rw [xq] at h
   split at h
   . rcases afu.mp h with h | h
     . have := sZ j h
       omega
     . have : x = ((j + 1 : Nat) : Int) := by simpa using h
       omega
   . have := sZ j h
     omega
theorem yt {es os : List Int} : ∀ (j : Nat), 1 <= (xq es os j).length /\ (xq es os j).length <= j + 1
 | 0 => ⟨afp _, afp _⟩
 | j + 1 => by
   have := yt (es := es) (os := os) j
   rw [xq]
   split
   . rw [afK]
     simp only [afM, agu]
     omega
   . omega
noncomputable def Wk (s : List Int) : List Int := (List.range (cz (bA s 0) 7 % 6).toNat).map fun (k : Nat) => fW (bA s ((k : Int) + 1) + 5 * (k : Int))
theorem NT (s : List Int) : (Wk s).length <= 5 := by
 unfold Wk
 rw [afj, agL]
 omega
theorem JS {x : Str} (h : PyData.strOk x = true) (l k : Option Int) : PyData.strOk (Txt.slice x l k) = true := by
 unfold Txt.slice
 split
 . exact h
 . unfold PyData.strOk at *
   rw [List.all_toArray, agy]
   intro c hc
   obtain ⟨i, _, hi⟩ := List.mem_filterMap.mp hc
   rw [← Array.all_toList, agy] at h
   exact h c (by rw [← agE] at hi; exact af7 hi)
theorem G3 (c : Int) : (iN c).length <= 13 := by
 have h := Fj c
 unfold iN
 split
 . rw [str_len]; show _ + 1 <= _; omega
 . split
   . rw [str_len]; show _ + 1 <= _; omega
   . omega
noncomputable def sA (s : List Int) : Str := Txt.slice (iN (bA s 0 / 2)) none (some 10)
noncomputable def NV (s : List Int) : List Str := if bA s 0 % 2 = 0 then [sA s ++ "1", sA s ++ "12", sA s ++ "2"] else [sA s, iN (bA s 1 + 5), iN (bA s 2 + 10)]
theorem NW (s : List Int) : (NV s).length = 3 := by
 unfold NV
 split <;> rfl
theorem UM (s : List Int) : ∀ x ∈ NV s, PyData.strOk x = true := by
 have hb : PyData.strOk (sA s) = true := JS (yo _) _ _
 unfold NV
 split
 . intro x hx
   simp only [afm, af5, or_false] at hx
   rcases hx with rfl | rfl | rfl
   . exact qR _ _ hb (by decide +kernel)
   . exact qR _ _ hb (by decide +kernel)
   . exact qR _ _ hb (by decide +kernel)
 . intro x hx
   simp only [afm, af5, or_false] at hx
   rcases hx with rfl | rfl | rfl
   . exact hb
   . exact yo _
   . exact yo _
inductive B4 where
 | JT (op : Bool) (m : Int)
 | num (mk : Str) (b1 m1 b2 m2 : Int)
noncomputable def pP : B4 -> L3.D
 | .JT op m => .tup [.str (if op then "open" else "shut"), .int m]
 | .num mk b1 m1 b2 m2 => .tup [.str mk, .tup [.int b1, .int m1], .tup [.int b2, .int m2]]
noncomputable def B5 : List Str := ["<", "<=", "=", "!="]
noncomputable def B4.Ok (n : Nat) (bs : List Int) : B4 -> Prop
 | .JT _ m => 0 <= m /\ m < n
 | .num mk b1 _ b2 _ => mk ∈ B5 /\ (b1 = -1 \/ (0 <= b1 /\ b1 < bs.length)) /\ (b2 = -1 \/ (0 <= b2 /\ b2 < bs.length))
theorem uN (a : B4) : (pP a).jz = true := by cases a <;> rfl
theorem NX : ∀ x ∈ B5, PyData.strOk x = true := by decide +kernel
theorem JV {n : Nat} {m : Nat} {bs : List Int} {a : B4} (h : a.Ok m bs) : ji (n + 2) (pP a) := by
 cases a with
 | JT op m =>
   refine .tup fun d hd => ?_
   rcases afm.mp hd with rfl | hd
   . refine .str _ _ ?_
     cases op <;> decide +kernel
   . rw [afG.mp hd]; exact .int _ _
 | num mk b1 m1 b2 m2 =>
   refine .tup fun d hd => ?_
   rcases afm.mp hd with rfl | hd
   . exact .str _ _ (NX _ h.1)
   . rcases afm.mp hd with rfl | hd
     . exact .tup fun d hd => by
         rcases afm.mp hd with rfl | hd
         . exact .int _ _
         . rw [afG.mp hd]; exact .int _ _
     . rw [afG.mp hd]
       exact .tup fun d hd => by
         rcases afm.mp hd with rfl | hd
         . exact .int _ _
         . rw [afG.mp hd]; exact .int _ _
noncomputable def uO (g : Bool) (i j : Int) : List Str := B5.filter fun m => decide (lM m i j = g)
theorem Fo (i j : Int) : lM "=" i j = decide (i = j) := by unfold lM; rw [afi (by decide +kernel), afi (by decide +kernel), afk rfl]
theorem Fp (i j : Int) : lM "!=" i j = !decide (i = j) := by unfold lM; rw [afi (by decide +kernel), afi (by decide +kernel), afi (by decide +kernel)]
theorem B6 (g : Bool) (i j : Int) : 0 < (uO g i j).length := by
 have mem : ∀ m ∈ B5, lM m i j = g -> 0 < (uO g i j).length := fun m hm h => List.length_pos_of_mem (agi.mpr ⟨hm, agr h⟩)
 cases g with
 | true =>
   by_cases e : i = j
   . exact mem "=" (by decide +kernel) (by rw [Fo]; exact agr e)
   . exact mem "!=" (by decide +kernel) (by rw [Fp, af0 e]; rfl)
 | false =>
   by_cases e : i = j
   . exact mem "!=" (by decide +kernel) (by rw [Fp, agr e]; rfl)
   . exact mem "=" (by decide +kernel) (by rw [Fo]; exact af0 e)
noncomputable def B7 (c : Int) : Bool := decide (0 < cz c 31 % 3)
noncomputable def sN (c : Int) (n : Nat) : Int := cz c 31 / 9 % ((n : Int) + 1) - 1
noncomputable def q8 (c : Int) (n : Nat) : Int := if cz c 31 / 729 % 3 = 0 then sN c n else cz c 31 / 81 % ((n : Int) + 1) - 1
noncomputable def yu (c : Int) : Int := if cz c 31 / 729 % 3 = 0 then eF (c / 3) + cz c 31 / 2187 % 3 - 1 else eF (c / 5 + 1)
theorem yw (c : Int) (n : Nat) : sN c n = -1 \/ (0 <= sN c n /\ sN c n < n) := by
 have a := afI (cz c 31 / 9) (b := (n : Int) + 1) (by omega)
 have b := afB (cz c 31 / 9) (b := (n : Int) + 1) (by omega)
 unfold sN
 omega
theorem Fq (c : Int) (n : Nat) : q8 c n = -1 \/ (0 <= q8 c n /\ q8 c n < n) := by
 have a := afI (cz c 31 / 81) (b := (n : Int) + 1) (by omega)
 have b := afB (cz c 31 / 81) (b := (n : Int) + 1) (by omega)
 unfold q8
 split
 . exact yw c n
 . omega
noncomputable def n8 (c : Int) (bs : List Int) : Int := oF (sN c bs.length) (eF (c / 3)) bs
noncomputable def jk (c : Int) (bs : List Int) : Int := oF (q8 c bs.length) (yu c) bs
noncomputable def B8 (c : Int) (bs : List Int) : Str := (uO (B7 c) (n8 c bs) (jk c bs)).getD (cz c 31 / 6561 % ((uO (B7 c) (n8 c bs) (jk c bs)).length : Nat)).toNat Str.empty
noncomputable def oG (ops : List Int) (m : Nat) (bs : List Int) (c : Int) : B4 :=
 if cz c 31 / 3 % 3 = 0 then .JT (decide (decide (cz c 31 / 9 % (m : Int) ∈ ops) = B7 c)) (cz c 31 / 9 % (m : Int))
 else .num (B8 c bs) (sN c bs.length) (eF (c / 3)) (q8 c bs.length) (yu c)
theorem G4 (c : Int) (bs : List Int) : B8 c bs ∈ B5 := by
 have hp := B6 (B7 c) (n8 c bs) (jk c bs)
 have hm : ∀ x ∈ uO (B7 c) (n8 c bs) (jk c bs), x ∈ B5 := fun x hx => (agi.mp hx).1
 have l0 := afI (cz c 31 / 6561) (b := ((uO (B7 c) (n8 c bs) (jk c bs)).length : Nat)) (by omega)
 have l1 := afB (cz c 31 / 6561) (b := ((uO (B7 c) (n8 c bs) (jk c bs)).length : Nat)) (by omega)
 unfold B8
 rw [afs, afn (by omega)]
 exact hm _ (agA _)
theorem NZ (ops : List Int) {m : Nat} (hm : 1 <= m) (bs : List Int) (c : Int) : (oG ops m bs c).Ok m bs := by
 unfold oG
 split
 . exact ⟨afI _ (by omega), afB _ (by omega)⟩
 . exact ⟨G4 c bs, yw _ _, Fq _ _⟩
noncomputable def RX (th : List Str) (k : Int) : List L3.D := ([[], [.tup [.str "call", .str (th.getD 0 Str.empty)]], [.tup [.str "say", .str (th.getD 1 Str.empty), .tup [.int (-1), .int 7]], .tup [.str "call", .str (th.getD 2 Str.empty)]]] : List (List L3.D)).getD k.toNat []
noncomputable def G5 (ops : List Int) (m : Nat) (bs : List Int) (c : Int) : List B4 := (List.range (cz c 11 / 100 % 3).toNat).map fun (k : Nat) => oG ops m bs (c / ((k : Int) + 1) + 17 * (k : Int))
noncomputable def JW (ops : List Int) (m : Nat) (bs : List Int) (th : List Str) (c : Int) : e7 where
 src := if cz c 11 % 2 = 0 then ops.getD (cz c 11 / 2 % (ops.length : Nat)).toNat 0 else cz c 11 / 2 % (m : Int)
 sign := th.getD (cz c 13 / 300 % 3).toNat Str.empty
 asks := (G5 ops m bs c).map pP
 pL := RX th (cz c 11 / 300 % 3)
 tgt := if cz c 13 % 5 = 0 then -1 else cz c 13 / 5 % (m : Int)
 mode := if cz c 13 % 5 = 0 then "new" else (["new", "near", "far"] : List Str).getD (cz c 13 / 100 % 3).toNat Str.empty
structure uP (m : Nat) (bs : List Int) (w : e7) : Prop where
 src : 0 <= w.src /\ w.src < m
 sign : PyData.strOk w.sign = true
 asks : ∃ l : List B4, w.asks = l.map pP /\ l.length <= 2 /\ ∀ a ∈ l, a.Ok m bs
 pL : D.bT w.pL = true /\ ∀ d ∈ w.pL, ji 10 d
 tgt : -1 <= w.tgt /\ w.tgt < m
 mode : PyData.strOk w.mode = true
theorem UN {th : List Str} (h : ∀ x ∈ th, PyData.strOk x = true) (h3 : th.length = 3) (k : Int) : D.bT (RX th k) = true /\ ∀ d ∈ RX th k, ji 10 d := by
 have g : ∀ i, i < 3 -> PyData.strOk (th.getD i Str.empty) = true := fun i hi => by
   rw [afs, afn (by omega)]
   exact h _ (agA _)
 have e2 : ∀ {a b : L3.D}, ji 9 a -> ji 9 b -> ji 10 (.tup [a, b]) := fun ha hb => .tup fun d hd => by
   rcases afm.mp hd with rfl | hd
   . exact ha
   . rw [afG.mp hd]; exact hb
 unfold RX
 by_cases k0 : k.toNat = 0
 . rw [k0]; exact ⟨rfl, fun d hd => by cases hd⟩
 . by_cases k1 : k.toNat = 1
   . rw [k1]
     refine ⟨rfl, fun d hd => ?_⟩
     rw [afG.mp hd]
     exact e2 (.str _ _ (by decide +kernel)) (.str _ _ (g 0 (by omega)))
   . by_cases k2 : k.toNat = 2
     . rw [k2]
       refine ⟨rfl, fun d hd => ?_⟩
       rcases afm.mp hd with rfl | hd
       . refine .tup fun d hd => ?_
         rcases afm.mp hd with rfl | hd
         . exact .str _ _ (by decide +kernel)
         . rcases afm.mp hd with rfl | hd
           . exact .str _ _ (g 1 (by omega))
           . rw [afG.mp hd]
             refine .tup fun d hd => ?_
             rcases afm.mp hd with rfl | hd
             . exact .int _ _
             . rw [afG.mp hd]; exact .int _ _
       . rw [afG.mp hd]
         exact e2 (.str _ _ (by decide +kernel)) (.str _ _ (g 2 (by omega)))
     . rw [afs, agR (by simp; omega)]
       exact ⟨rfl, fun d hd => by cases hd⟩
theorem JX {ops : List Int} {m : Nat} {bs : List Int} {th : List Str} (hm : 1 <= m) (ho : 1 <= ops.length) (N1 : ∀ x ∈ ops, 0 <= x /\ x < m) (h : ∀ x ∈ th, PyData.strOk x = true) (h3 : th.length = 3) (c : Int) : uP m bs (JW ops m bs th c) where
 src := by
   dsimp only [JW]
   split
   . have l0 := afI (cz c 11 / 2) (b := (ops.length : Nat)) (by omega)
     have l1 := afB (cz c 11 / 2) (b := (ops.length : Nat)) (by omega)
     rw [afs, afn (by omega)]
     exact N1 _ (agA _)
   . exact ⟨afI _ (by omega), afB _ (by omega)⟩
 sign := by
   have l0 := afI (cz c 13 / 300) (show (3 : Int) ≠ 0 by decide)
   have l1 := afB (cz c 13 / 300) (show (0 : Int) < 3 by decide)
   show PyData.strOk (th.getD _ _) = true
   rw [afs, afn (by omega)]
   exact h _ (agA _)
 asks := ⟨G5 ops m bs c, rfl, by unfold G5; rw [afj, agL]; omega, fun a ha => by
   obtain ⟨k, _, rfl⟩ := afJ.mp ha
   exact NZ ops hm bs _⟩
 pL := UN h h3 _
 tgt := by
   dsimp only [JW]
   split
   . omega
   . have l0 := afI (cz c 13 / 5) (b := (m : Int)) (by omega)
     have l1 := afB (cz c 13 / 5) (b := (m : Int)) (by omega)
     omega
 mode := by
   dsimp only [JW]
   split
   . decide +kernel
   . have : cz c 13 / 100 % 3 = 0 \/ cz c 13 / 100 % 3 = 1 \/ cz c 13 / 100 % 3 = 2 := by omega
     rcases this with e | e | e <;> rw [e] <;> decide +kernel
theorem uP.jz {m : Nat} {bs : List Int} {w : e7} (h : uP m bs w) : (dP w).jz = true := by
 obtain ⟨l, e, _, _⟩ := h.asks
 show (true && (true && (D.bT w.asks && (D.bT w.pL && (true && (true && true)))))) = true
 rw [e, jC (fun a => uN a), h.pL.1]
 rfl
theorem UO {n m : Nat} {d : L3.D} (h : ji n d) (hm : n <= m) : ji m d := by
 induction h generalizing m with
 | non n => exact .non _
 | bl n b => exact .bl _ _
 | int n i => exact .int _ _
 | str n x h => exact .str _ _ h
 | tup h ih =>
   obtain ⟨k, rfl⟩ : ∃ k, m = k + 1 := ⟨m - 1, by omega⟩
   exact .tup fun d hd => ih d hd (by omega)
 | lst h ih =>
   obtain ⟨k, rfl⟩ : ∃ k, m = k + 1 := ⟨m - 1, by omega⟩
   exact .lst fun d hd => ih d hd (by omega)
theorem uP.dep {m : Nat} {bs : List Int} {w : e7} (h : uP m bs w) : ji 12 (dP w) := by
 obtain ⟨l, e, _, hl⟩ := h.asks
 refine .tup fun d hd => ?_
 simp only [afm, af5, or_false] at hd
 rcases hd with rfl | rfl | rfl | rfl | rfl | rfl
 . exact .int _ _
 . exact .str _ _ h.sign
 . refine .tup fun d hd => ?_
   rw [e] at hd
   obtain ⟨a, ha, rfl⟩ := afJ.mp hd
   exact JV (hl a ha)
 . exact .tup fun d hd => h.pL.2 d hd
 . exact .int _ _
 . exact .str _ _ h.mode
noncomputable def uQ (s ops : List Int) (m : Nat) (bs : List Int) (th : List Str) : List e7 := bB e7.src (s.map (JW ops m bs th))
theorem JY {s ops : List Int} {m : Nat} {bs : List Int} {th : List Str} (hm : 1 <= m) (ho : 1 <= ops.length) (N1 : ∀ x ∈ ops, 0 <= x /\ x < m) (h : ∀ x ∈ th, PyData.strOk x = true) (h3 : th.length = 3) : (uQ s ops m bs th).length = s.length /\ ∀ w ∈ uQ s ops m bs th, uP m bs w := by
 unfold uQ
 refine ⟨by rw [fN, afj], fun w hw => ?_⟩
 obtain ⟨c, _, rfl⟩ := afJ.mp (dF.mp hw)
 exact JX hm ho N1 h h3 c
noncomputable def pQ (m : Nat) (bs : List Int) (ws : List e7) : Prop := ws.length <= 63 /\ ∀ w ∈ ws, uP m bs w
theorem pQ.bT {m : Nat} {bs : List Int} {ws : List e7} (h : pQ m bs ws) : D.bT (ws.map dP) = true := o9 fun d hd => by
 obtain ⟨w, hw, rfl⟩ := afJ.mp hd
 exact (h.2 w hw).jz
theorem pQ.dep {m : Nat} {bs : List Int} {ws : List e7} (h : pQ m bs ws) (n : Nat) : ji (n + 13) (.lst (ws.map dP)) := .lst fun d hd => by
 obtain ⟨w, hw, rfl⟩ := afJ.mp hd
 exact UO (h.2 w hw).dep (by omega)
noncomputable def w0 : e7 := ⟨0, Str.empty, [], [], 0, Str.empty⟩
noncomputable def j7 (ws : List e7) (i : Int) : e7 := ws.getD i.toNat w0
theorem iY {ws : List e7} {i : Int} (h0 : 0 <= i) (h1 : i < ws.length) : j7 ws i ∈ ws := by
 unfold j7
 rw [afs, afn (by omega)]
 exact agA _
noncomputable def mO (ks : List Str) (es : List Int) (w : e7) : Int := pK (fV ks) es w.src w.tgt
noncomputable def nW (ws : List e7) (i : Int) : Bool := !decide ((j7 ws i).tgt = -1)
noncomputable def sC (es : List Int) (t u : Int) : Bool := decide (t = u) || (decide (t = -1) || decide (u = -1)) || (decide (u ∈ bX es t) || decide (t ∈ bX es u))
noncomputable def Ft (a b : List Int) : Bool := a.any fun x => decide (x ∈ b)
noncomputable def DV (ks : List Str) (es : List Int) (src tgt : Int) : List Int := if tgt = -1 then [] else Ig es (pK (fV ks) es src tgt)
theorem tu {es : List Int} {t x : Int} : x ∈ Ig es t ↔ (0 <= x /\ x < es.length) /\ (t = -1 \/ t ∈ bX es x) := by
 unfold Ig
 constructor
 . intro h
   obtain ⟨i, hi, rfl⟩ := afJ.mp h
   obtain ⟨h1, h2⟩ := agi.mp hi
   have := agf.mp h1
   simp only [Bool.or_eq_true, agJ] at h2
   exact ⟨⟨by omega, by omega⟩, h2⟩
 . rintro ⟨⟨h0, h1⟩, h2⟩
   refine afJ.mpr ⟨x.toNat, agi.mpr ⟨agf.mpr (by omega), ?_⟩, by omega⟩
   simp only [Bool.or_eq_true, agJ]
   rw [show ((x.toNat : Nat) : Int) = x by omega]
   exact h2
theorem uR {xm : Int -> Bool} {es : List Int} {a c : Int} : pK xm es a c = -1 \/ pK xm es a c ∈ bX es a := by
 unfold pK
 cases e : (bX es a).find? (fun x => xm x && decide (x ∈ bX es c)) with
 | none => exact .inl rfl
 | some x => exact .inr (List.mem_of_find?_eq_some e)
theorem D4 {es : List Int} (ht : fK es) {a c t u : Int} (a0 : 0 <= a) (a1 : a < es.length) (c0 : 0 <= c) (c1 : c < es.length) (XT : t = -1 \/ t ∈ bX es a) (huc : u = -1 \/ u ∈ bX es c) : Ft (Ig es t) (Ig es u) = sC es t u := by
 have key : Ft (Ig es t) (Ig es u) = true ↔ sC es t u = true := by
   unfold Ft sC
   simp only [List.any_eq_true, agJ, Bool.or_eq_true]
   constructor
   . rintro ⟨x, hx, hy⟩
     obtain ⟨⟨x0, x1⟩, h1⟩ := tu.mp hx
     obtain ⟨_, h2⟩ := tu.mp hy
     rcases h1 with h1 | h1
     . exact .inl (.inr (.inl h1))
     . rcases h2 with h2 | h2
       . exact .inl (.inr (.inr h2))
       . rcases NF ht x0 x1 h1 h2 with z | z | z
         . exact .inl (.inl z)
         . exact .inr (.inr z)
         . exact .inr (.inl z)
   . have RZ : ∀ {v : Int}, (v = -1 \/ v ∈ bX es a) -> a ∈ Ig es v := fun h => tu.mpr ⟨⟨a0, a1⟩, h⟩
     have Wm : ∀ {v : Int}, (v = -1 \/ v ∈ bX es c) -> c ∈ Ig es v := fun h => tu.mpr ⟨⟨c0, c1⟩, h⟩
     rintro ((h | h | h) | (h | h))
     . subst h; exact ⟨a, RZ XT, RZ XT⟩
     . exact ⟨c, Wm (.inl h), Wm huc⟩
     . exact ⟨a, RZ XT, RZ (.inl h)⟩
     . rcases XT with z | z
       . exact ⟨c, Wm (.inl z), Wm huc⟩
       . exact ⟨a, RZ (.inr z), RZ (.inr (qW ht a0 a1 z h))⟩
     . rcases huc with z | z
       . exact ⟨a, RZ XT, RZ (.inl z)⟩
       . exact ⟨c, Wm (.inr (qW ht c0 c1 z h)), Wm (.inr z)⟩
 cases h1 : Ft (Ig es t) (Ig es u) <;> cases h2 : sC es t u
 . rfl
 . rw [h1, h2] at key; simp at key
 . rw [h1, h2] at key; simp at key
 . rfl
noncomputable def UQ (ks : List Str) (es : List Int) (w v : e7) : Bool := (!decide (w.tgt = -1) && !decide (v.tgt = -1)) && sC es (mO ks es w) (mO ks es v)
theorem uS {ks : List Str} {es : List Int} (ht : fK es) {w v : e7} (w0 : 0 <= w.src) (w1 : w.src < es.length) (v0 : 0 <= v.src) (v1 : v.src < es.length) : Ft (DV ks es w.src w.tgt) (DV ks es v.src v.tgt) = UQ ks es w v := by
 unfold DV UQ
 by_cases h1 : w.tgt = -1
 . rw [afk h1, agr h1]; rfl
 . rw [afi h1, af0 h1]
   by_cases h2 : v.tgt = -1
   . rw [afk h2, agr h2]
     unfold Ft
     simp
   . rw [afi h2, af0 h2]
     exact D4 ht w0 w1 v0 v1 uR uR
theorem XU {ks : List Str} {es : List Int} (w v : e7) : UQ ks es w v = UQ ks es v w := by
 unfold UQ sC
 simp only [Bool.and_comm (!decide (w.tgt = -1))]
 congr 1
 have e1 : decide (mO ks es w = mO ks es v) = decide (mO ks es v = mO ks es w) := by simp [eq_comm]
 rw [e1, Bool.or_comm (decide (mO ks es w = -1)), Bool.or_comm (decide (mO ks es v ∈ bX es (mO ks es w)))]
noncomputable def abD : L3.D -> Int
 | .tup (_ :: _ :: _ :: _ :: .int t :: _) => t
 | _ => 0
noncomputable def jF (ln : List Int) (y : Int) : Nat := ln.findIdx (fun z => decide (z = y))
theorem JZ {ln : List Int} {y : Int} (h : y ∈ ln) : jF ln y < ln.length := List.findIdx_lt_length_of_exists ⟨y, h, by simp⟩
theorem tD {ln : List Int} {y : Int} (h : y ∈ ln) : ln[jF ln y]? = some y := by
 have hl := JZ h
 have := List.findIdx_getElem (w := hl)
 rw [afn hl]
 exact congrArg some (afE this)
theorem J1 {ln : List Int} {y : Int} {i : Nat} (h : i < jF ln y) : ln[i]? ≠ some y := fun e => by
 have hl : i < ln.length := (afC.mp e).1
 have := List.not_of_lt_findIdx h
 rw [(afC.mp e).2] at this
 simp at this
theorem N2 {ln : List Int} (nd : ln.Nodup) {y : Int} {i : Nat} (hy : y ∈ ln) : jF ln y = i ↔ ln[i]? = some y := by
 constructor
 . rintro rfl; exact tD hy
 . intro e
   have h1 := tD hy
   have hl := JZ hy
   have hi : i < ln.length := (afC.mp e).1
   rw [afn hl] at h1
   rw [afn hi] at e
   have e3 := (afF h1).trans (afF e).symm
   have np := List.pairwise_iff_getElem.mp nd
   rcases Nat.lt_trichotomy (jF ln y) i with z | z | z
   . exact absurd e3 (np _ _ hl hi z)
   . exact z
   . exact absurd e3.symm (np _ _ hi hl z)
noncomputable def G6 (h : Int -> Bool) (tp : Int -> Int) (tm : Int -> Int -> Bool) (s : List Int × List Int) (k : Int) : List Int × List Int :=
 if h k = true then (if s.2.any (tm (tp k)) = true then s else (s.1 ++ [k], s.2 ++ [tp k])) else (s.1 ++ [k], s.2)
structure ZW (h : Int -> Bool) (tp : Int -> Int) (tm : Int -> Int -> Bool) (R : Int -> Int -> Prop) (P : List Int) (s : List Int × List Int) : Prop where
 sub : s.1.Sublist P
 lN : s.2 = (s.1.filter h).map tp
 apart : ∀ a ∈ s.1, ∀ b ∈ s.1, a ≠ b -> h a = true -> h b = true -> tm (tp a) (tp b) = false
 over : ∀ x ∈ P, x ∉ s.1 -> h x = true /\ ∃ y ∈ s.1, R y x /\ h y = true /\ tm (tp x) (tp y) = true
theorem R0 {h : Int -> Bool} {tp : Int -> Int} {tm : Int -> Int -> Bool} {R : Int -> Int -> Prop} (sy : ∀ a b, tm a b = tm b a) : ∀ (l P : List Int) (s : List Int × List Int), (P ++ l).Nodup -> (P ++ l).Pairwise R -> ZW h tp tm R P s -> ZW h tp tm R (P ++ l) (l.foldl (G6 h tp tm) s)
 | [], P, s, _, _, I => by rw [af2]; exact I
 | x :: l, P, s, nd, pr, I => by
   have e : P ++ x :: l = (P ++ [x]) ++ l := by simp
   rw [e] at nd pr ⊢
   rw [List.foldl_cons]
   refine R0 sy l (P ++ [x]) _ nd pr ?_
   have nx : x ∉ P := fun hx => by
     have := (afY.mp (afY.mp nd).1).2.2 x hx x (by simp)
     exact this rfl
   have rx : ∀ y ∈ P, R y x := fun y hy => (List.pairwise_append.mp (List.pairwise_append.mp pr).1).2.2 y hy x (by simp)
   have nc : x ∉ s.1 := fun hx => nx (I.sub.subset hx)
   have keep : (∀ z ∈ s.1, h x = true -> h z = true -> tm (tp x) (tp z) = false) -> (h x = true -> (s.1 ++ [x], s.2 ++ [tp x]) = (s.1 ++ [x], ((s.1 ++ [x]).filter h).map tp)) -> ∀ t, t = ((s.1 ++ [x]).filter h).map tp -> ZW h tp tm R (P ++ [x]) (s.1 ++ [x], t) := fun hz _ t ht => by
     refine ⟨I.sub.append (afQ _), ht, fun a ha b hb ne ia ib => ?_, fun y hy hn => ?_⟩
     . rcases afu.mp ha with ha | ha
       . rcases afu.mp hb with hb | hb
         . exact I.apart a ha b hb ne ia ib
         . rw [afG.mp hb] at ib ⊢
           rw [sy]
           exact hz a ha ib ia
       . rw [afG.mp ha] at ia ne ⊢
         rcases afu.mp hb with hb | hb
         . exact hz b hb ia ib
         . exact absurd (afG.mp hb).symm ne
     . have Zv : y ∉ s.1 /\ y ≠ x := ⟨fun z => hn (afy _ z), fun z => hn (afh _ (by rw [z]; simp))⟩
       rcases afu.mp hy with hy | hy
       . obtain ⟨h1, z, hz, h2⟩ := I.over y hy Zv.1
         exact ⟨h1, z, afy _ hz, h2⟩
       . exact absurd (afG.mp hy) Zv.2
   unfold G6
   by_cases hx : h x = true
   . rw [afk hx]
     by_cases ha : s.2.any (tm (tp x)) = true
     . rw [afk ha]
       obtain ⟨t, ht, hm⟩ := List.any_eq_true.mp ha
       rw [I.lN] at ht
       obtain ⟨y, hy, rfl⟩ := afJ.mp ht
       obtain ⟨RN, Ni⟩ := agi.mp hy
       refine ⟨I.sub.trans (List.sublist_append_left _ _), I.lN, I.apart, fun z hz hn => ?_⟩
       rcases afu.mp hz with hz | hz
       . exact I.over z hz hn
       . rw [afG.mp hz]
         exact ⟨hx, y, RN, rx y (I.sub.subset RN), Ni, hm⟩
     . rw [afi ha]
       refine keep (fun z hz _ hh => ?_) (fun _ => by rw [agt, ag6 hx]; simp [I.lN]) _ ?_
       . cases e : tm (tp x) (tp z) with
         | false => rfl
         | true => exact absurd (List.any_eq_true.mpr ⟨tp z, by rw [I.lN]; exact afJ.mpr ⟨z, agi.mpr ⟨hz, hh⟩, rfl⟩, e⟩) ha
       . rw [agt, ag6 hx]; simp [I.lN]
   . rw [afi hx]
     refine keep (fun z hz hh _ => absurd hh hx) (fun hh => absurd hh hx) _ ?_
     rw [agt, List.filter_cons_of_neg hx]; simp [I.lN]
theorem B9 {g : Int -> Int} {l : List Int} (nd : l.Nodup) : (bB g l).Pairwise fun a c => g a < g c \/ (g a = g c /\ jF l a < jF l c) := by
 have el : l = (List.range l.length).map fun i => l.getD i 0 := agH fun i => by
   rw [afV]
   by_cases hi : i < l.length
   . rw [agx hi, afn hi]
     show _ = some (l.getD i 0)
     rw [afs, afn hi]; rfl
   . rw [List.getElem?_eq_none (by omega), List.getElem?_eq_none (by simpa using hi)]; rfl
 have XW : ∀ i, i < l.length -> jF l (l.getD i 0) = i := fun i hi => by
   have hg : l[i]? = some (l.getD i 0) := by rw [afs, afn hi]; rfl
   exact (N2 nd (af7 hg)).mpr hg
 have h1 : bB g l = (bB (fun i => g (l.getD i 0)) (List.range l.length)).map fun i => l.getD i 0 := by
   conv => lhs; rw [el]
   exact iB _ _
 rw [h1]
 refine List.pairwise_map.mpr ((qU List.pairwise_lt_range).imp_of_mem fun {i j} hi hj h => ?_)
 have hi := agf.mp (dF.mp hi)
 have hj := agf.mp (dF.mp hj)
 rw [XW i hi, XW j hj]
 exact h
theorem J2 (es : List Int) (t u : Int) : sC es t u = sC es u t := by
 unfold sC
 have e1 : decide (t = u) = decide (u = t) := by simp [eq_comm]
 rw [e1, Bool.or_comm (decide (t = -1)), Bool.or_comm (decide (u ∈ bX es t))]
noncomputable def oN (es : List Int) (ws : List e7) (k : Int) : Int := -((bX es (j7 ws k).src).length : Nat)
noncomputable def Ca (ks : List Str) (es : List Int) (ws : List e7) (l : List Int) : List Int × List Int := l.foldl (G6 (nW ws) (fun k => mO ks es (j7 ws k)) (sC es)) ([], [])
theorem J3 (ks : List Str) (es : List Int) (ws : List e7) (l : List Int) (k : Int) : Ca ks es ws (l ++ [k]) = G6 (nW ws) (fun k => mO ks es (j7 ws k)) (sC es) (Ca ks es ws l) k := by
 unfold Ca; rw [List.foldl_append]; rfl
theorem N3 {h : Int -> Bool} {tp : Int -> Int} {tm : Int -> Int -> Bool} (s : List Int × List Int) (k : Int) : (G6 h tp tm s k).1.length <= s.1.length + 1 /\ (G6 h tp tm s k).2.length <= s.2.length + 1 := by
 unfold G6
 split
 . split
   . omega
   . simp
 . simp
theorem Fv (ks : List Str) (es : List Int) (ws : List e7) : ∀ l : List Int, (Ca ks es ws l).1.length <= l.length /\ (Ca ks es ws l).2.length <= l.length := by
 have gen : ∀ (l : List Int) (s : List Int × List Int), (l.foldl (G6 (nW ws) (fun k => mO ks es (j7 ws k)) (sC es)) s).1.length <= s.1.length + l.length /\ (l.foldl (G6 (nW ws) (fun k => mO ks es (j7 ws k)) (sC es)) s).2.length <= s.2.length + l.length := by
   intro l
   induction l with
   | nil => intro s; simp
   | cons k l ih =>
     intro s
     have h1 := N3 (h := nW ws) (tp := fun k => mO ks es (j7 ws k)) (tm := sC es) s k
     have h2 := ih (G6 (nW ws) (fun k => mO ks es (j7 ws k)) (sC es) s k)
     rw [List.foldl_cons, afM]
     omega
 intro l
 have := gen l ([], [])
 simpa [Ca] using this
theorem N4 {ks : List Str} {es : List Int} {ws : List e7} {row : List Int} (nd : row.Nodup) :
   ZW (nW ws) (fun k => mO ks es (j7 ws k)) (sC es) (fun a c => oN es ws a < oN es ws c \/ (oN es ws a = oN es ws c /\ jF row a < jF row c)) (bB (oN es ws) row) (Ca ks es ws (bB (oN es ws) row)) := by
 have := R0 (h := nW ws) (tp := fun k => mO ks es (j7 ws k)) (R := fun a c => oN es ws a < oN es ws c \/ (oN es ws a = oN es ws c /\ jF row a < jF row c)) (J2 es) (bB (oN es ws) row) [] ([], []) (by rw [agv]; exact (gw row).nodup_iff.mpr nd) (by rw [agv]; exact B9 nd) ⟨.slnil, rfl, fun a ha => (by cases ha), fun x hx => (by cases hx)⟩
 rw [agv] at this
 exact this
noncomputable def kZ (ks : List Str) (es : List Int) (ws : List e7) (row : List Int) : List Int := sortI (Ca ks es ws (bB (oN es ws) row)).1
noncomputable abbrev tE : Stmt := top 23
noncomputable abbrev yx : Type := Int × Int
noncomputable def e9 : yx -> List L3.D := fun (c, s) => [.int c, .int s]
noncomputable def fc : yx -> Prop := fun (c, s) => True
noncomputable def fh : yx -> T := fun (c, s) => (.sh (.int (cz c s)) : T)
structure N5 (X : Cx) (CL : Str -> Addr) : Prop extends bZ X where
 cU : Ln X 0 "cell"
 UR : Ln X 1 "salt"
 aP : Ln X 2 "mixed"
theorem N6 {X : Cx} {CL : Str -> Addr} {b : Bx} (E : N5 X CL) (c s) (h : fc (c, s)) :
   ay X CL b tE ["cell", "salt", "mixed"] (e9 (c, s)) (fh (c, s)) := by
 dsimp only [ay, fc, e9, fh] at h ⊢
 refine aO E.g E.aP (aW (aZ (ah (ow (ah (ef (ah (aZ (aH E.cU) (ah aj) (by decide))) (aH E.UR))) (ah aj) (.inr ⟨by decide, by decide⟩))) (ah aj) (by decide)) (t2 := .sh (.int (XQ c s))) rfl) ?_
 obtain ⟨m0, m1⟩ := XR c s
 refine bu (aZ (ah (ow (aH E.aP) (aH E.aP) (.inl ⟨by omega, by omega⟩))) (ah aj) (by decide)) rfl
theorem uT : jy (ao tE) ([("cell", au), ("salt", au), ("mixed", au)]) = true := by decide +kernel
theorem Cb : aL ["cell", "salt", "mixed"] ["cell", "salt"] (ao tE) := aU
noncomputable abbrev mP : Stmt := top 18
noncomputable abbrev rg : Type := List Int × Int
noncomputable def dR : rg -> List L3.D := fun (ns, j) => [.lst (ns.map .int), .int j]
noncomputable def dS : rg -> Prop := fun (ns, j) => 0 <= j
noncomputable def dU : rg -> T := fun (ns, j) => (.sh (.int (bA ns j)) : T)
structure G7 (X : Cx) (CL : Str -> Addr) : Prop extends bZ X where
 aY : Ln X 0 "script"
 jl : Ln X 1 "k"
 cL : Gl X "len"
 cI : X.mg "len" = none
theorem G8 {X : Cx} {CL : Str -> Addr} {b : Bx} (E : G7 X CL) (ns j) (h : dS (ns, j)) :
   ay X CL b mP ["script", "k"] (dR (ns, j)) (dU (ns, j)) := by
 dsimp only [ay, dS, dR, dU] at h ⊢
 refine dX (IX (aH E.jl) (ah (E6 E.cI (aH E.aY) E.cL))).1 (fun hp => ?_) (fun hp => ?_)
 . have e : j < ns.length := by simpa using of_decide_eq_true hp
   refine bu (dg (aM (aH E.aY) (aH E.jl) (eN h e)) rfl) ?_
   show T.sh _ = T.sh (.int (bA ns j))
   rw [bA, afk e]
 . have e : ¬ j < ns.length := by simpa using of_decide_eq_false hp
   refine av (bu aj ?_)
   show T.sh _ = T.sh (.int (bA ns j))
   rw [bA, afi e]
theorem oH : jy (ao mP) ([("script", au), ("k", au), ("len", aA)]) = true := by decide +kernel
theorem uU : aL ["script", "k"] ["script", "k"] (ao mP) := aU
noncomputable abbrev tF : Stmt := top 24
noncomputable abbrev yy : Type := List Int × Int
noncomputable def gA : yy -> List L3.D := fun (es, m) => [.lst (es.map .int), .int m]
noncomputable def dH : yy -> Prop := fun (es, m) => fK es /\ 0 <= m /\ m < es.length /\ es.length <= 1000
noncomputable def gB : yy -> T := fun (es, m) => (.lst (((bX es m).map .int).map T.sh) : T)
structure N7 (X : Cx) (CL : Str -> Addr) : Prop extends bZ X where
 bQ : Ln X 0 "elders"
 eS : Ln X 1 "mood"
 aV : Ln X 2 "found"
 J4 : Ln X 3 "at"
theorem N8 {X : Cx} {CL : Str -> Addr} {b : Bx} (E : N7 X CL) (es m) (h : dH (es, m)) :
   ay X CL b tF ["elders", "mood", "found", "at"] (gA (es, m)) (gB (es, m)) := by
 dsimp only [ay, dH, gA, gB] at h ⊢
 obtain ⟨ht, h0, h1, hlen⟩ := h
 refine aO E.g E.aV (eB eu (afP _)) ?_
 refine aO E.g E.J4 (dg (aM (aH E.bQ) (aH E.eS) (eN h0 h1)) rfl) ?_
 have hm := ht.at h0 h1
 refine Fb E.g (fun n δ => ∃ (k : Int) (l : List Int), δ = [some (.sh (.lst (es.map .int))), some (.sh (.int m)), some (.lst ((l.map .int).map T.sh)), some (.sh (.int k))] /\ -1 <= k /\ k < n /\ k < es.length /\ l ++ qH n es k = bX es m /\ l.length + n <= es.length + 1) (es.length + 1)
   ⟨es.getD m.toNat 0, [], rfl, hm.1, by omega, by omega, rfl, by simp⟩ ?_
 rintro n δ ⟨k, l, rfl, k0, k1, k2, k3, k4⟩
 refine ⟨_, _, (qL (aH E.J4) (ah (dD (ah aj)))).1, fun hp => ?_, fun hp => ?_⟩
 . have hk : ¬ k = -1 := by simpa using hp
   have ha := ht.at (k := k) (by omega) k2
   cases n with
   | zero => omega
   | succ n =>
     refine iW E.aV.1 rfl (v_ E.J4.1) rfl (by simp; omega) ?_
     refine aO E.g E.J4 (dg (aM (aH E.bQ) (aH E.J4) (eN (by omega) k2)) rfl) ?_
     refine av ⟨n, Nat.lt_succ_self _, es.getD k.toNat 0, l ++ [k], ?_, ha.1, by omega, by omega, ?_, by simp; omega⟩
     . show [_, _, some (T.lst (((l.map D.int).map T.sh) ++ [T.sh (.int k)])), _] = _
       simp
     . rw [← k3, qH, afi hk, afr]
       rfl
 . have hk : k = -1 := by simpa using hp
   subst hk
   have e : l = bX es m := by
     rw [← k3]
     cases n with
     | zero => rw [qH, af2]
     | succ n => rw [qH, afk rfl, af2]
   subst e
   exact bu (vM E.aV.1) rfl
theorem pR : jy (ao tF) ([("elders", au), ("mood", au), ("found", au), ("at", au)]) = true := by decide +kernel
theorem Cd : aL ["elders", "mood", "found", "at"] ["elders", "mood"] (ao tF) := aU
noncomputable abbrev pS : Stmt := top 25
noncomputable abbrev uV : Type := List Int
noncomputable def j8 : uV -> List L3.D := fun s => [.lst (s.map .int)]
noncomputable def j9 : uV -> Prop := fun s => s.length <= 1000
noncomputable def kg : uV -> T := fun s => (.lst (((iU s).map .int).map T.sh) : T)
structure J5 (X : Cx) (CL : Str -> Addr) : Prop extends bZ X where
 aY : Ln X 0 "script"
 fL : Ln X 1 "many"
 bQ : Ln X 2 "elders"
 jl : Ln X 3 "k"
 mQ : Ln X 4 "roads"
 bz : Gl X "_law_mixed"
 aR : Gl X "_law_cell_at"
 ck : Gl X "range"
 fj : Gl X "_law_chain"
 cL : Gl X "len"
 dm : Fc X CL "_law_mixed" 1 2 e9 fc fh
 bR : Fc X CL "_law_cell_at" 1 2 dR dS dU
 cu : X.mg "range" = none
 iZ : Fc X CL "_law_chain" 1 2 gA dH gB
 cI : X.mg "len" = none
theorem J6 {X : Cx} {CL : Str -> Addr} {b : Bx} (E : J5 X CL) (s) (h : j9 s) :
   ay X CL b pS ["script", "many", "elders", "k", "roads"] (j8 s) (kg s) := by
 dsimp only [ay, j9, j8, kg] at h ⊢
 have c0 := yp (bA s 0) 2
 refine aO E.g E.fL (aW (ef (ah aj) (ah (aZ (ah (c_ ((bA s 0, 2)) E.dm E.bz (ai (ah (c_ ((s, 0)) E.bR E.aR (ai (aH E.aY) (ai (ah aj) aF)) (show (0 : Int) <= 0 by omega) rfl)) (ai (ah aj) aF)) (trivial) rfl)) (ah aj) (by decide)))) (t2 := .sh (.int (cntK s))) rfl) ?_
 refine aO E.g E.bQ (iX (aJ (dD (ah aj)) cE) (aK rfl)) ?_
 obtain ⟨k0, k1⟩ := JQ s
 refine iV E.g E.jl (fun j δ => ∃ o5, δ = [some (.sh (.lst (s.map .int))), some (.sh (.int (cntK s))), some (.lst (((nV s j).map .int).map T.sh)), (if j = 0 then none else some (.sh (.int ((j : Int) - 1)))), o5])
   (fu E.cu (ah (jX (aH E.fL) (ah aj))) (by omega) E.ck) ⟨_, rfl⟩ (fun j δ ⟨_, e⟩ => by subst e; exact afl rfl) ?turn ?fin
 case turn =>
   rintro j d δ hj ⟨o5, rfl⟩
   obtain ⟨rfl, sX⟩ := iK hj
   rw [agm]
   obtain ⟨hl, sJ⟩ := yr s j
   have ht := sJ.1
   obtain ⟨r1, r2, r3⟩ := su (k := j) ht hl.symm
   have T9 : nV s (j + 1) = nV s j ++ [XS s (nV s j) j] := rfl
   show fF X CL b _ _ { nx := fun δ => ∃ o5, δ = [_, _, some (.lst (((nV s (j + 1)).map .int).map T.sh)), (if j + 1 = 0 then none else some (.sh (.int (((j + 1 : Nat) : Int) - 1)))), o5], rt := _, bk := _, ct := _ }
   rw [T9, afi (show ¬ (j + 1 = 0) by omega), show ((j + 1 : Nat) : Int) - 1 = (j : Int) by omega]
   generalize nV s j = es at hl ht r1 r2 r3 ⊢
   have hcl : (bX es (j : Int)).length <= es.length + 1 := yj _ _ _
   refine aO E.g E.mQ (Nh (ds := [.int (j : Int)]) (Mp := (bX es (j : Int)).map .int) (dh (ds := [.int (j : Int)]) (eB (gZ (v_ E.jl.1) eu) (aK rfl)))
     (dh (c_ (es, (j : Int)) E.iZ E.fj (ai (vL E.bQ.1) (ai (aH E.jl) aF)) (show fK es /\ (0 : Int) <= j /\ (j : Int) < es.length /\ es.length <= 1000 from ⟨ht, by omega, by omega, by omega⟩) (by show (T.lst _).clean = true; rw [gu]; exact lD _))) rfl (cK _) (age (dw (by simp; omega)))) ?_
   have er : ([L3.D.int (j : Int)] ++ (bX es (j : Int)).map L3.D.int) = ([(j : Int)] ++ bX es j).map L3.D.int := rfl
   rw [er]
   have hlr : (([(j : Int)] ++ bX es j).map L3.D.int).length = ([(j : Int)] ++ bX es j).length := by simp
   refine wX (fun δ => δ = [some (.sh (.lst (s.map .int))), some (.sh (.int (cntK s))), some (.lst ((es.map .int).map T.sh)), some (.sh (.int j)), some (.lst (((bU es j).map .int).map T.sh))])
     (wW (ah (cj hlr E.cI (vL E.mQ.1) E.cL)) (ah aj)).1 (fun hp => ?_) (fun hp => ?_) ?_
   . have e : (12 : Int) < (([(j : Int)] ++ bX es j).length : Nat) := afE hp
     refine aO E.g E.mQ (uB (vL E.mQ.1) (cK _) (sU (ah aj)) sS) (av ?_)
     rw [Bv]
     unfold bU
     rw [afk e]
     rfl
   . have e : ¬ (12 : Int) < (([(j : Int)] ++ bX es j).length : Nat) := afD hp
     refine av ?_
     unfold bU
     rw [afi e]
     rfl
   rintro δ rfl
   have hl2 : ((bU es j).map L3.D.int).length = (bU es j).length := by simp
   have b1 := afI (cz (bA s ((j : Int) + 1)) (3 + (j : Int))) (b := ((bU es j).length : Nat)) (by omega)
   have b2 := afB (cz (bA s ((j : Int) + 1)) (3 + (j : Int))) (b := ((bU es j).length : Nat)) (by omega)
   have est : ((es.map L3.D.int).map T.sh) ++ [T.sh (.int (XS s es j))] = ((es ++ [XS s es j]).map L3.D.int).map T.sh := by simp
   refine iW E.bQ.1 rfl (aW (dg (aM (vL E.mQ.1) (ah (aZ (ah (c_ ((bA s ((j : Int) + 1), 3 + (j : Int))) E.dm E.bz (ai (ah (c_ ((s, (j : Int) + 1)) E.bR E.aR (ai (aH E.aY) (ai (ah (ef (aH E.jl) (ah aj))) aF)) (show (0 : Int) <= (j : Int) + 1 by omega) rfl)) (ai (ah (ef (ah aj) (aH E.jl))) aF)) (trivial) rfl)) (ah (cj (hl2) E.cI (vL E.mQ.1) E.cL)) (by omega))) (eN b1 b2)) rfl) (t2 := .sh (.int (XS s es j))) rfl) rfl (by simp; omega) (av ?_)
   rw [est]
   exact ⟨_, rfl⟩
 case fin =>
   rintro δ ⟨o5, rfl⟩
   refine bu (vM E.bQ.1) ?_
   have e : (bL 0 (cntK s - 1).toNat).length = (cntK s - 1).toNat := by simp [bL]
   rw [e]
   rfl
theorem dZ : jy (ao pS) ([("script", au), ("many", au), ("elders", au), ("k", au), ("roads", au), ("_law_mixed", aA), ("_law_cell_at", aA), ("range", aA), ("_law_chain", aA), ("len", aA)]) = true := by decide +kernel
theorem xr : aL ["script", "many", "elders", "k", "roads"] ["script"] (ao pS) := aU
noncomputable abbrev tG : Stmt := top 26
noncomputable abbrev yz : Type := List Int
noncomputable def mR : yz -> List L3.D := fun s => [.lst (s.map .int)]
noncomputable def mS : yz -> Prop := fun s => s.length <= 1000
noncomputable def mU : yz -> T := fun s => (pO (pM s (iU s) (iU s).length) (iU s) (uM s (iU s) (iU s).length) (qZ s (iU s) (iU s).length) : T)
structure N9 (X : Cx) (CL : Str -> Addr) : Prop extends bZ X where
 aY : Ln X 0 "script"
 bQ : Ln X 1 "elders"
 uW : X.env.kindOf "elders" = some .cell
 kh : Ln X 2 "kinds"
 jG : Ln X 3 "starts"
 bY : Ln X 4 "opens"
 jl : Ln X 5 "k"
 k_k : X.env.kindOf "k" = some .cell
 aP : Ln X 6 "mixed"
 rj : Ln X 7 "mine"
 wH : Gl X "_law_elders"
 ck : Gl X "range"
 cL : Gl X "len"
 bz : Gl X "_law_mixed"
 aR : Gl X "_law_cell_at"
 J7 : Fc X CL "_law_elders" 2 1 j8 j9 kg
 cu : X.mg "range" = none
 cI : X.mg "len" = none
 dm : Fc X CL "_law_mixed" 1 2 e9 fc fh
 bR : Fc X CL "_law_cell_at" 1 2 dR dS dU
theorem Oa {X : Cx} {CL : Str -> Addr} {b : Bx} (E : N9 X CL) (s) (h : mS s) :
   ay X CL b tG ["script", "elders", "kinds", "starts", "opens", "k", "mixed", "mine"] (mR s) (mU s) := by
 dsimp only [ay, mS, mR, mU] at h ⊢
 refine aO E.g E.bQ (aW (c_ (s) E.J7 E.wH (ai (aH E.aY) aF) (h) (bI _)) (t2 := .lst (((iU s).map .int).map T.sh)) rfl) ?_
 obtain ⟨n1, n2, sJ⟩ := Fl s
 generalize iU s = es at n1 n2 sJ ⊢
 refine aO E.g E.kh (eB eu (afP _)) ?_
 refine aO E.g E.jG (eB eu (afP _)) ?_
 refine aO E.g E.bY (eB eu (afP _)) ?_
 refine iV E.g E.jl (fun j δ => ∃ o5 o6 o7, δ = [some (.sh (.lst (s.map .int))), some (.lst ((es.map .int).map T.sh)), some (.lst (((pM s es j).map .str).map T.sh)), some (.lst (((uM s es j).map .int).map T.sh)), some (.lst (((qZ s es j).map .int).map T.sh)), o5, o6, o7])
   (fu E.cu (ah (cj (afj ..) E.cI (vL E.bQ.1) E.cL)) (by omega) E.ck) ⟨_, _, _, rfl⟩ (fun j δ ⟨_, _, _, e⟩ => by subst e; exact afl rfl) ?turn ?fin
 case turn =>
   rintro j d δ hj ⟨o5, o6, o7, rfl⟩
   obtain ⟨rfl, sX⟩ := iK hj
   rw [agm]
   refine aO E.g E.aP (aW (c_ ((bA s (j : Int), 101 + (j : Int))) E.dm E.bz (ai (ah (c_ ((s, (j : Int))) E.bR E.aR (ai (aH E.aY) (ai (aH E.jl) aF)) (show (0 : Int) <= (j : Int) by omega) rfl)) (ai (ah (ef (ah aj) (aH E.jl))) aF)) (trivial) rfl) (t2 := .sh (.int (Ih s j))) rfl) ?_
   have hin : (((bL 0 (es.length : Int).toNat).filter fun d => decide (es.getD d.v9.toNat 0 = (j : Int))).map fun d => T.sh d) = ((xo es (j : Int)).map L3.D.int).map T.sh := by
     unfold bL xo
     rw [List.filter_map, afT, afT, afT, af6]
     have e1 : ((fun d : L3.D => decide (es.getD d.v9.toNat 0 = (j : Int))) ∘ fun i : Nat => L3.D.int (0 + (i : Int))) = fun i : Nat => decide (es.getD i 0 = (j : Int)) := by
       funext i
       show decide (es.getD (0 + (i : Int)).toNat 0 = (j : Int)) = _
       rw [agm, af6]
     rw [e1]
     congr 1
     funext i
     show T.sh (.int (0 + (i : Int))) = T.sh (.int i)
     rw [agm]
   refine oB (p := fun d => decide (es.getD d.v9.toNat 0 = (j : Int))) (gg := fun d => T.sh d) E.g E.rj (cD (.cons E.bQ.1 (.inl E.uW) (.cons E.jl.1 (.inl E.k_k) .nil)) (by decide +kernel)) (fu E.cu (ah (cj (afj ..) E.cI (vL E.bQ.1) E.cL)) (by omega) E.ck) (.inl ⟨rfl, fun d hd => by obtain ⟨i, _, rfl⟩ := afJ.mp hd; rfl⟩) (fun C s0 H0 f0 b' d hd => ?G9) (age (dw (by simp [bL]; omega))) ?rest (by exact afl rfl) (iJ ⟨_, rfl⟩)
   case G9 =>
     obtain ⟨i, hi, rfl⟩ := afJ.mp hd
     have HZ : i < es.length := by simpa using hi
     exact ⟨(dz (aM (Jj (ah (v_ (fS (i := 1) rfl (by decide +kernel)))) (cZ _)) (ah (v_ (fQ (i := 0) rfl (by decide +kernel)))) (eN (show (0 : Int) <= 0 + (i : Int) by omega) (show 0 + (i : Int) < es.length by omega))) (ah (v_ (fS (i := 2) rfl (by decide +kernel))))).1, fun _ => v_ (fQ (i := 0) rfl (by decide +kernel))⟩
   case rest =>
   rw [hin]
   have hml := NP es (j : Int)
   have kl : (pM s es j).length = j := by simp [pM]
   have sl : (uM s es j).length = j := by simp [uM]
   have ol : (qZ s es j).length = j := by simp [qZ]
   have ek : pM s es (j + 1) = pM s es j ++ [Ds s es j] := by simp [pM, ag1]
   have esn : uM s es (j + 1) = uM s es j ++ [stK s es j] := by simp [uM, ag1]
   have eo : qZ s es (j + 1) = qZ s es j ++ [Wj s es j] := by simp [qZ, ag1]
   show fF X CL b _ _ { nx := fun δ => ∃ o5 o6 o7, δ = [_, _, some (.lst (((pM s es (j + 1)).map .str).map T.sh)), some (.lst (((uM s es (j + 1)).map .int).map T.sh)), some (.lst (((qZ s es (j + 1)).map .int).map T.sh)), o5, o6, o7], rt := _, bk := _, ct := _ }
   rw [ek, esn, eo]
   generalize pM s es j = ks at kl ⊢
   generalize uM s es j = ss at sl ⊢
   generalize qZ s es j = os at ol ⊢
   have aS : ∀ (l : List Str) (x : Str), (l.map L3.D.str).map T.sh ++ [T.sh (.str x)] = ((l ++ [x]).map L3.D.str).map T.sh := by intros; simp
   have aI : ∀ (l : List Int) (x : Int), (l.map L3.D.int).map T.sh ++ [T.sh (.int x)] = ((l ++ [x]).map L3.D.int).map T.sh := by intros; simp
   refine iW E.kh.1 rfl b8 rfl (by simp; omega) ?_
   rw [aS]
   refine iW E.jG.1 rfl (dD (ah aj)) rfl (by simp; omega) ?_
   rw [aI]
   have abF : ∀ (x y : Str), (((ks ++ [x]).map L3.D.str).map T.sh).set j (T.sh (.str y)) = ((ks ++ [y]).map L3.D.str).map T.sh := fun x y => by
     rw [← List.map_set, ← List.map_set, List.set_append, afi (by omega), kl, Nat.sub_self]; rfl
   have XY : ∀ (x y : Int), (((ss ++ [x]).map L3.D.int).map T.sh).set j (T.sh (.int y)) = ((ss ++ [y]).map L3.D.int).map T.sh := fun x y => by
     rw [← List.map_set, ← List.map_set, List.set_append, afi (by omega), sl, Nat.sub_self]; rfl
   have abG : ∀ (l : List Str) (x : Str), l.length = j -> Gm (((l ++ [x]).map L3.D.str).map T.sh).length (j : Int) = some j := fun l x e => by
     rw [afj, afj, afK]; unfold Gm; rw [afk (by omega), afk (by simp; omega), af6]
   have abH : ∀ (l : List Int) (x : Int), l.length = j -> Gm (((l ++ [x]).map L3.D.int).map T.sh).length (j : Int) = some j := fun l x e => by
     rw [afj, afj, afK]; unfold Gm; rw [afk (by omega), afk (by simp; omega), af6]
   refine wX (fun δ => δ = [some (.sh (.lst (s.map .int))), some (.lst ((es.map .int).map T.sh)), some (.lst (((ks ++ [Ds s es j]).map .str).map T.sh)), some (.lst (((ss ++ [-1]).map L3.D.int).map T.sh)), some (.lst ((os.map .int).map T.sh)), some (.sh (.int j)), some (.sh (.int (Ih s j))), some (.lst (((xo es (j : Int)).map .int).map T.sh))])
     (uA E.u (vL E.rj.1) (dh (ds := []) (eB eu (afP _))) (dG _) (dG [])).1 (fun hp => ?_) (fun hp => ?_) ?_
   . have qG : xo es (j : Int) ≠ [] := fun e => by
       rw [e] at hp
       have : E7 (.lst (([] : List Int).map L3.D.int)) (.lst []) = true := lC (dG [])
       rw [this] at hp
       cases hp
     have ekd : Ds s es j = (["all", "one"] : List Str).getD (Ih s j % 2).toNat Str.empty := by unfold Ds; rw [afi qG]
     refine RL E.kh.1 (aW (dg (aM (dh (iX (aJ b8 (aJ b8 cE)) (aK rfl))) (ah (aZ (aH E.aP) (ah aj) (by decide))) (fJ (f := L3.D.str) (l := ["all", "one"]) Str.empty (afI _ (by decide)) (afB _ (by decide)))) rfl) (t2 := .sh (.str (Ds s es j))) (by rw [ekd])) (aH E.jl) rfl (abG ks _ kl) (av ?_)
     rw [abF]
     rfl
   . have he : xo es (j : Int) = [] := by
       generalize xo es (j : Int) = l at hp
       cases l with
       | nil => rfl
       | cons x l =>
         have : E7 (.lst ((x :: l).map L3.D.int)) (.lst []) = false := rfl
         rw [this] at hp
         cases hp
     have ekd : Ds s es j = "leaf" := by unfold Ds; rw [afk he]
     refine av ?_
     rw [ekd]
     rfl
   rintro δ rfl
   have Ob : oS ((ks ++ [Ds s es j]).map L3.D.str) (j : Int) = some (.str (Ds s es j)) := by
     refine (fJ Str.empty (by omega) (by rw [afK, kl]; simp only [afM, agu]; omega)).trans ?_
     rw [af6, afs, ago (by omega), kl, Nat.sub_self]
     rfl
   refine dX (qM (aM (vL E.kh.1) (aH E.jl) (Ob)) (ah b8)).1 (fun hp => ?_) (fun hp => ?_)
   . have hp := afE hp
     have qG := List.length_pos_iff.mpr (NS hp)
     have hm2 : ((xo es (j : Int)).map L3.D.int).length = (xo es (j : Int)).length := by simp
     have c1 := afI (Ih s j / 2) (b := ((xo es (j : Int)).length : Nat)) (by omega)
     have c2 := afB (Ih s j / 2) (b := ((xo es (j : Int)).length : Nat)) (by omega)
     have c3 := afI (Ih s j / 22) (b := ((xo es (j : Int)).length : Nat)) (by omega)
     have c4 := afB (Ih s j / 22) (b := ((xo es (j : Int)).length : Nat)) (by omega)
     refine RL E.jG.1 (aW (dg (aM (vL E.rj.1) (ah (aZ (ah (bK (aH E.aP) (ah aj) ⟨by decide, by decide⟩)) (ah (cj (hm2) E.cI (vL E.rj.1) E.cL)) (by omega))) (eN c1 c2)) rfl) (t2 := .sh (.int (stK s es j))) (by unfold stK; rw [afk hp])) (aH E.jl) rfl (abH ss _ sl) ?_
     rw [XY]
     refine iW E.bY.1 rfl (aW (dg (aM (vL E.rj.1) (ah (aZ (ah (bK (aH E.aP) (ah aj) ⟨by decide, by decide⟩)) (ah (cj (hm2) E.cI (vL E.rj.1) E.cL)) (by omega))) (eN c3 c4)) rfl) (t2 := .sh (.int (Wj s es j))) (by unfold Wj; rw [afk hp])) rfl (by simp; omega) (av (av ?_))
     rw [aI]
     exact ⟨_, _, _, rfl⟩
   . have hp := afD hp
     refine iW E.bY.1 rfl (dD (ah aj)) rfl (by simp; omega) (av (av ?_))
     rw [aI, show stK s es j = -1 by unfold stK; rw [afi hp], show Wj s es j = -1 by unfold Wj; rw [afi hp]]
     exact ⟨_, _, _, rfl⟩
 case fin =>
   rintro δ ⟨o5, o6, o7, rfl⟩
   have e : (bL 0 (es.length : Int).toNat).length = es.length := by simp [bL]
   rw [e]
   exact bu (eB (gZ (vM E.kh.1) (gZ (vM E.bQ.1) (gZ (vM E.jG.1) (gZ (vM E.bY.1) eu)))) (aK rfl)) rfl
theorem cM : jy (ao tG) ([("script", au), ("elders", .cell), ("kinds", au), ("starts", au), ("opens", au), ("k", .cell), ("mixed", au), ("mine", au), ("_law_elders", aA), ("range", aA), ("len", aA), ("_law_mixed", aA), ("_law_cell_at", aA)]) = true := by decide +kernel
theorem Ce : aL ["script", "elders", "kinds", "starts", "opens", "k", "mixed", "mine"] ["script"] (ao tG) := aU
noncomputable abbrev tH : Stmt := top 27
noncomputable abbrev yC : Type := List Str × List Int × List Int × List Int
noncomputable def mV : yC -> List L3.D := fun (ks, es, ss, os) => [pN ks es ss os]
noncomputable def jH : yC -> Prop := fun (ks, es, ss, os) => 1 <= es.length /\ es.length <= 900 /\ os.length = es.length /\ fK es
noncomputable def mW : yC -> T := fun (ks, es, ss, os) => (.lst (((xq es os (es.length - 1)).map .int).map T.sh) : T)
structure Oc (X : Cx) (CL : Str -> Addr) : Prop extends bZ X where
 bG : Ln X 0 "lists"
 bY : Ln X 1 "opens"
 jl : Ln X 2 "k"
 g6 : Ln X 3 "elder"
 ck : Gl X "range"
 cL : Gl X "len"
 cu : X.mg "range" = none
 cI : X.mg "len" = none
theorem Od {X : Cx} {CL : Str -> Addr} {b : Bx} (E : Oc X CL) (ks es ss os) (h : jH (ks, es, ss, os)) :
   ay X CL b tH ["lists", "opens", "k", "elder"] (mV (ks, es, ss, os)) (mW (ks, es, ss, os)) := by
 dsimp only [ay, jH, mV, mW] at h ⊢
 obtain ⟨ZJ, hl, ho, ht⟩ := h
 refine aO E.g E.bY (iX (aJ aj cE) (aK rfl)) ?_
 refine iV E.g E.jl (fun j δ => ∃ o o', δ = [some (.sh (pN ks es ss os)), some (.lst (((xq es os j).map .int).map T.sh)), o, o'])
   (Gy E.cu (ah aj) (ah (cj (afj ..) E.cI (aM (aH E.bG) (ah aj) rfl) E.cL)) (by omega) E.ck) ⟨_, _, rfl⟩ (fun j δ ⟨_, _, e⟩ => by subst e; exact afl rfl) ?turn ?fin
 case turn =>
   rintro j d δ hj ⟨o, o', rfl⟩
   obtain ⟨rfl, sX⟩ := iK hj
   have Wn := (yt (es := es) (os := os) j).2
   have ej : (1 + (j : Int)).toNat = j + 1 := by omega
   have ejI : (1 + (j : Int)) = ((j + 1 : Nat) : Int) := by omega
   refine aO E.g E.g6 (aW (dg (aM (aM (aH E.bG) (ah aj) rfl) (aH E.jl) (eN (by omega) (by omega))) rfl) (congrArg (fun z => T.sh (.int (es.getD z 0))) ej)) ?_
   have ha := ht (j + 1) (by omega)
   show fF X CL b _ _ { nx := fun δ => ∃ o o', δ = [_, some (.lst (((xq es os (j + 1)).map .int).map T.sh)), o, o'], rt := _, bk := _, ct := _ }
   rw [xq]
   generalize es.getD (j + 1) 0 = x at ha ⊢
   have hx0 : x ∈ xq es os j -> 0 <= x := fun hx => (sZ j hx).1
   refine dX (nU (gS (gG (aH E.g6) (vL E.bY.1) rfl rfl).1 (fun hb => (mK (gG (l := [-1, 1 + (j : Int)]) (aM (aM (aH E.bG) (ah aj) rfl) (aH E.g6) (eN (hx0 (afE hb)) (by omega))) (ah (cO (aJ (dD (ah aj)) (aJ (v_ E.jl.1) cE)) (aK rfl))) rfl rfl).1)))) (fun hp => ?_) (fun hp => av (av ?_))
   . simp only [af4, agJ] at hp
     refine iW E.bY.1 rfl (v_ E.jl.1) rfl (by simp; omega) (av (av ?_))
     rw [afk ⟨hp.1, by
       have := hp.2
       simp only [afm, af5, or_false] at this
       rw [← ejI]
       exact this⟩]
     have e1 : ((xq es os j).map L3.D.int).map T.sh ++ [T.sh (.int (1 + (j : Int)))] = ((xq es os j ++ [((j + 1 : Nat) : Int)]).map L3.D.int).map T.sh := by
       rw [ejI]; simp
     rw [e1]
     exact ⟨_, _, rfl⟩
   . rw [afi (fun z => by
       have : (decide (x ∈ xq es os j) && decide (os.getD x.toNat 0 ∈ [-1, 1 + (j : Int)])) = true := by
         simp only [af4, agJ, afm, af5, or_false]
         exact ⟨z.1, by rw [ejI]; exact z.2⟩
       rw [this] at hp
       cases hp)]
     exact ⟨_, _, rfl⟩
 case fin =>
   rintro δ ⟨o, o', rfl⟩
   have e : (bL 1 ((es.length : Int) - 1).toNat).length = es.length - 1 := by simp [bL]
   rw [e]
   exact bu (vM E.bY.1) rfl
theorem jI : jy (ao tH) ([("lists", au), ("opens", au), ("k", au), ("elder", au), ("range", aA), ("len", aA)]) = true := by decide +kernel
theorem Cg : aL ["lists", "opens", "k", "elder"] ["lists"] (ao tH) := aU
noncomputable abbrev pT : Stmt := top 19
noncomputable abbrev uX : Type := Int
noncomputable def ki : uX -> List L3.D := fun a => [.int a]
noncomputable def ko : uX -> Prop := fun a => True
noncomputable def kr : uX -> T := fun a => (.sh (.int (fW a)) : T)
structure J8 (X : Cx) (CL : Str -> Addr) : Prop extends bZ X where
 cU : Ln X 0 "cell"
 oJ : Ln X 1 "size"
theorem J9 {X : Cx} {CL : Str -> Addr} {b : Bx} (E : J8 X CL) (a) (h : ko a) :
   ay X CL b pT ["cell", "size"] (ki a) (kr a) := by
 dsimp only [ay, ko, ki, kr] at h ⊢
 refine dX (dz (ah (aZ (aH E.cU) (ah aj) (by decide))) (ah aj)).1 (fun hp => ?_) (fun hp => ?_)
 . have e : a % 2 = 0 := afE hp
   refine bu (jX (ah (aZ (ah (bK (aH E.cU) (ah aj) ⟨by decide, by decide⟩)) (ah aj) (by decide))) (ah aj)) ?_
   show T.sh _ = T.sh (.int (fW a))
   rw [fW, afk e]
 . have e : ¬ a % 2 = 0 := afD hp
   refine av ?_
   refine aO E.g E.oJ (aZ (ah (ow (ah (bK (aH E.cU) (ah aj) ⟨by decide, by decide⟩)) (ah aj) (.inr ⟨by decide, by decide⟩))) (ah (DP (ah aj) (ah aj) ⟨by decide, by decide, by decide⟩)) (by decide)) ?_
   refine dX (dz (ah (aZ (aH E.cU) (ah aj) (by decide))) (ah aj)).1 (fun hp => ?_) (fun hp => ?_)
   . have e2 : a % 4 = 1 := afE hp
     refine bu (v_ E.oJ.1) ?_
     show T.sh _ = T.sh (.int (fW a))
     rw [fW, afi e, afk e2]
     rfl
   . have e2 : ¬ a % 4 = 1 := afD hp
     refine av (bu (dD (aH E.oJ)) ?_)
     show T.sh _ = T.sh (.int (fW a))
     rw [fW, afi e, afi e2]
     rfl
theorem xu : jy (ao pT) ([("cell", au), ("size", au)]) = true := by decide +kernel
theorem xx : aL ["cell", "size"] ["cell"] (ao pT) := aU
noncomputable abbrev tK : Stmt := top 28
noncomputable abbrev yE : Type := List Int
noncomputable def mX : yE -> List L3.D := fun a => [.lst (a.map .int)]
noncomputable def mY : yE -> Prop := fun a => a.length <= 1000
noncomputable def mZ : yE -> T := fun a => (.lst (((Wk a).map .int).map T.sh) : T)
structure Oe (X : Cx) (CL : Str -> Addr) : Prop extends bZ X where
 aY : Ln X 0 "script"
 uY : X.env.kindOf "script" = some .cell
 fL : Ln X 1 "many"
 bz : Gl X "_law_mixed"
 aR : Gl X "_law_cell_at"
 ck : Gl X "range"
 dm : Fc X CL "_law_mixed" 1 2 e9 fc fh
 bR : Fc X CL "_law_cell_at" 1 2 dR dS dU
 cu : X.mg "range" = none
 Ka : Fc X CL "_law_number" 1 1 ki ko kr
theorem Og {X : Cx} {CL : Str -> Addr} {b : Bx} (E : Oe X CL) (a) (h : mY a) :
   ay X CL b tK ["script", "many"] (mX a) (mZ a) := by
 dsimp only [ay, mY, mX, mZ] at h ⊢
 refine aO E.g E.fL (aW (aZ (ah (c_ ((bA a 0, 7)) E.dm E.bz (ai (ah (c_ ((a, 0)) E.bR E.aR (ai (aH E.aY) (ai (ah aj) aF)) (show (0 : Int) <= 0 by omega) rfl)) (ai (ah aj) aF)) (trivial) rfl)) (ah aj) (by decide)) (t2 := .sh (.int (cz (bA a 0) 7 % 6))) rfl) ?_
 have m0 := afI (cz (bA a 0) 7) (show (6 : Int) ≠ 0 by decide)
 have m1 := afB (cz (bA a 0) 7) (show (0 : Int) < 6 by decide)
 refine bu (Nt (p := fun _ => true) (g := fun d => .sh (.int (fW (bA a (d.v9 + 1) + 5 * d.v9)))) (cD (.cons E.aY.1 (.inl E.uY) .nil) (by decide +kernel)) E.g.calm (fu E.cu (aH E.fL) (by omega) E.ck) (.inl ⟨rfl, fun _ _ => rfl⟩) (fun C s0 H0 f0 b' d hd => ?G9) (age (dw (by simp [bL]; omega)))) ?res
 case G9 =>
   obtain ⟨j, hj, rfl⟩ := afJ.mp hd
   exact ⟨rfl, fun _ => aW (c_ (bA a ((0 + (j : Int)) + 1) + 5 * (0 + (j : Int))) (jZ E.Ka) (gE (by decide +kernel)) (ai (ah (ef (ah (c_ ((a, (0 + (j : Int)) + 1)) (jZ E.bR) (gE (by decide +kernel)) (ai (ah (v_ (fS (i := 1) rfl (by decide +kernel)))) (ai (ah (ef (ah (v_ (fQ (i := 0) rfl (by decide +kernel)))) (ah aj))) aF)) (show (0 : Int) <= (0 + (j : Int)) + 1 by omega) rfl)) (ah (ow (ah aj) (ah (v_ (fQ (i := 0) rfl (by decide +kernel)))) (.inl ⟨by decide, by decide⟩))))) aF) (trivial) rfl) rfl⟩
 case res =>
   show T.lst _ = T.lst _
   rw [eO]
   unfold bL Wk
   rw [afT, afT, afT]
   congr 1
   refine agY fun j _ => ?_
   show T.sh (.int (fW (bA a ((0 : Int) + j + 1) + 5 * ((0 : Int) + j)))) = T.sh (.int (fW (bA a ((j : Int) + 1) + 5 * (j : Int))))
   rw [agm]
theorem jJ : jy (ao tK) ([("script", .cell), ("many", au), ("_law_mixed", aA), ("_law_cell_at", aA), ("range", aA)]) = true := by decide +kernel
theorem Ci : aL ["script", "many"] ["script"] (ao tK) := aU
noncomputable abbrev yF : Stmt := top 22
noncomputable abbrev D5 : Type := Int
noncomputable def pU : D5 -> List L3.D := fun c => [.int c]
noncomputable def pV : D5 -> Prop := fun c => True
noncomputable def pW : D5 -> T := fun c => (.sh (.str (iN c)) : T)
structure UT (X : Cx) (CL : Str -> Addr) : Prop extends bZ X where
 cU : Ln X 0 "cell"
 rq : Ln X 1 "letters"
 aP : Ln X 2 "mixed"
 jm : Ln X 3 "name"
 jl : Ln X 4 "k"
 ck : Gl X "range"
 cu : X.mg "range" = none
theorem UU {X : Cx} {CL : Str -> Addr} {b : Bx} (E : UT X CL) (c) (h : pV c) :
   ay X CL b yF ["cell", "letters", "mixed", "name", "k"] (pU c) (pW c) := by
 dsimp only [ay, pV, pU, pW] at h ⊢
 refine aO E.g E.rq b8 ?_
 refine aO E.g E.aP (aZ (ah (bK (aH E.cU) (ah aj) ⟨by decide, by decide⟩)) (ah (DP (ah aj) (ah aj) ⟨by decide, by decide, by decide⟩)) (by decide)) ?_
 generalize hm0 : c / 12 % 10 ^ (9 : Int).toNat = m0
 have e0 : nm0 c = (m0, sM (m0 % 26)) := by rw [← hm0]; rfl
 have XZ : G0.length = 36 := by decide +kernel
 have m26 := fun m : Int => afI m (show (26 : Int) ≠ 0 by decide)
 have l26 := fun m : Int => afB m (show (0 : Int) < 26 by decide)
 have m36 := fun m : Int => afI m (show (36 : Int) ≠ 0 by decide)
 have l36 := fun m : Int => afB m (show (0 : Int) < 36 by decide)
 refine aO E.g E.jm (IZ (aH E.rq) (ah (aZ (aH E.aP) (ah aj) (by decide))) (by rw [afU]; decide +kernel) (by rw [JL]; exact Jg 0 (m26 _) (by have := l26 m0; rw [XZ]; omega))) ?_
 have c0 := afI c (show (12 : Int) ≠ 0 by decide)
 have c1 := afB c (show (0 : Int) < 12 by decide)
 refine iV E.g E.jl (fun j δ => ∃ o, δ = [some (.sh (.int c)), some (.sh (.str "abcdefghijklmnopqrstuvwxyz0123456789")), some (.sh (.int (iM (m0, sM (m0 % 26)) j).1)), some (.sh (.str (iM (m0, sM (m0 % 26)) j).2)), o])
   (fu E.cu (ah (aZ (aH E.cU) (ah aj) (by decide))) (by omega) E.ck) ⟨_, rfl⟩ (fun j δ ⟨_, e⟩ => by subst e; exact afl rfl) ?turn ?fin
 case turn =>
   rintro j d δ hj ⟨o, rfl⟩
   obtain ⟨rfl, sX⟩ := iK hj
   have ZX := JN (m0, sM (m0 % 26)) j
   have hn0 : (sM (m0 % 26)).length = 1 := rfl
   refine aO E.g E.aP (aZ (ah (ef (ah (ow (aH E.aP) (ah aj) (.inr ⟨by decide, by decide⟩))) (ah aj))) (ah aj) (by decide)) ?_
   refine aO E.g E.jm (ly (aH E.jm) (ah (IZ (aH E.rq) (ah (aZ (aH E.aP) (ah aj) (by decide))) (by rw [afU]; decide +kernel) (by rw [JL]; exact Jg 0 (m36 _) (by have := l36 (NQ (iM (m0, sM (m0 % 26)) j).1); unfold NQ at this; rw [XZ]; omega)))) (by rw [afU, ZX, hn0]; show 1 + j + 1 <= _; omega)) (av ⟨_, rfl⟩)
 case fin =>
   rintro δ ⟨o, rfl⟩
   have hn : (bL 0 (c % 12).toNat).length = (c % 12).toNat := by simp [bL]
   rw [hn]
   have hb : (iM (m0, sM (m0 % 26)) (c % 12).toNat).2 = Mq c := by unfold Mq; rw [e0]
   rw [hb]
   have ZU := Fj c
   refine dX (Jf (l := w13) (aH E.jm) (sV rfl)).1 (fun hp => ?_) (fun hp => av ?_)
   . refine bu (ly (aH E.jm) (ah b8) (by rw [afU]; show _ + 1 <= _; omega)) ?_
     show T.sh _ = T.sh (.str (iN c))
     rw [iN, afk (afE hp)]
   refine dX (Jf (l := w6) (aH E.jm) (sV rfl)).1 (fun hq => ?_) (fun hq => av ?_)
   . refine bu (ly (aH E.jm) (ah b8) (by rw [afU]; show _ + 1 <= _; omega)) ?_
     show T.sh _ = T.sh (.str (iN c))
     rw [iN, afi (afD hp), afk (afE hq)]
   . refine bu (v_ E.jm.1) ?_
     show T.sh _ = T.sh (.str (iN c))
     rw [iN, afi (afD hp), afi (afD hq)]
theorem m5 : jy (ao yF) ([("cell", au), ("letters", au), ("mixed", au), ("name", au), ("k", au), ("range", aA)]) = true := by decide +kernel
theorem Fw : aL ["cell", "letters", "mixed", "name", "k"] ["cell"] (ao yF) := aU
noncomputable abbrev tL : Stmt := top 29
noncomputable abbrev yG : Type := List Int
noncomputable def m7 : yG -> List L3.D := fun a => [.lst (a.map .int)]
noncomputable def m8 : yG -> Prop := fun a => a.length <= 1000
noncomputable def m9 : yG -> T := fun a => (.lst (((NV a).map .str).map T.sh) : T)
structure Oh (X : Cx) (CL : Str -> Addr) : Prop extends bZ X where
 aY : Ln X 0 "script"
 uZ : Ln X 1 "base"
 lO : Gl X "_law_name"
 aR : Gl X "_law_cell_at"
 D6 : Fc X CL "_law_name" 1 1 pU pV pW
 bR : Fc X CL "_law_cell_at" 1 2 dR dS dU
theorem Oi {X : Cx} {CL : Str -> Addr} {b : Bx} (E : Oh X CL) (a) (h : m8 a) :
   ay X CL b tL ["script", "base"] (m7 a) (m9 a) := by
 dsimp only [ay, m8, m7, m9] at h ⊢
 have hz : ∀ c, (iN c).length <= 13 := fun c => G3 c
 have hb : (sA a).length <= 13 := afZ (Txt.slice_le _ _ _) (hz _)
 refine aO E.g E.uZ (aW (GF (ah (c_ (bA a 0 / 2) E.D6 E.lO (ai (ah (bK (ah (c_ ((a, 0)) E.bR E.aR (ai (aH E.aY) (ai (ah aj) aF)) (show (0 : Int) <= 0 by omega) rfl)) (ah aj) ⟨by decide, by decide⟩)) aF) (trivial) rfl)) ((by rw [afU]; have := hz (bA a 0 / 2); omega)) sS (sU (ah aj))) (t2 := .sh (.str (sA a))) rfl) ?_
 show fF X CL b _ _ { nx := _, rt := fun DU _ => DU = T.lst (((NV a).map .str).map T.sh), bk := _, ct := _ }
 unfold NV
 generalize sA a = bs at hb ⊢
 refine dX (dz (ah (aZ (ah (c_ ((a, 0)) E.bR E.aR (ai (aH E.aY) (ai (ah aj) aF)) (show (0 : Int) <= 0 by omega) rfl)) (ah aj) (by decide))) (ah aj)).1 (fun hp => ?_) (fun hp => av ?_)
 . rw [afk (afE hp)]
   exact bu (iX (aJ (ly (aH E.uZ) (ah b8) ((by rw [afU]; show _ + 1 <= _; omega))) (aJ (ly (aH E.uZ) (ah b8) ((by rw [afU]; show _ + 2 <= _; omega))) (aJ (ly (aH E.uZ) (ah b8) ((by rw [afU]; show _ + 1 <= _; omega))) cE))) (aK rfl)) rfl
 . rw [afi (afD hp)]
   exact bu (iX (aJ (v_ E.uZ.1) (aJ (c_ (bA a 1 + 5) E.D6 E.lO (ai (ah (ef (ah (c_ ((a, 1)) E.bR E.aR (ai (aH E.aY) (ai (ah aj) aF)) (show (0 : Int) <= 1 by omega) rfl)) (ah aj))) aF) (trivial) rfl) (aJ (c_ (bA a 2 + 10) E.D6 E.lO (ai (ah (ef (ah (c_ ((a, 2)) E.bR E.aR (ai (aH E.aY) (ai (ah aj) aF)) (show (0 : Int) <= 2 by omega) rfl)) (ah aj))) aF) (trivial) rfl) cE))) (aK rfl)) rfl
theorem pX : jy (ao tL) ([("script", au), ("base", au), ("_law_name", aA), ("_law_cell_at", aA)]) = true := by decide +kernel
theorem Cj : aL ["script", "base"] ["script"] (ao tL) := aU
noncomputable abbrev tM : Stmt := top 20
noncomputable abbrev yH : Type := Int
noncomputable def ng : yH -> List L3.D := fun a => [.int a]
noncomputable def nh : yH -> Prop := fun a => True
noncomputable def ni : yH -> T := fun a => (.sh (.int (eF a)) : T)
structure Oj (X : Cx) (CL : Str -> Addr) : Prop extends bZ X where
 cU : Ln X 0 "cell"
 oJ : Ln X 1 "size"
theorem Ol {X : Cx} {CL : Str -> Addr} {b : Bx} (E : Oj X CL) (a) (h : nh a) :
   ay X CL b tM ["cell", "size"] (ng a) (ni a) := by
 dsimp only [ay, nh, ng, ni] at h ⊢
 refine dX (dz (ah (aZ (aH E.cU) (ah aj) (by decide))) (ah aj)).1 (fun hp => ?_) (fun hp => av ?_)
 . refine bu (jX (ah (aZ (ah (bK (aH E.cU) (ah aj) ⟨by decide, by decide⟩)) (ah aj) (by decide))) (ah aj)) ?_
   show T.sh _ = T.sh (.int (eF a))
   rw [eF, afk (afE hp)]
 . have e : ¬ a % 2 = 0 := afD hp
   refine aO E.g E.oJ (aW (aZ (ah (ow (ah (bK (aH E.cU) (ah aj) ⟨by decide, by decide⟩)) (ah aj) (.inr ⟨by decide, by decide⟩))) (ah (jX (ah (DP (ah aj) (ah aj) ⟨by decide, by decide, by decide⟩)) (ah aj))) (by decide)) (t2 := .sh (.int (a / 4 * 48271 % (10 ^ 30 - 1)))) rfl) ?_
   refine dX (dz (ah (aZ (aH E.cU) (ah aj) (by decide))) (ah aj)).1 (fun hp => ?_) (fun hp => av ?_)
   . refine bu (v_ E.oJ.1) ?_
     show T.sh _ = T.sh (.int (eF a))
     rw [eF, afi e, afk (afE hp)]
   . refine bu (dD (aH E.oJ)) ?_
     show T.sh _ = T.sh (.int (eF a))
     rw [eF, afi e, afi (afD hp)]
theorem Ck : jy (ao tM) ([("cell", au), ("size", au)]) = true := by decide +kernel
theorem Cm : aL ["cell", "size"] ["cell"] (ao tM) := aU
noncomputable abbrev tN : Stmt := top 30
noncomputable abbrev yI : Type := Int × Int × List Int
noncomputable def nj : yI -> List L3.D := fun (bx, mo, bs) => [.tup [.int bx, .int mo], .lst (bs.map .int)]
noncomputable def nq : yI -> Prop := fun (bx, mo, bs) => bx = -1 \/ (0 <= bx /\ bx < bs.length)
noncomputable def nu : yI -> T := fun (bx, mo, bs) => (.sh (.int (oF bx mo bs)) : T)
structure Om (X : Cx) (CL : Str -> Addr) : Prop extends bZ X where
 yJ : Ln X 0 "term"
 cB : Ln X 1 "boxes"
theorem Oo {X : Cx} {CL : Str -> Addr} {b : Bx} (E : Om X CL) (bx mo bs) (h : nq (bx, mo, bs)) :
   ay X CL b tN ["term", "boxes"] (nj (bx, mo, bs)) (nu (bx, mo, bs)) := by
 dsimp only [ay, nq, nj, nu] at h ⊢
 refine dX (dz (fH (aH E.yJ) (ah aj) rfl) (ah (dD (ah aj)))).1 (fun hp => ?_) (fun hp => ?_)
 . refine bu (dg (fH (aH E.yJ) (ah aj) rfl) rfl) ?_
   have e : bx = -1 := afE hp
   show T.sh (.int mo) = T.sh (.int (oF bx mo bs))
   rw [oF, afk e]
 . refine av ?_
   have e : ¬ bx = -1 := afD hp
   refine bu (ef (aM (aH E.cB) (fH (aH E.yJ) (ah aj) rfl) (eN (by omega) (by omega))) (fH (aH E.yJ) (ah aj) rfl)) ?_
   show T.sh _ = T.sh (.int (oF bx mo bs))
   rw [oF, afi e]
theorem Cp : jy (ao tN) ([("term", au), ("boxes", au)]) = true := by decide +kernel
theorem Cq : aL ["term", "boxes"] ["term", "boxes"] (ao tN) := aU
noncomputable abbrev Fx : Stmt := top 31
noncomputable abbrev Kc : Type := Str × Int × Int
noncomputable def tO : Kc -> List L3.D := fun (mk, i, j) => [.str mk, .int i, .int j]
noncomputable def tP : Kc -> Prop := fun (mk, i, j) => True
noncomputable def tQ : Kc -> T := fun (mk, i, j) => (.sh (.bl (lM mk i j)) : T)
structure X3 (X : Cx) (CL : Str -> Addr) : Prop extends bZ X where
 D7 : Ln X 0 "mark"
 fX : Ln X 1 "one"
 bf : Ln X 2 "other"
theorem X4 {X : Cx} {CL : Str -> Addr} {b : Bx} (E : X3 X CL) (mk i j) (h : tP (mk, i, j)) :
   ay X CL b Fx ["mark", "one", "other"] (tO (mk, i, j)) (tQ (mk, i, j)) := by
 dsimp only [ay, tP, tO, tQ] at h ⊢
 refine dX (qM (aH E.D7) (ah b8)).1 (fun hp => ?_) (fun hp => av ?_)
 . refine bu (IX (aH E.fX) (aH E.bf)).2 ?_
   show T.sh _ = T.sh (.bl (lM mk i j))
   rw [lM, afk (afE hp)]
 refine dX (qM (aH E.D7) (ah b8)).1 (fun hq => ?_) (fun hq => av ?_)
 . refine bu (RC (aH E.fX) (aH E.bf)).2 ?_
   show T.sh _ = T.sh (.bl (lM mk i j))
   rw [lM, afi (afD hp), afk (afE hq)]
 refine dX (qM (aH E.D7) (ah b8)).1 (fun hr => ?_) (fun hr => av ?_)
 . refine bu (dz (aH E.fX) (aH E.bf)).2 ?_
   show T.sh _ = T.sh (.bl (lM mk i j))
   rw [lM, afi (afD hp), afi (afD hq), afk (afE hr)]
 . refine bu (qL (aH E.fX) (aH E.bf)).2 ?_
   show T.sh _ = T.sh (.bl (lM mk i j))
   rw [lM, afi (afD hp), afi (afD hq), afi (afD hr)]
theorem D8 : jy (ao Fx) ([("mark", au), ("one", au), ("other", au)]) = true := by decide +kernel
theorem Kd : aL ["mark", "one", "other"] ["mark", "one", "other"] (ao Fx) := aU
noncomputable abbrev Fy : Stmt := top 32
noncomputable abbrev Ke : Type := Int × List Int × Nat × List Int
noncomputable def tR : Ke -> List L3.D := fun (c, ops, m, bs) => [.int c, .lst (ops.map .int), .int m, .lst (bs.map .int)]
noncomputable def pY : Ke -> Prop := fun (c, ops, m, bs) => 1 <= m /\ bs.length <= 1000
noncomputable def tS : Ke -> T := fun (c, ops, m, bs) => (.sh (pP (oG ops m bs c)) : T)
structure X5 (X : Cx) (CL : Str -> Addr) : Prop extends bZ X where
 cU : Ln X 0 "cell"
 bY : Ln X 1 "opens"
 fL : Ln X 2 "many"
 cB : Ln X 3 "boxes"
 aP : Ln X 4 "mixed"
 D9 : Ln X 5 "good"
 UW : X.env.kindOf "good" = some .cell
 eS : Ln X 6 "mood"
 fX : Ln X 7 "one"
 bf : Ln X 8 "other"
 Kf : Ln X 9 "side"
 UX : X.env.kindOf "side" = some .cell
 Fz : Ln X 10 "right"
 Oq : X.env.kindOf "right" = some .cell
 yK : Ln X 11 "marks"
 bz : Gl X "_law_mixed"
 Kg : Gl X "int"
 cL : Gl X "len"
 pZ : Gl X "_law_small"
 p9 : Gl X "_law_worth"
 dm : Fc X CL "_law_mixed" 1 2 e9 fc fh
 Kh : X.mg "int" = none
 cI : X.mg "len" = none
 FD : Fc X CL "_law_small" 1 1 ng nh ni
 FE : Fc X CL "_law_worth" 1 2 nj nq nu
 X6 : Fc X CL "_law_due" 1 3 tO tP tQ
theorem X7 {X : Cx} {CL : Str -> Addr} {b : Bx} (E : X5 X CL) (c ops m bs) (h : pY (c, ops, m, bs)) :
   ay X CL b Fy ["cell", "opens", "many", "boxes", "mixed", "good", "mood", "one", "other", "side", "right", "marks"] (tR (c, ops, m, bs)) (tS (c, ops, m, bs)) := by
 dsimp only [ay, pY, tR, tS] at h ⊢
 obtain ⟨hm, hb⟩ := h
 refine aO E.g E.aP (aW (c_ ((c, 31)) E.dm E.bz (ai (aH E.cU) (ai (ah aj) aF)) (trivial) rfl) (t2 := .sh (.int (cz c 31))) rfl) ?_
 refine aO E.g E.D9 (aW (wW (ah (aZ (aH E.aP) (ah aj) (by decide))) (ah aj)).2 (t2 := .sh (.bl (B7 c))) rfl) ?_
 show fF X CL b _ _ { nx := _, rt := fun DU _ => DU = T.sh (pP (oG ops m bs c)), bk := _, ct := _ }
 have c0 := yp c 31
 refine dX (dz (ah (aZ (ah (bK (aH E.aP) (ah aj) ⟨by decide, by decide⟩)) (ah aj) (by decide))) (ah aj)).1 (fun hp => ?_) (fun hp => av ?_)
 . have hp := afE hp
   rw [show oG ops m bs c = .JT (decide (decide (cz c 31 / 9 % (m : Int) ∈ ops) = B7 c)) (cz c 31 / 9 % (m : Int)) by unfold oG; rw [afk hp]]
   refine aO E.g E.eS (aZ (ah (bK (aH E.aP) (ah aj) ⟨by decide, by decide⟩)) (aH E.fL) (by omega)) ?_
   have Ob : ∀ p : Bool, oS [L3.D.str "shut", .str "open"] (if p then 1 else 0) = some (.str (if p then "open" else "shut")) := fun p => by cases p <;> rfl
   exact bu (cO (aJ (dg (aM (dh (iX (ds := [.str "shut", .str "open"]) (aJ b8 (aJ b8 cE)) (aK rfl))) (ah (Nb E.Kh (ah (Jc (ah (gG (aH E.eS) (aH E.bY) rfl rfl).2) (aH E.D9)).2) E.Kg)) (Ob _)) rfl) (aJ (v_ E.eS.1) cE)) (aK rfl)) rfl
 have hp := afD hp
 rw [show oG ops m bs c = .num (B8 c bs) (sN c bs.length) (eF (c / 3)) (q8 c bs.length) (yu c) by unfold oG; rw [afi hp]]
 refine aO E.g E.fX (aW (cO (aJ (jX (ah (aZ (ah (bK (aH E.aP) (ah aj) ⟨by decide, by decide⟩)) (ah (ef (ah (cj (afj ..) E.cI (aH E.cB) E.cL)) (ah aj))) (by omega))) (ah aj)) (aJ (c_ (c / 3) E.FD E.pZ (ai (ah (bK (aH E.cU) (ah aj) ⟨by decide, by decide⟩)) aF) (trivial) rfl) cE)) (aK rfl)) (t2 := .sh (.tup [.int (sN c bs.length), .int (eF (c / 3))])) rfl) ?_
 refine aO E.g E.bf (aW (cO (aJ (jX (ah (aZ (ah (bK (aH E.aP) (ah aj) ⟨by decide, by decide⟩)) (ah (ef (ah (cj (afj ..) E.cI (aH E.cB) E.cL)) (ah aj))) (by omega))) (ah aj)) (aJ (c_ (c / 5 + 1) E.FD E.pZ (ai (ah (ef (ah (bK (aH E.cU) (ah aj) ⟨by decide, by decide⟩)) (ah aj))) aF) (trivial) rfl) cE)) (aK rfl)) (t2 := .sh (.tup [.int (cz c 31 / 81 % ((bs.length : Int) + 1) - 1), .int (eF (c / 5 + 1))])) rfl) ?_
 refine wX (fun δ => δ = [some (.sh (.int c)), some (.sh (.lst (ops.map .int))), some (.sh (.int m)), some (.sh (.lst (bs.map .int))), some (.sh (.int (cz c 31))), some (.sh (.bl (B7 c))), none, some (.sh (.tup [.int (sN c bs.length), .int (eF (c / 3))])), some (.sh (.tup [.int (q8 c bs.length), .int (yu c)])), none, none, none]) (dz (ah (aZ (ah (bK (aH E.aP) (ah aj) ⟨by decide, by decide⟩)) (ah aj) (by decide))) (ah aj)).1 (fun hq => ?_) (fun hq => ?_) ?_
 . have hq := afE hq
   rw [show q8 c bs.length = sN c bs.length by unfold q8; rw [afk hq], show yu c = eF (c / 3) + cz c 31 / 2187 % 3 - 1 by unfold yu; rw [afk hq]]
   exact aO E.g E.bf (cO (aJ (dg (fH (aH E.fX) (ah aj) rfl) rfl) (aJ (jX (ah (ef (fH (aH E.fX) (ah aj) rfl) (ah (aZ (ah (bK (aH E.aP) (ah aj) ⟨by decide, by decide⟩)) (ah aj) (by decide))))) (ah aj)) cE)) (aK rfl)) (av rfl)
 . have hq := afD hq
   rw [show q8 c bs.length = cz c 31 / 81 % ((bs.length : Int) + 1) - 1 by unfold q8; rw [afi hq], show yu c = eF (c / 5 + 1) by unfold yu; rw [afi hq]]
   exact av rfl
 rintro δ rfl
 refine aO E.g E.Kf (aW (c_ ((sN c bs.length, eF (c / 3), bs)) E.FE E.p9 (ai (aH E.fX) (ai (aH E.cB) aF)) (yw c bs.length) rfl) (t2 := .sh (.int (n8 c bs))) rfl) ?_
 refine aO E.g E.Fz (aW (c_ ((q8 c bs.length, yu c, bs)) E.FE E.p9 (ai (aH E.bf) (ai (aH E.cB) aF)) (Fq c bs.length) rfl) (t2 := .sh (.int (jk c bs))) rfl) ?_
 have hmk : B8 c bs = (uO (B7 c) (n8 c bs) (jk c bs)).getD (cz c 31 / 6561 % ((uO (B7 c) (n8 c bs) (jk c bs)).length : Nat)).toNat Str.empty := rfl
 rw [hmk]
 generalize n8 c bs = sd
 generalize jk c bs = rt
 have hmp := B6 (B7 c) sd rt
 have hem : (((B5.map L3.D.str).filter fun d => decide (lM d.toS sd rt = B7 c)).map fun d => T.sh d) = ((uO (B7 c) sd rt).map L3.D.str).map T.sh := by
   rw [List.filter_map]
   rfl
 refine oB (p := fun d => decide (lM d.toS sd rt = B7 c)) (gg := fun d => T.sh d) E.g E.yK (cD (.cons E.D9.1 (.inl E.UW) (.cons E.Fz.1 (.inl E.Oq) (.cons E.Kf.1 (.inl E.UX) .nil))) (by decide +kernel)) (iI (M6 (ds := B5.map L3.D.str) (sV rfl))) (.inr rfl) (fun C s0 H0 f0 b' d hd => ?G9) (aK rfl) ?rest (by exact afl rfl) (iJ ⟨_, rfl⟩)
 case G9 =>
   obtain ⟨mk, hmk, rfl⟩ := afJ.mp hd
   exact ⟨(Jc (ah (c_ ((mk, sd, rt)) (jZ E.X6) (gE (by decide +kernel)) (ai (ah (v_ (fQ (i := 0) rfl (by decide +kernel)))) (ai (ah (v_ (fS (i := 3) rfl (by decide +kernel)))) (ai (ah (v_ (fS (i := 2) rfl (by decide +kernel)))) aF))) (trivial) rfl)) (ah (v_ (fS (i := 1) rfl (by decide +kernel))))).1, fun _ => (v_ (fQ (i := 0) rfl (by decide +kernel)))⟩
 case rest =>
 rw [hem]
 generalize uO (B7 c) sd rt = mks at hmp
 have l0 := afI (cz c 31 / 6561) (b := (mks.length : Nat)) (by omega)
 have l1 := afB (cz c 31 / 6561) (b := (mks.length : Nat)) (by omega)
 exact bu (cO (aJ (dg (aM (vL E.yK.1) (ah (aZ (ah (bK (aH E.aP) (ah aj) ⟨by decide, by decide⟩)) (ah (cj (afj ..) E.cI (vL E.yK.1) E.cL)) (by omega))) (fJ Str.empty l0 l1)) rfl) (aJ (v_ E.fX.1) (aJ (v_ E.bf.1) cE))) (aK rfl)) rfl
theorem dI : jy (ao Fy) ([("cell", au), ("opens", au), ("many", au), ("boxes", au), ("mixed", au), ("good", .cell), ("mood", au), ("one", au), ("other", au), ("side", .cell), ("right", .cell), ("marks", au), ("_law_mixed", aA), ("int", aA), ("len", aA), ("_law_small", aA), ("_law_worth", aA)]) = true := by decide +kernel
theorem Kl : aL ["cell", "opens", "many", "boxes", "mixed", "good", "mood", "one", "other", "side", "right", "marks"] ["cell", "opens", "many", "boxes"] (ao Fy) := aU
noncomputable abbrev FG : Stmt := top 33
noncomputable abbrev Km : Type := Int × List Int × Nat × List Int × List Str
noncomputable def tT : Km -> List L3.D := fun (c, ops, m, bs, th) => [.int c, .lst (ops.map .int), .int m, .lst (bs.map .int), .lst (th.map .str)]
noncomputable def qa : Km -> Prop := fun (c, ops, m, bs, th) => 1 <= m /\ 1 <= ops.length /\ bs.length <= 1000 /\ th.length = 3
noncomputable def tU : Km -> T := fun (c, ops, m, bs, th) => (.sh (dP (JW ops m bs th c)) : T)
structure X8 (X : Cx) (CL : Str -> Addr) : Prop extends bZ X where
 cU : Ln X 0 "cell"
 bY : Ln X 1 "opens"
 fL : Ln X 2 "many"
 cB : Ln X 3 "boxes"
 g7 : Ln X 4 "three"
 aP : Ln X 5 "mixed"
 u5 : Ln X 6 "source"
 Ea : Ln X 7 "asks"
 jl : Ln X 8 "k"
 FH : Ln X 9 "deeds"
 u6 : Ln X 10 "target"
 Eb : Ln X 11 "mode"
 bz : Gl X "_law_mixed"
 cL : Gl X "len"
 ck : Gl X "range"
 Ec : Gl X "_law_ask"
 Ot : Gl X "tuple"
 dm : Fc X CL "_law_mixed" 1 2 e9 fc fh
 cI : X.mg "len" = none
 cu : X.mg "range" = none
 X9 : Fc X CL "_law_ask" 2 4 tR pY tS
 Ou : X.mg "tuple" = none
theorem Yb {X : Cx} {CL : Str -> Addr} {b : Bx} (E : X8 X CL) (c ops m bs th) (h : qa (c, ops, m, bs, th)) :
   ay X CL b FG ["cell", "opens", "many", "boxes", "three", "mixed", "source", "asks", "k", "deeds", "target", "mode"] (tT (c, ops, m, bs, th)) (tU (c, ops, m, bs, th)) := by
 dsimp only [ay, qa, tT, tU] at h ⊢
 obtain ⟨hm, ho, hb, h3⟩ := h
 refine aO E.g E.aP (aW (c_ ((c, 11)) E.dm E.bz (ai (aH E.cU) (ai (ah aj) aF)) (trivial) rfl) (t2 := .sh (.int (cz c 11))) rfl) ?_
 have c0 := yp c 11
 show fF X CL b _ _ { nx := _, rt := fun DU _ => DU = T.sh (dP (JW ops m bs th c)), bk := _, ct := _ }
 have hw : dP (JW ops m bs th c) = .tup [.int (if cz c 11 % 2 = 0 then ops.getD (cz c 11 / 2 % (ops.length : Nat)).toNat 0 else cz c 11 / 2 % (m : Int)), .str (th.getD (cz c 13 / 300 % 3).toNat Str.empty), .tup ((G5 ops m bs c).map pP), .tup (RX th (cz c 11 / 300 % 3)), .int (if cz c 13 % 5 = 0 then -1 else cz c 13 / 5 % (m : Int)), .str (if cz c 13 % 5 = 0 then "new" else (["new", "near", "far"] : List Str).getD (cz c 13 / 100 % 3).toNat Str.empty)] := rfl
 rw [hw]
 generalize Ov : (if cz c 11 % 2 = 0 then ops.getD (cz c 11 / 2 % (ops.length : Nat)).toNat 0 else cz c 11 / 2 % (m : Int)) = src
 refine aO E.g E.u5 (aZ (ah (bK (aH E.aP) (ah aj) ⟨by decide, by decide⟩)) (aH E.fL) (by omega)) ?_
 have Wn : (ops.map L3.D.int).length = ops.length := by simp
 have l0 := afI (cz c 11 / 2) (b := (ops.length : Nat)) (by omega)
 have l1 := afB (cz c 11 / 2) (b := (ops.length : Nat)) (by omega)
 refine wX (fun δ => δ = [some (.sh (.int c)), some (.sh (.lst (ops.map .int))), some (.sh (.int m)), some (.sh (.lst (bs.map .int))), some (.sh (.lst (th.map .str))), some (.sh (.int (cz c 11))), some (.sh (.int src)), none, none, none, none, none]) (dz (ah (aZ (aH E.aP) (ah aj) (by decide))) (ah aj)).1 (fun hq => ?_) (fun hq => ?_) ?_
 . rw [afk (afE hq)] at Ov
   rw [← Ov]
   exact aO E.g E.u5 (dg (aM (aH E.bY) (ah (aZ (ah (bK (aH E.aP) (ah aj) ⟨by decide, by decide⟩)) (ah (cj (Wn) E.cI (aH E.bY) E.cL)) (by omega))) (eN l0 l1)) rfl) (av rfl)
 . rw [afi (afD hq)] at Ov
   rw [← Ov]
   exact av rfl
 rintro δ rfl
 refine aO E.g E.Ea (eB eu (afP _)) ?_
 have k0 := afI (cz c 11 / 100) (show (3 : Int) ≠ 0 by decide)
 have k1 := afB (cz c 11 / 100) (show (0 : Int) < 3 by decide)
 refine iV E.g E.jl (fun j δ => ∃ o8, δ = [some (.sh (.int c)), some (.sh (.lst (ops.map .int))), some (.sh (.int m)), some (.sh (.lst (bs.map .int))), some (.sh (.lst (th.map .str))), some (.sh (.int (cz c 11))), some (.sh (.int src)), some (.lst ((((List.range j).map fun (k : Nat) => oG ops m bs (c / ((k : Int) + 1) + 17 * (k : Int))).map pP).map T.sh)), o8, none, none, none])
   (fu E.cu (ah (aZ (ah (bK (aH E.aP) (ah aj) ⟨by decide, by decide⟩)) (ah aj) (by decide))) (by omega) E.ck) ⟨_, rfl⟩ (fun j δ ⟨_, e⟩ => by subst e; exact afl rfl) ?turn ?fin
 case turn =>
   rintro j d δ hj ⟨o8, rfl⟩
   obtain ⟨rfl, sX⟩ := iK hj
   have sX : j < (cz c 11 / 100 % 3).toNat := sX
   rw [agm]
   refine iW E.Ea.1 rfl (aW (c_ ((c / ((j : Int) + 1) + 17 * (j : Int), ops, m, bs)) E.X9 E.Ec (ai (ah (ef (ah (bK (aH E.cU) (ah (ef (aH E.jl) (ah aj))) (⟨by omega, by omega⟩))) (ah (ow (ah aj) (aH E.jl) (.inl ⟨by decide, by decide⟩))))) (ai (aH E.bY) (ai (aH E.fL) (ai (aH E.cB) aF)))) (by dsimp only [pY]; exact (⟨hm, hb⟩)) (uN _)) (t2 := .sh (pP (oG ops m bs (c / ((j : Int) + 1) + 17 * (j : Int))))) rfl) rfl (by simp; omega) (av ?_)
   have e1 : ((((List.range j).map fun (k : Nat) => oG ops m bs (c / ((k : Int) + 1) + 17 * (k : Int))).map pP).map T.sh) ++ [T.sh (pP (oG ops m bs (c / ((j : Int) + 1) + 17 * (j : Int))))] = ((((List.range (j + 1)).map fun (k : Nat) => oG ops m bs (c / ((k : Int) + 1) + 17 * (k : Int))).map pP).map T.sh) := by
     simp [ag1]
   rw [e1]
   exact ⟨_, rfl⟩
 case fin =>
   rintro δ ⟨o8, rfl⟩
   have e0 : (bL 0 (cz c 11 / 100 % 3).toNat).length = (cz c 11 / 100 % 3).toNat := by simp [bL]
   rw [e0]
   rw [show ((List.range (cz c 11 / 100 % 3).toNat).map fun (k : Nat) => oG ops m bs (c / ((k : Int) + 1) + 17 * (k : Int))) = G5 ops m bs c from rfl]
   generalize G5 ops m bs c = al
   have hth : ∀ i : Nat, i < 3 -> oS (th.map L3.D.str) (i : Int) = some (.str (th.getD i Str.empty)) := fun i hi => fJ Str.empty (by omega) (by omega)
   have Ob : oS [L3.D.tup [], .tup [.tup [.str "call", .str (th.getD 0 Str.empty)]], .tup [.tup [.str "say", .str (th.getD 1 Str.empty), .tup [.int (-1), .int 7]], .tup [.str "call", .str (th.getD 2 Str.empty)]]] (cz c 11 / 300 % 3) = some (.tup (RX th (cz c 11 / 300 % 3))) := by
     have : cz c 11 / 300 % 3 = 0 \/ cz c 11 / 300 % 3 = 1 \/ cz c 11 / 300 % 3 = 2 := by omega
     rcases this with e | e | e <;> rw [e] <;> rfl
   have abL : (L3.D.tup (RX th (cz c 11 / 300 % 3))).jz = true := by
     have : cz c 11 / 300 % 3 = 0 \/ cz c 11 / 300 % 3 = 1 \/ cz c 11 / 300 % 3 = 2 := by omega
     rcases this with e | e | e <;> rw [e] <;> rfl
   refine aO E.g E.FH (dg (aM (δ1 := [some (.sh (.int c)), some (.sh (.lst (ops.map .int))), some (.sh (.int m)), some (.sh (.lst (bs.map .int))), some (.sh (.lst (th.map .str))), some (.sh (.int (cz c 11))), some (.sh (.int src)), some (.lst ((al.map pP).map T.sh)), o8, none, none, none]) (dh (iX (ds := [L3.D.tup [], .tup [.tup [.str "call", .str (th.getD 0 Str.empty)]], .tup [.tup [.str "say", .str (th.getD 1 Str.empty), .tup [.int (-1), .int 7]], .tup [.str "call", .str (th.getD 2 Str.empty)]]])
     (pJ ?d1 (pJ ?d2 (pJ ?d3 cE))) (aK rfl))) (ah (aZ (ah (bK (aH E.aP) (ah aj) ⟨by decide, by decide⟩)) (ah aj) (by decide))) Ob) abL) ?rest
   case d1 => exact cO cE (aK rfl)
   case d2 => exact cO (aJ (cO (aJ b8 (aJ (dg (aM (aH E.g7) (ah aj) (hth 0 (by omega))) rfl) cE)) (aK rfl)) cE) (aK rfl)
   case d3 =>
     refine cO (pJ ?d4 (pJ ?d5 cE)) (aK rfl)
     case d4 => exact cO (aJ b8 (aJ (dg (aM (aH E.g7) (ah aj) (hth 1 (by omega))) rfl) (aJ (cO (aJ (dD (ah aj)) (aJ aj cE)) (aK rfl)) cE))) (aK rfl)
     case d5 => exact cO (aJ b8 (aJ (dg (aM (aH E.g7) (ah aj) (hth 2 (by omega))) rfl) cE)) (aK rfl)
   case rest =>
   generalize RX th (cz c 11 / 300 % 3) = de
   refine aO E.g E.aP (aW (c_ ((c, 13)) E.dm E.bz (ai (aH E.cU) (ai (ah aj) aF)) (trivial) rfl) (t2 := .sh (.int (cz c 13))) rfl) ?_
   have d0 := yp c 13
   generalize cz c 13 = q at d0 ⊢
   refine aO E.g E.u6 (aZ (ah (bK (aH E.aP) (ah aj) ⟨by decide, by decide⟩)) (aH E.fL) (by omega)) ?_
   refine aO E.g E.Eb (dg (aM (dh (iX (aJ b8 (aJ b8 (aJ b8 cE))) (aK rfl))) (ah (aZ (ah (bK (aH E.aP) (ah aj) ⟨by decide, by decide⟩)) (ah aj) (by decide))) (fJ (f := L3.D.str) (l := ["new", "near", "far"]) Str.empty (afI _ (by decide)) (afB _ (by decide)))) rfl) ?_
   generalize Yc : (if q % 5 = 0 then (-1 : Int) else q / 5 % (m : Int)) = tg
   generalize ZY : (if q % 5 = 0 then ("new" : Str) else (["new", "near", "far"] : List Str).getD (q / 100 % 3).toNat Str.empty) = md
   refine wX (fun δ => δ = [some (.sh (.int c)), some (.sh (.lst (ops.map .int))), some (.sh (.int m)), some (.sh (.lst (bs.map .int))), some (.sh (.lst (th.map .str))), some (.sh (.int q)), some (.sh (.int src)), some (.lst ((al.map pP).map T.sh)), o8, some (.sh (.tup de)), some (.sh (.int tg)), some (.sh (.str md))]) (dz (ah (aZ (aH E.aP) (ah aj) (by decide))) (ah aj)).1 (fun hq => ?_) (fun hq => ?_) ?_
   . rw [afk (afE hq)] at Yc ZY
     rw [← Yc, ← ZY]
     exact aO E.g E.u6 (dD (ah aj)) (aO E.g E.Eb b8 (av rfl))
   . rw [afi (afD hq)] at Yc ZY
     rw [← Yc, ← ZY]
     exact av rfl
   rintro δ rfl
   have q0 := afI (q / 300) (show (3 : Int) ≠ 0 by decide)
   have q1 := afB (q / 300) (show (0 : Int) < 3 by decide)
   exact bu (cO (aJ (v_ E.u5.1) (aJ (dg (aM (aH E.g7) (ah (aZ (ah (bK (aH E.aP) (ah aj) ⟨by decide, by decide⟩)) (ah aj) (by decide))) (fJ Str.empty q0 (by omega))) rfl) (aJ (GA E.Ou (vL E.Ea.1) (jC (fun a => uN a) _) E.Ot) (aJ (v_ E.FH.1) (aJ (v_ E.u6.1) (aJ (v_ E.Eb.1) cE)))))) (aK rfl)) rfl
theorem eU : jy (ao FG) ([("cell", au), ("opens", au), ("many", au), ("boxes", au), ("three", au), ("mixed", au), ("source", au), ("asks", au), ("k", au), ("deeds", au), ("target", au), ("mode", au), ("_law_mixed", aA), ("len", aA), ("range", aA), ("_law_ask", aA), ("tuple", aA)]) = true := by decide +kernel
theorem Kn : aL ["cell", "opens", "many", "boxes", "three", "mixed", "source", "asks", "k", "deeds", "target", "mode"] ["cell", "opens", "many", "boxes", "three"] (ao FG) := aU
theorem Ow {α : Type} {l : List α} {k : Nat} (h : l.length <= k) : cutD l none (some (k : Int)) = l := by
 unfold cutD
 have e1 : HT.qF l.length 0 none = 0 := rfl
 have e2 : HT.qF l.length l.length (some (k : Int)) = l.length := by
   unfold HT.qF
   simp
   split <;> omega
 rw [e1, e2]
 simp
noncomputable abbrev yL : Stmt := top 34
noncomputable abbrev Ed : Type := List Int × List Int × Nat × List Int × List Str
noncomputable def qb : Ed -> List L3.D := fun (s, ops, m, bs, th) => [.lst (s.map .int), .lst (ops.map .int), .int m, .lst (bs.map .int), .lst (th.map .str)]
noncomputable def lP : Ed -> Prop := fun (s, ops, m, bs, th) => s.length <= 63 /\ 1 <= m /\ 1 <= ops.length /\ bs.length <= 1000 /\ th.length = 3 /\ (∀ x ∈ ops, 0 <= x /\ x < m) /\ ∀ x ∈ th, PyData.strOk x = true
noncomputable def qc : Ed -> T := fun (s, ops, m, bs, th) => (.lst (((uQ s ops m bs th).map dP).map T.sh) : T)
structure UY (X : Cx) (CL : Str -> Addr) : Prop extends bZ X where
 aY : Ln X 0 "script"
 bY : Ln X 1 "opens"
 yM : X.env.kindOf "opens" = some .cell
 fL : Ln X 2 "many"
 UZ : X.env.kindOf "many" = some .cell
 cB : Ln X 3 "boxes"
 yN : X.env.kindOf "boxes" = some .cell
 g7 : Ln X 4 "three"
 Ox : X.env.kindOf "three" = some .cell
 eV : Ln X 5 "ways"
 jK : Gl X "sorted"
 jL : X.mg "sorted" = none
 Yd : Fc X CL "_law_way" 3 5 tT qa tU
 lam : GP X CL "#_law_ways.<locals>.<lambda>" "_law_ways.<locals>.<lambda>"
 dp : X.A.depth < recursionLimit
 rm : d8 3 X.A
theorem U0 {X : Cx} {CL : Str -> Addr} {b : Bx} (E : UY X CL) (s ops m bs th) (h : lP (s, ops, m, bs, th)) :
   ay X CL b yL ["script", "opens", "many", "boxes", "three", "ways"] (qb (s, ops, m, bs, th)) (qc (s, ops, m, bs, th)) := by
 dsimp only [ay, lP, qb, qc] at h ⊢
 obtain ⟨hs, hm, ho, hb, h3, N1, dO⟩ := h
 have abM : cutD (s.map L3.D.int) none (some 63) = s.map L3.D.int := Ow (k := 63) (by simpa using hs)
 have MQ := fun c : Int => JX (ops := ops) (m := m) (bs := bs) (th := th) hm ho N1 dO h3 c
 refine oB (p := fun _ => true) (gg := fun d => T.sh (dP (JW ops m bs th d.v9))) E.g E.eV (cD (.cons E.cB.1 (.inl E.yN) (.cons E.fL.1 (.inl E.UZ) (.cons E.bY.1 (.inl E.yM) (.cons E.g7.1 (.inl E.Ox) .nil)))) (by decide +kernel)) (iI (pD (aW (uB (aH E.aY) (cK _) sS (sU (ah aj))) (t2 := .lst ((s.map L3.D.int).map T.sh)) (by rw [abM])))) (.inr rfl) (fun C s0 H0 f0 b' d hd => ?G9) (age (dw (by simp; omega))) ?rest (by exact afl rfl) (iJ ⟨_, rfl⟩)
 case G9 =>
   obtain ⟨c, hc, rfl⟩ := afJ.mp hd
   exact ⟨rfl, fun _ => aW (c_ ((c, ops, m, bs, th)) (jZ E.Yd) (gE (by decide +kernel)) (ai (ah (v_ (fQ (i := 0) rfl (by decide +kernel)))) (ai (ah (v_ (fS (i := 3) rfl (by decide +kernel)))) (ai (ah (v_ (fS (i := 2) rfl (by decide +kernel)))) (ai (ah (v_ (fS (i := 1) rfl (by decide +kernel)))) (ai (ah (v_ (fS (i := 4) rfl (by decide +kernel)))) aF))))) (by dsimp only [qa]; exact (⟨hm, ho, hb, h3⟩)) ((MQ c).jz)) rfl⟩
 case rest =>
 have em : ((s.map L3.D.int).filter fun _ => true).map (fun d => T.sh (dP (JW ops m bs th d.v9))) = ((s.map (JW ops m bs th)).map dP).map T.sh := by
   rw [eO, afT, afT, afT]
   rfl
 rw [em]
 refine bu (aW (oE (y := "way") (g := fun d => d.ZP.v9) E.lam E.g E.dp E.jL E.jK (cD .nil (by decide +kernel)) (vL E.eV.1) (o9 fun d hd => ?jz) (by simp; omega) (fun f c s0 H0 b' d hd => ?key)) ?eq) rfl
 case jz =>
   obtain ⟨w, hw, rfl⟩ := afJ.mp hd
   obtain ⟨c, _, rfl⟩ := afJ.mp hw
   exact (MQ c).jz
 case key =>
   obtain ⟨w, hw, rfl⟩ := afJ.mp hd
   exact fH (ah (v_ (yc (i := 0) rfl (by decide +kernel)))) (ah aj) rfl
 case eq =>
   rw [iB]
   rfl
theorem fY : jy (ao yL) ([("script", au), ("opens", .cell), ("many", .cell), ("boxes", .cell), ("three", .cell), ("ways", au), ("sorted", aA)]) = true := by decide +kernel
theorem FI : aL ["script", "opens", "many", "boxes", "three", "ways"] ["script", "opens", "many", "boxes", "three"] (ao yL) := aU
noncomputable abbrev i6 : Stmt := inClass (top 5) 0
noncomputable abbrev lQ : Type := List Str × List Int × List Int
noncomputable def n9 : lQ -> List L3.D := fun (ks, es, ss) => [.lst (ks.map .str), .lst (es.map .int), .lst (ss.map .int)]
noncomputable def oh : lQ -> Prop := fun (ks, es, ss) => True
noncomputable def oi : lQ -> List (Str × T) := fun (ks, es, ss) => (jE ks es ss : List (Str × T))
structure Cr (X : Cx) (CL : Str -> Addr) : Prop extends bZ X where
 jn : Ln X 0 "self"
 kh : Ln X 1 "kinds"
 bQ : Ln X 2 "elders"
 jG : Ln X 3 "starts"
 dJ : Gl X "list"
 dM : X.mg "list" = none
 fZ : v8 X.K (CL "Tree")
 f6 : bw X.K (CL "Tree") "kinds"
 d7 : bw X.K (CL "Tree") "elders"
 jo : bw X.K (CL "Tree") "starts"
theorem Ct {X : Cx} {CL : Str -> Addr} {b : Bx} (E : Cr X CL) (ks : List Str) (es ss : List Int) (y : Addr) (h : True) :
   fF X CL b (fE i6) (Ji ["self", "kinds", "elders", "starts"] y "Tree" [.lst (ks.map .str), .lst (es.map .int), .lst (ss.map .int)]) { nx := fun δ => δ[0]? = some (some (.pin y (.ins "Tree" (jE ks es ss)))), rt := fun _ _ => False } := by
 have hi : D.bT (ks.map L3.D.str) = true := jC (fun _ => rfl) _
 refine pA E.fZ E.f6 E.jn.1 (dB E.dM (aH E.kh) hi E.dJ bN) rfl (afl rfl) ?_
 rw [fT]
 refine pA E.fZ E.d7 E.jn.1 (dB E.dM (aH E.bQ) (cK _) E.dJ bN) rfl (afl rfl) ?_
 rw [bJ (by decide +kernel), fT]
 refine pA E.fZ E.jo E.jn.1 (dB E.dM (aH E.jG) (cK _) E.dJ bN) rfl (afl rfl) ?_
 rw [bJ (by decide +kernel), bJ (by decide +kernel), fT]
 exact av rfl
theorem f7 : jy (ao i6) ([("self", au), ("kinds", au), ("elders", au), ("starts", au), ("list", aA)]) = true := by decide +kernel
theorem qd : aL ["self", "kinds", "elders", "starts"] ["self", "kinds", "elders", "starts"] (ao i6) := aU
noncomputable abbrev g8 : Stmt := inClass (top 3) 0
noncomputable abbrev ku : Type := List L3.D × List L3.D × V × List L3.D × List L3.D × List L3.D
noncomputable def lR : ku -> List L3.D := fun (bs, nm, tv, is, os, ws) => [.lst bs, .lst nm, .val tv, .lst is, .lst os, .lst ws]
noncomputable def lS : ku -> Prop := fun (bs, nm, tv, is, os, ws) => D.bT bs = true /\ D.bT nm = true /\ D.bT is = true /\ D.bT os = true /\ D.bT ws = true
noncomputable def lT : ku -> List (Str × T) := fun (bs, nm, tv, is, os, ws) => (gy bs nm (.sh (.val tv)) is os ws : List (Str × T))
structure yO (X : Cx) (CL : Str -> Addr) : Prop extends bZ X where
 jn : Ln X 0 "self"
 cB : Ln X 1 "boxes"
 ny : Ln X 2 "names"
 cN : Ln X 3 "tree"
 Ye : Ln X 4 "ins"
 U1 : Ln X 5 "outs"
 eV : Ln X 6 "ways"
 dJ : Gl X "list"
 dM : X.mg "list" = none
 cC : v8 X.K (CL "Chart")
 wI : bw X.K (CL "Chart") "boxes"
 wJ : bw X.K (CL "Chart") "names"
 c6 : bw X.K (CL "Chart") "tree"
 Cu : bw X.K (CL "Chart") "ins"
 yP : bw X.K (CL "Chart") "outs"
 cH : bw X.K (CL "Chart") "ways"
theorem yQ {X : Cx} {CL : Str -> Addr} {b : Bx} (E : yO X CL) (bs nm : List L3.D) (tv : V) (is os ws : List L3.D) (y : Addr) (h : D.bT bs = true /\ D.bT nm = true /\ D.bT is = true /\ D.bT os = true /\ D.bT ws = true) :
   fF X CL b (fE g8) (Ji ["self", "boxes", "names", "tree", "ins", "outs", "ways"] y "Chart" [.lst bs, .lst nm, .val tv, .lst is, .lst os, .lst ws]) { nx := fun δ => δ[0]? = some (some (.pin y (.ins "Chart" (gy bs nm (.sh (.val tv)) is os ws)))), rt := fun _ _ => False } := by
 obtain ⟨h1, h2, h3, h4, h5⟩ := h
 refine pA E.cC E.wI E.jn.1 (dB E.dM (aH E.cB) h1 E.dJ bN) rfl (afl rfl) ?_
 rw [fT]
 refine pA E.cC E.wJ E.jn.1 (dB E.dM (aH E.ny) h2 E.dJ bN) rfl (afl rfl) ?_
 rw [bJ (by decide +kernel), fT]
 refine pA E.cC E.c6 E.jn.1 (v_ E.cN.1) rfl (afl rfl) ?_
 rw [bJ (by decide +kernel), bJ (by decide +kernel), fT]
 refine pA E.cC E.Cu E.jn.1 (dB E.dM (aH E.Ye) h3 E.dJ bN) rfl (afl rfl) ?_
 rw [bJ (by decide +kernel), bJ (by decide +kernel), bJ (by decide +kernel), fT]
 refine pA E.cC E.yP E.jn.1 (dB E.dM (aH E.U1) h4 E.dJ bN) rfl (afl rfl) ?_
 rw [bJ (by decide +kernel), bJ (by decide +kernel), bJ (by decide +kernel), bJ (by decide +kernel), fT]
 refine pA E.cC E.cH E.jn.1 (dB E.dM (aH E.eV) h5 E.dJ bN) rfl (afl rfl) ?_
 rw [bJ (by decide +kernel), bJ (by decide +kernel), bJ (by decide +kernel), bJ (by decide +kernel), bJ (by decide +kernel), fT]
 exact av rfl
theorem cJ : jy (ao g8) ([("self", au), ("boxes", au), ("names", au), ("tree", au), ("ins", au), ("outs", au), ("ways", au), ("list", aA)]) = true := by decide +kernel
theorem oj : aL ["self", "boxes", "names", "tree", "ins", "outs", "ways"] ["self", "boxes", "names", "tree", "ins", "outs", "ways"] (ao g8) := aU
noncomputable def sI (k : Int) : Str := toString k
noncomputable def Wo (k : Nat) : Str := ("mood" : Str) ++ sI (k : Int)
noncomputable def oK (n : Nat) : List Str := (List.range n).map Wo
noncomputable def Wq (k : Nat) : L3.D := .tup [.str (("box" : Str) ++ sI (k : Int)), .int ((k : Int) - 2)]
noncomputable def qe (n : Nat) : List L3.D := (List.range n).map Wq
noncomputable def rA (n : Nat) : List L3.D := (List.replicate n [L3.D.tup []]).flatten
theorem rB (n : Nat) : D.bT (qe n) = true := jC (fun _ => rfl) _
theorem jM (n : Nat) : D.bT (rA n) = true := o9 fun d hd => by
 unfold rA at hd
 obtain ⟨l, hl, hd⟩ := List.mem_flatten.mp hd
 rw [(List.mem_replicate.mp hl).2] at hd
 rw [afG.mp hd]; rfl
theorem Cv (k : Nat) (h : k <= 40) : (k : Int).natAbs.log2 < 1920 /\ (toString (k : Int) : Str).length <= 50 /\ PyData.strOk (toString (k : Int) : Str) = true := by
 have h2 : ((List.range 41).all fun k => decide ((k : Int).natAbs.log2 < 1920) && decide ((toString (k : Int) : Str).length <= 50) && PyData.strOk (toString (k : Int) : Str)) = true := by decide +kernel
 have := agy.mp h2 k (agf.mpr (by omega))
 simpa [Bool.and_eq_true, and_assoc] using this
theorem yR {bs nm is os ws : List L3.D} {t : T} (h1 : D.bT bs = true) (h2 : D.bT nm = true) (h3 : t.clean = true) (h4 : D.bT is = true) (h5 : D.bT os = true) (h6 : D.bT ws = true) : T.bD (gy bs nm t is os ws) = true := by
 unfold gy qX qY
 rw [afS, afS, agv, T.bD, T.bD, T.bD, T.bD, T.bD, T.bD, T.bD, bO h1, bO h2, h3, bO h4, bO h5, bO h6]
 rfl
noncomputable abbrev tV : Stmt := top 35
noncomputable abbrev yS : Type := List Str × List Int × List Int × List Int × List Int × List L3.D
noncomputable def nA : yS -> List L3.D := fun (ks, es, ss, oo, bs, ws) => [pN ks es ss oo, .lst (bs.map .int), .lst ws]
noncomputable def jN : yS -> Prop := fun (ks, es, ss, oo, bs, ws) => es.length <= 40 /\ bs.length <= 40 /\ D.bT ws = true
noncomputable def nB : yS -> T := fun (ks, es, ss, oo, bs, ws) => (.ins "Chart" (gy (qe bs.length) ((oK es.length).map .str) (.ins "Tree" (jE ks es ss)) (rA es.length) (rA es.length) ws) : T)
structure Oz (X : Cx) (CL : Str -> Addr) : Prop extends bZ X where
 bG : Ln X 0 "lists"
 cB : Ln X 1 "boxes"
 eV : Ln X 2 "ways"
 FJ : Ln X 3 "named"
 ny : Ln X 4 "names"
 cN : Ln X 5 "tree"
 ck : Gl X "range"
 cL : Gl X "len"
 U3 : Gl X "Tree"
 dJ : Gl X "list"
 OB : Gl X "Chart"
 cu : X.mg "range" = none
 cI : X.mg "len" = none
 U4 : Fm X CL "Tree" 1 4 n9 oh oi
 dM : X.mg "list" = none
 OD : Fm X CL "Chart" 1 7 lR lS lT
 R1 : X.mg "str" = none
theorem OG {X : Cx} {CL : Str -> Addr} {b : Bx} (E : Oz X CL) (ks es ss oo bs ws) (h : jN (ks, es, ss, oo, bs, ws)) :
   ay X CL b tV ["lists", "boxes", "ways", "named", "names", "tree"] (nA (ks, es, ss, oo, bs, ws)) (nB (ks, es, ss, oo, bs, ws)) := by
 dsimp only [ay, jN, nA, nB] at h ⊢
 obtain ⟨hl, hb, iw⟩ := h
 refine oB (p := fun _ => true) (gg := fun d => T.sh (Wq d.v9.toNat)) E.g E.FJ (cD .nil (by decide +kernel)) (fu E.cu (ah (cj (afj ..) E.cI (aH E.cB) E.cL)) (by omega) E.ck) (.inr rfl) (fun C s0 H0 f0 b' d hd => ?abN) (age (dw (by simp [bL]; omega))) ?Yg (by exact afl rfl) (iJ ⟨_, rfl⟩)
 case abN =>
   obtain ⟨i, hi, rfl⟩ := afJ.mp hd
   have HZ : i < bs.length := by simpa using hi
   obtain ⟨q1, q2, _⟩ := Cv i (by omega)
   have ei : (0 + (i : Int)) = (i : Int) := agm _
   have et : (L3.D.int (0 + (i : Int))).v9.toNat = i := by show (0 + (i : Int)).toNat = i; omega
   refine ⟨rfl, fun _ => aW (cO (aJ (ly (ah b8) (ah (Fd E.R1 (gE (by decide +kernel)) (ah (v_ (fQ (i := 0) rfl (by decide +kernel)))) ((by rw [ei]; exact q1)))) ((by rw [ei, afU]; show 3 + (toString (i : Int) : Str).length <= _; omega))) (aJ (jX (ah (v_ (fQ (i := 0) rfl (by decide +kernel)))) (ah aj)) cE)) (aK rfl)) ?_⟩
   show T.sh _ = T.sh (Wq (L3.D.int (0 + (i : Int))).v9.toNat)
   rw [et]
   unfold Wq
   rw [ei]
   rfl
 case Yg =>
 have em0 : ((bL 0 (bs.length : Int).toNat).filter fun _ => true).map (fun d => T.sh (Wq d.v9.toNat)) = (qe bs.length).map T.sh := by
   rw [eO]
   unfold bL qe
   rw [afT, afT, af6]
   refine agY fun k _ => ?_
   show T.sh (Wq (0 + (k : Int)).toNat) = _
   rw [show (0 + (k : Int)).toNat = k by omega]
   rfl
 rw [em0]
 refine oB (p := fun _ => true) (gg := fun d => T.sh (.str (Wo d.v9.toNat))) E.g E.ny (cD .nil (by decide +kernel)) (fu E.cu (ah (cj (afj ..) E.cI (aM (aH E.bG) (ah aj) rfl) E.cL)) (by omega) E.ck) (.inr rfl) (fun C s0 H0 f0 b' d hd => ?G9) (age (dw (by simp [bL]; omega))) ?rest (by exact afl rfl) (iJ ⟨_, rfl⟩)
 case G9 =>
   obtain ⟨i, hi, rfl⟩ := afJ.mp hd
   have HZ : i < es.length := by simpa using hi
   obtain ⟨q1, q2, _⟩ := Cv i (by omega)
   have ei : (0 + (i : Int)) = (i : Int) := agm _
   have et : (L3.D.int (0 + (i : Int))).v9.toNat = i := by show (0 + (i : Int)).toNat = i; omega
   refine ⟨rfl, fun _ => aW (ly (ah b8) (ah (Fd E.R1 (gE (by decide +kernel)) (ah (v_ (fQ (i := 0) rfl (by decide +kernel)))) ((by rw [ei]; exact q1)))) ((by rw [ei, afU]; show 4 + (toString (i : Int) : Str).length <= _; omega))) ?_⟩
   show T.sh _ = T.sh (.str (Wo (L3.D.int (0 + (i : Int))).v9.toNat))
   rw [et]
   unfold Wo
   rw [ei]
   rfl
 case rest =>
 have em : ((bL 0 (es.length : Int).toNat).filter fun _ => true).map (fun d => T.sh (.str (Wo d.v9.toNat))) = ((oK es.length).map L3.D.str).map T.sh := by
   rw [eO]
   unfold bL oK
   rw [afT, afT, afT, af6]
   refine agY fun k _ => ?_
   show T.sh (.str (Wo (0 + (k : Int)).toNat)) = _
   rw [show (0 + (k : Int)).toNat = k by omega]
   rfl
 rw [em]
 refine aO E.g E.cN (aW (mk_ (ks, es, ss) E.U4 E.U3 (ai (dh (dB E.dM (aM (aH E.bG) (ah aj) rfl) (lE _) E.dJ bN)) (ai (dh (dB E.dM (aM (aH E.bG) (ah aj) rfl) (cK _) E.dJ bN)) (ai (dh (dB E.dM (aM (aH E.bG) (ah aj) rfl) (cK _) E.dJ bN)) aF))) trivial (sq ks es ss)) (t2 := .ins "Tree" (jE ks es ss)) rfl) ?_
 have ZX : ((oK es.length).map L3.D.str).length = es.length := by simp [oK]
 have eun : ∀ n : Nat, (List.replicate ((n : Int).toNat) [L3.D.tup []]).flatten = rA n := fun n => by rw [af6]; rfl
 exact bu (mkP (f := "tree") (BG := qX (qe bs.length) ((oK es.length).map .str)) (Ie := qY (rA es.length) (rA es.length) ws) (fun v => (qe bs.length, (oK es.length).map .str, v, rA es.length, rA es.length, ws)) E.OD E.OB
   (BH (vL E.FJ.1) (BH (vL E.ny.1)
     (Jt (vM E.cN.1)
       (ai (dh (aW (Fe (ds := [.tup []]) (dh (ds := [.tup []]) (eB (gZ (cO cE (aK rfl)) eu) (aK rfl))) (ah (cj ZX E.cI (vL E.ny.1) E.cL)) rfl (by omega) (by omega) (by rw [af6, afU]; show 1 * es.length <= _; omega)) (t2 := .lst ((rA es.length).map T.sh)) (by rw [eun])))
       (ai (dh (aW (Fe (ds := [.tup []]) (dh (ds := [.tup []]) (eB (gZ (cO cE (aK rfl)) eu) (aK rfl))) (ah (cj ZX E.cI (vL E.ny.1) E.cL)) rfl (by omega) (by omega) (by rw [af6, afU]; show 1 * es.length <= _; omega)) (t2 := .lst ((rA es.length).map T.sh)) (by rw [eun])))
       (ai (dh (dB E.dM (aH E.eV) iw E.dJ bN)) aF))))))
   (fun v => rfl) (fun v => ⟨rB _, lE _, jM _, jM _, iw⟩) (fun v => rfl) (yk (rB _) (lE _)) (ym (jM _) (jM _) iw)) rfl
theorem eW : jy (ao tV) ([("lists", au), ("boxes", au), ("ways", au), ("named", au), ("names", au), ("tree", au), ("range", aA), ("len", aA), ("Tree", aA), ("list", aA), ("Chart", aA)]) = true := by decide +kernel
theorem Cw : aL ["lists", "boxes", "ways", "named", "names", "tree"] ["lists", "boxes", "ways"] (ao tV) := aU
noncomputable def Mr (s : List Int) (k : Int) : Int := cz (bA s k + k) 23
noncomputable def rC (s : List Int) (n : Nat) : List Int := (bB (Mr s) ((List.range n).map fun (i : Nat) => (i : Int))).filter fun k => decide (0 < cz (bA s k) 29 % 4)
noncomputable def yT (s : List Int) (n : Nat) : List Int := if cz (bA s 0) 71 % 4 = 1 then cutD (rC s n) none (some (cz (bA s 0) 73 % 2)) else rC s n
theorem FL (s : List Int) (n : Nat) : (rC s n).Nodup /\ (rC s n).length <= n /\ ∀ k ∈ rC s n, 0 <= k /\ k < n := by
 have nd0 : ((List.range n).map fun (i : Nat) => (i : Int)).Nodup := by
   refine List.pairwise_map.mpr (List.nodup_range.imp fun h e => h (by omega))
 refine ⟨((gw _).nodup_iff.mpr nd0).filter _, ?_, fun k hk => ?_⟩
 . refine afZ (agS _ _) ?_
   rw [fN, afj, agL]
   exact afp _
 . obtain ⟨i, hi, rfl⟩ := afJ.mp (dF.mp (agi.mp hk).1)
   have := agf.mp hi
   omega
theorem OI (s : List Int) (n : Nat) : (yT s n).Nodup /\ (yT s n).length <= n /\ ∀ k ∈ yT s n, 0 <= k /\ k < n := by
 obtain ⟨h1, h2, h3⟩ := FL s n
 unfold yT
 split
 . unfold cutD
   have sb : (((rC s n).drop (HT.qF (rC s n).length 0 none)).take (HT.qF (rC s n).length (rC s n).length (some (cz (bA s 0) 73 % 2)) - HT.qF (rC s n).length 0 none)).Sublist (rC s n) := (List.take_sublist _ _).trans (List.drop_sublist _ _)
   exact ⟨h1.sublist sb, afZ sb.length_le h2, fun k hk => h3 k (sb.subset hk)⟩
 . exact ⟨h1, h2, h3⟩
noncomputable abbrev s_row : Stmt := top 41
noncomputable abbrev Ko : Type := List Int × Nat
noncomputable def tW : Ko -> List L3.D := fun (s, n) => [.lst (s.map .int), .int n]
noncomputable def qf : Ko -> Prop := fun (s, n) => n <= 63
noncomputable def tX : Ko -> T := fun (s, n) => (.lst (((yT s n).map .int).map T.sh) : T)
structure Yh (X : Cx) (CL : Str -> Addr) : Prop extends bZ X where
 aY : Ln X 0 "script"
 uY : X.env.kindOf "script" = some .cell
 fL : Ln X 1 "many"
 f9 : Ln X 2 "row"
 jl : Ln X 3 "k"
 jK : Gl X "sorted"
 dJ : Gl X "list"
 ck : Gl X "range"
 bz : Gl X "_law_mixed"
 aR : Gl X "_law_cell_at"
 jL : X.mg "sorted" = none
 dM : X.mg "list" = none
 cu : X.mg "range" = none
 dm : Fc X CL "_law_mixed" 1 2 e9 fc fh
 bR : Fc X CL "_law_cell_at" 1 2 dR dS dU
 lam : GP X CL "#_law_row.<locals>.<lambda>" "_law_row.<locals>.<lambda>"
 dp : X.A.depth < recursionLimit
 rm : d8 2 X.A
theorem Yi {X : Cx} {CL : Str -> Addr} {b : Bx} (E : Yh X CL) (s n) (h : qf (s, n)) :
   ay X CL b s_row ["script", "many", "row", "k"] (tW (s, n)) (tX (s, n)) := by
 dsimp only [ay, qf, tW, tX] at h ⊢
 refine aO E.g E.f9 (eB eu (afP _)) ?_
 have aI : ∀ (l : List Int) (x : Int), (l.map L3.D.int).map T.sh ++ [T.sh (.int x)] = ((l ++ [x]).map L3.D.int).map T.sh := by intros; simp
 have hsl : (bB (Mr s) ((List.range n).map fun (i : Nat) => (i : Int))).length = n := by rw [fN, afj, agL]
 have ZZ : ∀ k ∈ bB (Mr s) ((List.range n).map fun (i : Nat) => (i : Int)), 0 <= k := fun k hk => by
   obtain ⟨i, _, rfl⟩ := afJ.mp (dF.mp hk)
   omega
 have hR : ((bL 0 (n : Int).toNat)) = ((List.range n).map fun (i : Nat) => (i : Int)).map L3.D.int := by
   unfold bL
   rw [afT, af6]
   refine agY fun i _ => ?_
   show L3.D.int (0 + (i : Int)) = _
   rw [agm]; rfl
 have hRA : rC s n = (bB (Mr s) ((List.range n).map fun (i : Nat) => (i : Int))).filter fun k => decide (0 < cz (bA s k) 29 % 4) := rfl
 refine iV E.g E.jl (fun j δ => ∃ o3, δ = [some (.sh (.lst (s.map .int))), some (.sh (.int n)), some (.lst (((((bB (Mr s) ((List.range n).map fun (i : Nat) => (i : Int))).take j).filter fun k => decide (0 < cz (bA s k) 29 % 4)).map .int).map T.sh)), o3])
   (iI (pD (ds := (bB (Mr s) ((List.range n).map fun (i : Nat) => (i : Int))).map .int) (aW (oE (y := "at") (ds := ((List.range n).map fun (i : Nat) => (i : Int)).map L3.D.int) (g := fun d => Mr s d.v9) E.lam E.g E.dp E.jL E.jK (cD (.cons E.aY.1 (.inl E.uY) .nil) (by decide +kernel)) (dh (JG E.g E.dM E.cu (aH E.fL) (by omega) E.dJ E.ck)) (cK _) (by simp; omega) (fun f c s0 H0 b' d hd => ?key)) (by rw [iB]; rfl)))) ⟨_, rfl⟩ (fun j δ ⟨_, e⟩ => by subst e; exact afl rfl) ?turn ?fin
 case key =>
   obtain ⟨k, U5, rfl⟩ := afJ.mp hd
   obtain ⟨i, hi, rfl⟩ := afJ.mp U5
   exact ah (aW (c_ (bA s (i : Int) + (i : Int), 23) (DZ E.dm (E.rm.mono (by decide))) (yd (by decide +kernel)) (ai (ah (ef (ah (aW (c_ (s, (i : Int)) (DZ E.bR (E.rm.mono (by decide))) (yd (by decide +kernel)) (ai (ah (v_ (DY (i := 1) rfl (by decide +kernel)))) (ai (ah (v_ (yc (i := 0) rfl (by decide +kernel)))) aF)) (show (0 : Int) <= (i : Int) by omega) rfl) (t2 := .sh (.int (bA s (i : Int)))) rfl)) (ah (v_ (yc (i := 0) rfl (by decide +kernel)))))) (ai (ah aj) aF)) trivial rfl) rfl)
 case turn =>
   rintro j d δ hj ⟨o3, rfl⟩
   obtain ⟨k, rfl, _, U5, sX, _, Ic⟩ := lH hj
   have k0 := ZZ k U5
   have hl1 : (((bB (Mr s) ((List.range n).map fun (i : Nat) => (i : Int))).take j).filter fun k => decide (0 < cz (bA s k) 29 % 4)).length <= 63 := by
     refine afZ (agS _ _) ?_
     rw [agU]; omega
   show fF X CL b _ _ { nx := fun δ => ∃ o3, δ = [_, _, some (.lst (((((bB (Mr s) ((List.range n).map fun (i : Nat) => (i : Int))).take (j + 1)).filter fun k => decide (0 < cz (bA s k) 29 % 4)).map .int).map T.sh)), o3], rt := _, bk := _, ct := _ }
   rw [Ic, agt, List.filter_cons, List.filter_nil]
   generalize ((bB (Mr s) ((List.range n).map fun (i : Nat) => (i : Int))).take j).filter (fun k => decide (0 < cz (bA s k) 29 % 4)) = fl at hl1 ⊢
   refine dX (wW (ah (aZ (ah (c_ ((bA s k, 29)) E.dm E.bz (ai (ah (c_ ((s, k)) E.bR E.aR (ai (aH E.aY) (ai (aH E.jl) aF)) (k0) rfl)) (ai (ah aj) aF)) (trivial) rfl)) (ah aj) (by decide))) (ah aj)).1 (fun hp => ?_) (fun hp => av (av ?_))
   . refine iW E.f9.1 rfl (v_ E.jl.1) rfl (by simp; omega) (av (av ?_))
     rw [aI, afk hp]
     exact ⟨_, rfl⟩
   . rw [afi (by rw [show decide (0 < cz (bA s k) 29 % 4) = false from hp]; decide), af2]
     exact ⟨_, rfl⟩
 case fin =>
   rintro δ ⟨o3, rfl⟩
   rw [afj, agz, ← hRA]
   have hrl := (FL s n).2.1
   show fF X CL b _ _ { nx := _, rt := fun DU _ => DU = T.lst (((yT s n).map .int).map T.sh), bk := _, ct := _ }
   unfold yT
   generalize rC s n = ra at hrl ⊢
   refine dX (dz (ah (aZ (ah (c_ ((bA s 0, 71)) E.dm E.bz (ai (ah (c_ ((s, 0)) E.bR E.aR (ai (aH E.aY) (ai (ah aj) aF)) (show (0 : Int) <= 0 by omega) rfl)) (ai (ah aj) aF)) (trivial) rfl)) (ah aj) (by decide))) (ah aj)).1 (fun hp => ?_) (fun hp => av ?_)
   . rw [afk (afE hp)]
     refine bu (aW (uB (vL E.f9.1) (cK _) sS (sU (ah (aZ (ah (c_ ((bA s 0, 73)) E.dm E.bz (ai (ah (c_ ((s, 0)) E.bR E.aR (ai (aH E.aY) (ai (ah aj) aF)) (show (0 : Int) <= 0 by omega) rfl)) (ai (ah aj) aF)) (trivial) rfl)) (ah aj) (by decide))))) (t2 := .lst (((cutD ra none (some (cz (bA s 0) 73 % 2))).map .int).map T.sh)) ?_) rfl
     rw [Bv]
   . rw [afi (afD hp)]
     exact bu (vM E.f9.1) rfl
theorem jq : jy (ao s_row) ([("script", .cell), ("many", au), ("row", au), ("k", au), ("sorted", aA), ("list", aA), ("range", aA), ("_law_mixed", aA), ("_law_cell_at", aA)]) = true := by decide +kernel
theorem Kp : aL ["script", "many", "row", "k"] ["script", "many"] (ao s_row) := aU
noncomputable abbrev g9 : Stmt := top 12
noncomputable abbrev kB : Type := List L3.D × List L3.D × L3.D × List L3.D × List L3.D × List e7 × Int
noncomputable def gb : kB -> List L3.D := fun (bs, nm, tr, is, os, ws, i) => [lK bs nm tr is os (ws.map dP), .int i]
noncomputable def eX : kB -> Prop := fun (bs, nm, tr, is, os, ws, i) => 0 <= i /\ i < ws.length
noncomputable def gf : kB -> T := fun (bs, nm, tr, is, os, ws, i) => (.sh (.bl (nW ws i)) : T)
structure yU (X : Cx) (CL : Str -> Addr) : Prop extends bZ X where
 cQ : Ln X 0 "chart"
 fB : Ln X 1 "number"
 u9 : Gl X "TARGET"
 vd : ∃ u, X.mg "TARGET" = some (.int 4 u)
 cC : v8 X.K (CL "Chart")
 cH : bw X.K (CL "Chart") "ways"
theorem yV {X : Cx} {CL : Str -> Addr} {b : Bx} (E : yU X CL) (bs nm tr is os ws i) (h : eX (bs, nm, tr, is, os, ws, i)) :
   ay X CL b g9 ["chart", "number"] (gb (bs, nm, tr, is, os, ws, i)) (gf (bs, nm, tr, is, os, ws, i)) := by
 dsimp only [ay, eX, gb, gf] at h ⊢
 obtain ⟨h0, h1⟩ := h
 exact bu (qL (fH (aM (gT E.cC E.cH (aH E.cQ) j6) (aH E.fB) (fJ (f := dP) w0 h0 h1)) (ah (pe E.vd E.u9)) (fO (j := 4) rfl)) (ah (dD (ah aj)))).2 rfl
theorem jr : jy (ao g9) ([("chart", au), ("number", au), ("TARGET", aA)]) = true := by decide +kernel
theorem om : aL ["chart", "number"] ["chart", "number"] (ao g9) := aU
noncomputable abbrev tY : Stmt := top 6
noncomputable abbrev yW : Type := List Str × List Int × List Int × Int
noncomputable def iC : yW -> List L3.D := fun (ks, es, ss, m) => [iL ks es ss, .int m]
noncomputable def gC : yW -> Prop := fun (ks, es, ss, m) => fK es /\ 0 <= m /\ m < es.length /\ es.length <= 1000
noncomputable def iD : yW -> T := fun (ks, es, ss, m) => (.lst (((bX es m).map .int).map T.sh) : T)
structure OJ (X : Cx) (CL : Str -> Addr) : Prop extends bZ X where
 cN : Ln X 0 "tree"
 eS : Ln X 1 "mood"
 aV : Ln X 2 "found"
 g6 : Ln X 3 "elder"
 fZ : v8 X.K (CL "Tree")
 d7 : bw X.K (CL "Tree") "elders"
theorem OL {X : Cx} {CL : Str -> Addr} {b : Bx} (E : OJ X CL) (ks es ss m) (h : gC (ks, es, ss, m)) :
   ay X CL b tY ["tree", "mood", "found", "elder"] (iC (ks, es, ss, m)) (iD (ks, es, ss, m)) := by
 dsimp only [ay, gC, iC, iD] at h ⊢
 obtain ⟨ht, h0, h1, hlen⟩ := h
 refine aO E.g E.aV (eB eu (afP _)) ?_
 refine aO E.g E.g6 (dg (aM (gT E.fZ E.d7 (aH E.cN) lJ) (aH E.eS) (eN h0 h1)) rfl) ?_
 have hm := ht.at h0 h1
 refine Fb E.g (fun n δ => ∃ (k : Int) (l : List Int), δ = [some (.sh (iL ks es ss)), some (.sh (.int m)), some (.lst ((l.map .int).map T.sh)), some (.sh (.int k))] /\ -1 <= k /\ k < n /\ k < es.length /\ l ++ qH n es k = bX es m /\ l.length + n <= es.length + 1) (es.length + 1)
   ⟨es.getD m.toNat 0, [], rfl, hm.1, by omega, by omega, rfl, by simp⟩ ?_
 rintro n δ ⟨k, l, rfl, k0, k1, k2, k3, k4⟩
 refine ⟨_, _, (qL (aH E.g6) (ah (dD (ah aj)))).1, fun hp => ?_, fun hp => ?_⟩
 . have hk : ¬ k = -1 := by simpa using hp
   have ha := ht.at (k := k) (by omega) k2
   cases n with
   | zero => omega
   | succ n =>
     refine iW E.aV.1 rfl (v_ E.g6.1) rfl (by simp; omega) ?_
     refine aO E.g E.g6 (dg (aM (gT E.fZ E.d7 (aH E.cN) lJ) (aH E.g6) (eN (by omega) k2)) rfl) ?_
     refine av ⟨n, Nat.lt_succ_self _, es.getD k.toNat 0, l ++ [k], ?_, ha.1, by omega, by omega, ?_, by simp; omega⟩
     . show [_, _, some (T.lst (((l.map D.int).map T.sh) ++ [T.sh (.int k)])), _] = _
       simp
     . rw [← k3, qH, afi hk, afr]
       rfl
 . have hk : k = -1 := by simpa using hp
   subst hk
   have e : l = bX es m := by
     rw [← k3]
     cases n with
     | zero => rw [qH, af2]
     | succ n => rw [qH, afk rfl, af2]
   subst e
   exact bu (vM E.aV.1) rfl
theorem qg : jy (ao tY) ([("tree", au), ("mood", au), ("found", au), ("elder", au)]) = true := by decide +kernel
theorem Cy : aL ["tree", "mood", "found", "elder"] ["tree", "mood"] (ao tY) := aU
noncomputable abbrev qh : Stmt := top 8
noncomputable abbrev ve : Type := List Str × List Int × List Int × Int × Int
noncomputable def iO : ve -> List L3.D := fun (ks, es, ss, m, o) => [iL ks es ss, .int m, .int o]
noncomputable def eY : ve -> Prop := fun (ks, es, ss, m, o) => fK es /\ 0 <= m /\ m < es.length /\ es.length <= 1000
noncomputable def iP : ve -> T := fun (ks, es, ss, m, o) => (.sh (.bl (decide (o = -1) || decide (o ∈ bX es m))) : T)
structure Kq (X : Cx) (CL : Str -> Addr) : Prop extends bZ X where
 cN : Ln X 0 "tree"
 eS : Ln X 1 "mood"
 bf : Ln X 2 "other"
 kC : Gl X "above"
 qi : Fc X CL "above" 1 2 iC gC iD
theorem Kr {X : Cx} {CL : Str -> Addr} {b : Bx} (E : Kq X CL) (ks es ss m o) (h : eY (ks, es, ss, m, o)) :
   ay X CL b qh ["tree", "mood", "other"] (iO (ks, es, ss, m, o)) (iP (ks, es, ss, m, o)) := by
 dsimp only [ay, eY, iO, iP] at h ⊢
 exact bu (RG (dz (aH E.bf) (ah (dD (ah aj)))).2 (fun _ => ux (gG (l := bX es m) (aH E.bf) (dh (c_ (ks, es, ss, m) E.qi E.kC (ai (aH E.cN) (ai (aH E.eS) aF)) h (bI _))) rfl rfl).2)) rfl
theorem nE : jy (ao qh) ([("tree", au), ("mood", au), ("other", au), ("above", aA)]) = true := by decide +kernel
theorem xA : aL ["tree", "mood", "other"] ["tree", "mood", "other"] (ao qh) := aU
noncomputable abbrev FN : Stmt := top 10
noncomputable abbrev Ks : Type := List Str × List Int × List Int × Int × Int
noncomputable def tZ : Ks -> List L3.D := fun (ks, es, ss, a, c) => [iL ks es ss, .int a, .int c]
noncomputable def qj : Ks -> Prop := fun (ks, es, ss, a, c) => fK es /\ es.length <= 1000 /\ ks.length = es.length /\ (0 <= a /\ a < es.length) /\ 0 <= c /\ c < es.length
noncomputable def t6 : Ks -> T := fun (ks, es, ss, a, c) => (.sh (.int (pK (fV ks) es a c)) : T)
structure Yj (X : Cx) (CL : Str -> Addr) : Prop extends bZ X where
 cN : Ln X 0 "tree"
 fX : Ln X 1 "one"
 bf : Ln X 2 "other"
 i7 : Ln X 3 "upper"
 kC : Gl X "above"
 jO : Gl X "within"
 qi : Fc X CL "above" 1 2 iC gC iD
 qk : Fc X CL "within" 2 3 iO eY iP
 fZ : v8 X.K (CL "Tree")
 f6 : bw X.K (CL "Tree") "kinds"
theorem Yk {X : Cx} {CL : Str -> Addr} {b : Bx} (E : Yj X CL) (ks es ss a c) (h : qj (ks, es, ss, a, c)) :
   ay X CL b FN ["tree", "one", "other", "upper"] (tZ (ks, es, ss, a, c)) (t6 (ks, es, ss, a, c)) := by
 dsimp only [ay, qj, tZ, t6] at h ⊢
 obtain ⟨ht, hl, hk, ⟨a0, a1⟩, c0, c1⟩ := h
 refine iV E.g E.i7 (fun j δ => ∃ o, (∀ x ∈ (bX es a).take j, (fV ks x && decide (x ∈ bX es c)) = false) /\ δ = [some (.sh (iL ks es ss)), some (.sh (.int a)), some (.sh (.int c)), o])
   (iI (pD (c_ (_, _, _, _) E.qi E.kC (ai (aH E.cN) (ai (aH E.fX) aF)) (by dsimp only [gC]; exact (⟨ht, a0, a1, hl⟩)) (bI _)))) ⟨_, fun x hx => by simp at hx, rfl⟩ (fun j δ ⟨_, _, e⟩ => by subst e; exact Nat.le_of_ble_eq_true rfl) ?turn ?fin
 case turn =>
   rintro j d δ hj ⟨o, qG, rfl⟩
   rw [afV] at hj
   cases hx : (bX es a)[j]? with
   | none => rw [hx] at hj; cases hj
   | some x =>
     rw [hx] at hj
     cases hj
     have OO : x ∈ bX es a := af7 hx
     have hxb := sY ht a0 a1 OO
     have sX : j < (bX es a).length := (afC.mp hx).1
     have Ic : (bX es a).take (j + 1) = (bX es a).take j ++ [x] := by rw [agK, hx]; rfl
     refine dX (nU (gS (qM (aM (gT E.fZ E.f6 (aH E.cN) uI) (aH E.i7) (fJ Str.empty (by omega) (by omega))) (ah b8)).1 (fun hb => (mK (n5 (c_ (_, _, _, _, _) E.qk E.jO (ai (aH E.cN) (ai (aH E.bf) (ai (aH E.i7) aF))) (by dsimp only [eY]; exact (⟨ht, c0, c1, hl⟩)) rfl)))))) (fun hp => ?_) (fun hp => av (av ⟨_, ?_, rfl⟩))
     . refine bu (v_ E.i7.1) ?_
       have hp2 : (fV ks x && decide (x ∈ bX es c)) = true := by
         have : decide (x = -1) = false := af0 (by omega)
         rw [this, Bool.false_or] at hp
         exact hp
       have : (bX es a).find? (fun x => fV ks x && decide (x ∈ bX es c)) = some x := by
         have DG : bX es a = (bX es a).take j ++ x :: (bX es a).drop (j + 1) := by
           have h2 := List.take_append_drop j (bX es a)
           rw [ag0 sX] at h2
           have : (bX es a)[j] = x := (afC.mp hx).2
           rw [this] at h2
           exact h2.symm
         conv => lhs; rw [DG]
         rw [List.find?_append, ag4.mpr (fun y hy => by rw [qG y hy]; decide), List.find?_cons, hp2]
         rfl
       show _ = T.sh (.int (pK (fV ks) es a c))
       unfold pK
       rw [this]
       rfl
     . intro y hy
       rw [Ic] at hy
       rcases afu.mp hy with hy | hy
       . exact qG y hy
       . have e : y = x := by simpa using hy
         subst e
         have : decide (y = -1) = false := af0 (by omega)
         rw [this, Bool.false_or] at hp
         exact hp
 case fin =>
   rintro δ ⟨o, qG, rfl⟩
   rw [afj, agz] at qG
   refine bu (dD (ah aj)) ?_
   show _ = T.sh (.int (pK (fV ks) es a c))
   unfold pK
   rw [ag4.mpr (fun y hy => by rw [qG y hy]; decide)]
   rfl
theorem rD : jy (ao FN) ([("tree", au), ("one", au), ("other", au), ("upper", au), ("above", aA), ("within", aA)]) = true := by decide +kernel
theorem Ku : aL ["tree", "one", "other", "upper"] ["tree", "one", "other"] (ao FN) := aU
noncomputable abbrev nF : Stmt := top 13
noncomputable abbrev rE : Type := List L3.D × List L3.D × List Str × List Int × List Int × List L3.D × List L3.D × List e7 × Int
noncomputable def i9 : rE -> List L3.D := fun (bs, nm, ks, es, ss, is, os, ws, i) => [lK bs nm (iL ks es ss) is os (ws.map dP), .int i]
noncomputable def gO : rE -> Prop := fun (bs, nm, ks, es, ss, is, os, ws, i) => fK es /\ es.length <= 1000 /\ ks.length = es.length /\ (0 <= i /\ i < ws.length) /\ (0 <= (j7 ws i).src /\ (j7 ws i).src < es.length) /\ 0 <= (j7 ws i).tgt /\ (j7 ws i).tgt < es.length
noncomputable def ja : rE -> T := fun (bs, nm, ks, es, ss, is, os, ws, i) => (.sh (.int (mO ks es (j7 ws i))) : T)
structure Hf (X : Cx) (CL : Str -> Addr) : Prop extends bZ X where
 cQ : Ln X 0 "chart"
 fB : Ln X 1 "number"
 dN : Ln X 2 "way"
 Kv : Gl X "top"
 Kw : Gl X "SOURCE"
 u9 : Gl X "TARGET"
 Yl : Fc X CL "top" 3 3 tZ qj t6
 vf : ∃ u, X.mg "SOURCE" = some (.int 0 u)
 vd : ∃ u, X.mg "TARGET" = some (.int 4 u)
 cC : v8 X.K (CL "Chart")
 cH : bw X.K (CL "Chart") "ways"
 c6 : bw X.K (CL "Chart") "tree"
theorem Hg {X : Cx} {CL : Str -> Addr} {b : Bx} (E : Hf X CL) (bs nm ks es ss is os ws i) (h : gO (bs, nm, ks, es, ss, is, os, ws, i)) :
   ay X CL b nF ["chart", "number", "way"] (i9 (bs, nm, ks, es, ss, is, os, ws, i)) (ja (bs, nm, ks, es, ss, is, os, ws, i)) := by
 dsimp only [ay, gO, i9, ja] at h ⊢
 obtain ⟨ht, hl, hk, ⟨i0, i1⟩, hs, ht2⟩ := h
 refine aO E.g E.dN (aW (T4 (Jh E.cC E.cH (v_ E.cQ.1) j6) (aH E.fB) (fJ (f := dP) w0 i0 i1)) (t2 := .sh (dP (j7 ws i))) rfl) ?_
 exact bu (c_ (ks, es, ss, (j7 ws i).src, (j7 ws i).tgt) E.Yl E.Kv (ai (gT E.cC E.c6 (aH E.cQ) j5) (ai (fH (aH E.dN) (ah (pe E.vf E.Kw)) (fO (j := 0) rfl)) (ai (fH (aH E.dN) (ah (pe E.vd E.u9)) (fO (j := 4) rfl)) aF))) (by dsimp only [qj]; exact ⟨ht, hl, hk, hs, ht2⟩) rfl) rfl
theorem gD : jy (ao nF) ([("chart", au), ("number", au), ("way", au), ("top", aA), ("SOURCE", aA), ("TARGET", aA)]) = true := by decide +kernel
theorem vg : aL ["chart", "number", "way"] ["chart", "number"] (ao nF) := aU
noncomputable abbrev t7 : Stmt := top 7
noncomputable abbrev yX : Type := List Str × List Int × List Int × Int
noncomputable def nG : yX -> List L3.D := fun (ks, es, ss, m) => [iL ks es ss, .int m]
noncomputable def jP : yX -> Prop := fun (ks, es, ss, m) => fK es /\ 0 <= m /\ m < es.length /\ es.length <= 1000
noncomputable def nH : yX -> T := fun (ks, es, ss, m) => (.sh (.int ((bX es m).length : Nat)) : T)
structure OQ (X : Cx) (CL : Str -> Addr) : Prop extends bZ X where
 cN : Ln X 0 "tree"
 eS : Ln X 1 "mood"
 cL : Gl X "len"
 kC : Gl X "above"
 cI : X.mg "len" = none
 qi : Fc X CL "above" 1 2 iC gC iD
theorem OS {X : Cx} {CL : Str -> Addr} {b : Bx} (E : OQ X CL) (ks es ss m) (h : jP (ks, es, ss, m)) :
   ay X CL b t7 ["tree", "mood"] (nG (ks, es, ss, m)) (nH (ks, es, ss, m)) := by
 dsimp only [ay, jP, nG, nH] at h ⊢
 have hl : ((bX es m).map L3.D.int).length = (bX es m).length := by simp
 exact bu (cj hl E.cI (dh (c_ (ks, es, ss, m) E.qi E.kC (ai (aH E.cN) (ai (aH E.eS) aF)) h (by show (T.lst _).clean = true; rw [gu]; exact lD _))) E.cL) rfl
theorem ql : jy (ao t7) ([("tree", au), ("mood", au), ("len", aA), ("above", aA)]) = true := by decide +kernel
theorem Cz : aL ["tree", "mood"] ["tree", "mood"] (ao t7) := aU
noncomputable abbrev jb : Stmt := top 14
noncomputable abbrev lU : Type := List Str × List Int × List Int × Int × Int
noncomputable def gH : lU -> List L3.D := fun (ks, es, ss, t, u) => [iL ks es ss, .int t, .int u]
noncomputable def fC : lU -> Prop := fun (ks, es, ss, t, u) => fK es /\ es.length <= 1000 /\ (-1 <= t /\ t < es.length) /\ -1 <= u /\ u < es.length
noncomputable def gI : lU -> T := fun (ks, es, ss, t, u) => (.sh (.bl (sC es t u)) : T)
structure CB (X : Cx) (CL : Str -> Addr) : Prop extends bZ X where
 cN : Ln X 0 "tree"
 fX : Ln X 1 "one"
 bf : Ln X 2 "other"
 jO : Gl X "within"
 qk : Fc X CL "within" 2 3 iO eY iP
theorem CD {X : Cx} {CL : Str -> Addr} {b : Bx} (E : CB X CL) (ks es ss t u) (h : fC (ks, es, ss, t, u)) :
   ay X CL b jb ["tree", "one", "other"] (gH (ks, es, ss, t, u)) (gI (ks, es, ss, t, u)) := by
 dsimp only [ay, fC, gH, gI] at h ⊢
 obtain ⟨ht, hl, ⟨t0, t1⟩, u0, u1⟩ := h
 show fF X CL b _ _ { nx := _, rt := fun DU _ => DU = T.sh (.bl (sC es t u)), bk := _, ct := _ }
 unfold sC
 refine dX (nU (r6 (dz (aH E.fX) (aH E.bf)).1 (fun hb => (r6 (dz (aH E.fX) (ah (dD (ah aj)))).1 (fun hb2 => (qN (dz (aH E.bf) (ah (dD (ah aj)))).1)))))) (fun hp => ?_) (fun hp => av ?_)
 . refine bu Bm ?_
   rw [show (decide (t = u) || (decide (t = -1) || decide (u = -1))) = true from hp]
   rfl
 . have hp : (decide (t = u) || (decide (t = -1) || decide (u = -1))) = false := hp
   rw [hp]
   simp only [Bool.or_eq_false_iff, decide_eq_false_iff_not] at hp
   refine bu (RG (c_ ((ks, es, ss, t, u)) E.qk E.jO (ai (aH E.cN) (ai (aH E.fX) (ai (aH E.bf) aF))) (by dsimp only [eY]; exact (⟨ht, by omega, by omega, hl⟩)) rfl) (fun hb => (ux (c_ ((ks, es, ss, u, t)) E.qk E.jO (ai (aH E.cN) (ai (aH E.bf) (ai (aH E.fX) aF))) (by dsimp only [eY]; exact (⟨ht, by omega, by omega, hl⟩)) rfl)))) ?_
   rw [show decide (u = -1) = false from af0 hp.2.2, show decide (t = -1) = false from af0 hp.2.1]
   rfl
theorem ic : jy (ao jb) ([("tree", au), ("one", au), ("other", au), ("within", aA)]) = true := by decide +kernel
theorem qm : aL ["tree", "one", "other"] ["tree", "one", "other"] (ao jb) := aU
noncomputable abbrev yZ : Stmt := top 15
noncomputable abbrev Ef : Type := List L3.D × List L3.D × List Str × List Int × List Int × List L3.D × List L3.D × List e7 × List Int
noncomputable def qo : Ef -> List L3.D := fun (bs, nm, ks, es, ss, is, os, ws, row) => [lK bs nm (iL ks es ss) is os (ws.map dP), .lst (row.map .int)]
noncomputable def lV : Ef -> Prop := fun (bs, nm, ks, es, ss, is, os, ws, row) => fK es /\ es.length <= 900 /\ ks.length = es.length /\ row.length <= 63 /\ (∀ k ∈ row, 0 <= k /\ k < ws.length) /\ ∀ w ∈ ws, (0 <= w.src /\ w.src < es.length) /\ -1 <= w.tgt /\ w.tgt < es.length
noncomputable def qp : Ef -> T := fun (bs, nm, ks, es, ss, is, os, ws, row) => (.lst (((kZ ks es ws row).map .int).map T.sh) : T)
structure U6 (X : Cx) (CL : Str -> Addr) : Prop extends bZ X where
 cQ : Ln X 0 "chart"
 t8 : X.env.kindOf "chart" = some .cell
 aV : Ln X 1 "found"
 vh : Ln X 2 "chosen"
 Eg : Ln X 3 "tops"
 fB : Ln X 4 "number"
 i7 : Ln X 5 "upper"
 OU : X.env.kindOf "upper" = some .cell
 jK : Gl X "sorted"
 kD : Gl X "has_target"
 rG : Gl X "way_top"
 Ym : Gl X "any"
 jL : X.mg "sorted" = none
 y9 : Fc X CL "has_target" 1 2 gb eX gf
 Hh : Fc X CL "way_top" 4 2 i9 gO ja
 Yn : X.mg "any" = none
 OV : Fc X CL "depth" 2 2 nG jP nH
 vf : ∃ u, X.mg "SOURCE" = some (.int 0 u)
 CF : Fc X CL "tops_meet" 3 3 gH fC gI
 cC : v8 X.K (CL "Chart")
 c6 : bw X.K (CL "Chart") "tree"
 cH : bw X.K (CL "Chart") "ways"
 lam : GP X CL "#kept.<locals>.<lambda>" "kept.<locals>.<lambda>"
 dp : X.A.depth < recursionLimit
 rm : d8 4 X.A
theorem U7 {X : Cx} {CL : Str -> Addr} {b : Bx} (E : U6 X CL) (bs nm ks es ss is os ws row) (h : lV (bs, nm, ks, es, ss, is, os, ws, row)) :
   ay X CL b yZ ["chart", "found", "chosen", "tops", "number", "upper"] (qo (bs, nm, ks, es, ss, is, os, ws, row)) (qp (bs, nm, ks, es, ss, is, os, ws, row)) := by
 dsimp only [ay, lV, qo, qp] at h ⊢
 obtain ⟨ht, hl, hk, hr, Yo, hw⟩ := h
 refine aO E.g E.vh (eB eu (afP _)) ?_
 refine aO E.g E.Eg (eB eu (afP _)) ?_
 have aI : ∀ (l : List Int) (x : Int), (l.map L3.D.int).map T.sh ++ [T.sh (.int x)] = ((l ++ [x]).map L3.D.int).map T.sh := by intros; simp
 have tI : ∀ {w : e7}, w ∈ ws -> -1 <= mO ks es w /\ mO ks es w < es.length := fun {w} hm => by
   have hs := (hw w hm).1
   rcases uR (xm := fV ks) (es := es) (a := w.src) (c := w.tgt) with z | z
   . unfold mO; rw [z]; omega
   . have := sY ht hs.1 hs.2 z
     unfold mO
     omega
 have hsl : (bB (oN es ws) row).length <= 63 := by rw [fN]; exact hr
 have ZZ : ∀ k ∈ bB (oN es ws) row, 0 <= k /\ k < ws.length := fun k hk => Yo k (dF.mp hk)
 have hT2 : ∀ l : List Int, (∀ k ∈ l, 0 <= k /\ k < ws.length) -> ∀ t ∈ (Ca ks es ws l).2, -1 <= t /\ t < es.length := by
   have gen : ∀ (l : List Int) (s : List Int × List Int), (∀ k ∈ l, 0 <= k /\ k < ws.length) -> (∀ t ∈ s.2, -1 <= t /\ t < es.length) -> ∀ t ∈ (l.foldl (G6 (nW ws) (fun k => mO ks es (j7 ws k)) (sC es)) s).2, -1 <= t /\ t < es.length := by
     intro l
     induction l with
     | nil => intro s _ hs; exact hs
     | cons k l ih =>
       intro s hl hs
       rw [List.foldl_cons]
       refine ih _ (fun q hq => hl q (afq _ hq)) ?_
       obtain ⟨k0, k1⟩ := hl k afo
       unfold G6
       split
       . split
         . exact hs
         . intro t XH
           rcases afu.mp XH with z | z
           . exact hs t z
           . rw [afG.mp z]; exact tI (iY k0 k1)
       . exact hs
   exact fun l hl => gen l ([], []) hl (fun t XH => by cases XH)
 refine iV E.g E.fB (fun j δ => ∃ o4 o5, δ = [some (.sh (lK bs nm (iL ks es ss) is os (ws.map dP))), some (.sh (.lst (row.map .int))), some (.lst (((Ca ks es ws ((bB (oN es ws) row).take j)).1.map .int).map T.sh)), some (.lst (((Ca ks es ws ((bB (oN es ws) row).take j)).2.map .int).map T.sh)), o4, o5])
   (iI (pD (ds := (bB (oN es ws) row).map .int) (aW (oE (y := "way") (g := fun d => oN es ws d.v9) E.lam E.g E.dp E.jL E.jK (cD (.cons E.cQ.1 (.inl E.t8) .nil) (by decide +kernel)) (aH E.aV) (cK _) (by simp; omega) (fun f c s0 H0 b' d hd => ?key)) (by rw [iB]; rfl)))) ⟨_, _, rfl⟩ (fun j δ ⟨_, _, e⟩ => by subst e; exact afl rfl) ?turn ?fin
 case key =>
   obtain ⟨k, U5, rfl⟩ := afJ.mp hd
   obtain ⟨k0, k1⟩ := Yo k U5
   obtain ⟨⟨s0, s1⟩, _⟩ := hw _ (iY k0 k1)
   exact ah (aW (dD (ah (c_ (ks, es, ss, (j7 ws k).src) (DZ E.OV (E.rm.mono (by decide))) (yd (by decide +kernel)) (ai (gT (by exact E.cC) (by exact E.c6) (ah (v_ (DY (i := 1) rfl (by decide +kernel)))) j5) (ai (fH (aM (gT (by exact E.cC) (by exact E.cH) (ah (v_ (DY (i := 1) rfl (by decide +kernel)))) j6) (ah (v_ (yc (i := 0) rfl (by decide +kernel)))) (fJ (f := dP) w0 k0 k1)) (ah (pe (by exact E.vf) (yd (by decide +kernel)))) (fO (j := 0) rfl)) aF)) (by dsimp only [jP]; exact ⟨ht, s0, s1, by omega⟩) rfl))) rfl)
 case turn =>
   rintro j d δ hj ⟨o4, o5, rfl⟩
   obtain ⟨k, rfl, _, U5, sX, _, Ic⟩ := lH hj
   obtain ⟨k0, k1⟩ := ZZ k U5
   obtain ⟨ws0, ws1⟩ := hw _ (iY k0 k1)
   have hlen := Fv ks es ws ((bB (oN es ws) row).take j)
   have oz : ((bB (oN es ws) row).take j).length <= 63 := by rw [agU]; omega
   have htp := hT2 ((bB (oN es ws) row).take j) fun q hq => ZZ q (List.mem_of_mem_take hq)
   show fF X CL b _ _ { nx := fun δ => ∃ o4 o5, δ = [_, _, some (.lst (((Ca ks es ws ((bB (oN es ws) row).take (j + 1))).1.map .int).map T.sh)), some (.lst (((Ca ks es ws ((bB (oN es ws) row).take (j + 1))).2.map .int).map T.sh)), o4, o5], rt := _, bk := _, ct := fun δ => ∃ o4 o5, δ = [_, _, some (.lst (((Ca ks es ws ((bB (oN es ws) row).take (j + 1))).1.map .int).map T.sh)), some (.lst (((Ca ks es ws ((bB (oN es ws) row).take (j + 1))).2.map .int).map T.sh)), o4, o5] }
   rw [Ic, J3]
   generalize Ca ks es ws ((bB (oN es ws) row).take j) = s at hlen htp ⊢
   obtain ⟨cs, lN⟩ := s
   dsimp only at hlen htp ⊢
   unfold G6
   dsimp only
   refine wX (fun δ => ∃ T' o5, (if nW ws k = true then (if lN.any (sC es (mO ks es (j7 ws k))) = true then (cs, lN) else (cs ++ [k], lN ++ [mO ks es (j7 ws k)])) else (cs ++ [k], lN)) = (cs ++ [k], T') /\ δ = [some (.sh (lK bs nm (iL ks es ss) is os (ws.map dP))), some (.sh (.lst (row.map .int))), some (.lst ((cs.map .int).map T.sh)), some (.lst ((T'.map .int).map T.sh)), some (.sh (.int k)), o5])
     (n5 (aW (c_ (bs, nm, iL ks es ss, is, os, ws, k) E.y9 E.kD (ai (aH E.cQ) (ai (aH E.fB) aF)) (by dsimp only [eX]; exact ⟨k0, k1⟩) rfl) (t2 := .sh (.bl (nW ws k))) rfl)) (fun hp => ?_) (fun hp => ?_) ?_
   . have hp : nW ws k = true := hp
     have Yc : ¬ (j7 ws k).tgt = -1 := by unfold nW at hp; simpa using hp
     refine aO E.g E.i7 (aW (c_ (bs, nm, ks, es, ss, is, os, ws, k) E.Hh E.rG (ai (aH E.cQ) (ai (aH E.fB) aF)) (by dsimp only [gO]; exact ⟨ht, by omega, hk, ⟨k0, k1⟩, ws0, by omega, ws1.2⟩) rfl) (t2 := .sh (.int (mO ks es (j7 ws k)))) rfl) ?_
     have hup := tI (iY (ws := ws) k0 k1)
     refine dX (n5 (aW (Uz (l := lN.map (sC es (mO ks es (j7 ws k)))) E.g E.Yn (dh (aW (JF (p := fun _ => true) (g := fun d => T.sh (.bl (sC es (mO ks es (j7 ws k)) d.v9))) (cD (.cons E.cQ.1 (.inl E.t8) (.cons E.i7.1 (.inl E.OU) .nil)) (by decide +kernel)) E.g.calm (vL E.Eg.1) (fun d _ => rfl) (fun C s0 H0 f0 b' d hd => ?G9) (age (dw (by rw [afj]; omega)))) ?ceq)) E.Ym) (t2 := .sh (.bl (lN.any (sC es (mO ks es (j7 ws k)))))) (congrArg (fun z => T.sh (.bl z)) (by rw [List.any_map]; rfl)))) (fun hq => ?_) (fun hq => av ?_)
     case G9 =>
       obtain ⟨t, htm, rfl⟩ := afJ.mp hd
       exact ⟨rfl, fun _ => aW (c_ (ks, es, ss, mO ks es (j7 ws k), t) (jZ E.CF) (gE (by decide +kernel)) (ai (gT (by exact E.cC) (by exact E.c6) (ah (v_ (fS (i := 1) rfl (by decide +kernel)))) j5) (ai (ah (v_ (fS (i := 2) rfl (by decide +kernel)))) (ai (ah (v_ (fQ (i := 0) rfl (by decide +kernel)))) aF))) (by dsimp only [fC]; exact ⟨ht, by omega, hup, htp t htm⟩) rfl) rfl⟩
     case ceq =>
       rw [eO, afT, afT, afT]
       rfl
     . have hq : lN.any (sC es (mO ks es (j7 ws k))) = true := hq
       refine Um ?_
       rw [afk hp, afk hq]
       exact ⟨_, _, rfl⟩
     . have hq : lN.any (sC es (mO ks es (j7 ws k))) = false := hq
       refine iW E.Eg.1 rfl (v_ E.i7.1) rfl (by simp; omega) (av ⟨lN ++ [mO ks es (j7 ws k)], some (.sh (.int (mO ks es (j7 ws k)))), ?_, ?_⟩)
       . rw [afk hp, afi (by rw [hq]; decide)]
       . rw [aI]; rfl
   . have hp : nW ws k = false := hp
     exact av ⟨lN, _, by rw [afi (by rw [hp]; decide)], rfl⟩
   rintro δ ⟨T', o5', eT, rfl⟩
   rw [eT]
   refine iW E.vh.1 rfl (v_ E.fB.1) rfl (by simp; omega) (av ?_)
   rw [aI]
   exact ⟨_, _, rfl⟩
 case fin =>
   rintro δ ⟨o4, o5, rfl⟩
   rw [afj, agz]
   have hlen := Fv ks es ws (bB (oN es ws) row)
   exact bu (aW (DT E.jL (vL E.vh.1) (by omega) E.jK) rfl) rfl
theorem fG : jy (ao yZ) ([("chart", .cell), ("found", au), ("chosen", au), ("tops", au), ("number", au), ("upper", .cell), ("sorted", aA), ("has_target", aA), ("way_top", aA), ("any", aA)]) = true := by decide +kernel
theorem FP : aL ["chart", "found", "chosen", "tops", "number", "upper"] ["chart", "found"] (ao yZ) := aU
noncomputable abbrev t9 : Stmt := top 17
noncomputable abbrev za : Type := Int
noncomputable def nI : za -> List L3.D := fun i => [.int i]
noncomputable def nJ : za -> Prop := fun i => True
noncomputable def nK : za -> T := fun i => (.sh (.bl true) : T)
structure OW (X : Cx) (CL : Str -> Addr) : Prop extends bZ X where
 aV : Ln X 0 "found"
 ig : Gl X "isinstance"
 Kg : Gl X "int"
 g_bool : Gl X "bool"
 iu : X.mg "isinstance" = none
 Kh : X.mg "int" = none
 U8 : X.mg "bool" = none
theorem OX {X : Cx} {CL : Str -> Addr} {b : Bx} (E : OW X CL) (i) (h : nJ i) :
   ay X CL b t9 ["found"] (nI i) (nK i) := by
 dsimp only [ay, nJ, nI, nK] at h ⊢
 exact bu (DQ (isI E.iu E.Kh E.ig E.Kg (aH E.aV)) (fun _ => ux (TY (isB E.iu E.U8 E.ig E.g_bool (aH E.aV))))) rfl
theorem qq : jy (ao t9) ([("found", au), ("isinstance", aA), ("int", aA), ("bool", aA)]) = true := by decide +kernel
theorem CG : aL ["found"] ["found"] (ao t9) := aU
noncomputable abbrev zb : Stmt := top 42
noncomputable abbrev Eh : Type := List Int × List Int
noncomputable def qu : Eh -> List L3.D := fun (l, row) => [.lst (l.map .int), .lst (row.map .int)]
noncomputable def lW : Eh -> Prop := fun (l, row) => l.length <= 1000 /\ l.Pairwise (· < ·) /\ ∀ x ∈ l, x ∈ row
noncomputable def qv : Eh -> T := fun (l, row) => (.sh (.bl true) : T)
structure U9 (X : Cx) (CL : Str -> Addr) : Prop extends bZ X where
 aV : Ln X 0 "found"
 f9 : Ln X 1 "row"
 jl : Ln X 2 "k"
 ig : Gl X "isinstance"
 dJ : Gl X "list"
 ck : Gl X "range"
 cL : Gl X "len"
 zc : Gl X "_law_whole"
 iu : X.mg "isinstance" = none
 dM : X.mg "list" = none
 cu : X.mg "range" = none
 cI : X.mg "len" = none
 OY : Fc X CL "_law_whole" 1 1 nI nJ nK
theorem Va {X : Cx} {CL : Str -> Addr} {b : Bx} (E : U9 X CL) (l row) (h : lW (l, row)) :
   ay X CL b zb ["found", "row", "k"] (qu (l, row)) (qv (l, row)) := by
 dsimp only [ay, lW, qu, qv] at h ⊢
 obtain ⟨hl, hp, hm⟩ := h
 refine dX (xT (n5 (isL E.iu E.dM E.ig E.dJ (aH E.aV)))) (fun hp => absurd hp (by decide)) (fun _ => av ?_)
 refine iV E.g E.jl (fun j δ => ∃ o, δ = [some (.sh (.lst (l.map .int))), some (.sh (.lst (row.map .int))), o]) (fu E.cu (ah (cj (afj ..) E.cI (aH E.aV) E.cL)) (by omega) E.ck) ⟨_, rfl⟩ (fun j δ ⟨_, e⟩ => by subst e; exact afl rfl) ?turn ?fin
 case turn =>
   rintro j d δ hj ⟨o, rfl⟩
   obtain ⟨rfl, sX⟩ := iK hj
   have sX : j < l.length := by simpa using sX
   rw [agm]
   have hgm : l.getD j 0 ∈ l := by rw [afs, afn sX]; exact agA _
   have Ob : oS (l.map L3.D.int) (j : Int) = some (.int (l.getD j 0)) := (eN (by omega) (by omega)).trans (by rw [af6])
   refine dX (nU (r6 (xT (n5 (aW (c_ (l.getD j 0) E.OY E.zc (ai (aM (aH E.aV) (aH E.jl) Ob) aF) trivial rfl) (t2 := .sh (.bl true)) rfl))) (fun _ => qN (xZ (i := l.getD j 0) (aM (aH E.aV) (aH E.jl) Ob) (aH E.f9) rfl rfl).1))) (fun hq => ?_) (fun _ => av ?_)
   . rw [agr (hm _ hgm)] at hq
     exact absurd hq (by decide)
   by_cases h0 : j = 0
   . subst h0
     refine dX (nU (gS (q := false) (wW (aH E.jl) (ah aj)).1 (fun hb => absurd (afE hb) (by omega)))) (fun hq => by simp at hq) (fun _ => av (av ⟨_, rfl⟩))
   . have oz : l.getD (j - 1) 0 < l.getD j 0 := by
       have := List.pairwise_iff_getElem.mp hp (j - 1) j (by omega) sX (by omega)
       rw [afs, afs, afn (show j - 1 < l.length by omega), afn sX]
       exact this
     have abQ : oS (l.map L3.D.int) ((j : Int) - 1) = some (.int (l.getD (j - 1) 0)) := (eN (by omega) (by omega)).trans (by rw [show ((j : Int) - 1).toNat = j - 1 by omega])
     refine dX (nU (gS (wW (aH E.jl) (ah aj)).1 (fun _ => mK (RC (aM (aH E.aV) (aH E.jl) Ob) (aM (aH E.aV) (ah (jX (aH E.jl) (ah aj))) abQ)).1))) (fun hq => ?_) (fun _ => av (av ⟨_, rfl⟩))
     rw [af4] at hq
     have := afE hq.2
     omega
 case fin =>
   rintro δ ⟨o, rfl⟩
   exact bu Bm rfl
theorem jc : jy (ao zb) ([("found", au), ("row", au), ("k", au), ("isinstance", aA), ("list", aA), ("range", aA), ("len", aA), ("_law_whole", aA)]) = true := by decide +kernel
theorem FQ : aL ["found", "row", "k"] ["found", "row"] (ao zb) := aU
noncomputable abbrev ua : Stmt := top 40
noncomputable abbrev zf : Type := List Int × List Int
noncomputable def jQ : zf -> List L3.D := fun (l, r) => [.lst (l.map .int), .lst (r.map .int)]
noncomputable def jR : zf -> Prop := fun (l, r) => True
noncomputable def jS : zf -> T := fun (l, r) => (.sh (.bl (Ft l r)) : T)
structure OZ (X : Cx) (CL : Str -> Addr) : Prop extends bZ X where
 fX : Ln X 0 "one"
 bf : Ln X 1 "other"
 eS : Ln X 2 "mood"
theorem O1 {X : Cx} {CL : Str -> Addr} {b : Bx} (E : OZ X CL) (l r) (h : jR (l, r)) :
   ay X CL b ua ["one", "other", "mood"] (jQ (l, r)) (jS (l, r)) := by
 dsimp only [ay, jR, jQ, jS] at h ⊢
 show fF X CL b _ _ { nx := _, rt := fun DU _ => DU = T.sh (.bl (Ft l r)), bk := _, ct := _ }
 refine iV E.g E.eS (fun j δ => ∃ o, (∀ x ∈ l.take j, decide (x ∈ r) = false) /\ δ = [some (.sh (.lst (l.map .int))), some (.sh (.lst (r.map .int))), o])
   (iI (v_ E.fX.1)) ⟨_, fun x hx => by simp at hx, rfl⟩ (fun j δ ⟨_, _, e⟩ => by subst e; exact afl rfl) ?turn ?fin
 case turn =>
   rintro j d δ hj ⟨o, qG, rfl⟩
   obtain ⟨x, rfl, hx, OO, sX, _, _⟩ := lH hj
   refine dX (gG (aH E.eS) (aH E.bf) rfl rfl).1 (fun hp => ?_) (fun hp => av (av ⟨_, ?_, rfl⟩))
   . refine bu Bm ?_
     rw [show Ft l r = true from List.any_eq_true.mpr ⟨x, OO, hp⟩]
   . intro y hy
     rw [agK, hx] at hy
     rcases afu.mp hy with hy | hy
     . exact qG y hy
     . have e : y = x := by simpa using hy
       subst e
       exact hp
 case fin =>
   rintro δ ⟨o, qG, rfl⟩
   rw [afj, agz] at qG
   refine bu Bm ?_
   rw [show Ft l r = false from List.any_eq_false.mpr fun x hx => by rw [qG x hx]; decide]
theorem vm : jy (ao ua) ([("one", au), ("other", au), ("mood", au)]) = true := by decide +kernel
theorem CH : aL ["one", "other", "mood"] ["one", "other"] (ao ua) := aU
noncomputable abbrev jd : Stmt := top 43
noncomputable abbrev lX : Type := Int × List Int × List Int × List (List Int) × List Int
noncomputable def gJ : lX -> List L3.D := fun (x, l, row, sp, dp) => [.int x, .lst (l.map .int), .lst (row.map .int), .lst (sp.map fun q => .lst (q.map .int)), .lst (dp.map .int)]
noncomputable def fD : lX -> Prop := fun (x, l, row, sp, dp) => sp.length = dp.length /\ (0 <= x /\ x < sp.length) /\ x ∈ row /\ (∀ y ∈ l, (0 <= y /\ y < sp.length) /\ y ∈ row) /\ ∃ y ∈ l, (dp.getD x.toNat 0 < dp.getD y.toNat 0 \/ (dp.getD y.toNat 0 = dp.getD x.toNat 0 /\ jF row y < jF row x)) /\ Ft (sp.getD x.toNat []) (sp.getD y.toNat []) = true
noncomputable def gK : lX -> T := fun (x, l, row, sp, dp) => (.sh (.bl true) : T)
structure CJ (X : Cx) (CL : Str -> Addr) : Prop extends bZ X where
 dN : Ln X 0 "way"
 aV : Ln X 1 "found"
 f9 : Ln X 2 "row"
 kE : Ln X 3 "spans"
 iQ : Ln X 4 "depths"
 bf : Ln X 5 "other"
 CK : Ln X 6 "before"
 kF : Gl X "_law_share"
 zg : Fc X CL "_law_share" 1 2 jQ jR jS
theorem CM {X : Cx} {CL : Str -> Addr} {b : Bx} (E : CJ X CL) (x l row sp dp) (h : fD (x, l, row, sp, dp)) :
   ay X CL b jd ["way", "found", "row", "spans", "depths", "other", "before"] (gJ (x, l, row, sp, dp)) (gK (x, l, row, sp, dp)) := by
 dsimp only [ay, fD, gJ, gK] at h ⊢
 obtain ⟨hl, ⟨x0, x1⟩, hxr, hin, y0, hy0, hgt, hsh⟩ := h
 refine iV E.g E.bf (fun j δ => ∃ o5 o6, y0 ∉ l.take j /\ δ = [some (.sh (.int x)), some (.sh (.lst (l.map .int))), some (.sh (.lst (row.map .int))), some (.sh (.lst (sp.map fun q => .lst (q.map .int)))), some (.sh (.lst (dp.map .int))), o5, o6])
   (iI (v_ E.aV.1)) ⟨_, _, by simp, rfl⟩ (fun j δ ⟨_, _, _, e⟩ => by subst e; exact afl rfl) ?turn ?fin
 case turn =>
   rintro j d δ hj ⟨o5, o6, qG, rfl⟩
   obtain ⟨y, rfl, _, Wr, _, _, Ic⟩ := lH hj
   obtain ⟨⟨z0, z1⟩, hyr⟩ := hin y Wr
   have nxt : y ≠ y0 -> y0 ∉ l.take (j + 1) := fun hn h => by
     rw [Ic] at h
     rcases afu.mp h with h | h
     . exact qG h
     . exact hn (afG.mp h).symm
   have Wg : oS (dp.map L3.D.int) x = some (.int (dp.getD x.toNat 0)) := eN x0 (by omega)
   have hay : oS (dp.map L3.D.int) y = some (.int (dp.getD y.toNat 0)) := eN z0 (by omega)
   refine aO E.g E.CK (DQ (dz (aM (aH E.iQ) (aH E.bf) hay) (aM (aH E.iQ) (aH E.dN) Wg)).2 (fun _ => ux (IX (ah (BV (l := row) (j := jF row y) (aH E.f9) (aH E.bf) (tD hyr) (fun i hi => J1 hi))) (ah (BV (l := row) (j := jF row x) (aH E.f9) (aH E.dN) (tD hxr) (fun i hi => J1 hi)))).2)) ?_
   refine dX (nU (r6 (wW (aM (aH E.iQ) (aH E.bf) hay) (aM (aH E.iQ) (aH E.dN) Wg)).1 (fun _ => qN (n5 (v_ E.CK.1))))) (fun hp => ?_) (fun hp => av (av ?_))
   . have hsx : oS (sp.map fun q => L3.D.lst (q.map .int)) x = some (.lst ((sp.getD x.toNat []).map .int)) := fJ (f := fun q : List Int => L3.D.lst (q.map .int)) [] x0 (by omega)
     have hsy : oS (sp.map fun q => L3.D.lst (q.map .int)) y = some (.lst ((sp.getD y.toNat []).map .int)) := fJ (f := fun q : List Int => L3.D.lst (q.map .int)) [] z0 (by omega)
     refine dX (n5 (aW (c_ (sp.getD x.toNat [], sp.getD y.toNat []) E.zg E.kF (ai (aM (aH E.kE) (aH E.dN) hsx) (ai (aM (aH E.kE) (aH E.bf) hsy) aF)) trivial rfl) (t2 := .sh (.bl (Ft (sp.getD x.toNat []) (sp.getD y.toNat [])))) rfl)) (fun _ => bu Bm rfl) (fun hq => av (av (av ⟨_, _, nxt fun e => ?_, rfl⟩)))
     rw [e, hsh] at hq
     cases hq
   . refine ⟨_, _, nxt fun e => ?_, rfl⟩
     subst e
     have hp : (decide (dp.getD x.toNat 0 < dp.getD y.toNat 0) || (decide (dp.getD y.toNat 0 = dp.getD x.toNat 0) && decide ((jF row y : Int) < (jF row x : Int)))) = false := hp
     simp only [Bool.or_eq_false_iff, Bool.and_eq_false_iff, decide_eq_false_iff_not] at hp
     omega
 case fin =>
   rintro δ ⟨o5, o6, qG, rfl⟩
   rw [afj, agz] at qG
   exact absurd hy0 qG
theorem c7 : jy (ao jd) ([("way", au), ("found", au), ("row", au), ("spans", au), ("depths", au), ("other", au), ("before", au), ("_law_share", aA)]) = true := by decide +kernel
theorem qw : aL ["way", "found", "row", "spans", "depths", "other", "before"] ["way", "found", "row", "spans", "depths"] (ao jd) := aU
noncomputable abbrev qx : Stmt := top 36
noncomputable abbrev vn : Type := List L3.D × List L3.D × List Str × List Int × List Int × List Int × List L3.D × List L3.D × List L3.D
noncomputable def kG : vn -> List L3.D := fun (bs, nm, ks, es, ss, oo, is, os, ws) => [lK bs nm (iL ks es ss) is os ws, pN ks es ss oo, .lst ws]
noncomputable def iR : vn -> Prop := fun (bs, nm, ks, es, ss, oo, is, os, ws) => (∀ x ∈ ks, PyData.strOk x = true) /\ ji 60 (.lst ws)
noncomputable def kH : vn -> T := fun (bs, nm, ks, es, ss, oo, is, os, ws) => (.sh (.bl true) : T)
structure Kx (X : Cx) (CL : Str -> Addr) : Prop extends bZ X where
 cQ : Ln X 0 "chart"
 bG : Ln X 1 "lists"
 eV : Ln X 2 "ways"
 cN : Ln X 3 "tree"
 cC : v8 X.K (CL "Chart")
 fZ : v8 X.K (CL "Tree")
 c6 : bw X.K (CL "Chart") "tree"
 cH : bw X.K (CL "Chart") "ways"
 f6 : bw X.K (CL "Tree") "kinds"
 d7 : bw X.K (CL "Tree") "elders"
 jo : bw X.K (CL "Tree") "starts"
theorem Ky {X : Cx} {CL : Str -> Addr} {b : Bx} (E : Kx X CL) (bs nm ks es ss oo is os ws) (h : iR (bs, nm, ks, es, ss, oo, is, os, ws)) :
   ay X CL b qx ["chart", "lists", "ways", "tree"] (kG (bs, nm, ks, es, ss, oo, is, os, ws)) (kH (bs, nm, ks, es, ss, oo, is, os, ws)) := by
 dsimp only [ay, iR, kG, kH] at h ⊢
 obtain ⟨hk, hw⟩ := h
 refine aO E.g E.cN (Jh E.cC E.c6 (v_ E.cQ.1) j5) ?_
 have e1 : ∀ l : List Int, E7 (.lst (l.map L3.D.int)) (.lst (l.map L3.D.int)) = true := fun l => lC (dG l)
 refine dX (nU (r6 (uA E.u (gT E.fZ E.f6 (aH E.cN) uI) (aM (aH E.bG) (ah aj) rfl) (Ux 59 hk) (Ux 59 hk)).1 (fun hb => (r6 (uA E.u (gT E.fZ E.d7 (aH E.cN) lJ) (aM (aH E.bG) (ah aj) rfl) (dG _) (dG _)).1 (fun hb2 => (qN (uA E.u (gT E.fZ E.jo (aH E.cN) B3) (aM (aH E.bG) (ah aj) rfl) (dG _) (dG _)).1)))))) (fun hp => ?_) (fun _ => av ?_)
 . rw [lC (Ux 59 hk), e1, e1] at hp
   cases hp
 . refine bu (Je E.u (gT E.cC E.cH (aH E.cQ) j6) (aH E.eV) hw hw).2 ?_
   rw [lC hw]
theorem nL : jy (ao qx) ([("chart", au), ("lists", au), ("ways", au), ("tree", au)]) = true := by decide +kernel
theorem xB : aL ["chart", "lists", "ways", "tree"] ["chart", "lists", "ways"] (ao qx) := aU
noncomputable abbrev nM : Stmt := top 38
noncomputable abbrev rH : Type := List Int × Int
noncomputable def je : rH -> List L3.D := fun (es, m) => [.lst (es.map .int), .int m]
noncomputable def gP : rH -> Prop := fun (es, m) => fK es /\ es.length <= 1000
noncomputable def jf : rH -> T := fun (es, m) => (.lst (((Ig es m).map .int).map T.sh) : T)
structure Hi (X : Cx) (CL : Str -> Addr) : Prop extends bZ X where
 bQ : Ln X 0 "elders"
 eS : Ln X 1 "mood"
 aV : Ln X 2 "found"
 jl : Ln X 3 "k"
 ck : Gl X "range"
 cL : Gl X "len"
 fj : Gl X "_law_chain"
 cu : X.mg "range" = none
 cI : X.mg "len" = none
 iZ : Fc X CL "_law_chain" 1 2 gA dH gB
theorem Hj {X : Cx} {CL : Str -> Addr} {b : Bx} (E : Hi X CL) (es m) (h : gP (es, m)) :
   ay X CL b nM ["elders", "mood", "found", "k"] (je (es, m)) (jf (es, m)) := by
 dsimp only [ay, gP, je, jf] at h ⊢
 obtain ⟨ht, hl⟩ := h
 refine aO E.g E.aV (eB eu (afP _)) ?_
 have hlen : ∀ j, ((((List.range j).filter (fun (i : Nat) => decide (m = -1) || decide (m ∈ bX es i))).map (fun (i : Nat) => (i : Int)))).length <= j := fun j => by
   rw [afj]
   have := agS (fun (i : Nat) => decide (m = -1) || decide (m ∈ bX es i)) (List.range j)
   rw [agL] at this
   exact this
 refine iV E.g E.jl (fun j δ => ∃ o, δ = [some (.sh (.lst (es.map .int))), some (.sh (.int m)), some (.lst (((((List.range j).filter (fun (i : Nat) => decide (m = -1) || decide (m ∈ bX es i))).map (fun (i : Nat) => (i : Int))).map .int).map T.sh)), o])
   (fu E.cu (ah (cj (afj ..) E.cI (aH E.bQ) E.cL)) (by omega) E.ck) ⟨_, rfl⟩ (fun j δ ⟨_, e⟩ => by subst e; exact afl rfl) ?turn ?fin
 case turn =>
   rintro j d δ hj ⟨o, rfl⟩
   obtain ⟨rfl, sX⟩ := iK hj
   have sX : j < es.length := by simpa using sX
   rw [agm]
   have hlj := hlen j
   have er : (List.range (j + 1)).filter (fun (i : Nat) => decide (m = -1) || decide (m ∈ bX es i)) = (List.range j).filter (fun (i : Nat) => decide (m = -1) || decide (m ∈ bX es i)) ++ (if (decide (m = -1) || decide (m ∈ bX es j)) = true then [j] else []) := by
     rw [ag1, agt, List.filter_cons, List.filter_nil]
   rw [er]
   generalize (List.range j).filter (fun (i : Nat) => decide (m = -1) || decide (m ∈ bX es i)) = fl at hlj ⊢
   refine dX (nU (r6 (dz (aH E.eS) (ah (dD (ah aj)))).1 (fun hb => (qN (gG (aH E.eS) (dh (c_ ((es, (j : Int))) E.iZ E.fj (ai (aH E.bQ) (ai (aH E.jl) aF)) (by dsimp only [dH]; exact (⟨ht, by omega, by omega, hl⟩)) (bI _))) rfl rfl).1)))) (fun hp => ?_) (fun hp => av (av ?_))
   . have hp : (decide (m = -1) || decide (m ∈ bX es j)) = true := hp
     refine iW E.aV.1 rfl (v_ E.jl.1) rfl (by rw [afj, afj]; omega) (av (av ?_))
     rw [afk hp, show ((fl.map (fun (i : Nat) => (i : Int))).map L3.D.int).map T.sh ++ [T.sh (.int (j : Int))] = (((fl ++ [j]).map (fun (i : Nat) => (i : Int))).map L3.D.int).map T.sh by simp]
     exact ⟨_, rfl⟩
   . have hp : (decide (m = -1) || decide (m ∈ bX es j)) = false := hp
     rw [afi (by rw [hp]; decide), af2]
     exact ⟨_, rfl⟩
 case fin =>
   rintro δ ⟨o, rfl⟩
   refine bu (vM E.aV.1) ?_
   have e : (bL 0 (es.length : Int).toNat).length = es.length := by simp [bL]
   rw [e]
   rfl
theorem fM : jy (ao nM) ([("elders", au), ("mood", au), ("found", au), ("k", au), ("range", aA), ("len", aA), ("_law_chain", aA)]) = true := by decide +kernel
theorem vo : aL ["elders", "mood", "found", "k"] ["elders", "mood"] (ao nM) := aU
noncomputable abbrev qy : Stmt := top 37
noncomputable abbrev vp : Type := List Str × List Int × List Int × List Int × e7
noncomputable def kI : vp -> List L3.D := fun (ks, es, ss, oo, w) => [pN ks es ss oo, dP w]
noncomputable def iS : vp -> Prop := fun (ks, es, ss, oo, w) => fK es /\ es.length <= 1000 /\ ks.length = es.length /\ (0 <= w.src /\ w.src < es.length) /\ 0 <= w.tgt /\ w.tgt < es.length
noncomputable def kJ : vp -> T := fun (ks, es, ss, oo, w) => (.sh (.int (pK (fV ks) es w.src w.tgt)) : T)
structure Kz (X : Cx) (CL : Str -> Addr) : Prop extends bZ X where
 bG : Ln X 0 "lists"
 dN : Ln X 1 "way"
 CN : Ln X 2 "shared"
 O2 : Ln X 3 "up"
 fj : Gl X "_law_chain"
 iZ : Fc X CL "_law_chain" 1 2 gA dH gB
theorem KC {X : Cx} {CL : Str -> Addr} {b : Bx} (E : Kz X CL) (ks es ss oo w) (h : iS (ks, es, ss, oo, w)) :
   ay X CL b qy ["lists", "way", "shared", "up"] (kI (ks, es, ss, oo, w)) (kJ (ks, es, ss, oo, w)) := by
 dsimp only [ay, iS, kI, kJ] at h ⊢
 obtain ⟨ht, hl, hk, ⟨a0, a1⟩, c0, c1⟩ := h
 refine aO E.g E.CN (aW (c_ ((es, w.tgt)) E.iZ E.fj (ai (aM (aH E.bG) (ah aj) rfl) (ai (fH (aH E.dN) (ah aj) (fO (j := 4) rfl)) aF)) (by dsimp only [dH]; exact (⟨ht, c0, c1, hl⟩)) (bI _)) (t2 := .lst (((bX es w.tgt).map .int).map T.sh)) rfl) ?_
 refine iV E.g E.O2 (fun j δ => ∃ o, (∀ x ∈ (bX es w.src).take j, (fV ks x && decide (x ∈ bX es w.tgt)) = false) /\ δ = [some (.sh (pN ks es ss oo)), some (.sh (dP w)), some (.lst (((bX es w.tgt).map .int).map T.sh)), o])
   (iI (pD (aW (c_ ((es, w.src)) E.iZ E.fj (ai (aM (aH E.bG) (ah aj) rfl) (ai (fH (aH E.dN) (ah aj) (fO (j := 0) rfl)) aF)) (by dsimp only [dH]; exact (⟨ht, a0, a1, hl⟩)) (bI _)) (t2 := .lst (((bX es w.src).map .int).map T.sh)) rfl))) ⟨_, fun x hx => by simp at hx, rfl⟩ (fun j δ ⟨_, _, e⟩ => by subst e; exact Nat.le_of_ble_eq_true rfl) ?turn ?fin
 case turn =>
   rintro j d δ hj ⟨o, qG, rfl⟩
   obtain ⟨x, rfl, hx, OO, sX, _, _⟩ := lH hj
   have hxb := sY ht a0 a1 OO
   have Ic : (bX es w.src).take (j + 1) = (bX es w.src).take j ++ [x] := by rw [agK, hx]; rfl
   refine dX (nU (gS (qM (aM (aM (aH E.bG) (ah aj) rfl) (aH E.O2) (fJ Str.empty (by omega) (by omega))) (ah b8)).1 (fun hb => (mK (gG (aH E.O2) (vL E.CN.1) rfl rfl).1)))) (fun hp => ?_) (fun hp => av (av ⟨_, ?_, rfl⟩))
   . refine bu (v_ E.O2.1) ?_
     have hp2 : (fV ks x && decide (x ∈ bX es w.tgt)) = true := hp
     have : (bX es w.src).find? (fun x => fV ks x && decide (x ∈ bX es w.tgt)) = some x := by
       have DG : bX es w.src = (bX es w.src).take j ++ x :: (bX es w.src).drop (j + 1) := by
         have h2 := List.take_append_drop j (bX es w.src)
         have abU : j < (bX es w.src).length := (afC.mp hx).1
         rw [ag0 abU] at h2
         have : (bX es w.src)[j] = x := (afC.mp hx).2
         rw [this] at h2
         exact h2.symm
       conv => lhs; rw [DG]
       rw [List.find?_append, ag4.mpr (fun y hy => by rw [qG y hy]; decide), List.find?_cons, hp2]
       rfl
     unfold pK
     rw [this]
     rfl
   . intro y hy
     rw [Ic] at hy
     rcases afu.mp hy with hy | hy
     . exact qG y hy
     . have e : y = x := by simpa using hy
       subst e
       exact hp
 case fin =>
   rintro δ ⟨o, qG, rfl⟩
   rw [afj, agz] at qG
   refine bu (dD (ah aj)) ?_
   unfold pK
   rw [ag4.mpr (fun y hy => by rw [qG y hy]; decide)]
   rfl
theorem jT : jy (ao qy) ([("lists", au), ("way", au), ("shared", au), ("up", au), ("_law_chain", aA)]) = true := by decide +kernel
theorem xC : aL ["lists", "way", "shared", "up"] ["lists", "way"] (ao qy) := aU
noncomputable abbrev zj : Stmt := top 39
noncomputable abbrev Ei : Type := List Str × List Int × List Int × List Int × e7
noncomputable def qz : Ei -> List L3.D := fun (ks, es, ss, oo, w) => [pN ks es ss oo, dP w]
noncomputable def lY : Ei -> Prop := fun (ks, es, ss, oo, w) => fK es /\ es.length <= 1000 /\ ks.length = es.length /\ (0 <= w.src /\ w.src < es.length) /\ -1 <= w.tgt /\ w.tgt < es.length
noncomputable def qA : Ei -> T := fun (ks, es, ss, oo, w) => (.lst (((DV ks es w.src w.tgt).map .int).map T.sh) : T)
structure Vb (X : Cx) (CL : Str -> Addr) : Prop extends bZ X where
 bG : Ln X 0 "lists"
 dN : Ln X 1 "way"
 vq : Gl X "_law_beneath"
 Ej : Gl X "_law_top"
 Hl : Fc X CL "_law_beneath" 2 2 je gP jf
 KD : Fc X CL "_law_top" 2 2 kI iS kJ
theorem Vc {X : Cx} {CL : Str -> Addr} {b : Bx} (E : Vb X CL) (ks es ss oo w) (h : lY (ks, es, ss, oo, w)) :
   ay X CL b zj ["lists", "way"] (qz (ks, es, ss, oo, w)) (qA (ks, es, ss, oo, w)) := by
 dsimp only [ay, lY, qz, qA] at h ⊢
 obtain ⟨ht, hl, hk, hs, t0, t1⟩ := h
 show fF X CL b _ _ { nx := _, rt := fun DU _ => DU = T.lst (((DV ks es w.src w.tgt).map .int).map T.sh), bk := _, ct := _ }
 unfold DV
 refine dX (dz (fH (aH E.dN) (ah aj) (fO (j := 4) rfl)) (ah (dD (ah aj)))).1 (fun hp => ?_) (fun hp => av ?_)
 . rw [afk (afE hp)]
   exact bu (eB eu (afP _)) rfl
 . have hp := afD hp
   rw [afi hp]
   exact bu (aW (c_ (es, pK (fV ks) es w.src w.tgt) E.Hl E.vq (ai (aM (aH E.bG) (ah aj) rfl) (ai (ah (c_ (ks, es, ss, oo, w) E.KD E.Ej (ai (aH E.bG) (ai (aH E.dN) aF)) (by dsimp only [iS]; exact ⟨ht, hl, hk, hs, by omega, t1⟩) rfl)) aF)) (by dsimp only [gP]; exact ⟨ht, hl⟩) (bI _)) rfl) rfl
theorem uc : jy (ao zj) ([("lists", au), ("way", au), ("_law_beneath", aA), ("_law_top", aA)]) = true := by decide +kernel
theorem FT : aL ["lists", "way"] ["lists", "way"] (ao zj) := aU
noncomputable def Z0 (ks : List Str) (es : List Int) (d : L3.D) : T := .lst (((DV ks es d.ZP.v9 (abD d)).map .int).map T.sh)
noncomputable def spV (ks : List Str) (es : List Int) (w : e7) : L3.D := .lst ((DV ks es w.src w.tgt).map .int)
theorem Vd (ks : List Str) (es : List Int) (ws : List e7) : T.dY (.lst ((ws.map dP).map (Z0 ks es))) = .lst (ws.map (spV ks es)) := by
 rw [T.dY]
 congr 1
 induction ws with
 | nil => rfl
 | cons w ws ih =>
   rw [afO, afO, T.gQ, ih, afO]
   congr 1
   exact cZ _
theorem O4 (ks : List Str) (es : List Int) (ws : List e7) : ws.map (spV ks es) = (ws.map fun w => DV ks es w.src w.tgt).map fun q => L3.D.lst (q.map .int) := by
 rw [afT]
 rfl
theorem getD_map {α β : Type} (f : α -> β) (l : List α) (i : Nat) (d : α) (e : β) (h : i < l.length) : (l.map f).getD i e = f (l.getD i d) := by
 rw [afs, afs, afV, afn h]
 rfl
theorem Ho {l : List Int} (h : l.Pairwise (· <= ·)) (nd : l.Nodup) : l.Pairwise (· < ·) := by
 have := h.and nd
 exact this.imp fun ⟨a, c⟩ => by omega
noncomputable abbrev FU : Stmt := top 44
noncomputable abbrev KG : Type := List Int
noncomputable def nO : KG -> List L3.D := fun a => [.lst (a.map .int)]
noncomputable def nP : KG -> Prop := fun a => a.length <= 63
noncomputable def nQ : KG -> T := fun a => (.sh (.bl true) : T)
structure Yp (X : Cx) (CL : Str -> Addr) : Prop extends bZ X where
 aY : Ln X 0 "script"
 bG : Ln X 1 "lists"
 ud : X.env.kindOf "lists" = some .cell
 bY : Ln X 2 "opens"
 cB : Ln X 3 "boxes"
 g7 : Ln X 4 "three"
 eV : Ln X 5 "ways"
 cQ : Ln X 6 "chart"
 dN : Ln X 7 "way"
 kE : Ln X 8 "spans"
 iQ : Ln X 9 "depths"
 f9 : Ln X 10 "row"
 qB : Ln X 11 "handed"
 aV : Ln X 12 "found"
 bf : Ln X 13 "other"
 zk : Gl X "_law_lists"
 zl : Gl X "_law_opens"
 zm : Gl X "_law_boxes"
 zo : Gl X "_law_signs"
 CP : Gl X "_law_ways"
 cL : Gl X "len"
 zq : Gl X "_law_chart"
 Ek : Gl X "_law_row"
 dJ : Gl X "list"
 zu : Gl X "kept"
 CQ : Gl X "_law_told"
 rJ : Gl X "_law_overruled"
 kF : Gl X "_law_share"
 wK : Gl X "_law_stayed"
 O5 : Fc X CL "_law_lists" 3 1 mR mS mU
 O6 : Fc X CL "_law_opens" 1 1 mV jH mW
 O7 : Fc X CL "_law_boxes" 2 1 mX mY mZ
 O8 : Fc X CL "_law_signs" 2 1 m7 m8 m9
 rK : Fc X CL "_law_ways" 4 5 qb lP qc
 cI : X.mg "len" = none
 O9 : Fc X CL "_law_chart" 3 3 nA jN nB
 xD : Fc X CL "_law_row" 3 2 tW qf tX
 dM : X.mg "list" = none
 rL : Fc X CL "kept" 5 2 qo lV qp
 Ve : Fc X CL "_law_told" 2 2 qu lW qv
 CT : Fc X CL "_law_overruled" 2 5 gJ fD gK
 zg : Fc X CL "_law_share" 1 2 jQ jR jS
 KH : Fc X CL "_law_stayed" 1 3 kG iR kH
 Vf : Fc X CL "_law_span" 3 2 qz lY qA
 iZ : Fc X CL "_law_chain" 1 2 gA dH gB
theorem Yq {X : Cx} {CL : Str -> Addr} {b : Bx} (E : Yp X CL) (a) (h : nP a) :
   ay X CL b FU ["script", "lists", "opens", "boxes", "three", "ways", "chart", "way", "spans", "depths", "row", "handed", "found", "other"] (nO a) (nQ a) := by
 dsimp only [ay, nP, nO, nQ] at h ⊢
 have hs : a.length <= 1000 := by omega
 refine aO E.g E.bG (aW (c_ a E.O5 E.zk (ai (aH E.aY) aF) hs (by
   show T.clean (pO _ _ _ _) = true
   unfold pO
   rw [gu, T.eK, T.eK, T.eK, T.eK, T.eK, bO (lE _), bO (cK _), bO (cK _), bO (cK _)]
   rfl)) (t2 := pO (pM a (iU a) (iU a).length) (iU a) (uM a (iU a) (iU a).length) (qZ a (iU a) (iU a).length)) rfl) ?_
 obtain ⟨n1, n2, sJ⟩ := Fl a
 generalize iU a = es at n1 n2 sJ ⊢
 have hkl : ∀ x ∈ pM a es es.length, PyData.strOk x = true := fun x hx => by
   obtain ⟨k, _, rfl⟩ := afJ.mp hx
   exact UL _ _ _
 have Yr : (qZ a es es.length).length = es.length := by simp [qZ]
 have Ys : (pM a es es.length).length = es.length := by simp [pM]
 generalize pM a es es.length = ks at hkl Ys ⊢
 generalize uM a es es.length = ss
 generalize qZ a es es.length = oo at Yr ⊢
 have Ws := JR ks es ss oo
 refine aO E.g E.bY (aW (c_ (ks, es, ss, oo) E.O6 E.zl (ai (vE E.bG.1 rfl Ws) aF) (by dsimp only [jH]; exact ⟨n1, by omega, Yr, sJ.1⟩) (bI _)) (t2 := .lst (((xq es oo (es.length - 1)).map .int).map T.sh)) rfl) ?_
 have Wn := (yt (es := es) (os := oo) (es.length - 1)).1
 have N1 : ∀ x ∈ xq es oo (es.length - 1), 0 <= x /\ x < es.length := fun x hx => by
   have := sZ _ hx
   omega
 generalize xq es oo (es.length - 1) = ops at Wn N1 ⊢
 refine aO E.g E.cB (aW (c_ (a) E.O7 E.zm (ai (aH E.aY) aF) (hs) (bI _)) (t2 := .lst (((Wk a).map .int).map T.sh)) rfl) ?_
 have ZU := NT a
 generalize Wk a = bs at ZU ⊢
 refine aO E.g E.g7 (aW (c_ (a) E.O8 E.zo (ai (aH E.aY) aF) (hs) (uJ _)) (t2 := .lst (((NV a).map .str).map T.sh)) rfl) ?_
 have h3 := NW a
 have dO := UM a
 generalize NV a = th at h3 dO ⊢
 obtain ⟨wl, wo⟩ := JY (s := a) (bs := bs) n1 Wn N1 dO h3
 have Vg : pQ es.length bs (uQ a ops es.length bs th) := ⟨by omega, wo⟩
 refine aO E.g E.eV (aW (c_ (a, ops, es.length, bs, th) E.rK E.CP (ai (aH E.aY) (ai (vL E.bY.1) (ai (ah (cj (List.length_map ..) E.cI (aM (vE E.bG.1 rfl Ws) (ah aj) rfl) E.cL)) (ai (vL E.cB.1) (ai (vL E.g7.1) aF))))) (by dsimp only [lP]; exact ⟨h, n1, Wn, by omega, h3, N1, dO⟩) (by exact bO Vg.bT)) (t2 := .lst (((uQ a ops es.length bs th).map dP).map T.sh)) rfl) ?_
 generalize uQ a ops es.length bs th = ws at Vg ⊢
 have iw := Vg.bT
 refine aO E.g E.cQ (aW (c_ (ks, es, ss, oo, bs, ws.map dP) E.O9 E.zq (ai (vE E.bG.1 rfl Ws) (ai (vL E.cB.1) (ai (vL E.eV.1) aF))) (by dsimp only [jN]; exact ⟨by omega, by omega, iw⟩) (by
   show T.bD (gy _ _ _ _ _ _) = true
   exact yR (rB _) (lE _) (sq ks es ss) (jM _) (jM _) iw)) (t2 := .ins "Chart" (gy (qe bs.length) ((oK es.length).map .str) (.ins "Tree" (jE ks es ss)) (rA es.length) (rA es.length) (ws.map dP))) rfl) ?_
 have hcf : T.dY (.ins "Chart" (gy (qe bs.length) ((oK es.length).map .str) (.ins "Tree" (jE ks es ss)) (rA es.length) (rA es.length) (ws.map dP))) = lK (qe bs.length) ((oK es.length).map .str) (iL ks es ss) (rA es.length) (rA es.length) (ws.map dP) := by
   rw [D3, GZ]
 have Tt : (ws.map dP).length = ws.length := by simp
 have ht := sJ.1
 have hkn : ks.length = es.length := Ys
 have wC : ∀ w ∈ ws, (0 <= w.src /\ w.src < es.length) /\ -1 <= w.tgt /\ w.tgt < es.length := fun w hw => ⟨(Vg.2 w hw).src, (Vg.2 w hw).tgt⟩
 have hws := Vg.1
 refine oB (p := fun _ => true) (gg := Z0 ks es) E.g E.kE (cD (.cons E.bG.1 (.inl E.ud) .nil) (by decide +kernel)) (iI (vFL E.eV.1 rfl)) (.inl ⟨rfl, fun d hd => bI _⟩) (fun C s0 H0 f0 b' d hd => ?G9) (age (dw (by rw [Tt]; omega))) ?rest (by exact afl rfl) (iJ ⟨_, rfl⟩)
 case G9 =>
   obtain ⟨w, hw, rfl⟩ := afJ.mp hd
   obtain ⟨Z6, Rr⟩ := wC w hw
   exact ⟨rfl, fun _ => aW (c_ (ks, es, ss, oo, w) (jZ E.Vf) (gE (by decide +kernel)) (ai (Jj (ah (v_ (fS (i := 1) rfl (by decide +kernel)))) Ws) (ai (ah (v_ (fQ (i := 0) rfl (by decide +kernel)))) aF)) (by dsimp only [lY]; exact ⟨ht, by omega, hkn, Z6, Rr⟩) (bI _)) rfl⟩
 case rest =>
 rw [eO]
 have Yt : T.dY (.lst ((ws.map dP).map (Z0 ks es))) = .lst ((ws.map fun w => DV ks es w.src w.tgt).map fun q => L3.D.lst (q.map .int)) := (Vd ks es ws).trans (congrArg L3.D.lst (O4 ks es ws))
 generalize DG : T.lst ((ws.map dP).map (Z0 ks es)) = Vh at Yt ⊢
 refine oB (p := fun _ => true) (gg := fun d => T.sh (.int ((bX es d.ZP.v9).length : Nat))) E.g E.iQ (cD (.cons E.bG.1 (.inl E.ud) .nil) (by decide +kernel)) (iI (v_ E.eV.1)) (.inl ⟨rfl, fun d hd => rfl⟩) (fun C s0 H0 f0 b' d hd => ?abV) (age (dw (by rw [Tt]; omega))) ?Yu (by exact afl rfl) (iJ ⟨_, rfl⟩)
 case abV =>
   obtain ⟨w, hw, rfl⟩ := afJ.mp hd
   obtain ⟨Z6, Rr⟩ := wC w hw
   exact ⟨rfl, fun _ => aW (cj (List.length_map ..) E.cI (dh (aW (c_ (es, w.src) (jZ E.iZ) (gE (by decide +kernel)) (ai (aM (Jj (ah (v_ (fS (i := 1) rfl (by decide +kernel)))) Ws) (ah aj) rfl) (ai (fH (ah (v_ (fQ (i := 0) rfl (by decide +kernel)))) (ah aj) (fO (j := 0) rfl)) aF)) (by dsimp only [dH]; exact ⟨ht, Z6.1, Z6.2, by omega⟩) (bI _)) (t2 := .lst (((bX es w.src).map .int).map T.sh)) rfl)) (gE (by decide +kernel))) rfl⟩
 case Yu =>
 have edp : ((ws.map dP).filter fun _ => true).map (fun d => T.sh (.int ((bX es d.ZP.v9).length : Nat))) = ((ws.map fun w => ((bX es w.src).length : Int)).map L3.D.int).map T.sh := by
   rw [eO, afT, afT, afT]
   rfl
 rw [edp]
 have hdl : (ws.map fun w => ((bX es w.src).length : Int)).length = ws.length := by simp
 have hdg : ∀ {k : Int}, 0 <= k -> k < ws.length -> (ws.map fun w => ((bX es w.src).length : Int)).getD k.toNat 0 = -oN es ws k := fun {k} k0 k1 => by
   rw [getD_map _ _ _ w0 _ (by omega)]
   unfold oN j7
   omega
 have Yv : ∀ {k : Int}, 0 <= k -> k < ws.length -> (ws.map fun w => DV ks es w.src w.tgt).getD k.toNat [] = DV ks es (j7 ws k).src (j7 ws k).tgt := fun {k} k0 k1 => getD_map _ _ _ w0 _ (by omega)
 have abX : (ws.map fun w => DV ks es w.src w.tgt).length = ws.length := by simp
 generalize aeR : (ws.map fun w => ((bX es w.src).length : Int)) = R3 at hdl hdg ⊢
 generalize aeS : (ws.map fun w => DV ks es w.src w.tgt) = KJ at abX Yv Yt ⊢
 refine aO E.g E.f9 (aW (c_ (a, ws.length) E.xD E.Ek (ai (aH E.aY) (ai (ah (cj Tt E.cI (aH E.eV) E.cL)) aF)) (by dsimp only [qf]; exact hws) (bI _)) (t2 := .lst (((yT a ws.length).map .int).map T.sh)) rfl) ?_
 obtain ⟨rnd, rl, KL⟩ := OI a ws.length
 generalize yT a ws.length = row at rnd rl KL ⊢
 refine aO E.g E.qB (dB E.dM (vL E.f9.1) (cK _) E.dJ bN) ?_
 refine aO E.g E.aV (aW (c_ (qe bs.length, (oK es.length).map .str, ks, es, ss, rA es.length, rA es.length, ws, row) E.rL E.zu (ai (vE E.cQ.1 rfl hcf) (ai (vL E.qB.1) aF)) (by dsimp only [lV]; exact ⟨ht, by omega, hkn, by omega, KL, wC⟩) (bI _)) (t2 := .lst (((kZ ks es ws row).map .int).map T.sh)) rfl) ?_
 have KP := N4 (ks := ks) (es := es) (ws := ws) rnd
 have Yw : ∀ x, x ∈ kZ ks es ws row ↔ x ∈ (Ca ks es ws (bB (oN es ws) row)).1 := fun x => GD
 have zv : ∀ x ∈ kZ ks es ws row, x ∈ row := fun x hx => dF.mp (KP.sub.subset ((Yw x).mp hx))
 have hfl : (kZ ks es ws row).length <= 63 := by
   unfold kZ
   rw [w9]
   have := KP.sub.length_le
   rw [fN] at this
   omega
 have hfs : (kZ ks es ws row).Pairwise (· < ·) := Ho (j4 _) ((sortI_perm _).nodup_iff.mpr (((gw row).nodup_iff.mpr rnd).sublist KP.sub))
 have hover : ∀ x ∈ row, x ∉ kZ ks es ws row -> ∃ y ∈ kZ ks es ws row, (R3.getD x.toNat 0 < R3.getD y.toNat 0 \/ (R3.getD y.toNat 0 = R3.getD x.toNat 0 /\ jF row y < jF row x)) /\ Ft (KJ.getD x.toNat []) (KJ.getD y.toNat []) = true := fun x hx hn => by
   obtain ⟨h1, y, hy, hR, h2, h3⟩ := KP.over x (dF.mpr hx) fun z => hn ((Yw x).mpr z)
   have hyr : y ∈ row := dF.mp (KP.sub.subset hy)
   obtain ⟨x0, x1⟩ := KL x hx
   obtain ⟨y0, y1⟩ := KL y hyr
   refine ⟨y, (Yw y).mpr hy, ?_, ?_⟩
   . rw [hdg x0 x1, hdg y0 y1]
     omega
   . obtain ⟨⟨p0, p1⟩, _⟩ := wC _ (iY x0 x1)
     obtain ⟨⟨q0, q1⟩, _⟩ := wC _ (iY y0 y1)
     rw [Yv x0 x1, Yv y0 y1, uS ht p0 p1 q0 q1]
     unfold UQ
     unfold nW at h1 h2
     rw [h1, h2]
     exact h3
 have KN : ∀ x ∈ kZ ks es ws row, ∀ y ∈ kZ ks es ws row, x ≠ y -> Ft (KJ.getD x.toNat []) (KJ.getD y.toNat []) = false := fun x hx y hy ne => by
   obtain ⟨x0, x1⟩ := KL x (zv x hx)
   obtain ⟨y0, y1⟩ := KL y (zv y hy)
   obtain ⟨⟨p0, p1⟩, _⟩ := wC _ (iY x0 x1)
   obtain ⟨⟨q0, q1⟩, _⟩ := wC _ (iY y0 y1)
   rw [Yv x0 x1, Yv y0 y1, uS ht p0 p1 q0 q1]
   unfold UQ
   cases h1 : (!decide ((j7 ws x).tgt = -1)) with
   | false => rfl
   | true =>
     cases h2 : (!decide ((j7 ws y).tgt = -1)) with
     | false => rfl
     | true => exact KP.apart x ((Yw x).mp hx) y ((Yw y).mp hy) ne h1 h2
 generalize kZ ks es ws row = fd at zv hfl hfs hover KN ⊢
 have hnr : E7 (.lst (row.map L3.D.int)) (.lst (row.map L3.D.int)) = true := lC (dG row)
 refine dX (nU (r6 (xT (n5 (aW (c_ (fd, row) E.Ve E.CQ (ai (vL E.aV.1) (ai (vL E.f9.1) aF)) (by dsimp only [lW]; exact ⟨by omega, hfs, zv⟩) rfl) (t2 := .sh (.bl true)) rfl))) (fun _ => qN (uA E.u (vL E.qB.1) (vL E.f9.1) (dG _) (dG _)).1))) (fun hp => ?_) (fun _ => av ?_)
 . rw [hnr] at hp
   exact absurd hp (by decide)
 refine iV E.g E.dN (fun j δ => ∃ o7 o13, δ = [some (.sh (.lst (a.map .int))), some (pO ks es ss oo), some (.lst ((ops.map .int).map T.sh)), some (.lst ((bs.map .int).map T.sh)), some (.lst ((th.map .str).map T.sh)), some (.sh (.lst (ws.map dP))), some (.ins "Chart" (gy (qe bs.length) ((oK es.length).map .str) (.ins "Tree" (jE ks es ss)) (rA es.length) (rA es.length) (ws.map dP))), o7, some Vh, some (.lst ((R3.map .int).map T.sh)), some (.sh (.lst (row.map .int))), some (.lst ((row.map .int).map T.sh)), some (.lst ((fd.map .int).map T.sh)), o13])
   (iI (vFL E.f9.1 rfl)) ⟨_, _, rfl⟩ (fun j δ ⟨_, _, e⟩ => by subst e; exact afl rfl) ?turn ?fin
 case turn =>
   rintro j d δ hj ⟨o7, o13, rfl⟩
   obtain ⟨x, rfl, _, OO, _, _, _⟩ := lH hj
   obtain ⟨x0, x1⟩ := KL x OO
   have hnv := hover x OO
   by_cases Z7 : x ∈ fd
   . refine dX (nU (gS (q := false) (xZ (aH E.dN) (vL E.aV.1) rfl rfl).1 (fun hb => absurd hb (by rw [agr Z7]; decide)))) (fun hp => by simp at hp) (fun _ => av ?_)
     refine JH (ds := fd.map .int) E.g E.bf E.aV.1 (fun ad i δ => ∃ El, δ = [some (.sh (.lst (a.map .int))), some (pO ks es ss oo), some (.lst ((ops.map .int).map T.sh)), some (.lst ((bs.map .int).map T.sh)), some (.lst ((th.map .str).map T.sh)), some (.sh (.lst (ws.map dP))), some (.ins "Chart" (gy (qe bs.length) ((oK es.length).map .str) (.ins "Tree" (jE ks es ss)) (rA es.length) (rA es.length) (ws.map dP))), some (.sh (.int x)), some Vh, some (.lst ((R3.map .int).map T.sh)), some (.sh (.lst (row.map .int))), some (.lst ((row.map .int).map T.sh)), some (.pin ad (.lst ((fd.map .int).map T.sh))), El]) rfl (fun ad => ⟨_, rfl⟩) (fun ad i δ ⟨_, e⟩ => by subst e; rfl) (fun ad i δ ⟨_, e⟩ => by subst e; exact afl rfl) (fun ad i d δ hi ⟨El, e⟩ => ?_) (fun ad δ ⟨El, e⟩ => ?_)
     . subst e
       obtain ⟨y, rfl, _, Wr, _, _, _⟩ := lH hi
       obtain ⟨y0, y1⟩ := KL y (zv y Wr)
       by_cases hxy : x = y
       . refine dX (nU (gS (gG (aH E.dN) (vE E.aV.1 rfl (yh _ (cZ _))) rfl rfl).1 (fun _ => gS (q := false) (qL (aH E.dN) (aH E.bf)).1 (fun hb => absurd hb (by rw [agr hxy]; decide))))) (fun hp => by simp at hp) (fun _ => av (av ⟨_, rfl⟩))
       . have hsx : oS (KJ.map fun q => L3.D.lst (q.map .int)) x = some (.lst ((KJ.getD x.toNat []).map .int)) := fJ (f := fun q : List Int => L3.D.lst (q.map .int)) [] x0 (by omega)
         have hsy : oS (KJ.map fun q => L3.D.lst (q.map .int)) y = some (.lst ((KJ.getD y.toNat []).map .int)) := fJ (f := fun q : List Int => L3.D.lst (q.map .int)) [] y0 (by omega)
         refine dX (nU (gS (gG (aH E.dN) (vE E.aV.1 rfl (yh _ (cZ _))) rfl rfl).1 (fun _ => gS (qL (aH E.dN) (aH E.bf)).1 (fun _ => mK (n5 (aW (c_ (KJ.getD x.toNat [], KJ.getD y.toNat []) E.zg E.kF (ai (aM (vE E.kE.1 rfl Yt) (aH E.dN) hsx) (ai (aM (vE E.kE.1 rfl Yt) (aH E.bf) hsy) aF)) trivial rfl) (t2 := .sh (.bl false)) (congrArg (fun z => T.sh (.bl z)) (KN x Z7 y Wr hxy)))))))) (fun hp => by simp at hp) (fun _ => av (av ⟨_, rfl⟩))
     . subst e
       exact av ⟨_, _, rfl⟩
   . have hnv := hnv Z7
     refine dX (nU (gS (xZ (aH E.dN) (vL E.aV.1) rfl rfl).1 (fun _ => mK (xT (n5 (aW (c_ (x, fd, row, KJ, R3) E.CT E.rJ (ai (aH E.dN) (ai (vL E.aV.1) (ai (aH E.f9) (ai (vE E.kE.1 rfl Yt) (ai (vL E.iQ.1) aF))))) (by dsimp only [fD]; exact ⟨by omega, ⟨x0, by omega⟩, OO, fun y hy => ⟨⟨(KL y (zv y hy)).1, by have := (KL y (zv y hy)).2; omega⟩, zv y hy⟩, hnv⟩) rfl) (t2 := .sh (.bl true)) rfl)))))) (fun hp => by simp at hp) (fun _ => av ?_)
     refine JH (ds := fd.map .int) E.g E.bf E.aV.1 (fun ad i δ => ∃ El, δ = [some (.sh (.lst (a.map .int))), some (pO ks es ss oo), some (.lst ((ops.map .int).map T.sh)), some (.lst ((bs.map .int).map T.sh)), some (.lst ((th.map .str).map T.sh)), some (.sh (.lst (ws.map dP))), some (.ins "Chart" (gy (qe bs.length) ((oK es.length).map .str) (.ins "Tree" (jE ks es ss)) (rA es.length) (rA es.length) (ws.map dP))), some (.sh (.int x)), some Vh, some (.lst ((R3.map .int).map T.sh)), some (.sh (.lst (row.map .int))), some (.lst ((row.map .int).map T.sh)), some (.pin ad (.lst ((fd.map .int).map T.sh))), El]) rfl (fun ad => ⟨_, rfl⟩) (fun ad i δ ⟨_, e⟩ => by subst e; rfl) (fun ad i δ ⟨_, e⟩ => by subst e; exact afl rfl) (fun ad i d δ hi ⟨El, e⟩ => ?_) (fun ad δ ⟨El, e⟩ => ?_)
     . subst e
       obtain ⟨y, rfl, _, Wr, _, _, _⟩ := lH hi
       obtain ⟨y0, y1⟩ := KL y (zv y Wr)
       refine dX (nU (gS (q := false) (gG (aH E.dN) (vE E.aV.1 rfl (yh _ (cZ _))) rfl rfl).1 (fun hb => absurd (afE hb) Z7))) (fun hp => by simp at hp) (fun _ => av (av ⟨_, rfl⟩))
     . subst e
       exact av ⟨_, _, rfl⟩
 case fin =>
   rintro δ ⟨o7, o13, rfl⟩
   refine iW E.aV.1 rfl aj rfl (by simp; omega) ?_
   exact bu (DQ (Je E.u (vL E.qB.1) (aH E.f9) (dG _) (dG _)).2 (fun _ => ux (c_ (qe bs.length, (oK es.length).map .str, ks, es, ss, oo, rA es.length, rA es.length, ws.map dP) E.KH E.wK (ai (vE E.cQ.1 rfl hcf) (ai (vE E.bG.1 rfl Ws) (ai (aH E.eV) aF))) (by dsimp only [iR]; exact ⟨hkl, Vg.dep 47⟩) rfl))) (by rw [hnr]; rfl)
theorem bV : jy (ao FU) ([("script", au), ("lists", .cell), ("opens", au), ("boxes", au), ("three", au), ("ways", au), ("chart", au), ("way", au), ("spans", au), ("depths", au), ("row", au), ("handed", au), ("found", au), ("other", au), ("_law_lists", aA), ("_law_opens", aA), ("_law_boxes", aA), ("_law_signs", aA), ("_law_ways", aA), ("len", aA), ("_law_chart", aA), ("_law_row", aA), ("list", aA), ("kept", aA), ("_law_told", aA), ("_law_overruled", aA), ("_law_share", aA), ("_law_stayed", aA)]) = true := by decide +kernel
theorem KQ : aL ["script", "lists", "opens", "boxes", "three", "ways", "chart", "way", "spans", "depths", "row", "handed", "found", "other"] ["script"] (ao FU) := aU
noncomputable def cl (ak aq aD aN aE : Addr) : Str -> Addr := fun c => if c = "Chart" then ak else if c = "Tree" then aq else if c = "#_law_ways.<locals>.<lambda>" then aD else if c = "#_law_row.<locals>.<lambda>" then aN else if c = "#kept.<locals>.<lambda>" then aE else 0
theorem xE {ak aq aD aN aE : Addr} : cl ak aq aD aN aE "#_law_ways.<locals>.<lambda>" = aD := by unfold cl; rw [afi (by decide +kernel)]; rw [afi (by decide +kernel)]; rw [afk rfl]
theorem CV {ak aq aD aN aE : Addr} : cl ak aq aD aN aE "#_law_row.<locals>.<lambda>" = aN := by unfold cl; rw [afi (by decide +kernel)]; rw [afi (by decide +kernel)]; rw [afi (by decide +kernel)]; rw [afk rfl]
theorem xF {ak aq aD aN aE : Addr} : cl ak aq aD aN aE "#kept.<locals>.<lambda>" = aE := by unfold cl; rw [afi (by decide +kernel)]; rw [afi (by decide +kernel)]; rw [afi (by decide +kernel)]; rw [afi (by decide +kernel)]; rw [afk rfl]
theorem gi {ak aq aD aN aE : Addr} : cl ak aq aD aN aE "Chart" = ak := by unfold cl; rw [afk rfl]
theorem nR {ak aq aD aN aE : Addr} : cl ak aq aD aN aE "Tree" = aq := by unfold cl; rw [afi (by decide +kernel)]; rw [afk rfl]
theorem Pa {ak aq aD aN aE : Addr} {x : Str} (h : Bk x = true) (h0 : cl ak aq aD aN aE x ≠ 0) : (cl ak aq aD aN aE x, Bl x) ∈ ([(aD, "_law_ways.<locals>.<lambda>"), (aN, "_law_row.<locals>.<lambda>"), (aE, "kept.<locals>.<lambda>")] : List (Addr × Str)) := by
 unfold cl at h0 ⊢
 rw [afi (fun e => by rw [e] at h; exact absurd h (by decide +kernel))] at h0 ⊢
 rw [afi (fun e => by rw [e] at h; exact absurd h (by decide +kernel))] at h0 ⊢
 by_cases Em : x = "#_law_ways.<locals>.<lambda>"
 . rw [afk Em, Em, show Bl ("#_law_ways.<locals>.<lambda>" : Str) = "_law_ways.<locals>.<lambda>" by decide +kernel]; simp
 rw [afi Em] at h0 ⊢
 by_cases KR : x = "#_law_row.<locals>.<lambda>"
 . rw [afk KR, KR, show Bl ("#_law_row.<locals>.<lambda>" : Str) = "_law_row.<locals>.<lambda>" by decide +kernel]; simp
 rw [afi KR] at h0 ⊢
 by_cases En : x = "#kept.<locals>.<lambda>"
 . rw [afk En, En, show Bl ("#kept.<locals>.<lambda>" : Str) = "kept.<locals>.<lambda>" by decide +kernel]; simp
 rw [afi En] at h0 ⊢
 exact absurd rfl h0
noncomputable def Yx {α : Type} : Nat -> (List α -> Prop) -> Prop
 | 0, P => P []
 | n + 1, P => ∀ a, Yx n fun r => P (a :: r)
theorem bE {α : Type} {n : Nat} {P : List α -> Prop} (h : Yx n P) : ∀ us : List α, us.length = n -> P us := by
 intro us hl
 induction us generalizing n P with
 | nil => subst hl; exact h
 | cons a r ih => subst hl; exact ih (P := fun r => P (a :: r)) (h a) rfl
theorem all_mk {l : PySem.W.OpenLaw} {w : World} {K : PySem.W.Frag} {h : Heap} {mg : Str -> Option Value} {T0 : List Addr} {fa zx rM zy vt zA zB vv zC Eo zE zF zG KS KW KY Ep jg iy zH KZ kK zI vz K0 rN zJ lZ Er zK Es zL mh vA rO vC Et R4 ak aq aD aN aE : Addr} (XX : K.In h) (G : h.Ns mainGlobals mg) (hfa : mg "law" = some (.ref fa))
   {Pb Hq Pg K1 Ph Pj K2 Pk Vi Pn Pp Pq Yy Yz YB K3 CW zM Pr g_row kD kC jO Kv rG Pu CY zu Pw Vj Px CZ K4 Hr K5 Vk R5 : FuncData}
   (zN : PySem.W.nsIn K mainGlobals "Chart" = some (some (.ref ak))) (vD : PySem.W.plainGet K ak Str.empty = true) (vG : PySem.W.hasDictIn K ak = true) (vH : PySem.W.plainOver K ak = true) (vI : PySem.W.findIn K (.ref ak) "__setattr__" = some (some (.builtin "object.__setattr__"))) (vJ : PySem.W.makesIn K ak = true) (vK : PySem.W.keepIn K (.ref ak) = true)
   (jt : PySem.W.findIn K (.ref ak) "boxes" = some none)
   (ju : PySem.W.findIn K (.ref ak) "names" = some none)
   (kL : PySem.W.findIn K (.ref ak) "tree" = some none)
   (mj : PySem.W.findIn K (.ref ak) "ins" = some none)
   (kM : PySem.W.findIn K (.ref ak) "outs" = some none)
   (kN : PySem.W.findIn K (.ref ak) "ways" = some none)
   (Eu : PySem.W.nsIn K mainGlobals "Tree" = some (some (.ref aq))) (zO : PySem.W.plainGet K aq Str.empty = true) (zP : PySem.W.hasDictIn K aq = true) (zQ : PySem.W.plainOver K aq = true) (zR : PySem.W.findIn K (.ref aq) "__setattr__" = some (some (.builtin "object.__setattr__"))) (zS : PySem.W.makesIn K aq = true) (zT : PySem.W.keepIn K (.ref aq) = true)
   (kO : PySem.W.findIn K (.ref aq) "kinds" = some none)
   (jv : PySem.W.findIn K (.ref aq) "elders" = some none)
   (jw : PySem.W.findIn K (.ref aq) "starts" = some none)
   (zU : PySem.W.nsIn K mainGlobals "_law_mixed" = some (some (.ref zx))) (zV : iT K "_law_mixed" "_law_mixed" tE zx Pb)
   (rP : PySem.W.nsIn K mainGlobals "_law_cell_at" = some (some (.ref rM))) (rQ : iT K "_law_cell_at" "_law_cell_at" mP rM Hq)
   (zW : PySem.W.nsIn K mainGlobals "_law_chain" = some (some (.ref zy))) (zX : iT K "_law_chain" "_law_chain" tF zy Pg)
   (vN : PySem.W.nsIn K mainGlobals "_law_elders" = some (some (.ref vt))) (vO : iT K "_law_elders" "_law_elders" pS vt K1)
   (zY : PySem.W.nsIn K mainGlobals "_law_lists" = some (some (.ref zA))) (zZ : iT K "_law_lists" "_law_lists" tG zA Ph)
   (z6 : PySem.W.nsIn K mainGlobals "_law_opens" = some (some (.ref zB))) (z7 : iT K "_law_opens" "_law_opens" tH zB Pj)
   (vP : PySem.W.nsIn K mainGlobals "_law_number" = some (some (.ref vv))) (vQ : iT K "_law_number" "_law_number" pT vv K2)
   (z8 : PySem.W.nsIn K mainGlobals "_law_boxes" = some (some (.ref zC))) (z9 : iT K "_law_boxes" "_law_boxes" tK zC Pk)
   (Ew : PySem.W.nsIn K mainGlobals "_law_name" = some (some (.ref Eo))) (Ex : iT K "_law_name" "_law_name" yF Eo Vi)
   (Aa : PySem.W.nsIn K mainGlobals "_law_signs" = some (some (.ref zE))) (Ab : iT K "_law_signs" "_law_signs" tL zE Pn)
   (Ac : PySem.W.nsIn K mainGlobals "_law_small" = some (some (.ref zF))) (Ad : iT K "_law_small" "_law_small" tM zF Pp)
   (Ae : PySem.W.nsIn K mainGlobals "_law_worth" = some (some (.ref zG))) (Af : iT K "_law_worth" "_law_worth" tN zG Pq)
   (K6 : PySem.W.nsIn K mainGlobals "_law_due" = some (some (.ref KS))) (K7 : iT K "_law_due" "_law_due" Fx KS Yy)
   (K8 : PySem.W.nsIn K mainGlobals "_law_ask" = some (some (.ref KW))) (K9 : iT K "_law_ask" "_law_ask" Fy KW Yz)
   (La : PySem.W.nsIn K mainGlobals "_law_way" = some (some (.ref KY))) (Lb : iT K "_law_way" "_law_way" FG KY YB)
   (Ey : PySem.W.nsIn K mainGlobals "_law_ways" = some (some (.ref Ep))) (Ez : iT K "_law_ways" "_law_ways" yL Ep K3)
   {rK : Addr} {Py : Option Addr} {FW : Array Value} {Pz : Array (Option Value)} (Ag : K3.code = .ref rK) (FY : K.lookup rK = some ⟨.type "code", Py, .fields FW, Pz⟩) (FZ : FW[11]? = some (.ref aD)) (uf : PySem.W.codeHdIn K rK aD = true) (Ah : aD ≠ 0) (Ai : K.lookup aD = none) (Aj : aD ∈ T0)
   (mq : PySem.W.findIn K (.ref aq) "__init__" = some (some (.ref jg))) (mw : PySem.W.isFn K (.ref jg) = true) (sE : iT K "__init__" "Tree.__init__" i6 jg CW)
   (kP : PySem.W.findIn K (.ref ak) "__init__" = some (some (.ref iy))) (kQ : PySem.W.isFn K (.ref iy) = true) (qC : iT K "__init__" "Chart.__init__" g8 iy zM)
   (Ak : PySem.W.nsIn K mainGlobals "_law_chart" = some (some (.ref zH))) (Al : iT K "_law_chart" "_law_chart" tV zH Pr)
   (Lc : PySem.W.nsIn K mainGlobals "_law_row" = some (some (.ref KZ))) (Ld : iT K "_law_row" "_law_row" s_row KZ g_row)
   {xD : Addr} {Vl : Option Addr} {Le : Array Value} {Vm : Array (Option Value)} (EA : g_row.code = .ref xD) (Lf : K.lookup xD = some ⟨.type "code", Vl, .fields Le, Vm⟩) (Lg : Le[11]? = some (.ref aN)) (Am : PySem.W.codeHdIn K xD aN = true) (EB : aN ≠ 0) (EC : K.lookup aN = none) (ED : aN ∈ T0)
   (kR : PySem.W.nsIn K mainGlobals "has_target" = some (some (.ref kK))) (kT : iT K "has_target" "has_target" g9 kK kD)
   (An : PySem.W.nsIn K mainGlobals "above" = some (some (.ref zI))) (Ao : iT K "above" "above" tY zI kC)
   (vR : PySem.W.nsIn K mainGlobals "within" = some (some (.ref vz))) (vS : iT K "within" "within" qh vz jO)
   (Lh : PySem.W.nsIn K mainGlobals "top" = some (some (.ref K0))) (Li : iT K "top" "top" FN K0 Kv)
   (rR : PySem.W.nsIn K mainGlobals "way_top" = some (some (.ref rN))) (rS : iT K "way_top" "way_top" nF rN rG)
   (Aq : PySem.W.nsIn K mainGlobals "depth" = some (some (.ref zJ))) (As : iT K "depth" "depth" t7 zJ Pu)
   (mz : PySem.W.nsIn K mainGlobals "tops_meet" = some (some (.ref lZ))) (mC : iT K "tops_meet" "tops_meet" jb lZ CY)
   (EE : PySem.W.nsIn K mainGlobals "kept" = some (some (.ref Er))) (EF : iT K "kept" "kept" yZ Er zu)
   {rL : Addr} {PB : Option Addr} {F0 : Array Value} {PD : Array (Option Value)} (Au : zu.code = .ref rL) (F2 : K.lookup rL = some ⟨.type "code", PB, .fields F0, PD⟩) (F3 : F0[11]? = some (.ref aE)) (ug : PySem.W.codeHdIn K rL aE = true) (Av : aE ≠ 0) (Aw : K.lookup aE = none) (Ax : aE ∈ T0)
   (Ay : PySem.W.nsIn K mainGlobals "_law_whole" = some (some (.ref zK))) (Az : iT K "_law_whole" "_law_whole" t9 zK Pw)
   (EG : PySem.W.nsIn K mainGlobals "_law_told" = some (some (.ref Es))) (EH : iT K "_law_told" "_law_told" zb Es Vj)
   (AA : PySem.W.nsIn K mainGlobals "_law_share" = some (some (.ref zL))) (AF : iT K "_law_share" "_law_share" ua zL Px)
   (mD : PySem.W.nsIn K mainGlobals "_law_overruled" = some (some (.ref mh))) (mE : iT K "_law_overruled" "_law_overruled" jd mh CZ)
   (vU : PySem.W.nsIn K mainGlobals "_law_stayed" = some (some (.ref vA))) (vV : iT K "_law_stayed" "_law_stayed" qx vA K4)
   (rT : PySem.W.nsIn K mainGlobals "_law_beneath" = some (some (.ref rO))) (rV : iT K "_law_beneath" "_law_beneath" nM rO Hr)
   (vW : PySem.W.nsIn K mainGlobals "_law_top" = some (some (.ref vC))) (vX : iT K "_law_top" "_law_top" qy vC K5)
   (EI : PySem.W.nsIn K mainGlobals "_law_span" = some (some (.ref Et))) (EJ : iT K "_law_span" "_law_span" zj Et Vk)
   (F4 : PySem.W.nsIn K mainGlobals "law" = some (some (.ref R4))) (Lj : iT K "law" "law" FU R4 R5)
   (Lk : PySem.W.nsIn K mainGlobals "len" = some none)
   (AG : PySem.W.nsIn K mainGlobals "range" = some none)
   (Lp : PySem.W.nsIn K mainGlobals "int" = some none)
   (AH : PySem.W.nsIn K mainGlobals "tuple" = some none)
   (vY : PySem.W.nsIn K mainGlobals "sorted" = some none)
   (EK : PySem.W.nsIn K mainGlobals "list" = some none)
   (Lq : PySem.W.nsIn K mainGlobals "str" = some none)
   {Hs : Tok} (vZ : PySem.W.nsIn K mainGlobals "TARGET" = some (some (.int 4 Hs)))
   {Ht : Tok} (v5 : PySem.W.nsIn K mainGlobals "SOURCE" = some (some (.int 0 Ht)))
   (Lr : PySem.W.nsIn K mainGlobals "any" = some none)
   (kU : PySem.W.nsIn K mainGlobals "isinstance" = some none)
   (y_bool : PySem.W.nsIn K mainGlobals "bool" = some none)
   (mF : aN ≠ aD) (kW : aE ≠ aD) (mG : aE ≠ aN)
   : ∃ (fd : FuncData) (ts : List (Addr × Str)), (∀ p ∈ ts, p.1 ∈ T0 /\ ts.lookup p.1 = some p.2 /\ K.lookup p.1 = none /\ ∃ c, PySem.W.CodeHd h c p.1) /\ (∀ (s : Shared) (v : Value), BindsTo s fd ⟨[v], []⟩ [("script", v)]) /\ ∀ base : Heap, K.In base -> base.Ns mainGlobals mg -> uH mg base -> bP l.prog w K mg base fP 6 fa fd ["script"] (spT K ts 1 nO nP nQ) := by
 have e := hfa.symm.trans (afw XX G F4)
 cases e
 have PF := afw XX G zU
 have PJ := zV.binds (ps := ["cell", "salt"]) fun _ _ _ _ _ _ => by refine bE ?_; exact fun _ _ => rfl
 have Hu := afw XX G rP
 have Hv := rQ.binds (ps := ["script", "k"]) fun _ _ _ _ _ _ => by refine bE ?_; exact fun _ _ => rfl
 have PL := afw XX G zW
 have PN := zX.binds (ps := ["elders", "mood"]) fun _ _ _ _ _ _ => by refine bE ?_; exact fun _ _ => rfl
 have Ls := afw XX G vN
 have Lv := vO.binds (ps := ["script"]) fun _ _ _ _ _ _ => by refine bE ?_; exact fun _ => rfl
 have PR := afw XX G zY
 have PV := zZ.binds (ps := ["script"]) fun _ _ _ _ _ _ => by refine bE ?_; exact fun _ => rfl
 have PX := afw XX G z6
 have PY := z7.binds (ps := ["lists"]) fun _ _ _ _ _ _ => by refine bE ?_; exact fun _ => rfl
 have Lw := afw XX G vP
 have Lx := vQ.binds (ps := ["cell"]) fun _ _ _ _ _ _ => by refine bE ?_; exact fun _ => rfl
 have PZ := afw XX G z8
 have P0 := z9.binds (ps := ["script"]) fun _ _ _ _ _ _ => by refine bE ?_; exact fun _ => rfl
 have Vo := afw XX G Ew
 have Vp := Ex.binds (ps := ["cell"]) fun _ _ _ _ _ _ => by refine bE ?_; exact fun _ => rfl
 have P1 := afw XX G Aa
 have P4 := Ab.binds (ps := ["script"]) fun _ _ _ _ _ _ => by refine bE ?_; exact fun _ => rfl
 have P5 := afw XX G Ac
 have P6 := Ad.binds (ps := ["cell"]) fun _ _ _ _ _ _ => by refine bE ?_; exact fun _ => rfl
 have P7 := afw XX G Ae
 have P8 := Af.binds (ps := ["term", "boxes"]) fun _ _ _ _ _ _ => by refine bE ?_; exact fun _ _ => rfl
 have YC := afw XX G K6
 have YD := K7.binds (ps := ["mark", "one", "other"]) fun _ _ _ _ _ _ => by refine bE ?_; exact fun _ _ _ => rfl
 have YF := afw XX G K8
 have YG := K9.binds (ps := ["cell", "opens", "many", "boxes"]) fun _ _ _ _ _ _ => by refine bE ?_; exact fun _ _ _ _ => rfl
 have YH := afw XX G La
 have YJ := Lb.binds (ps := ["cell", "opens", "many", "boxes", "three"]) fun _ _ _ _ _ _ => by refine bE ?_; exact fun _ _ _ _ _ => rfl
 have Vq := afw XX G Ey
 have Vr := Ez.binds (ps := ["script", "opens", "many", "boxes", "three"]) fun _ _ _ _ _ _ => by refine bE ?_; exact fun _ _ _ _ _ => rfl
 have C1 := sE.binds (ps := ["self", "kinds", "elders", "starts"]) fun _ _ _ _ _ _ => by refine bE ?_; exact fun _ _ _ _ => rfl
 have AI := qC.binds (ps := ["self", "boxes", "names", "tree", "ins", "outs", "ways"]) fun _ _ _ _ _ _ => by refine bE ?_; exact fun _ _ _ _ _ _ _ => rfl
 have P9 := afw XX G Ak
 have Qa := Al.binds (ps := ["lists", "boxes", "ways"]) fun _ _ _ _ _ _ => by refine bE ?_; exact fun _ _ _ => rfl
 have YK := afw XX G Lc
 have YL := Ld.binds (ps := ["script", "many"]) fun _ _ _ _ _ _ => by refine bE ?_; exact fun _ _ => rfl
 have AJ := afw XX G kR
 have AK := kT.binds (ps := ["chart", "number"]) fun _ _ _ _ _ _ => by refine bE ?_; exact fun _ _ => rfl
 have Qc := afw XX G An
 have Qd := Ao.binds (ps := ["tree", "mood"]) fun _ _ _ _ _ _ => by refine bE ?_; exact fun _ _ => rfl
 have Ly := afw XX G vR
 have Lz := vS.binds (ps := ["tree", "mood", "other"]) fun _ _ _ _ _ _ => by refine bE ?_; exact fun _ _ _ => rfl
 have YM := afw XX G Lh
 have YN := Li.binds (ps := ["tree", "one", "other"]) fun _ _ _ _ _ _ => by refine bE ?_; exact fun _ _ _ => rfl
 have Hw := afw XX G rR
 have Hx := rS.binds (ps := ["chart", "number"]) fun _ _ _ _ _ _ => by refine bE ?_; exact fun _ _ => rfl
 have Qe := afw XX G Aq
 have Qf := As.binds (ps := ["tree", "mood"]) fun _ _ _ _ _ _ => by refine bE ?_; exact fun _ _ => rfl
 have C2 := afw XX G mz
 have C3 := mC.binds (ps := ["tree", "one", "other"]) fun _ _ _ _ _ _ => by refine bE ?_; exact fun _ _ _ => rfl
 have Vs := afw XX G EE
 have Vt := EF.binds (ps := ["chart", "found"]) fun _ _ _ _ _ _ => by refine bE ?_; exact fun _ _ => rfl
 have Qg := afw XX G Ay
 have Qh := Az.binds (ps := ["found"]) fun _ _ _ _ _ _ => by refine bE ?_; exact fun _ => rfl
 have Vu := afw XX G EG
 have Vv := EH.binds (ps := ["found", "row"]) fun _ _ _ _ _ _ => by refine bE ?_; exact fun _ _ => rfl
 have Qi := afw XX G AA
 have Qj := AF.binds (ps := ["one", "other"]) fun _ _ _ _ _ _ => by refine bE ?_; exact fun _ _ => rfl
 have C4 := afw XX G mD
 have C5 := mE.binds (ps := ["way", "found", "row", "spans", "depths"]) fun _ _ _ _ _ _ => by refine bE ?_; exact fun _ _ _ _ _ => rfl
 have LC := afw XX G vU
 have LD := vV.binds (ps := ["chart", "lists", "ways"]) fun _ _ _ _ _ _ => by refine bE ?_; exact fun _ _ _ => rfl
 have Hy := afw XX G rT
 have Hz := rV.binds (ps := ["elders", "mood"]) fun _ _ _ _ _ _ => by refine bE ?_; exact fun _ _ => rfl
 have LJ := afw XX G vW
 have LK := vX.binds (ps := ["lists", "way"]) fun _ _ _ _ _ _ => by refine bE ?_; exact fun _ _ => rfl
 have Vw := afw XX G EI
 have Vx := EJ.binds (ps := ["lists", "way"]) fun _ _ _ _ _ _ => by refine bE ?_; exact fun _ _ => rfl
 have acY := afw XX G F4
 have acZ := Lj.binds (ps := ["script"]) fun _ _ _ _ _ _ => by refine bE ?_; exact fun _ => rfl
 have Qk := afw XX G zN
 have cC : v8 K ak := ⟨vD, vG, vH, vI⟩
 have qD : v8 K ((cl ak aq aD aN aE) "Chart") := by rw [gi]; exact cC
 have wL : bw K ((cl ak aq aD aN aE) "Chart") "boxes" := by rw [gi]; exact jt
 have wM : bw K ((cl ak aq aD aN aE) "Chart") "names" := by rw [gi]; exact ju
 have iz : bw K ((cl ak aq aD aN aE) "Chart") "tree" := by rw [gi]; exact kL
 have C6 : bw K ((cl ak aq aD aN aE) "Chart") "ins" := by rw [gi]; exact mj
 have AO : bw K ((cl ak aq aD aN aE) "Chart") "outs" := by rw [gi]; exact kM
 have gj : bw K ((cl ak aq aD aN aE) "Chart") "ways" := by rw [gi]; exact kN
 have Vy := afw XX G Eu
 have fZ : v8 K aq := ⟨zO, zP, zQ, zR⟩
 have AQ : v8 K ((cl ak aq aD aN aE) "Tree") := by rw [nR]; exact fZ
 have kX : bw K ((cl ak aq aD aN aE) "Tree") "kinds" := by rw [nR]; exact kO
 have jx : bw K ((cl ak aq aD aN aE) "Tree") "elders" := by rw [nR]; exact jv
 have oq : bw K ((cl ak aq aD aN aE) "Tree") "starts" := by rw [nR]; exact jw
 have mH := agc XX G Lk
 have gM := agc XX G AG
 have R6 := agc XX G Lp
 have Ql := agc XX G AH
 have v7 := agc XX G vY
 have rW := agc XX G EK
 have YQ := agc XX G Lq
 have C7 : ∃ u, mg "TARGET" = some (.int 4 u) := ⟨_, afw XX G vZ⟩
 have C8 : ∃ u, mg "SOURCE" = some (.int 0 u) := ⟨_, afw XX G v5⟩
 have YR := agc XX G Lr
 have qE := agc XX G kU
 have Vz := agc XX G y_bool
 refine ⟨R5, [(aD, "_law_ways.<locals>.<lambda>"), (aN, "_law_row.<locals>.<lambda>"), (aE, "kept.<locals>.<lambda>")], ?tabs, ?bind, fun base kb _ bl => ?_⟩
 case tabs =>
   intro p hp
   simp only [afm, af5, or_false] at hp
   rcases hp with rfl | rfl | rfl
   . exact ⟨Aj, by simp only [afN, agp], Ai, rK, agX XX uf⟩
   . exact ⟨ED, by simp only [afN, agp, beq_false_of_ne mF], EC, xD, agX XX Am⟩
   . exact ⟨Ax, by simp only [afN, agp, beq_false_of_ne kW, beq_false_of_ne mG], Aw, rL, agX XX ug⟩
 case bind =>
   obtain ⟨oc, od, kV, doc, pm, an, c9, ct, HY, rfl, lk, gW⟩ := Lj.ex
   exact fun s v => .of_eq rfl
 have Qm : bP l.prog w K mg base fP 1 zx _ ["cell", "salt"] (jA K (cl ak aq aD aN aE) 2 e9 fc fh) := bq zV Cb fun c9 Ar outer s H E b a hr hp => by
   obtain ⟨p0, p1⟩ := a; refine N6 ?_ p0 p1 hp
   exact ⟨⟨⟨Cb.nd, rfl, rfl⟩, hr.units⟩, bF uT 0, bF uT 1, bF uT 2⟩
 have nS := cA Qm PF zV.kp PJ
 have HB : bP l.prog w K mg base fP 1 rM _ ["script", "k"] (jA K (cl ak aq aD aN aE) 2 dR dS dU) := bq rQ uU fun c9 Ar outer s H E b a hr hp => by
   obtain ⟨p0, p1⟩ := a; refine G8 ?_ p0 p1 hp
   exact ⟨⟨⟨uU.nd, rfl, rfl⟩, hr.units⟩, bF oH 0, bF oH 1, di oH 2, mH⟩
 have jU := cA HB Hu rQ.kp Hv
 have Qn : bP l.prog w K mg base fP 1 zy _ ["elders", "mood"] (jA K (cl ak aq aD aN aE) 2 gA dH gB) := bq zX Cd fun c9 Ar outer s H E b a hr hp => by
   obtain ⟨p0, p1⟩ := a; refine N8 ?_ p0 p1 hp
   exact ⟨⟨⟨Cd.nd, rfl, rfl⟩, hr.units⟩, bF pR 0, bF pR 1, bF pR 2, bF pR 3⟩
 have uh := cA Qn PL zX.kp PN
 have LN : bP l.prog w K mg base fP 2 vt _ ["script"] (jA K (cl ak aq aD aN aE) 1 j8 j9 kg) := bq vO xr fun c9 Ar outer s H E b a hr hp => by
   refine J6 ?_ a hp
   exact ⟨⟨⟨xr.nd, rfl, rfl⟩, hr.units⟩, bF dZ 0, bF dZ 1, bF dZ 2, bF dZ 3, bF dZ 4, di dZ 5, di dZ 6, di dZ 7, di dZ 8, di dZ 9, cF nS hr, cF jU hr, gM, cF uh hr, mH⟩
 have LQ := cA LN Ls vO.kp Lv
 have Qo : bP l.prog w K mg base fP 3 zA _ ["script"] (jA K (cl ak aq aD aN aE) 1 mR mS mU) := bq zZ Ce fun c9 Ar outer s H E b a hr hp => by
   refine Oa ?_ a hp
   exact ⟨⟨⟨Ce.nd, rfl, rfl⟩, hr.units⟩, bF cM 0, Ff cM 1, cY cM 1 rfl, bF cM 2, bF cM 3, bF cM 4, Ff cM 5, cY cM 5 rfl, bF cM 6, bF cM 7, di cM 8, di cM 9, di cM 10, di cM 11, di cM 12, cF LQ hr, gM, mH, cF nS hr, cF jU hr⟩
 have Qp := cA Qo PR zZ.kp PV
 have Qq : bP l.prog w K mg base fP 1 zB _ ["lists"] (jA K (cl ak aq aD aN aE) 1 mV jH mW) := bq z7 Cg fun c9 Ar outer s H E b a hr hp => by
   obtain ⟨p0, p1, p2, p3⟩ := a; refine Od ?_ p0 p1 p2 p3 hp
   exact ⟨⟨⟨Cg.nd, rfl, rfl⟩, hr.units⟩, bF jI 0, bF jI 1, bF jI 2, bF jI 3, di jI 4, di jI 5, gM, mH⟩
 have Qs := cA Qq PX z7.kp PY
 have LR : bP l.prog w K mg base fP 1 vv _ ["cell"] (jA K (cl ak aq aD aN aE) 1 ki ko kr) := bq vQ xx fun c9 Ar outer s H E b a hr hp => by
   refine J9 ?_ a hp
   exact ⟨⟨⟨xx.nd, rfl, rfl⟩, hr.units⟩, bF xu 0, bF xu 1⟩
 have LV := cA LR Lw vQ.kp Lx
 have Qt : bP l.prog w K mg base fP 2 zC _ ["script"] (jA K (cl ak aq aD aN aE) 1 mX mY mZ) := bq z9 Ci fun c9 Ar outer s H E b a hr hp => by
   refine Og ?_ a hp
   exact ⟨⟨⟨Ci.nd, rfl, rfl⟩, hr.units⟩, Ff jJ 0, cY jJ 0 rfl, bF jJ 1, di jJ 2, di jJ 3, di jJ 4, cF nS hr, cF jU hr, gM, cF LV hr⟩
 have Qu := cA Qt PZ z9.kp P0
 have VA : bP l.prog w K mg base fP 1 Eo _ ["cell"] (jA K (cl ak aq aD aN aE) 1 pU pV pW) := bq Ex Fw fun c9 Ar outer s H E b a hr hp => by
   refine UU ?_ a hp
   exact ⟨⟨⟨Fw.nd, rfl, rfl⟩, hr.units⟩, bF m5 0, bF m5 1, bF m5 2, bF m5 3, bF m5 4, di m5 5, gM⟩
 have VB := cA VA Vo Ex.kp Vp
 have Qv : bP l.prog w K mg base fP 2 zE _ ["script"] (jA K (cl ak aq aD aN aE) 1 m7 m8 m9) := bq Ab Cj fun c9 Ar outer s H E b a hr hp => by
   refine Oi ?_ a hp
   exact ⟨⟨⟨Cj.nd, rfl, rfl⟩, hr.units⟩, bF pX 0, bF pX 1, di pX 2, di pX 3, cF VB hr, cF jU hr⟩
 have Qw := cA Qv P1 Ab.kp P4
 have Qx : bP l.prog w K mg base fP 1 zF _ ["cell"] (jA K (cl ak aq aD aN aE) 1 ng nh ni) := bq Ad Cm fun c9 Ar outer s H E b a hr hp => by
   refine Ol ?_ a hp
   exact ⟨⟨⟨Cm.nd, rfl, rfl⟩, hr.units⟩, bF Ck 0, bF Ck 1⟩
 have Qy := cA Qx P5 Ad.kp P6
 have Qz : bP l.prog w K mg base fP 1 zG _ ["term", "boxes"] (jA K (cl ak aq aD aN aE) 2 nj nq nu) := bq Af Cq fun c9 Ar outer s H E b a hr hp => by
   obtain ⟨p0, p1, p2⟩ := a; refine Oo ?_ p0 p1 p2 hp
   exact ⟨⟨⟨Cq.nd, rfl, rfl⟩, hr.units⟩, bF Cp 0, bF Cp 1⟩
 have QB := cA Qz P7 Af.kp P8
 have YS : bP l.prog w K mg base fP 1 KS _ ["mark", "one", "other"] (jA K (cl ak aq aD aN aE) 3 tO tP tQ) := bq K7 Kd fun c9 Ar outer s H E b a hr hp => by
   obtain ⟨p0, p1, p2⟩ := a; refine X4 ?_ p0 p1 p2 hp
   exact ⟨⟨⟨Kd.nd, rfl, rfl⟩, hr.units⟩, bF D8 0, bF D8 1, bF D8 2⟩
 have YT := cA YS YC K7.kp YD
 have YV : bP l.prog w K mg base fP 2 KW _ ["cell", "opens", "many", "boxes"] (jA K (cl ak aq aD aN aE) 4 tR pY tS) := bq K9 Kl fun c9 Ar outer s H E b a hr hp => by
   obtain ⟨p0, p1, p2, p3⟩ := a; refine X7 ?_ p0 p1 p2 p3 hp
   exact ⟨⟨⟨Kl.nd, rfl, rfl⟩, hr.units⟩, bF dI 0, bF dI 1, bF dI 2, bF dI 3, bF dI 4, Ff dI 5, cY dI 5 rfl, bF dI 6, bF dI 7, bF dI 8, Ff dI 9, cY dI 9 rfl, Ff dI 10, cY dI 10 rfl, bF dI 11, di dI 12, di dI 13, di dI 14, di dI 15, di dI 16, cF nS hr, R6, mH, cF Qy hr, cF QB hr, cF YT hr⟩
 have YW := cA YV YF K9.kp YG
 have YX : bP l.prog w K mg base fP 3 KY _ ["cell", "opens", "many", "boxes", "three"] (jA K (cl ak aq aD aN aE) 5 tT qa tU) := bq Lb Kn fun c9 Ar outer s H E b a hr hp => by
   obtain ⟨p0, p1, p2, p3, p4⟩ := a; refine Yb ?_ p0 p1 p2 p3 p4 hp
   exact ⟨⟨⟨Kn.nd, rfl, rfl⟩, hr.units⟩, bF eU 0, bF eU 1, bF eU 2, bF eU 3, bF eU 4, bF eU 5, bF eU 6, bF eU 7, bF eU 8, bF eU 9, bF eU 10, bF eU 11, di eU 12, di eU 13, di eU 14, di eU 15, di eU 16, cF nS hr, mH, gM, cF YW hr, Ql⟩
 have YY := cA YX YH Lb.kp YJ
 have VC : bP l.prog w K mg base fP 4 Ep _ ["script", "opens", "many", "boxes", "three"] (jA K (cl ak aq aD aN aE) 5 qb lP qc) := uG Ez FI fun c9 Ar outer s H E b a gW hr hp => by
   obtain ⟨p0, p1, p2, p3, p4⟩ := a; refine U0 ?_ p0 p1 p2 p3 p4 hp
   exact ⟨⟨⟨FI.nd, rfl, rfl⟩, hr.units⟩, bF fY 0, Ff fY 1, cY fY 1 rfl, Ff fY 2, cY fY 2 rfl, Ff fY 3, cY fY 3 rfl, Ff fY 4, cY fY 4 rfl, bF fY 5, di fY 6, v7, cF YY hr, UI bl kb gW Ag (by rw [xE]; exact uf) (by rw [xE]; exact Ah), yf hr, hr⟩
 have VD := cA VC Vq Ez.kp Vr
 have C9 : bP l.prog w K mg base fP 1 jg _ ["self", "kinds", "elders", "starts"] (Xr K (cl ak aq aD aN aE) "Tree" 4 n9 oh oi) := E9 sE qd fun c9 Ar outer s H E b a y hr hp => by
   obtain ⟨p0, p1, p2⟩ := a; refine Ct ?_ p0 p1 p2 y hp
   exact ⟨⟨⟨qd.nd, rfl, rfl⟩, hr.units⟩, bF f7 0, bF f7 1, bF f7 2, bF f7 3, di f7 4, rW, AQ, kX, jx, oq⟩
 have AU : bP l.prog w K mg base fP 1 iy _ ["self", "boxes", "names", "tree", "ins", "outs", "ways"] (Xr K (cl ak aq aD aN aE) "Chart" 7 lR lS lT) := E9 qC oj fun c9 Ar outer s H E b a y hr hp => by
   obtain ⟨p0, p1, p2, p3, p4, p5⟩ := a; refine yQ ?_ p0 p1 p2 p3 p4 p5 y hp
   exact ⟨⟨⟨oj.nd, rfl, rfl⟩, hr.units⟩, bF cJ 0, bF cJ 1, bF cJ 2, bF cJ 3, bF cJ 4, bF cJ 5, bF cJ 6, di cJ 7, rW, qD, wL, wM, iz, C6, AO, gj⟩
 have QC : bP l.prog w K mg base fP 3 zH _ ["lists", "boxes", "ways"] (jA K (cl ak aq aD aN aE) 3 nA jN nB) := bq Al Cw fun c9 Ar outer s H E b a hr hp => by
   obtain ⟨p0, p1, p2, p3, p4, p5⟩ := a; refine OG ?_ p0 p1 p2 p3 p4 p5 hp
   exact ⟨⟨⟨Cw.nd, rfl, rfl⟩, hr.units⟩, bF eW 0, bF eW 1, bF eW 2, bF eW 3, bF eW 4, bF eW 5, di eW 6, di eW 7, di eW 8, di eW 9, di eW 10, gM, mH, ⟨⟨_, _, _, by rw [nR]; exact ⟨zS, mq, mw, zT⟩, C9, by rw [nR]; exact Vy, C1⟩, hr.mono (by decide)⟩, rW, ⟨⟨_, _, _, by rw [gi]; exact ⟨vJ, kP, kQ, vK⟩, AU, by rw [gi]; exact Qk, AI⟩, hr.mono (by decide)⟩, YQ⟩
 have QD := cA QC P9 Al.kp Qa
 have YZ : bP l.prog w K mg base fP 3 KZ _ ["script", "many"] (jA K (cl ak aq aD aN aE) 2 tW qf tX) := uG Ld Kp fun c9 Ar outer s H E b a gW hr hp => by
   obtain ⟨p0, p1⟩ := a; refine Yi ?_ p0 p1 hp
   exact ⟨⟨⟨Kp.nd, rfl, rfl⟩, hr.units⟩, Ff jq 0, cY jq 0 rfl, bF jq 1, bF jq 2, bF jq 3, di jq 4, di jq 5, di jq 6, di jq 7, di jq 8, v7, rW, gM, cF nS hr, cF jU hr, UI bl kb gW EA (by rw [CV]; exact Am) (by rw [CV]; exact EB), yf hr, hr⟩
 have Y0 := cA YZ YK Ld.kp YL
 have AV : bP l.prog w K mg base fP 1 kK _ ["chart", "number"] (jA K (cl ak aq aD aN aE) 2 gb eX gf) := bq kT om fun c9 Ar outer s H E b a hr hp => by
   obtain ⟨p0, p1, p2, p3, p4, p5, p6⟩ := a; refine yV ?_ p0 p1 p2 p3 p4 p5 p6 hp
   exact ⟨⟨⟨om.nd, rfl, rfl⟩, hr.units⟩, bF jr 0, bF jr 1, di jr 2, C7, qD, gj⟩
 have AW := cA AV AJ kT.kp AK
 have QF : bP l.prog w K mg base fP 1 zI _ ["tree", "mood"] (jA K (cl ak aq aD aN aE) 2 iC gC iD) := bq Ao Cy fun c9 Ar outer s H E b a hr hp => by
   obtain ⟨p0, p1, p2, p3⟩ := a; refine OL ?_ p0 p1 p2 p3 hp
   exact ⟨⟨⟨Cy.nd, rfl, rfl⟩, hr.units⟩, bF qg 0, bF qg 1, bF qg 2, bF qg 3, AQ, jx⟩
 have AX := cA QF Qc Ao.kp Qd
 have LW : bP l.prog w K mg base fP 2 vz _ ["tree", "mood", "other"] (jA K (cl ak aq aD aN aE) 3 iO eY iP) := bq vS xA fun c9 Ar outer s H E b a hr hp => by
   obtain ⟨p0, p1, p2, p3, p4⟩ := a; refine Kr ?_ p0 p1 p2 p3 p4 hp
   exact ⟨⟨⟨xA.nd, rfl, rfl⟩, hr.units⟩, bF nE 0, bF nE 1, bF nE 2, di nE 3, cF AX hr⟩
 have Dc := cA LW Ly vS.kp Lz
 have Y3 : bP l.prog w K mg base fP 3 K0 _ ["tree", "one", "other"] (jA K (cl ak aq aD aN aE) 3 tZ qj t6) := bq Li Ku fun c9 Ar outer s H E b a hr hp => by
   obtain ⟨p0, p1, p2, p3, p4⟩ := a; refine Yk ?_ p0 p1 p2 p3 p4 hp
   exact ⟨⟨⟨Ku.nd, rfl, rfl⟩, hr.units⟩, bF rD 0, bF rD 1, bF rD 2, bF rD 3, di rD 4, di rD 5, cF AX hr, cF Dc hr, AQ, kX⟩
 have Y4 := cA Y3 YM Li.kp YN
 have HC : bP l.prog w K mg base fP 4 rN _ ["chart", "number"] (jA K (cl ak aq aD aN aE) 2 i9 gO ja) := bq rS vg fun c9 Ar outer s H E b a hr hp => by
   obtain ⟨p0, p1, p2, p3, p4, p5, p6, p7, p8⟩ := a; refine Hg ?_ p0 p1 p2 p3 p4 p5 p6 p7 p8 hp
   exact ⟨⟨⟨vg.nd, rfl, rfl⟩, hr.units⟩, bF gD 0, bF gD 1, bF gD 2, di gD 3, di gD 4, di gD 5, cF Y4 hr, C8, C7, qD, gj, iz⟩
 have HD := cA HC Hw rS.kp Hx
 have QG : bP l.prog w K mg base fP 2 zJ _ ["tree", "mood"] (jA K (cl ak aq aD aN aE) 2 nG jP nH) := bq As Cz fun c9 Ar outer s H E b a hr hp => by
   obtain ⟨p0, p1, p2, p3⟩ := a; refine OS ?_ p0 p1 p2 p3 hp
   exact ⟨⟨⟨Cz.nd, rfl, rfl⟩, hr.units⟩, bF ql 0, bF ql 1, di ql 2, di ql 3, mH, cF AX hr⟩
 have QH := cA QG Qe As.kp Qf
 have Dd : bP l.prog w K mg base fP 3 lZ _ ["tree", "one", "other"] (jA K (cl ak aq aD aN aE) 3 gH fC gI) := bq mC qm fun c9 Ar outer s H E b a hr hp => by
   obtain ⟨p0, p1, p2, p3, p4⟩ := a; refine CD ?_ p0 p1 p2 p3 p4 hp
   exact ⟨⟨⟨qm.nd, rfl, rfl⟩, hr.units⟩, bF ic 0, bF ic 1, bF ic 2, di ic 3, cF Dc hr⟩
 have De := cA Dd C2 mC.kp C3
 have VF : bP l.prog w K mg base fP 5 Er _ ["chart", "found"] (jA K (cl ak aq aD aN aE) 2 qo lV qp) := uG EF FP fun c9 Ar outer s H E b a gW hr hp => by
   obtain ⟨p0, p1, p2, p3, p4, p5, p6, p7, p8⟩ := a; refine U7 ?_ p0 p1 p2 p3 p4 p5 p6 p7 p8 hp
   exact ⟨⟨⟨FP.nd, rfl, rfl⟩, hr.units⟩, Ff fG 0, cY fG 0 rfl, bF fG 1, bF fG 2, bF fG 3, bF fG 4, Ff fG 5, cY fG 5 rfl, di fG 6, di fG 7, di fG 8, di fG 9, v7, cF AW hr, cF HD hr, YR, cF QH hr, C8, cF De hr, qD, iz, gj, UI bl kb gW Au (by rw [xF]; exact ug) (by rw [xF]; exact Av), yf hr, hr⟩
 have VG := cA VF Vs EF.kp Vt
 have QI : bP l.prog w K mg base fP 1 zK _ ["found"] (jA K (cl ak aq aD aN aE) 1 nI nJ nK) := bq Az CG fun c9 Ar outer s H E b a hr hp => by
   refine OX ?_ a hp
   exact ⟨⟨⟨CG.nd, rfl, rfl⟩, hr.units⟩, bF qq 0, di qq 1, di qq 2, di qq 3, qE, R6, Vz⟩
 have QJ := cA QI Qg Az.kp Qh
 have VH : bP l.prog w K mg base fP 2 Es _ ["found", "row"] (jA K (cl ak aq aD aN aE) 2 qu lW qv) := bq EH FQ fun c9 Ar outer s H E b a hr hp => by
   obtain ⟨p0, p1⟩ := a; refine Va ?_ p0 p1 hp
   exact ⟨⟨⟨FQ.nd, rfl, rfl⟩, hr.units⟩, bF jc 0, bF jc 1, bF jc 2, di jc 3, di jc 4, di jc 5, di jc 6, di jc 7, qE, rW, gM, mH, cF QJ hr⟩
 have VJ := cA VH Vu EH.kp Vv
 have QK : bP l.prog w K mg base fP 1 zL _ ["one", "other"] (jA K (cl ak aq aD aN aE) 2 jQ jR jS) := bq AF CH fun c9 Ar outer s H E b a hr hp => by
   obtain ⟨p0, p1⟩ := a; refine O1 ?_ p0 p1 hp
   exact ⟨⟨⟨CH.nd, rfl, rfl⟩, hr.units⟩, bF vm 0, bF vm 1, bF vm 2⟩
 have F5 := cA QK Qi AF.kp Qj
 have Df : bP l.prog w K mg base fP 2 mh _ ["way", "found", "row", "spans", "depths"] (jA K (cl ak aq aD aN aE) 5 gJ fD gK) := bq mE qw fun c9 Ar outer s H E b a hr hp => by
   obtain ⟨p0, p1, p2, p3, p4⟩ := a; refine CM ?_ p0 p1 p2 p3 p4 hp
   exact ⟨⟨⟨qw.nd, rfl, rfl⟩, hr.units⟩, bF c7 0, bF c7 1, bF c7 2, bF c7 3, bF c7 4, bF c7 5, bF c7 6, di c7 7, cF F5 hr⟩
 have Dg := cA Df C4 mE.kp C5
 have LX : bP l.prog w K mg base fP 1 vA _ ["chart", "lists", "ways"] (jA K (cl ak aq aD aN aE) 3 kG iR kH) := bq vV xB fun c9 Ar outer s H E b a hr hp => by
   obtain ⟨p0, p1, p2, p3, p4, p5, p6, p7, p8⟩ := a; refine Ky ?_ p0 p1 p2 p3 p4 p5 p6 p7 p8 hp
   exact ⟨⟨⟨xB.nd, rfl, rfl⟩, hr.units⟩, bF nL 0, bF nL 1, bF nL 2, bF nL 3, qD, AQ, iz, gj, kX, jx, oq⟩
 have LY := cA LX LC vV.kp LD
 have HF : bP l.prog w K mg base fP 2 rO _ ["elders", "mood"] (jA K (cl ak aq aD aN aE) 2 je gP jf) := bq rV vo fun c9 Ar outer s H E b a hr hp => by
   obtain ⟨p0, p1⟩ := a; refine Hj ?_ p0 p1 hp
   exact ⟨⟨⟨vo.nd, rfl, rfl⟩, hr.units⟩, bF fM 0, bF fM 1, bF fM 2, bF fM 3, di fM 4, di fM 5, di fM 6, gM, mH, cF uh hr⟩
 have HG := cA HF Hy rV.kp Hz
 have LZ : bP l.prog w K mg base fP 2 vC _ ["lists", "way"] (jA K (cl ak aq aD aN aE) 2 kI iS kJ) := bq vX xC fun c9 Ar outer s H E b a hr hp => by
   obtain ⟨p0, p1, p2, p3, p4⟩ := a; refine KC ?_ p0 p1 p2 p3 p4 hp
   exact ⟨⟨⟨xC.nd, rfl, rfl⟩, hr.units⟩, bF jT 0, bF jT 1, bF jT 2, bF jT 3, di jT 4, cF uh hr⟩
 have L0 := cA LZ LJ vX.kp LK
 have VL : bP l.prog w K mg base fP 3 Et _ ["lists", "way"] (jA K (cl ak aq aD aN aE) 2 qz lY qA) := bq EJ FT fun c9 Ar outer s H E b a hr hp => by
   obtain ⟨p0, p1, p2, p3, p4⟩ := a; refine Vc ?_ p0 p1 p2 p3 p4 hp
   exact ⟨⟨⟨FT.nd, rfl, rfl⟩, hr.units⟩, bF uc 0, bF uc 1, di uc 2, di uc 3, cF HG hr, cF L0 hr⟩
 have VM := cA VL Vw EJ.kp Vx
 have Y5 : bP l.prog w K mg base fP 6 _ _ ["script"] (jA K (cl ak aq aD aN aE) 1 nO nP nQ) := bq Lj KQ fun c9 Ar outer s H E b a hr hp => by
   refine Yq ?_ a hp
   exact ⟨⟨⟨KQ.nd, rfl, rfl⟩, hr.units⟩, bF bV 0, Ff bV 1, cY bV 1 rfl, bF bV 2, bF bV 3, bF bV 4, bF bV 5, bF bV 6, bF bV 7, bF bV 8, bF bV 9, bF bV 10, bF bV 11, bF bV 12, bF bV 13, di bV 14, di bV 15, di bV 16, di bV 17, di bV 18, di bV 19, di bV 20, di bV 21, di bV 22, di bV 23, di bV 24, di bV 25, di bV 26, di bV 27, cF Qp hr, cF Qs hr, cF Qu hr, cF Qw hr, cF VD hr, mH, cF QD hr, cF Y0 hr, rW, cF VG hr, cF VJ hr, cF Dg hr, cF F5 hr, cF LY hr, cF VM hr, cF uh hr⟩
 exact Y5.imp (Nz (fun _ => rfl) (fun _ => rfl) fun x hx h0 => Pa hx h0)
theorem walk {l : PySem.W.OpenLaw} {q : Program} {loose : List Str} {XP : (Str -> Option Value) -> Heap -> Prop} {YP : World -> Heap -> Prop} {d : DefRec} {K : Params -> PySem.W.Frag} {T0 : List Addr} (hn : l.most = some 63) (Xd : d.params.defaults = [])
   (hY : ∀ (w : World) (h : Heap), YP w h -> (K w.params).In h) (hT : ∀ (w : World) (h : Heap), YP w h -> ∀ P ∈ T0, h.get? P = some (PySem.W.tabObj #[]))
   (F : ∀ (w : World) (mg : Str -> Option Value) (fa : Addr) (h : Heap), (K w.params).In h -> h.Ns mainGlobals mg -> mg d.name = some (.ref fa) →
     ∃ (fd : FuncData) (ts : List (Addr × Str)), (∀ p ∈ ts, p.1 ∈ T0 /\ ts.lookup p.1 = some p.2 /\ (K w.params).lookup p.1 = none /\ ∃ c, PySem.W.CodeHd h c p.1) /\ (∀ (s : Shared) (u : Value), BindsTo s fd ⟨[u], []⟩ [("script", u)]) /\ ∀ base : Heap, (K w.params).In base -> base.Ns mainGlobals mg -> uH mg base -> bP l.prog w (K w.params) mg base fP 6 fa fd ["script"] (spT (K w.params) ts 1 nO nP nQ)) :
   PySem.W.WalkO q loose XP YP l.row.toRowW d [] (fun f vs => PySem.call f vs) :=
 JC (n := 63) (k := 6) (x := "script") (sp := fun w ts => spT (K w.params) ts 1 nO nP nQ) hn (by decide) Xd ⟨rfl, by decide, by decide⟩ hY hT F (fun _ _ _ a ns hl hS ht => NB rfl hl rfl hS ht)
end Law
open PySem PySem.W PyProof.Rows
set_option maxRecDepth 100000 in
set_option maxHeartbeats 0 in
theorem PySem.Challenge.cw_moodtree_k35_what_is_kept_holds : PySem.Challenge.rw_moodtree_k35_what_is_kept.Holds := by
 w_on; o_law; k_head; (case hw => w_witness2)
 k_fill
 refine Law.walk (l := PySem.Challenge.rw_moodtree_k35_what_is_kept) rfl rfl (fun w h Y => PySem.W.km_in_of Y) (fun w h Y => PySem.W.km_tabs_of Y) ?F
 case F =>
   intro w mg fa h KX G Xe
   refine' Law.all_mk KX G Xe ?zN ?vD ?vG ?vH ?vI ?vJ ?vK ?jt ?ju ?kL ?mj ?kM ?kN ?Eu ?zO ?zP ?zQ ?zR ?zS ?zT ?kO ?jv ?jw ?zU (L2.bC ?aP ?QL ?QM) ?rP (L2.bC ?HJ ?HK ?HL) ?zW (L2.bC ?QN ?QO ?QS) ?vN (L2.bC ?bQ ?L1 ?uW) ?zY (L2.bC ?bG ?QT ?ud) ?z6 (L2.bC ?bY ?QV ?yM) ?vP (L2.bC ?fB ?L4 ?L5) ?z8 (L2.bC ?cB ?QW ?yN) ?Ew (L2.bC ?jm ?VN ?VP) ?Aa (L2.bC ?QX ?QY ?QZ) ?Ac (L2.bC ?Q0 ?Q5 ?Q6) ?Ae (L2.bC ?Q7 ?Q8 ?Q9) ?K6 (L2.bC ?Y6 ?Y7 ?Y8) ?K8 (L2.bC ?Y9 ?Za ?Zb) ?La (L2.bC ?dN ?Zc ?Zd) ?Ey (L2.bC ?eV ?VQ ?VR) ?Ag ?FY ?FZ ?uf ?Ah ?Ai ?Aj ?mq ?mw (L2.bC ?Dh ?Di ?Dj) ?kP ?kQ (L2.bC ?AY ?AZ ?A0) ?Ak (L2.bC ?cQ ?Ra ?t8) ?Lc (L2.bC ?f9 ?Ze ?Zf) ?EA ?Lf ?Lg ?Am ?EB ?EC ?ED ?kR (L2.bC ?A1 ?A2 ?A3) ?An (L2.bC ?Rb ?Rc ?Rf) ?vR (L2.bC ?L6 ?L7 ?L8) ?Lh (L2.bC ?Zg ?Zh ?Zi) ?rR (L2.bC ?HM ?HN ?HP) ?Aq (L2.bC ?Rg ?Rh ?Ri) ?mz (L2.bC ?Dk ?Dl ?Dm) ?EE (L2.bC ?VW ?VX ?VY) ?Au ?F2 ?F3 ?ug ?Av ?Aw ?Ax ?Ay (L2.bC ?Rj ?Rk ?k_whole) ?EG (L2.bC ?VZ ?V0 ?V1) ?AA (L2.bC ?Rl ?Rm ?Rn) ?mD (L2.bC ?Dn ?Dp ?Dq) ?vU (L2.bC ?Ma ?Mb ?Mf) ?rT (L2.bC ?HQ ?HR ?HS) ?vW (L2.bC ?Mg ?Mh ?Mi) ?EI (L2.bC ?V2 ?V3 ?V4) ?F4 (L2.bC ?Zj ?Zk ?Zm) ?Lk ?AG ?Lp ?AH ?vY ?EK ?Lq ?vZ ?v5 ?Lr ?kU ?y_bool ?mF ?kW ?mG
   case zN | vD | vG | vH | vI | vJ | vK | jt | ju | kL | mj | kM | kN | Eu | zO | zP | zQ | zR | zS | zT | kO | jv | jw | zU | aP | QL | QM | rP | HJ | HK | HL | zW | QN | QO | QS | vN | bQ | L1 | uW | zY | bG | QT | ud | z6 | bY | QV | yM | vP | fB | L4 | L5 | z8 | cB | QW | yN | Ew | jm | VN | VP | Aa | QX | QY | QZ | Ac | Q0 | Q5 | Q6 | Ae | Q7 | Q8 | Q9 | K6 | Y6 | Y7 | Y8 | K8 | Y9 | Za | Zb | La | dN | Zc | Zd | Ey | eV | VQ | VR => k_is
   case Ag => exact rfl
   case FY => k_is
   case FZ => exact rfl
   case uf => kernel_rfl
   case Ah => decide
   case Ai => kernel_rfl
   case Aj => decide
   case mq | mw | Dh | Di | Dj | kP | kQ | AY | AZ | A0 | Ak | cQ | Ra | t8 | Lc | f9 | Ze | Zf => k_is
   case EA => exact rfl
   case Lf => k_is
   case Lg => exact rfl
   case Am => kernel_rfl
   case EB => decide
   case EC => kernel_rfl
   case ED => decide
   case kR | A1 | A2 | A3 | An | Rb | Rc | Rf | vR | L6 | L7 | L8 | Lh | Zg | Zh | Zi | rR | HM | HN | HP | Aq | Rg | Rh | Ri | mz | Dk | Dl | Dm | EE | VW | VX | VY => k_is
   case Au => exact rfl
   case F2 => k_is
   case F3 => exact rfl
   case ug => kernel_rfl
   case Av => decide
   case Aw => kernel_rfl
   case Ax => decide
   case Ay | Rj | Rk | k_whole | EG | VZ | V0 | V1 | AA | Rl | Rm | Rn | mD | Dn | Dp | Dq | vU | Ma | Mb | Mf | rT | HQ | HR | HS | vW | Mg | Mh | Mi | EI | V2 | V3 | V4 | F4 | Zj | Zk | Zm | Lk | AG | Lp | AH | vY | EK | Lq | vZ | v5 | Lr | kU | y_bool => k_is
   case mF => decide
   case kW => decide
   case mG => decide
