import PyProof.Rows.All
import Wide.All
import OpenK.AllK
import Wide.FinOn
import Lean
import PyProof.EqAt
import PyProof.EqKinds
import PyProof.TupleCall
import PySem.Challenge.RW_moodtree_k49_a_branch_is_what_is_picked
set_option Elab.async false
set_option linter.all false
set_option maxRecDepth 100000
set_option maxHeartbeats 4000000
namespace L2
open PySem PySem.Spec PyProof.Rows
noncomputable abbrev aiC := @List.length_map
noncomputable abbrev aiD := @List.mem_append_right
noncomputable abbrev aiE := @List.mem_cons_of_mem
noncomputable abbrev aiF := @List.mem_cons_self
noncomputable abbrev aiG := @if_neg
noncomputable abbrev aiH := @Nat.le_refl
noncomputable abbrev aiI := @if_pos
noncomputable abbrev aiJ := @Nat.le_of_ble_eq_true
noncomputable abbrev aiK := @List.getD_eq_getElem?_getD
noncomputable abbrev aiL := @List.getElem?_eq_getElem
noncomputable abbrev aiM := @List.append_assoc
noncomputable abbrev aiN := @List.mem_cons
noncomputable abbrev aiO := @List.mem_append
noncomputable abbrev aiP := @List.mem_append_left
noncomputable abbrev aiQ := @PySem.W.mg_of
noncomputable abbrev aiR := @Heap.get?_push_of_some
noncomputable abbrev aiS := @wpAny_bind
noncomputable abbrev aiT := @List.length_append
noncomputable abbrev aiU := @of_decide_eq_true
noncomputable abbrev aiV := @Int.emod_lt_of_pos
noncomputable abbrev aiW := @List.size_toArray
noncomputable abbrev aiX := @Heap.lt_size
noncomputable abbrev aiY := @Bool.false_ne_true
noncomputable abbrev aiZ := @Option.some.inj
noncomputable abbrev ai0 := @List.cons_append
noncomputable abbrev ai1 := @List.map_cons
noncomputable abbrev ai2 := @List.length_cons
noncomputable abbrev ai3 := @List.getElem?_eq_some_iff
noncomputable abbrev ai4 := @Int.emod_nonneg
noncomputable abbrev ai5 := @List.getElem?_map
noncomputable abbrev ai6 := @List.append_nil
noncomputable abbrev ai7 := @of_decide_eq_false
noncomputable abbrev ai8 := @List.mem_map
noncomputable abbrev ai9 := @Nat.zero_le
noncomputable abbrev aja := @Nat.ne_of_lt
noncomputable abbrev ajb := @List.mem_singleton
noncomputable abbrev ajc := @Heap.get?_push_size
noncomputable abbrev ajd := @List.Perm.append_left
noncomputable abbrev aje := @List.Sublist.refl
noncomputable abbrev ajf := @Nat.lt_of_lt_of_le
noncomputable abbrev ajg := @List.lookup_cons
noncomputable abbrev ajh := @List.map_map
noncomputable abbrev aji := @List.Sublist.append
noncomputable abbrev ajj := @List.mem_of_getElem?
noncomputable abbrev ajk := @sizeLine_eq
noncomputable abbrev ajl := @List.perm_append_comm
noncomputable abbrev ajm := @Bool.and_eq_true
noncomputable abbrev ajn := @Int.toNat_natCast
noncomputable abbrev ajo := @wpAny_pure
noncomputable abbrev ajp := @List.not_mem_nil
noncomputable abbrev ajq := @List.map_append
noncomputable abbrev ajr := @List.mem_range
noncomputable abbrev ajs := @PySem.W.mg_none_of
noncomputable abbrev ajt := @List.nodup_append
noncomputable abbrev aju := @List.pairwise_cons
noncomputable abbrev ajv := @wpS_bind
noncomputable abbrev ajw := @decide_eq_false
noncomputable abbrev ajx := @List.map_congr_left
noncomputable abbrev ajy := @Nat.le_of_lt
noncomputable abbrev ajz := @Bool.false_eq_true
noncomputable abbrev ajA := @List.nodup_cons
noncomputable abbrev ajB := @List.all_eq_true
noncomputable abbrev ajC := @List.length_range
noncomputable abbrev ajD := @List.mem_filter
noncomputable abbrev ajE := @List.find?_cons
noncomputable abbrev ajF := @Int.zero_add
noncomputable abbrev ajG := @List.perm_middle
noncomputable abbrev ajH := @PySem.mem_of_lookup
noncomputable abbrev ajI := @List.getElem?_range
noncomputable abbrev ajJ := @List.length_filter_le
noncomputable abbrev ajK := @wpAny_mono
noncomputable abbrev ajL := @Nat.le_trans
noncomputable abbrev ajM := @List.filterMap_cons
noncomputable abbrev ajN := @wpS_pure
noncomputable abbrev ajO := @List.sublist_append_right
noncomputable abbrev ajP := @List.range_succ
noncomputable abbrev ajQ := @List.length_nil
noncomputable abbrev ajR := @beq_eq_false_iff_ne
noncomputable abbrev ajS := @List.getElem?_append_right
noncomputable abbrev ajT := @List.take_length
noncomputable abbrev ajU := @List.getElem_mem
noncomputable abbrev ajV := @List.length_replicate
noncomputable abbrev ajW := @decide_eq_true
noncomputable abbrev ajX := @List.drop_eq_getElem_cons
noncomputable abbrev ajY := @decide_eq_true_eq
noncomputable abbrev ajZ := @List.flatMap_cons
noncomputable abbrev aj0 := @List.any_cons
noncomputable abbrev aj1 := @List.filter_cons_of_neg
noncomputable abbrev aj2 := @List.filter_cons_of_pos
noncomputable abbrev aj3 := @Array.length_toList
noncomputable abbrev aj4 := @List.nodup_nil
noncomputable abbrev aj5 := @PyProof.Rows.callWith_type1
noncomputable abbrev aj6 := @wpAny_Call_Name_kw
noncomputable abbrev aj7 := @List.filter_append
noncomputable abbrev aj8 := @wpAny_passesOwn
noncomputable abbrev aj9 := @Array.getElem?_toList
noncomputable abbrev aka := @if_false
noncomputable abbrev akb := @wpAny_truthy_bool
noncomputable abbrev akc := @List.ext_getElem?
noncomputable abbrev akd := @List.reverse_cons
noncomputable abbrev ake := @List.take_add_one
noncomputable abbrev akf := @Nat.le_succ
noncomputable abbrev akg := @List.length_drop
noncomputable abbrev akh := @beq_self_eq_true
noncomputable abbrev aki := @List.flatMap_def
noncomputable abbrev akj := @PySem.W.kia_one
noncomputable abbrev akk := @List.nil_append
noncomputable abbrev akl := @List.eq_nil_of_length_eq_zero
noncomputable abbrev akm := @if_true
noncomputable abbrev akn := @List.length_singleton
noncomputable abbrev ako := @List.getElem?_eq_none
noncomputable abbrev akp := @Nat.pow_le_pow_right
noncomputable abbrev akq := @Nat.lt_irrefl
noncomputable abbrev akr := @Ne.symm
noncomputable abbrev aks := @List.getElem?_append_left
noncomputable abbrev akt := @List.filter_nil
noncomputable abbrev aku := @PySem.F.args_tuple_add_2
noncomputable abbrev akv := @Nat.lt_of_le_of_lt
noncomputable abbrev akw := @wpS_forRange
noncomputable abbrev akx := @List.find?_eq_none
noncomputable abbrev aky := @Bool.not_eq_false'
noncomputable abbrev akz := @List.Perm.refl
noncomputable abbrev akA := @PySem.F.entry_tuple_add
noncomputable abbrev akB := @PySem.F.plainAttrs_list
noncomputable abbrev akC := @Bool.not_eq_true'
noncomputable abbrev akD := @wpAny_holding
noncomputable abbrev Key := Sum Int Str
noncomputable def Ai : Key -> Value -> Bool
 | .inl k, v => Value.isInt k v
 | .inr x, v => Value.isStrOf x v
noncomputable def adH (w : World) : Key -> Int
 | .inl k => hashInt k
 | .inr x => hashStr w x
theorem dR : ∀ {k : Key} {v : Value}, Ai k v = true -> (∃ i t, k = Sum.inl i /\ v = Value.int i t) \/ (∃ x t, k = Sum.inr x /\ v = Value.str x t)
 | .inl i, v, h => by
   obtain ⟨t, e⟩ := Value.isInt_shape (k := i) (v := v) h
   exact .inl ⟨i, t, rfl, e⟩
 | .inr x, v, h => by
   obtain ⟨t, e⟩ := Value.isStrOf_shape (x := x) (v := v) h
   exact .inr ⟨x, t, rfl, e⟩
theorem KC (i : Int) (t : Tok) : Ai (.inl i) (.int i t) = true := by simp [Ai, Value.isInt]
theorem KD (x : Str) (t : Tok) : Ai (.inr x) (.str x t) = true := by simp [Ai, Value.isStrOf]
theorem W5 (a b : Int) : decide ((Sum.inl a : Key) = Sum.inl b) = (a == b) := by
 by_cases e : a = b
 . subst e; simp
 . have h : ¬ (Sum.inl a : Key) = Sum.inl b := fun q => e (Sum.inl.inj q)
   rw [ajw h]
   exact (ajR.mpr e).symm
theorem W6 (a b : Str) : decide ((Sum.inr a : Key) = Sum.inr b) = decide (a = b) := by
 by_cases e : a = b
 . subst e; simp
 . have h : ¬ (Sum.inr a : Key) = Sum.inr b := fun q => e (Sum.inr.inj q)
   rw [ajw h, ajw e]
theorem W7 (a : Int) (b : Str) : decide ((Sum.inl a : Key) = Sum.inr b) = false := ajw (fun q => nomatch q)
theorem W8 (a : Str) (b : Int) : decide ((Sum.inr a : Key) = Sum.inl b) = false := ajw (fun q => nomatch q)
noncomputable def fD (prog : Program) (w : World) : PySem.KeyKind prog w Key where
 is := Ai
 hash := adH w
 inj := fun v a b ha hb => by
   rcases dR ha with ⟨i, t, rfl, rfl⟩ | ⟨x, t, rfl, rfl⟩
   . rcases dR hb with ⟨j, u, rfl, e⟩ | ⟨y, u, rfl, e⟩
     . injection e with e1 _; rw [e1]
     . exact nomatch e
   . rcases dR hb with ⟨j, u, rfl, e⟩ | ⟨y, u, rfl, e⟩
     . exact nomatch e
     . injection e with e1 _; rw [e1]
 byValue := fun k v h => by
   rcases dR h with ⟨i, t, rfl, rfl⟩ | ⟨x, t, rfl, rfl⟩ <;> rfl
 pyHash := fun hv h => by
   rcases dR hv with ⟨i, t, rfl, rfl⟩ | ⟨x, t, rfl, rfl⟩
   . exact wpAny_pyHash_int h
   . exact wpAny_pyHash_str h
 eqBool := fun hu hv h => by
   rcases dR hu with ⟨i, t, rfl, rfl⟩ | ⟨x, t, rfl, rfl⟩
   . rcases dR hv with ⟨j, u, rfl, rfl⟩ | ⟨y, u, rfl, rfl⟩
     . rw [W5] at h; exact wpAny_eqBool_int h
     . rw [W7] at h; exact SeqAt.EqAt.int_str i t y u _ _ _ _ h
   . rcases dR hv with ⟨j, u, rfl, rfl⟩ | ⟨y, u, rfl, rfl⟩
     . rw [W8] at h; exact SeqAt.EqAt.str_int x t j u _ _ _ _ h
     . rw [W6] at h; exact wpAny_eqBool_str h
 «strs» := fun k x t v h => by
   rcases dR h with ⟨i, u, rfl, e⟩ | ⟨y, u, rfl, e⟩
   . exact nomatch e
   . injection e with e1 _
     subst e1
     cases v <;> rfl
theorem D6 (prog : Program) (w : World) (i : Int) (t : Tok) : (fD prog w).is (.inl i) (.int i t) = true := KC i t
theorem D7 (prog : Program) (w : World) (x : Str) (t : Tok) : (fD prog w).is (.inr x) (.str x t) = true := KD x t
inductive V where
 | non | bl (b : Bool) | int (i : Int) | str (x : Str) | GJ (b : Array UInt8) | flt (b : UInt64) | ref (a : Addr) | ty (n : String)
 deriving DecidableEq
noncomputable def RelV : V -> Value -> Prop
 | .non, u => u = Value.none
 | .bl b, u => u = Value.bool b
 | .int i, u => ∃ t, u = Value.int i t
 | .str x, u => ∃ t, u = Value.str x t
 | .GJ b, u => ∃ t, u = Value.bytes b t
 | .flt b, u => ∃ t, u = Value.float b t
 | .ref a, u => u = Value.ref a
 | .ty n, u => u = Value.type n
noncomputable abbrev Vals : List V -> List Value -> Prop := Paired RelV
theorem Vals.length {xs : List V} {us : List Value} (r : Vals xs us) : xs.length = us.length := Paired.length r
theorem Vals.get : ∀ {xs : List V} {us : List Value} {i : Nat} {x : V}, Vals xs us -> xs[i]? = some x -> ∃ u, us[i]? = some u /\ RelV x u
 | _, _, _, _, .nil, e => by simp at e
 | _, _, 0, _, .cons r _, e => by simp at e; subst e; exact ⟨_, rfl, r⟩
 | _, _, i + 1, x, .cons _ t, e => by
   obtain ⟨u, h1, h2⟩ := Vals.get (i := i) (x := x) t (by simpa using e)
   exact ⟨u, by simpa using h1, h2⟩
theorem Vals.set {x : V} {u : Value} (r : RelV x u) : ∀ {xs : List V} {us : List Value} (i : Nat), Vals xs us -> Vals (xs.set i x) (us.set i u)
 | _, _, _, .nil => .nil
 | _, _, 0, .cons _ t => .cons r t
 | _, _, i + 1, .cons q t => .cons q (Vals.set r i t)
theorem Vals.append : ∀ {xs ys : List V} {us ws : List Value}, Vals xs us -> Vals ys ws -> Vals (xs ++ ys) (us ++ ws)
 | _, _, _, _, .nil, s => s
 | _, _, _, _, .cons r t, s => .cons r (Vals.append t s)
theorem Vals.take : ∀ {xs : List V} {us : List Value} (n : Nat), Vals xs us -> Vals (xs.take n) (us.take n)
 | _, _, 0, _ => .nil
 | _, _, _ + 1, .nil => .nil
 | _, _, n + 1, .cons r t => .cons r (Vals.take n t)
theorem Vals.drop : ∀ {xs : List V} {us : List Value} (n : Nat), Vals xs us -> Vals (xs.drop n) (us.drop n)
 | _, _, 0, r => r
 | _, _, _ + 1, .nil => .nil
 | _, _, n + 1, .cons _ t => Vals.drop n t
noncomputable def tR : Option V -> Option Value -> Prop
 | some v, some u => RelV v u
 | none, none => True
 | _, _ => False
noncomputable def KV {κ : Type} : List (κ × V) -> List (κ × Value) -> Prop := Paired fun (p : κ × V) (q : κ × Value) => p.1 = q.1 /\ RelV p.2 q.2
noncomputable def kV : Key -> V
 | .inl i => .int i
 | .inr x => .str x
inductive HO where
 | lst (xs : List V)
 | tup (xs : List V)
 | dK (aY : List (Key × V)) | dT (aY : List (List Key × V))
 | set (S : Int -> Bool) (n : Nat)
 | ins (C dx : Addr) (fs : List (Str × V))
 | own (x : Addr)
 | xd (fs : List (Str × V))
 | met (f x : Addr)
 | rng (lo hi : Int)
 | dQ (o : Obj) (u : HO)
 | W9 (ps : Array Value)
 | tabs (q : Str)
 | KG (q : Str)
 | ext (φ : Heap -> Prop)
noncomputable abbrev Hp := Addr -> Option HO
noncomputable def upd (H : Hp) (a : Addr) (o : HO) : Hp := fun b => if b = a then some o else H b
theorem aP {H : Hp} {a : Addr} {o : HO} : upd H a o a = some o := by unfold upd; rw [aiI rfl]
theorem aA {H : Hp} {a b : Addr} {o : HO} (h : b ≠ a) : upd H a o b = H b := by unfold upd; rw [aiG h]
theorem aa8 {H : Hp} {a b : Addr} {o u : HO} (h : H a = some o) (h' : H b = some u) (d : o ≠ u) : a ≠ b := by
 intro e; subst e; rw [h] at h'; exact d (aiZ h')
theorem aL {H : Hp} {a b : Addr} {o : HO} (h : H a = some o) (h' : H b = none) : a ≠ b := by
 intro e; subst e; rw [h] at h'; cases h'
section
variable (P : Program) (w : World)
noncomputable def eY (H : Hp) (h : Heap) (a : Addr) : HO -> Prop
 | .lst xs => xs.length <= sizeLine /\ ∃ (its : List Value) (n : Nat), Vals xs its /\ h.get? a = some { cls := .type "list", data := .seq its.toArray n }
 | .tup xs => xs.length <= sizeLine /\ ∃ its : List Value, Vals xs its /\ IsTup h a its.toArray
 | .dK aY => aY.length <= sizeLine /\ (a == sysModules) = false /\ ∃ vs, KV aY vs /\ h.DictOf (fD P w) a vs
 | .dT aY => aY.length <= sizeLine /\ (a == sysModules) = false /\ ∃ xs : List (List Key × Addr × Value),
     Paired (fun (p : List Key × V) (q : List Key × Addr × Value) => p.1 = q.1 /\ H q.2.1 = some (.tup (p.1.map kV)) /\ RelV p.2 q.2.2) aY xs ∧
     ∃ o es ep, h.get? a = some o /\ o.ExactDict /\ o.data = .dict es ep /\ es.toList = xs.map (entryOfKey (tupleKind (fD P w))) /\ (xs.map (·.1)).Nodup
 | .set S n => h.SetOf (intKind P w) a S n
 | .ins C dx fs => H dx = some (.own a) /\ fs.length <= 1000 /\ dx ≠ a /\ h.get? a = some (PySem.W.instObj C dx) ∧
     ∃ mA, h.Ns1 dx mA /\ (∀ f, tR (fs.lookup f) (mA f)) /\ PySem.Within mA (fs.map (·.1))
 | .own _ => ∃ o, h.get? a = some o
 | .xd fs => ∃ mA, h.Ns1 a mA /\ ∀ f, tR (fs.lookup f) (mA f)
 | .rng lo hi => ∃ t u v, h.get? a = some { cls := .type "range", data := .fields #[.int lo t, .int hi u, .int 1 v] }
 | .dQ o u => h.get? a = some o /\ eY H h a u
 | .W9 ps => h.get? a = some { cls := .none, data := .fields ps }
 | .tabs q => ∃ ps : Array Value, h.get? a = some { cls := .none, data := .fields ps } /\ TriplesOk ps.toList /\ ∀ pos cv, codeAmong pos ps.toList = some cv -> ∃ c, cv = .ref c /\ H c = some (.KG q)
 | .KG q => ∃ o vs t, h.get? a = some o /\ o.data = .fields vs /\ vs[1]? = some (.str q t)
 | .met f x => h.get? a = some (PySem.W.methodObj (.ref f) (.ref x))
 | .ext φ => φ h /\ (∃ o, h.get? a = some o) /\ ∀ h1 h2 : Heap, φ h1 -> (∀ o, h1.get? a = some o -> h2.get? a = some o) -> φ h2
noncomputable def qQ (H : Hp) (h : Heap) : Prop := ∀ a o, H a = some o -> eY P w H h a o
end
section
variable {P : Program} {w : World} {H H' : Hp} {h h' : Heap} {a : Addr} {o : HO}
theorem eY.lt (x : eY P w H h a o) : a < h.objs.size := by
 cases o with
 | lst xs => obtain ⟨_, _, _, _, e⟩ := x; exact aiX e
 | tup xs => obtain ⟨_, _, _, p⟩ := x; exact p.lt
 | dK aY => obtain ⟨_, _, _, _, o, _, _, e, _⟩ := x; exact aiX e
 | dT aY => obtain ⟨_, _, _, _, o, _, _, e, _⟩ := x; exact aiX e
 | set S n => obtain ⟨o, _, _, _, e, _⟩ := x; exact aiX e
 | ins C dx fs => obtain ⟨_, _, _, e, _⟩ := x; exact aiX e
 | own y => obtain ⟨_, e⟩ := x; exact aiX e
 | xd fs => obtain ⟨_, ⟨_, _, _, e, _⟩, _⟩ := x; exact aiX e
 | rng lo hi => obtain ⟨_, _, _, e⟩ := x; exact aiX e
 | dQ ob u => obtain ⟨e, _⟩ := x; exact aiX e
 | W9 ps => exact aiX (show h.get? a = some _ from x)
 | tabs q => obtain ⟨_, e, _⟩ := x; exact aiX e
 | KG q => obtain ⟨_, _, _, e, _⟩ := x; exact aiX e
 | met f y => exact aiX (show h.get? a = some _ from x)
 | ext φ => obtain ⟨_, ⟨_, e⟩, _⟩ := x; exact aiX e
theorem Paired.Xa {α β : Type} {F G : α -> β -> Prop} : ∀ {l₁ : List α} {l₂ : List β}, Paired F l₁ l₂ -> (∀ a b, F a b -> G a b) -> Paired G l₁ l₂
 | _, _, .nil, _ => .nil
 | _, _, .cons r t, f => .cons (f _ _ r) (Paired.Xa t f)
theorem eY.A9 (x : eY P w H h a o) (k : ∀ b u, (b = a \/ H b = some (.own a)) -> h.get? b = some u -> h'.get? b = some u)
   (ho : ∀ b, H b = some (.own a) -> H' b = some (.own a)) (ht : ∀ b xs, H b = some (.tup xs) -> H' b = some (.tup xs)) (jy : ∀ b q, H b = some (.KG q) -> H' b = some (.KG q) := by intro _ _ q; exact q) : eY P w H' h' a o := by
 induction o with
 | lst xs => obtain ⟨z, its, n, r, e⟩ := x; exact ⟨z, its, n, r, k _ _ (.inl rfl) e⟩
 | tup xs => obtain ⟨z, its, r, ob, e, c⟩ := x; exact ⟨z, its, r, ob, k _ _ (.inl rfl) e, c⟩
 | dK aY => obtain ⟨z, y, vs, r, ob, es, ep, e, c⟩ := x; exact ⟨z, y, vs, r, ob, es, ep, k _ _ (.inl rfl) e, c⟩
 | dT aY =>
   obtain ⟨z, y, xs, r, ob, es, ep, e, c⟩ := x
   exact ⟨z, y, xs, Paired.Xa r fun p q z => ⟨z.1, ht _ _ z.2.1, z.2.2⟩, ob, es, ep, k _ _ (.inl rfl) e, c⟩
 | set S n => obtain ⟨ob, es, ep, t, e, c⟩ := x; exact ⟨ob, es, ep, t, k _ _ (.inl rfl) e, c⟩
 | ins C dx fs =>
   obtain ⟨d, z, ne, e, mA, ⟨od, es, ep, e2, c⟩, r⟩ := x
   exact ⟨ho _ d, z, ne, k _ _ (.inl rfl) e, mA, ⟨od, es, ep, k _ _ (.inr d) e2, c⟩, r⟩
 | own y => obtain ⟨ob, e⟩ := x; exact ⟨ob, k _ _ (.inl rfl) e⟩
 | xd fs => obtain ⟨mA, ⟨od, es, ep, e, c⟩, r⟩ := x; exact ⟨mA, ⟨od, es, ep, k _ _ (.inl rfl) e, c⟩, r⟩
 | rng lo hi => obtain ⟨t, u, v, e⟩ := x; exact ⟨t, u, v, k _ _ (.inl rfl) e⟩
 | dQ ob u ih => obtain ⟨e, q⟩ := x; exact ⟨k _ _ (.inl rfl) e, ih q⟩
 | W9 ps =>
   have e : h.get? a = some { cls := .none, data := .fields ps } := x
   show h'.get? a = some { cls := .none, data := .fields ps }
   exact k a _ (.inl rfl) e
 | met f y =>
   have e : h.get? a = some (PySem.W.methodObj (.ref f) (.ref y)) := x
   show h'.get? a = some (PySem.W.methodObj (.ref f) (.ref y))
   exact k a _ (.inl rfl) e
 | tabs q => obtain ⟨ps, e, tr, cs⟩ := x; exact ⟨ps, k _ _ (.inl rfl) e, tr, fun pos cv z => let ⟨c, e1, e2⟩ := cs pos cv z; ⟨c, e1, jy _ _ e2⟩⟩
 | KG q => obtain ⟨ob, vs, t, e, r⟩ := x; exact ⟨ob, vs, t, k _ _ (.inl rfl) e, r⟩
 | ext φ => obtain ⟨p, ⟨o, e⟩, st⟩ := x; exact ⟨st _ _ p fun o q => k _ _ (.inl rfl) q, ⟨o, k _ _ (.inl rfl) e⟩, st⟩
theorem qQ.lt (x : qQ P w H h) (e : H a = some o) : a < h.objs.size := (x a o e).lt
theorem qQ.fresh (x : qQ P w H h) (e : h.objs.size <= a) : H a = none := by
 cases q : H a with
 | none => rfl
 | some u => exact absurd (ajf (x.lt q) e) (akq _)
theorem qQ.kept (x : qQ P w H h) (k : ∀ b u, h.get? b = some u -> h'.get? b = some u) : qQ P w H h' := fun a o e =>
 (x a o e).A9 (fun b u _ q => k b u q) (fun _ q => q) fun _ _ q => q
theorem qQ.laid (x : qQ P w H h) (k : ∀ b u, h.get? b = some u -> h'.get? b = some u) (hp : h.objs.size <= a) (new : eY P w (upd H a o) h' a o) : qQ P w (upd H a o) h' := fun b u e => by
 have hn := x.fresh hp
 by_cases hb : b = a
 . subst hb; rw [aP] at e; cases e; exact new
 . rw [aA hb] at e
   exact (x b u e).A9 (fun c v _ q => k c v q) (fun c q => by rw [aA (aL q hn)]; exact q) (fun c xs q => by rw [aA (aL q hn)]; exact q) fun c z q => by rw [aA (aL q hn)]; exact q
end
noncomputable def Rd (H : Hp) (a : Addr) (u : HO) : Prop := H a = some u \/ ∃ o, H a = some (.dQ o u)
theorem Rd.ok {P : Program} {w : World} {H : Hp} {h : Heap} {a : Addr} {u : HO} (r : Rd H a u) (x : qQ P w H h) : eY P w H h a u := by
 rcases r with r | ⟨o, r⟩
 . exact x a u r
 . obtain ⟨_, q⟩ := x a _ r
   exact q
noncomputable def Mut : Option HO -> Prop
 | some (.lst _) => True
 | some (.dK _) => True
 | some (.dT _) => True
 | some (.set _ _) => True
 | some (.ins _ _ _) => True
 | some (.ext _) => True
 | some (.tabs _) => True
 | _ => False
section
variable {P : Program} {w : World} {H : Hp} {h h' : Heap} {x e : Addr} {o' : HO}
theorem qQ.write (ok : qQ P w H h) (mu : Mut (H x)) (he : e = x \/ H e = some (.own x)) (k : ∀ b u, b ≠ e -> h.get? b = some u -> h'.get? b = some u) (heo : ∃ u, h'.get? e = some u)
   (new : eY P w (upd H x o') h' x o') : qQ P w (upd H x o') h' := fun b u q => by
 have abb : ∀ c y, H c = some (.own y) -> c ≠ x := fun c y r z => by subst z; rw [r] at mu; exact mu
 have adJ : ∀ c xs, H c = some (.tup xs) -> c ≠ x := fun c xs r z => by subst z; rw [r] at mu; exact mu
 have adK : ∀ c q, H c = some (.KG q) -> c ≠ x := fun c q r z => by subst z; rw [r] at mu; exact mu
 by_cases hb : b = x
 . subst hb; rw [aP] at q; cases q; exact new
 . rw [aA hb] at q
   by_cases Xb : b = e
   . have q' : H b = some (.own x) := by
       rcases he with z | z
       . exact absurd (Xb.trans z) hb
       . rw [Xb]; exact z
     rw [q] at q'; cases q'
     obtain ⟨v, hv⟩ := heo
     exact ⟨v, by rw [Xb]; exact hv⟩
   . refine (ok b u q).A9 (fun c v hc r => k c v ?_ r) (fun c r => by rw [aA (abb c b r)]; exact r) (fun c xs r => by rw [aA (adJ c xs r)]; exact r) fun c z r => by rw [aA (adK c z r)]; exact r
     rcases hc with rfl | hc
     . exact Xb
     . rintro rfl
       rcases he with z | z
       . exact abb c b hc z
       . rw [hc] at z; cases z; exact hb rfl
end
structure Un (fs ex : List Addr) (H H' : Hp) (h h' : Heap) : Prop where
 keep : ∀ b o, h.get? b = some o -> H b = none -> b ∉ fs -> b ∉ ex -> h'.get? b = some o
 slot : ∀ b o, h.get? b = some o -> H b = none -> b ∈ fs -> b ∉ ex -> ∃ sl, h'.get? b = some { o with slots := sl }
 free : ∀ b o, h.get? b = some o -> H b = none -> b ∉ ex -> H' b = none
 there : ∀ b o, h.get? b = some o -> b ∉ ex -> ∃ o', h'.get? b = some o'
 Ba : ∀ b xs, H b = some (.tup xs) -> H' b = some (.tup xs)
 dD : ∀ b o u, H b = some (.dQ o u) -> H' b = some (.dQ o u)
 Bb : ∀ b ps, H b = some (.W9 ps) -> ∃ more, H' b = some (.W9 (ps ++ more))
section
variable {fs fs' ex ex' : List Addr} {H H1 H2 : Hp} {h h1 h2 h' : Heap} {a x e : Addr} {o : HO}
theorem Un.any (u : Un fs ex H H1 h h1) {b : Addr} {ob : Obj} (q : h.get? b = some ob) (n : H b = none) (hx : b ∉ ex) : ∃ sl, h1.get? b = some { ob with slots := sl } := by
 by_cases hb : b ∈ fs
 . exact u.slot b ob q n hb hx
 . exact ⟨ob.slots, u.keep b ob q n hb hx⟩
theorem Un.kept (k : ∀ b u, h.get? b = some u -> h'.get? b = some u) : Un fs ex H H h h' :=
 ⟨fun b ob q _ _ _ => k b ob q, fun b ob q _ _ _ => ⟨ob.slots, k b ob q⟩, fun _ _ _ n _ => n, fun b ob q _ => ⟨ob, k b ob q⟩, fun _ _ q => q, fun _ _ _ q => q, fun _ ps q => ⟨#[], by rw [q]; simp⟩⟩
theorem Un.refl : Un fs ex H H h h := Un.kept fun _ _ q => q
theorem Un.laid (k : ∀ b u, h.get? b = some u -> h'.get? b = some u) (hp : h.objs.size <= a) (hn : H a = none) : Un fs ex H (upd H a o) h h' where
 keep := fun b u q _ _ _ => k b u q
 slot := fun b u q _ _ _ => ⟨u.slots, k b u q⟩
 free := fun b u q n _ => by rw [aA (aja (ajf (aiX q) hp))]; exact n
 there := fun b u q _ => ⟨u, k b u q⟩
 Ba := fun b xs q => by rw [aA (aL q hn)]; exact q
 dD := fun b u xs q => by rw [aA (aL q hn)]; exact q
 Bb := fun b ps q => ⟨#[], by rw [aA (aL q hn), q]; simp⟩
theorem Un.write (mu : Mut (H x)) (he : e = x \/ H e = some (.own x)) (k : ∀ b u, b ≠ e -> h.get? b = some u -> h'.get? b = some u) (heo : ∃ u, h'.get? e = some u) : Un fs ex H (upd H x o) h h' := by
 have hx : ∀ b, H b = none -> b ≠ x := fun b n z => by subst z; rw [n] at mu; exact mu
 have hb : ∀ b, H b = none -> b ≠ e := fun b n z => by
   subst z
   rcases he with r | r
   . exact hx b n r
   . rw [n] at r; cases r
 have hm : ∀ b u, H b = some u -> ¬ Mut (some u) -> b ≠ x := fun b u q nm z => by subst z; rw [q] at mu; exact nm mu
 refine ⟨fun b u q n _ _ => k b u (hb b n) q, fun b u q n _ _ => ⟨u.slots, k b u (hb b n) q⟩, fun b u q n _ => by rw [aA (hx b n)]; exact n, fun b u q _ => ?_,
   fun b xs q => by rw [aA (hm b _ q fun z => z)]; exact q, fun b u xs q => by rw [aA (hm b _ q fun z => z)]; exact q, fun b ps q => ⟨#[], by rw [aA (hm b _ q fun z => z), q]; simp⟩⟩
 by_cases Xb : b = e
 . subst Xb; exact heo
 . exact ⟨u, k b u Xb q⟩
end
noncomputable def trk (h : Heap) (H : Hp) : List Addr := (List.range h.objs.size).filter fun a => (H a).isSome
noncomputable def zb (h : Heap) (H : Hp) : Heap := PySem.W.hideAll h (trk h H)
theorem KH (h : Heap) (H : Hp) : (zb h H).objs.size = h.objs.size := PySem.W.hideAll_size _ _
theorem Nf {h : Heap} {H : Hp} {b : Addr} {o : Obj} (e : h.get? b = some o) (n : H b = none) : (zb h H).get? b = some o :=
 PySem.W.hideAll_get _ e fun hm => by
   have q : (H b).isSome = true := (ajD.mp hm).2
   rw [n] at q; simp at q
theorem RG {h : Heap} {H : Hp} {b : Addr} {o : Obj} (e : (zb h H).get? b = some o) : h.get? b = some o /\ H b = none := by
 have e' : h.get? b = some o := PySem.W.of_hideAll (trk h H) e
 refine ⟨e', ?_⟩
 cases q : H b with
 | none => rfl
 | some x =>
   have hm : b ∈ trk h H := ajD.mpr ⟨ajr.mpr (aiX e'), by simp [q]⟩
   have z : (zb h H).get? b = none := PySem.W.hideAll_none (trk h H) hm
   rw [z] at e; cases e
noncomputable def RH (g h : Heap) (L : Addr) : List (Addr × Obj) := (List.range h.objs.size).filterMap fun a => if a = L \/ (g.get? a).isSome = true then none else (h.get? a).map fun o => (a, o)
noncomputable def rest (g h : Heap) (L d : Addr) : List (Addr × Obj) := (RH g h L).filter fun p => decide (p.1 ≠ d)
structure Mod (K : PySem.W.Frag) (mg : Str -> Option Value) (base : Heap) : Prop where
 kin : K.In base
 glob : base.Ns mainGlobals mg
 blt : ∃ mb, base.Ns builtinsNs mb /\ ∀ x : Str, x ≠ "__name__" -> mb x = bootBuiltins x
 nolimit : base.NoLimit
structure Cx where
 prog : Program
 w : World
 K : PySem.W.Frag
 mg : Str -> Option Value
 base : Heap
 A : Around
 N : List Str
 s₀ : Shared
 H₀ : Hp
 env : Env
 outer : List Env
 stack : List Env
 ex : List Addr
 fn : Str -> Bool
 calm : Bool
 pn : List (Addr × Obj)
 xe : Value -> Shared -> Prop
noncomputable def M4 (l : List Env) : List Addr := l.filterMap (·.frame)
noncomputable abbrev Cx.fs (X : Cx) : List Addr := M4 X.outer
noncomputable def Xc (sc : Scope) (x : Str) : Prop := sc.names.lookup x = some .local \/ sc.names.lookup x = some .cell \/ sc.names.lookup x = some .free
noncomputable def Loc (sc : Scope) (x : Str) : Prop := sc.names.lookup x = some .local \/ sc.names.lookup x = some .cell
noncomputable def Look (env : Env) (h : Heap) (m : Str -> Option Value) (x : Str) (u : Value) : Prop :=
 (env.kindOf x = some .local /\ m x = some u) \/ ((env.kindOf x = some .cell \/ env.kindOf x = some .free) /\ ∃ c, env.cells.lookup x = some c /\ h.IsCell c (some u))
structure Cx.Ok (X : Cx) : Prop where
 mod : Mod X.K X.mg X.base
 kind : X.env.scope.kind = .function
 glob : X.env.globals = mainGlobals
 blt : X.env.builtins = builtinsNs
 above : X.s₀.heap.objs.size <= X.env.locals
 inj : ∀ x y c, X.env.cells.lookup x = some c -> X.env.cells.lookup y = some c -> x = y
 has : ∀ x, (X.env.kindOf x = some .cell \/ X.env.kindOf x = some .free) -> ∃ c, X.env.cells.lookup x = some c
 cab : ∀ x c, X.fn x = true -> X.env.cells.lookup x = some c -> X.s₀.heap.objs.size <= c
 hd : X.calm = true -> X.A.handled = none
 frames : X.A.frames = some X.stack
 stk : X.stack = X.outer \/ (X.stack = X.env :: X.outer /\ X.env.frame = some X.env.locals)
 exf : ∀ b ∈ X.ex, b ≠ X.env.locals /\ ∀ x c, X.env.cells.lookup x = some c -> c ≠ b
 bs : ∀ b o, X.base.get? b = some o -> X.s₀.heap.get? b = some o /\ X.H₀ b = none
 Rr : X.base.objs.size <= X.s₀.heap.objs.size
 Ng : ∀ b o, X.base.get? b = some o -> b ∉ X.ex
 RJ : ∀ b ∈ X.ex, b ∉ X.fs
 vA : X.s₀.heap.FunFrames X.base X.outer
 Xd : ∀ b ∈ X.fs, X.H₀ b = none
structure Inv (X : Cx) (pins : List (Addr × Obj)) (σ : List (Option V)) (H : Hp) (s : Shared) : Prop where
 ok : X.Ok
 os : s.os = X.s₀.os
 bare : AllBare s.gens
 base : Un X.fs X.ex X.H₀ H X.s₀.heap s.heap
 loc : ∃ m, s.heap.Ns X.env.locals m /\ ∀ (i : Nat) (x : Str) (v : V), X.N[i]? = some x -> σ[i]? = some (some v) -> Xc X.env.scope x -> ∃ u, RelV v u /\ Look X.env s.heap m x u
 cell : ∀ x c, X.env.cells.lookup x = some c -> ∃ v, s.heap.IsCell c v
 free : H X.env.locals = none
 nT : ∀ x c, X.env.cells.lookup x = some c -> H c = none
 pin : ∀ p ∈ X.pn ++ pins, s.heap.get? p.1 = some p.2 /\ H p.1 = none /\ p.1 ≠ X.env.locals /\ p.1 ∉ X.fs /\ ∀ v, p.2.data ≠ .cell v
 dw : qQ X.prog X.w H s.heap
 len : σ.length = X.N.length
section
variable {X : Cx} {pins : List (Addr × Obj)} {σ : List (Option V)} {H H' : Hp} {s : Shared} {h' : Heap}
theorem Cx.Ok.adL (ok : X.Ok) {b : Addr} {o : Obj} (e : X.base.get? b = some o) : b ∉ X.fs := fun hb => by
 have := (ok.vA.mem hb).1
 rw [e] at this; cases this
theorem Inv.bs (I : Inv X pins σ H s) : ∀ b o, X.base.get? b = some o -> s.heap.get? b = some o /\ H b = none := fun b o e =>
 ⟨I.base.keep b o (I.ok.bs b o e).1 (I.ok.bs b o e).2 (I.ok.adL e) (I.ok.Ng b o e), I.base.free b o (I.ok.bs b o e).1 (I.ok.bs b o e).2 (I.ok.Ng b o e)⟩
theorem Inv.bk (I : Inv X pins σ H s) : ∀ b o, X.base.get? b = some o -> s.heap.get? b = some o := fun b o e => (I.bs b o e).1
theorem Inv.mod (I : Inv X pins σ H s) : Mod X.K X.mg X.base := I.ok.mod
theorem Inv.D5 (I : Inv X pins σ H s) : X.K.In s.heap := I.ok.mod.kin.keeps I.bk
theorem Inv.nolimit (I : Inv X pins σ H s) : s.heap.NoLimit := I.ok.mod.nolimit.keeps I.bk
theorem Inv.lt (I : Inv X pins σ H s) : X.env.locals < s.heap.objs.size := let ⟨_, hn, _⟩ := I.loc; hn.lt
theorem Inv.sz (I : Inv X pins σ H s) : X.s₀.heap.objs.size <= s.heap.objs.size := ajL I.ok.above (ajy I.lt)
theorem Inv.adM (I : Inv X pins σ H s) {a : Addr} (h : s.heap.objs.size <= a) : a ∉ X.fs := fun hb => by
 obtain ⟨_, o, ho, _⟩ := I.ok.vA.mem hb
 exact absurd (ajf (aiX ho) (ajL I.sz h)) (akq _)
theorem Inv.Xe (I : Inv X pins σ H s) : ∀ x c, X.env.cells.lookup x = some c -> c ≠ X.env.locals := fun x c e z => by
 obtain ⟨v, o, ho, hd⟩ := I.cell x c e
 obtain ⟨m, ⟨o', es, ep, RK, RL, _⟩, _⟩ := I.loc
 rw [z, RK] at ho; cases ho; rw [RL] at hd; cases hd
theorem Inv.vA (I : Inv X pins σ H s) : s.heap.FunFrames X.base X.outer := by
 have all : ∀ (l : List Env), (∀ b ∈ M4 l, b ∈ X.fs) -> X.s₀.heap.FunFrames X.base l -> s.heap.FunFrames X.base l := by
   intro l
   induction l with
   | nil => intro _ _; trivial
   | cons env r ih =>
     intro hs hl
     obtain ⟨hk, ⟨L, o, hf, hn, ho, hd⟩, hr⟩ := hl
     have hL : L ∈ X.fs := hs L (by unfold M4; rw [ajM, hf]; exact aiF)
     obtain ⟨sl, e⟩ := I.base.slot L o ho (I.ok.Xd L hL) hL fun z => I.ok.RJ L z hL
     exact ⟨hk, ⟨L, _, hf, hn, e, hd⟩, ih (fun b hb => hs b (by unfold M4; rw [ajM, hf]; exact aiE _ hb)) hr⟩
 exact all X.outer (fun _ hb => hb) I.ok.vA
theorem Inv.stack (I : Inv X pins σ H s) : s.heap.FunFrames X.base X.stack := by
 rcases I.ok.stk with e | ⟨e, hf⟩
 . rw [e]; exact I.vA
 . rw [e]
   obtain ⟨m, hn, _⟩ := I.loc
   refine .cons (by rw [I.ok.kind]; decide) hf hn ?_ I.vA
   exact Heap.get?_none_of_le (ajL I.ok.Rr I.ok.above)
theorem Inv.Bc (I : Inv X pins σ H s) : ∀ b ∈ M4 X.stack, b ∈ X.env.locals :: X.fs := fun b hb => by
 rcases I.ok.stk with e | ⟨e, hf⟩
 . rw [e] at hb; exact aiE _ hb
 . rw [e] at hb
   unfold M4 at hb
   rw [ajM, hf] at hb
   exact hb
theorem Inv.Bd (I : Inv X pins σ H s) : ∀ b ∈ M4 X.stack, H b = none := fun b hb => by
 rcases aiN.mp (I.Bc b hb) with e | hb
 . rw [e]; exact I.free
 . obtain ⟨_, o, ho, _⟩ := I.ok.vA.mem hb
   exact I.base.free b o ho (I.ok.Xd b hb) fun z => I.ok.RJ b z hb
theorem Inv.step {g' : Array GenState} {t' : Nat} {d' : Drawn} {ch : List Addr} (I : Inv X pins σ H s)
   (Nh : ∀ b ∈ ch, (b ∈ X.ex \/ X.s₀.heap.objs.size <= b) /\ b ≠ X.env.locals /\ (∀ x c, X.env.cells.lookup x = some c -> c ≠ b) /\ ∀ p ∈ X.pn ++ pins, p.1 ≠ b)
   (keep : ∀ b o, b ≠ X.env.locals -> b ∉ X.fs -> b ∉ ch -> s.heap.get? b = some o -> H b = none -> h'.get? b = some o)
   (slot : ∀ b o, b ≠ X.env.locals -> b ∈ X.fs -> b ∉ ch -> s.heap.get? b = some o -> H b = none -> ∃ sl, h'.get? b = some { o with slots := sl }) (free : ∀ b o, b ∉ ch -> s.heap.get? b = some o -> H b = none -> H' b = none)
   (there : ∀ b o, b ∉ ch -> s.heap.get? b = some o -> ∃ o', h'.get? b = some o')
   (Ba : ∀ b xs, H b = some (.tup xs) -> H' b = some (.tup xs)) (dD : ∀ b o u, H b = some (.dQ o u) -> H' b = some (.dQ o u)) (Bb : ∀ b ps, H b = some (.W9 ps) -> ∃ more, H' b = some (.W9 (ps ++ more)))
   (ns : ∀ m, s.heap.Ns X.env.locals m -> h'.Ns X.env.locals m) (dw : qQ X.prog X.w H' h') (hg : AllBare g') :
   Inv X pins σ H' { s with heap := h', gens := g', drawn := d', toks := t' } := by
 have neL : ∀ b o, X.s₀.heap.get? b = some o -> b ≠ X.env.locals := fun b o e => aja (ajf (aiX e) I.ok.above)
 have neC : ∀ b o, X.s₀.heap.get? b = some o -> b ∉ X.ex -> b ∉ ch := fun b o e hx hb => by
   rcases (Nh b hb).1 with z | z
   . exact hx z
   . exact absurd (ajf (aiX e) z) (akq _)
 have cellK : ∀ x c, X.env.cells.lookup x = some c -> ∀ v, s.heap.IsCell c v -> h'.IsCell c v := fun x c e v ⟨o, ho, hd⟩ => by
   have nch : c ∉ ch := fun z => (Nh c z).2.2.1 x c e rfl
   by_cases hc : c ∈ X.fs
   . obtain ⟨sl, q⟩ := slot c o (I.Xe x c e) hc nch ho (I.nT x c e)
     exact ⟨_, q, hd⟩
   . exact ⟨o, keep c o (I.Xe x c e) hc nch ho (I.nT x c e), hd⟩
 refine ⟨I.ok, I.os, hg, ⟨fun b o e n hb hx => ?_, fun b o e n hb hx => ?_, fun b o e n hx => ?_, fun b o e hx => ?_, fun b xs e => Ba b xs (I.base.Ba b xs e), fun b o xs e => dD b o xs (I.base.dD b o xs e), fun b ps e => ?_⟩, ?_, fun x c e => ?_, ?_, fun x c e => ?_, fun p hp => ?_, dw, I.len⟩
 . exact keep b o (neL b o e) hb (neC b o e hx) (I.base.keep b o e n hb hx) (I.base.free b o e n hx)
 . obtain ⟨sl, e1⟩ := I.base.slot b o e n hb hx
   obtain ⟨sl', e2⟩ := slot b _ (neL b o e) hb (neC b o e hx) e1 (I.base.free b o e n hx)
   exact ⟨sl', e2⟩
 . obtain ⟨o', e1⟩ := I.base.there b o e hx
   exact free b o' (neC b o e hx) e1 (I.base.free b o e n hx)
 . obtain ⟨o', e1⟩ := I.base.there b o e hx
   exact there b o' (neC b o e hx) e1
 . obtain ⟨m1, e1⟩ := I.base.Bb b ps e
   obtain ⟨m2, e2⟩ := Bb b _ e1
   exact ⟨m1 ++ m2, by rw [e2, Array.append_assoc]⟩
 . obtain ⟨m, hn, hl⟩ := I.loc
   refine ⟨m, ns m hn, fun i x v e1 e2 e3 => ?_⟩
   obtain ⟨u, r, l⟩ := hl i x v e1 e2 e3
   refine ⟨u, r, ?_⟩
   rcases l with l | ⟨k, c, e, z⟩
   . exact .inl l
   . exact .inr ⟨k, c, e, cellK x c e _ z⟩
 . obtain ⟨v, z⟩ := I.cell x c e
   exact ⟨v, cellK x c e v z⟩
 . obtain ⟨m, ⟨o, _, _, ho, _⟩, _⟩ := I.loc
   exact free _ o (fun z => (Nh _ z).2.1 rfl) ho I.free
 . obtain ⟨v, o, ho, hd⟩ := I.cell x c e
   exact free c o (fun z => (Nh c z).2.2.1 x c e rfl) ho (I.nT x c e)
 . obtain ⟨e, n, ne, nf, d⟩ := I.pin p hp
   have nch : p.1 ∉ ch := fun z => (Nh p.1 z).2.2.2 p hp rfl
   exact ⟨keep p.1 p.2 ne nf nch e n, free p.1 p.2 nch e n, ne, nf, d⟩
theorem Inv.un {t' : Nat} (I : Inv X pins σ H s) (u : Un X.fs [] H H' s.heap h') (dw : qQ X.prog X.w H' h') : Inv X pins σ H' { s with heap := h', toks := t' } := by
 obtain ⟨m, ⟨o, es, ep, ho, r⟩, _⟩ := id I.loc
 obtain ⟨sl, hL⟩ := u.any ho I.free (by simp)
 exact I.step (g' := s.gens) (d' := s.drawn) (ch := []) (fun _ z => nomatch z) (fun b o _ hb _ e n => u.keep b o e n hb (by simp)) (fun b o _ hb _ e n => u.slot b o e n hb (by simp)) (fun b o _ e n => u.free b o e n (by simp)) (fun b o _ e => u.there b o e (by simp)) u.Ba u.dD u.Bb (fun m' hm => by
   obtain ⟨o', es', ep', RK, r'⟩ := hm
   rw [ho] at RK; cases RK
   exact ⟨_, es', ep', hL, r'⟩) dw I.bare
theorem Inv.call {g' : Array GenState} {t' : Nat} {d' : Drawn} {ch : List Addr} (I : Inv X pins σ H s) (u : Un (M4 X.stack) ch H H' s.heap h') (dw : qQ X.prog X.w H' h') (hg : AllBare g')
   (Nh : ∀ b ∈ ch, (b ∈ X.ex \/ X.s₀.heap.objs.size <= b) /\ b ≠ X.env.locals /\ (∀ x c, X.env.cells.lookup x = some c -> c ≠ b) /\ ∀ p ∈ X.pn ++ pins, p.1 ≠ b) :
   Inv X pins σ H' { s with heap := h', gens := g', drawn := d', toks := t' } := by
 obtain ⟨m, ⟨o, es, ep, ho, r⟩, _⟩ := id I.loc
 obtain ⟨sl, hL⟩ := u.any ho I.free fun z => (Nh _ z).2.1 rfl
 exact I.step (ch := ch) Nh (fun b o hL hb hc e n => u.keep b o e n (fun z => (aiN.mp (I.Bc b z)).elim hL hb) hc) (fun b o _ _ hc e n => u.any e n hc) (fun b o hc e n => u.free b o e n hc) (fun b o hc e => u.there b o e hc) u.Ba u.dD u.Bb (fun m' hm => by
   obtain ⟨o', es', ep', RK, r'⟩ := hm
   rw [ho] at RK; cases RK
   exact ⟨_, es', ep', hL, r'⟩) dw hg
theorem Inv.turned {t' : Nat} {it : Addr} (I : Inv X pins σ H s) (k : ∀ b o, b ≠ it -> s.heap.get? b = some o -> h'.get? b = some o) (hn : H it = none) (hL : it ≠ X.env.locals)
   (h1 : it ∈ X.ex \/ X.s₀.heap.objs.size <= it) (h2 : ∀ x c, X.env.cells.lookup x = some c -> c ≠ it) (h3 : ∀ p ∈ X.pn ++ pins, p.1 ≠ it) : Inv X pins σ H { s with heap := h', toks := t' } := by
 have nit : ∀ b u, H b = some u -> b ≠ it := fun b u e z => by rw [z, hn] at e; cases e
 refine I.step (g' := s.gens) (d' := s.drawn) (ch := [it]) (fun b hb => ?_) (fun b o _ _ hc e _ => k b o (fun z => hc (by simp [z])) e) (fun b o _ _ hc e _ => ⟨o.slots, k b o (fun z => hc (by simp [z])) e⟩) (fun _ _ _ _ n => n)
   (fun b o hc e => ⟨o, k b o (fun z => hc (by simp [z])) e⟩) (fun _ _ e => e) (fun _ _ _ e => e) (fun b ps e => ⟨#[], by rw [e]; simp⟩) (fun m hm => ?_) (fun b u e => ?_) I.bare
 . have e : b = it := by simpa using hb
   subst e
   exact ⟨h1, hL, h2, h3⟩
 . obtain ⟨o, es, ep, ho, r⟩ := hm
   exact ⟨o, es, ep, k _ o (akr hL) ho, r⟩
 . refine (I.dw b u e).A9 (fun c v hc q => k c v ?_ q) (fun _ q => q) fun _ _ q => q
   rcases hc with z | z
   . rw [z]; exact nit b u e
   . exact nit c _ z
theorem Inv.tok (I : Inv X pins σ H s) (t : Nat) : Inv X pins σ H { s with toks := t } := I.un (h' := s.heap) (t' := t) Un.refl I.dw
theorem Inv.kept {t' : Nat} (I : Inv X pins σ H s) (k : ∀ b u, s.heap.get? b = some u -> h'.get? b = some u) : Inv X pins σ H { s with heap := h', toks := t' } := I.un (Un.kept k) (I.dw.kept k)
theorem Inv.laid {a : Addr} {o : HO} {t' : Nat} (I : Inv X pins σ H s) (k : ∀ b u, s.heap.get? b = some u -> h'.get? b = some u) (hp : s.heap.objs.size <= a) (new : eY X.prog X.w (upd H a o) h' a o) :
   Inv X pins σ (upd H a o) { s with heap := h', toks := t' } := I.un (Un.laid k hp (I.dw.fresh hp)) (I.dw.laid k hp new)
theorem Inv.write {x e : Addr} {o : HO} {t' : Nat} (I : Inv X pins σ H s) (mu : Mut (H x)) (he : e = x \/ H e = some (.own x)) (k : ∀ b u, b ≠ e -> s.heap.get? b = some u -> h'.get? b = some u) (heo : ∃ u, h'.get? e = some u)
   (new : eY X.prog X.w (upd H x o) h' x o) : Inv X pins σ (upd H x o) { s with heap := h', toks := t' } := I.un (Un.write mu he k heo) (I.dw.write mu he k heo new)
theorem Inv.vJ {jz : List (Addr × Obj)} (I : Inv X pins σ H s) (h : ∀ p ∈ jz, s.heap.get? p.1 = some p.2 /\ H p.1 = none /\ p.1 ≠ X.env.locals /\ p.1 ∉ X.fs /\ ∀ v, p.2.data ≠ .cell v) : Inv X jz σ H s :=
 ⟨I.ok, I.os, I.bare, I.base, I.loc, I.cell, I.free, I.nT, fun p hp => (aiO.mp hp).elim (fun z => I.pin p (aiP _ z)) (h p), I.dw, I.len⟩
theorem D8 {N : List Str} (hN : N.Nodup) {i j : Nat} {x : Str} (a : N[i]? = some x) (b : N[j]? = some x) : i = j := by
 obtain ⟨h1, e1⟩ := ai3.mp a
 obtain ⟨h2, e2⟩ := ai3.mp b
 exact (List.getElem_inj hN).mp (e1.trans e2.symm)
theorem KJ {M : Model} {A : Around} {E : Value -> Shared -> Prop} {i : Nat} {x : Str} {v : V} {u : Value} {Q : Unit -> Shared -> Prop} (I : Inv X pins σ H s) (hN : X.N.Nodup) (hi : X.N[i]? = some x) (hx : Loc X.env.scope x) (r : RelV v u)
   (h : ∀ s', Inv X pins (σ.set i (some v)) H s' -> (∃ a, Heap.SameBut a s.heap s'.heap /\ (a = X.env.locals \/ X.env.cells.lookup x = some a)) -> Q () s') (hf : X.fn x = true \/ X.env.scope.names.lookup x = some .local := by first | exact .inl rfl | exact .inr rfl | assumption) : wpAny M A (storeName X.env x u) Q E s := by
 obtain ⟨m, hn, hl⟩ := id I.loc
 have adP : (X.env.scope.kind == .class || (X.env.scope.kind == .module && X.env.locals != X.env.globals)) = false := by rw [I.ok.kind]; rfl
 have hiσ : i < σ.length := by rw [I.len]; exact (ai3.mp hi).1
 have Xe := I.Xe
 have tracked : ∀ {a : Addr} {h' : Heap}, (∃ o, s.heap.get? a = some o /\ H a = none) -> Heap.SameBut a s.heap h' -> qQ X.prog X.w H h' := fun {a h'} ha hs b ob e => by
   obtain ⟨_, _, D9⟩ := ha
   refine (I.dw b ob e).A9 (fun c w' hc q => (hs.2 c ?_).trans q) (fun _ q => q) fun _ _ q => q
   rintro rfl
   rcases hc with rfl | hc
   . rw [D9] at e; cases e
   . rw [D9] at hc; cases hc
 rcases hx with hk | hk
 . refine wpAny_storeName_local hk hn (fun h' hn' hs => ?_) adP
   obtain ⟨oL, _, _, hoL, _⟩ := id hn
   refine h _ ⟨I.ok, I.os, I.bare, ⟨fun b o e n hb hx => ?_, fun b o e n hb hx => ?_, I.base.free, fun b o e hx => ?_, I.base.Ba, I.base.dD, I.base.Bb⟩, ⟨_, hn', fun j y v' e1 e2 e3 => ?_⟩, fun y c e => ?_, I.free, I.nT, fun p hp => ?_, tracked ⟨oL, hoL, I.free⟩ hs, by simpa using I.len⟩ ⟨_, hs, .inl rfl⟩
   . exact (hs.2 b (aja (ajf (aiX e) I.ok.above))).trans (I.base.keep b o e n hb hx)
   . obtain ⟨sl, e1⟩ := I.base.slot b o e n hb hx
     exact ⟨sl, (hs.2 b (aja (ajf (aiX e) I.ok.above))).trans e1⟩
   . obtain ⟨o', e1⟩ := I.base.there b o e hx
     exact ⟨o', (hs.2 b (aja (ajf (aiX e) I.ok.above))).trans e1⟩
   . by_cases hj : j = i
     . subst hj
       rw [hi] at e1; cases e1
       rw [List.getElem?_set_self hiσ] at e2
       cases e2
       exact ⟨u, r, .inl ⟨hk, by simp⟩⟩
     . rw [List.getElem?_set_ne (akr hj)] at e2
       obtain ⟨u', r', q⟩ := hl j y v' e1 e2 e3
       refine ⟨u', r', ?_⟩
       rcases q with ⟨k, e⟩ | ⟨k, c, e, z⟩
       . refine .inl ⟨k, ?_⟩
         have : y ≠ x := fun e => hj (D8 hN e1 (e ▸ hi))
         simp [this, e]
       . exact .inr ⟨k, c, e, z.sameBut hs (Xe y c e)⟩
   . obtain ⟨w', z⟩ := I.cell y c e
     exact ⟨w', z.sameBut hs (Xe y c e)⟩
   . obtain ⟨e, n, ne, nf, d⟩ := I.pin p hp
     exact ⟨(hs.2 p.1 ne).trans e, n, ne, nf, d⟩
 . have hfn : X.fn x = true := by
     rcases hf with z | z
     . exact z
     . rw [z] at hk; cases hk
   obtain ⟨c, hc⟩ := I.ok.has x (.inl hk)
   obtain ⟨w', z⟩ := I.cell x c hc
   refine wpAny_storeName_cell I.ok.kind hk hc z (fun h' Ni hs => ?_)
   obtain ⟨oc, hoc, adR⟩ := id z
   refine h { s with heap := h' } ⟨I.ok, I.os, I.bare, ⟨fun b o e n hb hx => ?_, fun b o e n hb hx => ?_, I.base.free, fun b o e hx => ?_, I.base.Ba, I.base.dD, I.base.Bb⟩, ⟨m, hn.sameBut hs (Ne.symm (Xe x c hc)), fun j y v' e1 e2 e3 => ?_⟩, fun y c' e => ?_, I.free, I.nT, fun p hp => ?_, tracked ⟨oc, hoc, I.nT x c hc⟩ hs, by simpa using I.len⟩ ⟨c, hs, .inr hc⟩
   . exact (hs.2 b (aja (ajf (aiX e) (I.ok.cab x c hfn hc)))).trans (I.base.keep b o e n hb hx)
   . obtain ⟨sl, e1⟩ := I.base.slot b o e n hb hx
     exact ⟨sl, (hs.2 b (aja (ajf (aiX e) (I.ok.cab x c hfn hc)))).trans e1⟩
   . obtain ⟨o', e1⟩ := I.base.there b o e hx
     exact ⟨o', (hs.2 b (aja (ajf (aiX e) (I.ok.cab x c hfn hc)))).trans e1⟩
   . by_cases hj : j = i
     . subst hj
       rw [hi] at e1; cases e1
       rw [List.getElem?_set_self hiσ] at e2
       cases e2
       exact ⟨u, r, .inr ⟨.inl hk, c, hc, Ni⟩⟩
     . rw [List.getElem?_set_ne (akr hj)] at e2
       obtain ⟨u', r', q⟩ := hl j y v' e1 e2 e3
       refine ⟨u', r', ?_⟩
       rcases q with q | ⟨k, c', e, z'⟩
       . exact .inl q
       . refine .inr ⟨k, c', e, z'.sameBut hs ?_⟩
         rintro rfl
         exact hj (D8 hN e1 (I.ok.inj _ _ _ e hc ▸ hi))
   . by_cases hcc : c' = c
     . subst hcc; exact ⟨_, Ni⟩
     . obtain ⟨w2, z2⟩ := I.cell y c' e
       exact ⟨w2, z2.sameBut hs hcc⟩
   . obtain ⟨e, n, ne, nf, d⟩ := I.pin p hp
     refine ⟨(hs.2 p.1 ?_).trans e, n, ne, nf, d⟩
     intro q
     rw [q, hoc] at e
     have q' : oc = p.2 := aiZ e
     exact d w' (by rw [← q']; exact adR)
theorem Ea {M : Model} {A : Around} {E : Value -> Shared -> Prop} {i : Nat} {x : Str} {v : V} {u : Value} {Q : Unit -> Shared -> Prop} (I : Inv X pins σ H s) (hN : X.N.Nodup) (hi : X.N[i]? = some x) (hx : Loc X.env.scope x) (r : RelV v u)
   (h : ∀ s', Inv X pins (σ.set i (some v)) H s' -> Q () s') (hf : X.fn x = true \/ X.env.scope.names.lookup x = some .local := by first | exact .inl rfl | exact .inr rfl | assumption) : wpAny M A (storeName X.env x u) Q E s :=
 KJ I hN hi hx r (fun s' I' _ => h s' I') hf
end
noncomputable abbrev XK := Value -> Option Addr -> Hp -> Prop
noncomputable abbrev St := List (Option V)
noncomputable abbrev VK := V -> Hp -> Prop
noncomputable abbrev TE := St -> Hp -> VK -> Prop
noncomputable abbrev TT := St -> Hp -> (Bool -> Hp -> Prop) -> Prop
noncomputable abbrev TA := St -> Hp -> (List V -> Hp -> Prop) -> Prop
structure Ends where
 nx : St -> Hp -> Prop
 rt : VK
 bk : St -> Hp -> Prop := fun _ _ => False
 ct : St -> Hp -> Prop := fun _ _ => False
noncomputable abbrev TS := Ends -> St -> Hp -> Prop
noncomputable def EP (X : Cx) (pins : List (Addr × Obj)) (σ : St) (Q : VK) (u : Value) (s' : Shared) : Prop := ∃ v H', Inv X pins σ H' s' /\ RelV v u /\ Q v H'
noncomputable def TP (X : Cx) (pins : List (Addr × Obj)) (σ : St) (Q : Bool -> Hp -> Prop) (b : Bool) (s' : Shared) : Prop := ∃ H', Inv X pins σ H' s' /\ Q b H'
noncomputable def AP (X : Cx) (pins : List (Addr × Obj)) (σ : St) (Q : List V -> Hp -> Prop) (us : List Value) (s' : Shared) : Prop := ∃ vs H', Inv X pins σ H' s' /\ Vals vs us /\ Q vs H'
noncomputable def SP (X : Cx) (pins : List (Addr × Obj)) (D : Ends) (f : Flow) (s' : Shared) : Prop :=
 match f with
 | .next => ∃ σ' H', Inv X pins σ' H' s' /\ D.nx σ' H'
 | .brk => ∃ σ' H', Inv X pins σ' H' s' /\ D.bk σ' H'
 | .cont => ∃ σ' H', Inv X pins σ' H' s' /\ D.ct σ' H'
 | .ret u => ∃ v σ' H', Inv X pins σ' H' s' /\ RelV v u /\ D.rt v H'
noncomputable def PE (X : Cx) (e : Expr) (t : TE) : Prop :=
 ∀ (pins : List (Addr × Obj)) (s : Shared) (σ : St) (H : Hp) (Q : VK), Inv X pins σ H s -> t σ H Q -> wpAny (model X.prog X.w) X.A (eval e X.env) (EP X pins σ Q) X.xe s
noncomputable def PT (X : Cx) (e : Expr) (t : TT) : Prop :=
 ∀ (pins : List (Addr × Obj)) (s : Shared) (σ : St) (H : Hp) (Q : Bool -> Hp -> Prop), Inv X pins σ H s -> t σ H Q -> wpAny (model X.prog X.w) X.A (isTrue e X.env (eval e X.env)) (TP X pins σ Q) X.xe s
noncomputable def PW (X : Cx) (e : Expr) (t : TT) : Prop :=
 ∀ (whole : Sem Value) (pins : List (Addr × Obj)) (s : Shared) (σ : St) (H : Hp) (Q : Bool -> Hp -> Prop), Inv X pins σ H s -> t σ H Q -> wpAny (model X.prog X.w) X.A (isTrue e X.env whole) (TP X pins σ Q) X.xe s
noncomputable def PA (X : Cx) (es : List Expr) (t : TA) : Prop :=
 ∀ (pos : Pos) (pins : List (Addr × Obj)) (s : Shared) (σ : St) (H : Hp) (Q : List V -> Hp -> Prop), Inv X pins σ H s -> t σ H Q -> wpAny (model X.prog X.w) X.A (spliced (backTo pos (starEach es X.env))) (AP X pins σ Q) X.xe s
noncomputable def PS (X : Cx) (st : Stmt) (t : TS) : Prop :=
 ∀ (pins : List (Addr × Obj)) (s : Shared) (σ : St) (H : Hp) (D : Ends), Inv X pins σ H s -> t D σ H -> wpAny (model X.prog X.w) X.A (exec st X.env) (SP X pins D) X.xe s
noncomputable def GK (X : Cx) (st : List Stmt) (t : TS) : Prop :=
 ∀ (pins : List (Addr × Obj)) (s : Shared) (σ : St) (H : Hp) (D : Ends), Inv X pins σ H s -> t D σ H -> wpAny (model X.prog X.w) X.A (execs st X.env) (SP X pins D) X.xe s
theorem d8 {α : Type} {t : Sem α} {Q Q' : α -> Shared -> Prop} {M : Model} {A : Around} {E : Value -> Shared -> Prop} {s : Shared} (h : wpAny M A t Q E s) (hQ : ∀ a s, Q a s -> Q' a s) : wpAny M A t Q' E s := ajK h hQ fun _ _ x => x
section
variable {X : Cx}
noncomputable def adS (i : Nat) : TE := fun σ H Q => ∃ v, σ[i]? = some (some v) /\ Q v H
noncomputable def tC (v : V) : TE := fun _ H Q => Q v H
theorem kI {i : Nat} {x : Str} {pos : Pos} (hN : X.N[i]? = some x) (hv : Xc X.env.scope x) (hd : (x == ("__debug__" : Str)) = false := by decide) (jy : (x == ("__classdict__" : Str)) = false := by decide) : PE X (.Name x pos) (adS i) := by
 intro pins s σ H Q I h
 obtain ⟨v, e, h⟩ := h
 obtain ⟨m, hn, hl⟩ := I.loc
 obtain ⟨u, r, l⟩ := hl i x v hN e hv
 have fin : EP X pins σ Q u s := ⟨v, H, I, r, h⟩
 rcases l with ⟨hk, hm⟩ | ⟨hk, c, hc, uP⟩
 . exact wpAny_Name (wpAny_loadName_local I.ok.kind hk hn hm fin) hd
 . rcases hk with hk | hk
   . exact wpAny_Name (wpAny_loadName_cell I.ok.kind hk hc uP fin) hd
   . exact wpAny_Name (wpAny_loadName_free I.ok.kind hk hc uP fin jy) hd
theorem Xf {i j pos} : PE X (.Constant (.int i) j pos) (tC (.int i)) := fun _ _ _ H _ I h => wpAny_Constant_int ⟨.int i, H, I.tok _, ⟨_, rfl⟩, h⟩
theorem abg {b j pos} : PE X (.Constant (.bool b) j pos) (tC (.bl b)) := fun _ _ _ H _ I h => Constant_bool ⟨.bl b, H, I, rfl, h⟩
theorem Xg {x j pos} : PE X (.Constant (.str x) j pos) (tC (.str x)) := fun _ _ _ H _ I h => Calls.Constant_str ⟨.str x, H, I.tok _, ⟨_, rfl⟩, h⟩
noncomputable def Gl (X : Cx) (x : Str) : Prop := X.env.kindOf x = some .globalImplicit
theorem vK {E : Value -> Shared -> Prop} {pins : List (Addr × Obj)} {s : Shared} {σ : St} {H : Hp} {x : Str} {u : Value} {pos : Pos} {Q : Value -> Shared -> Prop} (I : Inv X pins σ H s) (hg : Gl X x) (hm : X.mg x = some u) (h : Q u s)
   (hd : (x == ("__debug__" : Str)) = false := by decide) : wpAny (model X.prog X.w) X.A (eval (.Name x pos) X.env) Q E s :=
 Calls.Name_function_global I.ok.kind hg (Calls.loadGlobal_global (by rw [I.ok.glob]; exact I.mod.glob.keeps I.bk) hm h) hd
theorem qR {E : Value -> Shared -> Prop} {pins : List (Addr × Obj)} {s : Shared} {σ : St} {H : Hp} {x : Str} {u : Value} {pos : Pos} {Q : Value -> Shared -> Prop} (I : Inv X pins σ H s) (hg : Gl X x) (hm : X.mg x = none) (hv : bootBuiltins x = some u) (h : Q u s)
   (hn : x ≠ "__name__" := by decide) (hd : (x == ("__debug__" : Str)) = false := by decide) : wpAny (model X.prog X.w) X.A (eval (.Name x pos) X.env) Q E s := by
 obtain ⟨mb, h1, h2⟩ := I.mod.blt
 exact Calls.Name_function_global I.ok.kind hg (Calls.loadGlobal_builtin (by rw [I.ok.glob]; exact I.mod.glob.keeps I.bk) hm (by rw [I.ok.blt]; exact h1.keeps I.bk) ((h2 x hn).trans hv) h) hd
theorem RM {x : Str} {v : V} {u : Value} {pos : Pos} (hg : Gl X x) (hm : X.mg x = some u) (r : RelV v u) (hd : (x == ("__debug__" : Str)) = false := by decide) : PE X (.Name x pos) (tC v) :=
 fun _ _ _ H _ I h => vK I hg hm ⟨v, H, I, r, h⟩ hd
theorem RN {x : Str} {v : V} {u : Value} {pos : Pos} (hg : Gl X x) (hm : X.mg x = none) (hv : bootBuiltins x = some u) (r : RelV v u) (hn : x ≠ "__name__" := by decide) (hd : (x == ("__debug__" : Str)) = false := by decide) : PE X (.Name x pos) (tC v) :=
 fun _ _ _ H _ I h => qR I hg hm hv ⟨v, H, I, r, h⟩ hn hd
variable {a b : Expr} {ta tb : TE} {pos : Pos}
noncomputable def PC (X : Cx) (op : CmpOp) (a b : Expr) (t : TE) : Prop :=
 ∀ (pins : List (Addr × Obj)) (s : Shared) (σ : St) (H : Hp) (Q : VK), Inv X pins σ H s -> t σ H Q →
   wpAny (model X.prog X.w) X.A (eval a X.env) (fun v s₁ => wpAny (model X.prog X.w) X.A (eval b X.env) (fun u s₂ => wpAny (model X.prog X.w) X.A (compareOp op v u) (EP X pins σ Q) X.xe s₂) X.xe s₁) X.xe s
theorem Nj (b : Expr) {op : CmpOp} (h : op ≠ .In) (h2 : op ≠ .NotIn) : behindInMarks op b = false := by
 have e1 : (op == CmpOp.In) = false := by cases op <;> first | rfl | exact absurd rfl h
 have e2 : (op == CmpOp.NotIn) = false := by cases op <;> first | rfl | exact absurd rfl h2
 cases b <;> simp [behindInMarks, e1, e2]
noncomputable def adT (ta : TE) : TE := fun σ H Q => ta σ H fun x H1 => Q (.bl (decide (x = .non))) H1
theorem RelV.Nk {x : V} {v : Value} (r : RelV x v) : (v == Value.none) = decide (x = .non) := by
 cases x with
 | non => cases r; rfl
 | bl _ => cases r; rfl
 | int _ => obtain ⟨t, rfl⟩ := r; rfl
 | str _ => obtain ⟨t, rfl⟩ := r; rfl
 | GJ _ => obtain ⟨t, rfl⟩ := r; rfl
 | flt _ => obtain ⟨t, rfl⟩ := r; rfl
 | ref _ => cases r; rfl
 | ty _ => cases r; rfl
theorem Xh {j pos'} (ha : PE X a ta) : PC X .Is a (.Constant .none j pos') (adT ta) := by
 intro pins s σ H Q I h
 refine d8 (ha pins s σ H _ I h) fun v s1 zz => ?_
 obtain ⟨x, H1, I1, r1, q1⟩ := zz
 exact Constant_none (is_none_gen ⟨.bl _, H1, I1, by rw [r1.Nk]; rfl, q1⟩)
noncomputable def tB (t : TE) : TT := fun σ H Q => t σ H fun x H1 => ∃ c, x = .bl c /\ Q c H1
theorem Nm {op : CmpOp} {t : TE} (h : PC X op a b t) (h1 : behindInMarks op b = false := by first | exact Nj _ (by decide) (by decide) | rfl) : PT X (.Compare a [op] [b] pos) (tB t) := by
 intro pins s σ H Q I hw
 refine wpAny_isTrue_Compare1 (d8 (h pins s σ H _ I hw) fun v s1 h1 => d8 h1 fun u s2 h2 => d8 h2 fun c s3 zz => ?_) h1
 obtain ⟨x, H1, I1, r1, q1⟩ := zz
 obtain ⟨d, rfl, q⟩ := q1
 cases r1
 exact akb ⟨H1, I1, q⟩
theorem Xi {e : Expr} {t : TE} (h : PE X e t) (he : ∀ whole, isTrue e X.env whole = (do let v ← whole; standAt e.pos; holding [v] (truthy v)) := by intro _; rfl) : PT X e (tB t) := by
 intro pins s σ H Q I hw
 refine isTrue_plain (d8 (h pins s σ H _ I hw) fun v s1 zz => ?_) (he _)
 obtain ⟨x, H1, I1, r1, q1⟩ := zz
 obtain ⟨d, rfl, q⟩ := q1
 cases r1
 exact akb ⟨H1, I1, q⟩
variable {tA tB' : TT} {rest : List Expr}
noncomputable def adU (t u : TT) : TT := fun σ H Q => t σ H fun c H1 => if c = true then u σ H1 Q else Q false H1
noncomputable def tOr (t u : TT) : TT := fun σ H Q => t σ H fun c H1 => if c = true then Q true H1 else u σ H1 Q
noncomputable def adV (t : TT) : TT := fun σ H Q => t σ H fun c H1 => Q (!c) H1
theorem RP (ha : PT X a tA) : PW X (.BoolOp .And [a] pos) tA := by
 intro wh pins s σ H Q I h
 refine isTrue_and (d8 (ha pins s σ H Q I h) fun c s1 e => ?_)
 cases c with
 | true => exact isTrue_and_nil e
 | false => exact e
theorem Xj (ha : PT X a tA) : PW X (.BoolOp .Or [a] pos) tA := by
 intro wh pins s σ H Q I h
 refine isTrue_or (d8 (ha pins s σ H Q I h) fun c s1 e => ?_)
 cases c with
 | false => exact isTrue_or_nil e
 | true => exact e
theorem Xk (ha : PT X a tA) (hb : PW X (.BoolOp .And (b :: rest) pos) tB') : PW X (.BoolOp .And (a :: b :: rest) pos) (adU tA tB') := by
 intro wh pins s σ H Q I h
 refine isTrue_and (d8 (ha pins s σ H _ I h) fun c s1 zz => ?_)
 obtain ⟨H1, I1, q1⟩ := zz
 cases c with
 | true => exact hb wh pins s1 σ H1 Q I1 q1
 | false => exact ⟨H1, I1, q1⟩
theorem abh (ha : PT X a tA) (hb : PW X (.BoolOp .Or (b :: rest) pos) tB') : PW X (.BoolOp .Or (a :: b :: rest) pos) (tOr tA tB') := by
 intro wh pins s σ H Q I h
 refine isTrue_or (d8 (ha pins s σ H _ I h) fun c s1 zz => ?_)
 obtain ⟨H1, I1, q1⟩ := zz
 cases c with
 | true => exact ⟨H1, I1, q1⟩
 | false => exact hb wh pins s1 σ H1 Q I1 q1
theorem Xl (ha : PT X a tA) : PT X (.UnaryOp .Not a pos) (adV tA) := by
 intro pins s σ H Q I h
 exact isTrue_not (ha pins s σ H (fun c H1 => Q (!c) H1) I h)
noncomputable def abi (ta tb : TE) : TE := fun σ H Q => ta σ H fun x H1 => ∃ c, x = .bl c /\ if c = true then tb σ H1 Q else Q (.bl false) H1
noncomputable def abj (ta : TE) : TE := fun σ H Q => ta σ H fun x H1 => ∃ c, x = .bl c /\ Q (.bl (!c)) H1
theorem Xm {op} {t : TE} (h : PE X a t) : PE X (.BoolOp op [a] pos) t := fun pins s σ H Q I hw => BoolOp_one (h pins s σ H Q I hw)
theorem Xn (ha : PE X a ta) (hb : PE X (.BoolOp .And (b :: rest) pos) tb) : PE X (.BoolOp .And (a :: b :: rest) pos) (abi ta tb) := by
 intro pins s σ H Q I h
 refine BoolOp_and (d8 (ha pins s σ H _ I h) fun v s1 zz => ?_)
 obtain ⟨x, H1, I1, r1, q1⟩ := zz
 obtain ⟨c, rfl, q1⟩ := q1
 cases r1
 refine akb ?_
 cases c with
 | true => exact hb pins s1 σ H1 Q I1 q1
 | false => exact ⟨.bl false, H1, I1, rfl, q1⟩
theorem Xo (ha : PE X a ta) : PE X (.UnaryOp .Not a pos) (abj ta) := by
 intro pins s σ H Q I h
 refine UnaryOp_ (d8 (ha pins s σ H _ I h) fun v s1 zz => ?_)
 obtain ⟨x, H1, I1, r1, q1⟩ := zz
 obtain ⟨c, rfl, q1⟩ := q1
 cases r1
 exact not_of (akb ⟨.bl (!c), H1, I1, rfl, q1⟩)
end
noncomputable def nS (K : PySem.W.Frag) (H : Hp) (a : Addr) (xs : List V) : Prop :=
 Rd H a (.lst xs) ∨
   ∃ (o : Obj) (its : Array Value) (n : Nat), K.lookup a = some o /\ o.cls = .type "list" /\ o.dict = none /\ o.data = .seq its n /\ its.size <= sizeLine /\ Vals xs its.toList
noncomputable def rS (K : PySem.W.Frag) (H : Hp) (a : Addr) (xs : List V) : Prop :=
 Rd H a (.tup xs) ∨
   ∃ (o : Obj) (its : Array Value) (n : Nat), K.lookup a = some o /\ o.cls = .type "tuple" /\ o.data = .seq its n /\ its.size <= sizeLine /\ Vals xs its.toList
noncomputable def adW : Value -> Option V
 | .none => some .non
 | .bool b => some (.bl b)
 | .int i _ => some (.int i)
 | .str x _ => some (.str x)
 | .bytes b _ => some (.GJ b)
 | .float b _ => some (.flt b)
 | .ref a => some (.ref a)
 | .type n => some (.ty n)
 | _ => none
theorem RelV.abs {x : V} {u : Value} (r : RelV x u) : adW u = some x := by
 cases x with
 | non => cases r; rfl
 | bl _ => cases r; rfl
 | int _ => obtain ⟨t, rfl⟩ := r; rfl
 | str _ => obtain ⟨t, rfl⟩ := r; rfl
 | GJ _ => obtain ⟨t, rfl⟩ := r; rfl
 | flt _ => obtain ⟨t, rfl⟩ := r; rfl
 | ref _ => cases r; rfl
 | ty _ => cases r; rfl
theorem RelV.inj {x y : V} {u : Value} (r : RelV x u) (q : RelV y u) : x = y := aiZ (r.abs.symm.trans q.abs)
theorem Vals.inj {xs ys : List V} {us : List Value} (h : Vals xs us) (q : Vals ys us) : xs = ys := by
 induction h generalizing ys with
 | nil => cases q; rfl
 | cons r _ i => cases q with
   | cons r' t' => rw [r.inj r', i t']
section
variable {X : Cx} {pins : List (Addr × Obj)} {σ : St} {H : Hp} {s : Shared} {a : Addr} {xs ys : List V}
theorem nS.of {K : PySem.W.Frag} (h : H a = some (.lst xs)) : nS K H a xs := .inl (.inl h)
theorem rS.of {K : PySem.W.Frag} (h : H a = some (.tup xs)) : rS K H a xs := .inl (.inl h)
theorem Inv.list (I : Inv X pins σ H s) (h : nS X.K H a xs) : ∃ its : List Value, Vals xs its /\ PlainL s.heap a its.toArray /\ xs.length <= sizeLine := by
 rcases h with h | ⟨o, its, n, hk, hc, hd, hs, hz, r⟩
 . obtain ⟨z, its, n, r, e⟩ := h.ok I.dw
   exact ⟨its, r, ⟨_, n, e, rfl, rfl, rfl⟩, z⟩
 . refine ⟨its.toList, r, ⟨o, n, I.D5 a o hk, hc, hd, by simpa using hs⟩, ?_⟩
   have e := r.length
   simp only [aj3] at e
   omega
theorem Inv.tuple (I : Inv X pins σ H s) (h : rS X.K H a xs) : ∃ its : List Value, Vals xs its /\ IsTup s.heap a its.toArray /\ xs.length <= sizeLine := by
 rcases h with h | ⟨o, its, n, hk, hc, hs, hz, r⟩
 . obtain ⟨z, its, r, p⟩ := h.ok I.dw
   exact ⟨its, r, p, z⟩
 . refine ⟨its.toList, r, ⟨o, I.D5 a o hk, hc, n, by simpa using hs⟩, ?_⟩
   have e := r.length
   simp only [aj3] at e
   omega
theorem Inv.Eb (I : Inv X pins σ H s) (h : nS X.K H a xs) (h' : nS X.K H a ys) : xs = ys := by
 obtain ⟨its, r, ⟨o, n, e, _, _, d⟩, _⟩ := I.list h
 obtain ⟨its', r', ⟨o', n', e', _, _, d'⟩, _⟩ := I.list h'
 rw [e] at e'; cases e'
 rw [d] at d'
 injection d' with d1 _
 have : its = its' := by simpa using congrArg Array.toList d1
 subst this
 exact r.inj r'
theorem Inv.KL (I : Inv X pins σ H s) (h : rS X.K H a xs) (h' : rS X.K H a ys) : xs = ys := by
 obtain ⟨its, r, ⟨o, e, _, n, d⟩, _⟩ := I.tuple h
 obtain ⟨its', r', ⟨o', e', _, n', d'⟩, _⟩ := I.tuple h'
 rw [e] at e'; cases e'
 rw [d] at d'
 injection d' with d1 _
 have : its = its' := by simpa using congrArg Array.toList d1
 subst this
 exact r.inj r'
end
noncomputable abbrev Cx.wish (X : Cx) (E : Value -> Shared -> Prop) : Cx := { X with xe := E }
noncomputable abbrev Cx.Rt (X : Cx) : Cx := X.wish fun _ _ => False
theorem Cx.Ok.wish {X : Cx} (ok : X.Ok) (E : Value -> Shared -> Prop) : (X.wish E).Ok :=
 ⟨ok.mod, ok.kind, ok.glob, ok.blt, ok.above, ok.inj, ok.has, ok.cab, ok.hd, ok.frames, ok.stk, ok.exf, ok.bs, ok.Rr, ok.Ng, ok.RJ, ok.vA, ok.Xd⟩
theorem Cx.Ok.nU {X : Cx} {E : Value -> Shared -> Prop} (ok : (X.wish E).Ok) : X.Ok :=
 ⟨ok.mod, ok.kind, ok.glob, ok.blt, ok.above, ok.inj, ok.has, ok.cab, ok.hd, ok.frames, ok.stk, ok.exf, ok.bs, ok.Rr, ok.Ng, ok.RJ, ok.vA, ok.Xd⟩
section
variable {X : Cx} {pins : List (Addr × Obj)} {σ : St} {H : Hp} {s : Shared} {E : Value -> Shared -> Prop}
theorem Inv.wish (I : Inv X pins σ H s) (E : Value -> Shared -> Prop) : Inv (X.wish E) pins σ H s := ⟨I.ok.wish E, I.os, I.bare, I.base, I.loc, I.cell, I.free, I.nT, I.pin, I.dw, I.len⟩
theorem Inv.nU (I : Inv (X.wish E) pins σ H s) : Inv X pins σ H s := ⟨I.ok.nU, I.os, I.bare, I.base, I.loc, I.cell, I.free, I.nT, I.pin, I.dw, I.len⟩
theorem SP.nU {D : Ends} {f : Flow} {s' : Shared} (h : SP (X.wish E) pins D f s') : SP X pins D f s' := by
 cases f with
 | next => obtain ⟨σ', H', I, q⟩ := h; exact ⟨σ', H', I.nU, q⟩
 | brk => obtain ⟨σ', H', I, q⟩ := h; exact ⟨σ', H', I.nU, q⟩
 | cont => obtain ⟨σ', H', I, q⟩ := h; exact ⟨σ', H', I.nU, q⟩
 | ret u => obtain ⟨v, σ', H', I, r, q⟩ := h; exact ⟨v, σ', H', I.nU, r, q⟩
theorem GK.Rt {st : List Stmt} {t : TS} (h : GK X.Rt st t) : GK X st t := fun pins s σ H D I hw =>
 ajK (h pins s σ H D (I.wish _) hw) (fun _ _ q => q.nU) fun _ _ z => False.elim z
end
section
variable {X : Cx} {st : Stmt} {rest : List Stmt} {t u : TS} {e : Expr} {te : TE} {pos : Pos}
noncomputable def abk : TS := fun D σ H => D.nx σ H
noncomputable def adX (t u : TS) : TS := fun D σ H => t { D with nx := u D } σ H
theorem RQ : GK X [] abk := fun _ _ σ H _ I h => wpAny_execs_nil ⟨σ, H, I, h⟩
theorem Nn (h1 : PS X st t) (h2 : GK X rest u) : GK X (st :: rest) (adX t u) := by
 intro pins s σ H D I h
 refine wpAny_execs_cons (d8 (h1 pins s σ H { D with nx := u D } I h) fun f s1 q => ?_)
 cases f with
 | next =>
   obtain ⟨σ', H', I', q⟩ := q
   exact h2 pins s1 σ' H' D I' q
 | ret v => exact q
 | brk => exact q
 | cont => exact q
noncomputable def Xp : TS := fun D σ H => D.bk σ H
theorem Np : PS X (.Break pos) Xp := fun _ _ σ H _ I h => wpAny_Break ⟨σ, H, I, h⟩
theorem Inv.quiet {pins : List (Addr × Obj)} {σ : St} {H : Hp} {s : Shared} (I : Inv X pins σ H s) : interactive X.env = false := by simp [interactive, I.ok.kind]
noncomputable def abl (te : TE) : TS := fun D σ H => te σ H fun _ H1 => D.nx σ H1
theorem Jt (he : PE X e te) (hs : swapsWith e none pos.line X.env = pure false := by rfl) : PS X (.Expr e pos) (abl te) := by
 intro pins s σ H D I h
 exact wpAny_Expr_any (d8 (he pins s σ H _ I h) fun v s1 ⟨x, H1, I1, r1, q1⟩ => ⟨σ, H1, I1, q1⟩) I.quiet hs
noncomputable def adY (te : TE) : TS := fun D σ H => te σ H D.rt
theorem Xq (he : PE X e te) : PS X (.Return (some e) pos) (adY te) := by
 intro pins s σ H D I h
 exact wpAny_Return_some (d8 (he pins s σ H _ I h) fun v s1 ⟨x, H1, I1, r1, q1⟩ => ⟨x, σ, H1, I1, r1, q1⟩)
noncomputable def adZ (c : TT) (t u : TS) : TS := fun D σ H => c σ H fun b H1 => if b = true then t D σ H1 else u D σ H1
theorem abm {c : Expr} {a b : List Stmt} {tc : TT} (hc : PT X c tc) (ha : GK X a t) (hb : GK X b u) : PS X (.If c a b pos) (adZ tc t u) := by
 intro pins s σ H D I h
 refine wpAny_If (d8 (hc pins s σ H _ I h) fun d s1 zz => ?_)
 obtain ⟨H1, I1, q1⟩ := zz
 cases d with
 | true => exact ha pins s1 σ H1 D I1 q1
 | false => exact hb pins s1 σ H1 D I1 q1
end
noncomputable abbrev TG := V -> St -> Hp -> (St -> Hp -> Prop) -> Prop
noncomputable abbrev Xr := List V -> St -> Hp -> (St -> Hp -> Prop) -> Prop
noncomputable def PG (X : Cx) (target : Expr) (t : TG) : Prop :=
 ∀ (pins : List (Addr × Obj)) (s : Shared) (σ : St) (H : Hp) (v : V) (u : Value) (Q : St -> Hp -> Prop), Inv X pins σ H s -> RelV v u -> t v σ H Q →
   wpAny (model X.prog X.w) X.A (assign target X.env u) (fun _ s' => ∃ σ' H', Inv X pins σ' H' s' /\ Q σ' H') X.xe s
noncomputable def PGs (X : Cx) (ts : List Expr) (t : Xr) : Prop :=
 ∀ (pins : List (Addr × Obj)) (s : Shared) (σ : St) (H : Hp) (vs : List V) (us : List Value) (Q : St -> Hp -> Prop), Inv X pins σ H s -> Vals vs us -> t vs σ H Q →
   wpAny (model X.prog X.w) X.A (assignInOrder ((assignEach ts X.env).map (·.2)) us) (fun _ s' => ∃ σ' H', Inv X pins σ' H' s' /\ Q σ' H') X.xe s
noncomputable abbrev Xs := V -> V -> V -> Hp -> (Hp -> Prop) -> Prop
noncomputable def abn (X : Cx) (t : Xs) : Prop :=
 ∀ (pins : List (Addr × Obj)) (s : Shared) (σ : St) (H : Hp) (o i v : V) (ov iv u : Value) (Q : Hp -> Prop), Inv X pins σ H s -> RelV o ov -> RelV i iv -> RelV v u -> t o i v H Q →
   wpAny (model X.prog X.w) X.A (setItem ov iv u) (fun _ s' => ∃ H', Inv X pins σ H' s' /\ Q H') X.xe s
section
variable {X : Cx} {pos : Pos}
noncomputable def uQ (i : Nat) : TG := fun v σ H Q => Q (σ.set i (some v)) H
theorem rT {i : Nat} {x : Str} (hN : X.N.Nodup) (hi : X.N[i]? = some x) (hx : Loc X.env.scope x) (hf : X.fn x = true \/ X.env.scope.names.lookup x = some .local := by first | exact .inl rfl | exact .inr rfl | assumption) : PG X (.Name x pos) (uQ i) := by
 intro pins s σ H v u Q I r h
 exact wpAny_assign_Name (Ea I hN hi hx r (fun s' I' => ⟨_, H, I', h⟩) hf)
noncomputable def Xu : Xr := fun vs σ H Q => vs = [] /\ Q σ H
noncomputable def Ec (t : TG) (u : Xr) : Xr := fun vs σ H Q => ∃ v r, vs = v :: r /\ t v σ H fun σ' H' => u r σ' H' Q
theorem RT : PGs X [] Xu := by
 intro pins s σ H vs us Q I r h
 obtain ⟨e, h⟩ := h
 subst e
 cases r
 exact assignInOrder_nil ⟨σ, H, I, h⟩
theorem Ed {e : Expr} {es : List Expr} {t : TG} {u : Xr} (h1 : PG X e t) (h2 : PGs X es u)
   (hs : (assignEach (e :: es) X.env).map (·.2) = assign e X.env :: (assignEach es X.env).map (·.2) := by rfl) : PGs X (e :: es) (Ec t u) := by
 intro pins s σ H vs us Q I r h
 obtain ⟨v, vr, e1, h⟩ := h
 subst e1
 cases r with
 | cons r rr =>
   rw [hs]
   refine assignInOrder_cons (d8 (h1 pins s σ H _ _ _ I r h) fun _ s1 zz => ?_)
   obtain ⟨σ1, H1, I1, q1⟩ := zz
   exact h2 pins s1 σ1 H1 _ _ Q I1 rr q1
noncomputable def Xv (K : PySem.W.Frag) (n : Nat) (t : Xr) : TG := fun v σ H Q => ∃ a xs, v = .ref a /\ rS K H a xs /\ xs.length = n /\ t xs σ H Q
theorem Xw {es : List Expr} {k : Nat} {t : Xr} {n : Nat} (hc : X.calm = true) (h : PGs X es t)
   (hn : (assignEach es X.env).length = n := by rfl) (Nq : (assignEach es X.env).findIdx? (·.1) = none := by rfl) : PG X (.Tuple es k pos) (Xv X.K n t) := by
 intro pins s σ H v u Q I r hw
 obtain ⟨a, xs, e1, hq, hl, hw⟩ := hw
 subst e1
 cases r
 obtain ⟨its, rv, ht, hz⟩ := I.tuple hq
 refine assign_Tuple_tuple (I.ok.hd hc) ht (by simp [hn, ← hl, rv.length]) Nq fun h' hx => ?_
 have I1 : Inv X pins σ H { s with heap := h' } := I.kept (t' := s.toks) fun b o e => hx b o (aja (aiX e)) e
 exact h pins _ σ H xs _ Q I1 (by simpa using rv) hw
noncomputable def ad0 (to ti : TE) (t : Xs) : TG := fun v σ H Q => to σ H fun o H1 => ti σ H1 fun i H2 => t o i v H2 fun H3 => Q σ H3
theorem Xx {o i : Expr} {to ti : TE} {t : Xs} (ho : PE X o to) (hi : PE X i ti) (hs : abn X t)
   (ha : ∀ v, assign (.Subscript o i pos) X.env v = (do
     let ov ← holding [v] (eval o X.env)
     let iv ← holding [v, ov] (eval i X.env)
     standAt pos
     holding [v, ov, iv] (setItem ov iv v)
     release [v, ov, iv] []) := by intro _; rfl) : PG X (.Subscript o i pos) (ad0 to ti t) := by
 intro pins s σ H v u Q I r h
 rw [ha]
 refine aiS (akD (d8 (ho pins s σ H _ I h) fun ov s1 zz => ?_))
 obtain ⟨x, H1, I1, r1, q1⟩ := zz
 refine aiS (akD (d8 (hi pins s1 σ H1 _ I1 q1) fun iv s2 zz => ?_))
 obtain ⟨y, H2, I2, r2, q2⟩ := zz
 refine aiS (wpAny_standAt (aiS (akD (d8 (hs pins s2 σ H2 x y v ov iv u _ I2 r1 r2 r q2) fun _ s3 zz => ?_))))
 obtain ⟨H3, I3, q3⟩ := zz
 exact wpAny_release ⟨σ, H3, I3, q3⟩
noncomputable def abo (te : TE) (g : TG) : TS := fun D σ H => te σ H fun x H1 => g x σ H1 D.nx
theorem Xy {tg e : Expr} {te : TE} {g : TG} (he : PE X e te) (hg : PG X tg g) (hs : swapsWithSole [tg] e pos.line X.env = pure false := by rfl) (hw : swappedStores [tg] e X.env = pure none := by rfl)
   (h1 : (assignEach [tg] X.env).map (·.2) = [assign tg X.env] := by rfl) : PS X (.Assign [tg] e pos) (abo te g) := by
 intro pins s σ H D I h
 refine wpAny_Assign_stores (d8 (he pins s σ H _ I h) fun v s1 zz => ?_) hs hw
 obtain ⟨x, H1, I1, r1, q1⟩ := zz
 rw [h1]
 exact d8 (hg pins s1 σ H1 x v _ I1 r1 q1) fun _ s2 q => q
theorem Nr {i : Nat} {x : Str} {e : Expr} {te : TE} {pos' : Pos} (hN : X.N.Nodup) (hi : X.N[i]? = some x) (hx : Loc X.env.scope x) (he : PE X e te) (hs : swapsWith e (some (.Name x pos')) pos.line X.env = pure false := by rfl) (hf : X.fn x = true \/ X.env.scope.names.lookup x = some .local := by first | exact .inl rfl | exact .inr rfl | assumption) :
   PS X (.Assign [.Name x pos'] e pos) (abo te (uQ i)) := by
 intro pins s σ H D I h
 refine wpAny_Assign_Name (d8 (he pins s σ H _ I h) fun v s1 zz => ?_) hs
 obtain ⟨y, H1, I1, r1, q1⟩ := zz
 exact Ea I1 hN hi hx r1 (fun s2 I2 => ⟨_, H1, I2, q1⟩) hf
end
section
variable {X : Cx} {pos : Pos}
noncomputable def Xz (c : TT) (tb : TS) : TS := fun D σ H => ∃ W : Nat -> St -> Hp -> Prop, (∃ m, W m σ H) /\ ∀ m σ H, W m σ H →
 c σ H fun b H1 => if b = true then ∃ N : St -> Hp -> Prop, (∀ σ' H', N σ' H' -> ∃ m', m' < m /\ W m' σ' H') /\ tb { D with nx := N, ct := N, bk := D.nx } σ H1 else D.nx σ H1
theorem Nt {c : Expr} {body : List Stmt} {tc : TT} {tb : TS} (hp : PassesOwn (model X.prog X.w) X.A X.env X.xe) (hc : PT X c tc) (hb : GK X body tb) : PS X (.While c body [] pos) (Xz tc tb) := by
 intro pins s σ H D I h
 obtain ⟨W, ⟨m0, w0⟩, turn⟩ := h
 refine wpAny_While (codeAny_whileLoop (fun n s' => ∃ σ' H', Inv X pins σ' H' s' /\ W n σ' H') ?_ m0 ⟨σ, H, I, w0⟩)
 rintro n s1 ⟨σ1, H1, I1, w1⟩
 refine aj8 hp (d8 (hc pins s1 σ1 H1 _ I1 (turn n σ1 H1 w1)) fun b s2 zz => ?_)
 obtain ⟨H2, I2, q2⟩ := zz
 cases b with
 | true =>
   obtain ⟨N, hN, q2⟩ := q2
   rw [aiI rfl]
   refine aj8 hp (d8 (hb pins s2 σ1 H2 _ I2 q2) fun f s3 q3 => ?_)
   cases f with
   | next =>
     obtain ⟨σ3, H3, I3, n3⟩ := q3
     obtain ⟨m', hm, w3⟩ := hN σ3 H3 n3
     exact ⟨m', hm, σ3, H3, I3, w3⟩
   | cont =>
     obtain ⟨σ3, H3, I3, n3⟩ := q3
     obtain ⟨m', hm, w3⟩ := hN σ3 H3 n3
     exact ⟨m', hm, σ3, H3, I3, w3⟩
   | brk => exact q3
   | ret v => exact q3
 | false =>
   rw [aiG aiY]
   exact wpAny_execs_nil ⟨σ1, H2, I2, q2⟩
end
structure It where
 go : Nat -> Hp -> Prop
 Wv : Nat -> Hp -> V -> Hp -> Prop
 stop : Nat -> Hp -> Prop
noncomputable def jm (X : Cx) (pins : List (Addr × Obj)) (H : Hp) (b : Addr) : Prop :=
 H b = none /\ b ≠ X.env.locals /\ b ∉ X.fs /\ (b ∈ X.ex \/ X.s₀.heap.objs.size <= b) /\ (∀ x c, X.env.cells.lookup x = some c -> c ≠ b) /\ ∀ p ∈ X.pn ++ pins, p.1 ≠ b
theorem Inv.Be {X : Cx} {pins : List (Addr × Obj)} {σ : St} {H H' : Hp} {s : Shared} {b : Addr} (I : Inv X pins σ H s) (hb : s.heap.objs.size <= b) (hn : H' b = none) : jm X pins H' b := by
 refine ⟨hn, Nat.ne_of_gt (ajf I.lt hb), I.adM hb, .inr (ajL I.sz hb), fun x c e z => ?_, fun p hp z => ?_⟩
 . obtain ⟨v, q⟩ := I.cell x c e
   exact absurd (ajf q.lt (by rw [z]; exact hb)) (akq _)
 . exact absurd (ajf (aiX (I.pin p hp).1) (by rw [z]; exact hb)) (akq _)
structure Turn (P : Program) (w : World) (K : PySem.W.Frag) (tg : Expr) (J : It) (fp : List Addr) (it : Addr) (tn : Nat -> Heap -> Prop) : Prop where
 mem : it ∈ fp
 obj : ∀ i h, tn i h -> ∀ b ∈ fp, ∃ o, h.get? b = some o /\ ∀ v, o.data ≠ .cell v
 keep : ∀ i h h', tn i h -> (∀ b ∈ fp, ∀ o, h.get? b = some o -> h'.get? b = some o) -> tn i h'
 item : ∀ (X : Cx), X.prog = P -> X.w = w -> X.K = K -> X.calm = true -> ∀ (i : Nat) (pins : List (Addr × Obj)) (s : Shared) (σ : St) (H : Hp) (E : Value -> Shared -> Prop), Inv X pins σ H s -> (∀ b ∈ fp, jm X pins H b) -> tn i s.heap -> J.go i H →
   wpAny (model P w) X.A (pyNext (.ref it)) (fun r s1 => ∃ u, r = some u ∧
     wpAny (model P w) X.A (letOwnedTupleGo tg (.ref it) u) (fun _ s2 => ∃ x H', Inv X pins σ H' s2 /\ RelV x u /\ J.Wv i H x H' /\ tn (i + 1) s2.heap /\ ∀ b ∈ fp, H' b = none) E s1) E s
 done : ∀ (X : Cx), X.prog = P -> X.w = w -> X.K = K -> X.calm = true -> ∀ (i : Nat) (pins : List (Addr × Obj)) (s : Shared) (σ : St) (H : Hp) (E : Value -> Shared -> Prop), Inv X pins σ H s -> (∀ b ∈ fp, jm X pins H b) -> tn i s.heap -> J.stop i H →
   wpAny (model P w) X.A (pyNext (.ref it)) (fun r s1 => r = none /\ Inv X pins σ H s1) E s
 self : ∀ (A : Around) (i : Nat) (s : Shared) (Q : Value -> Shared -> Prop) (E : Value -> Shared -> Prop), tn i s.heap -> Q (.ref it) s -> wpAny (model P w) A (pyIter (.ref it)) Q E s
noncomputable abbrev TI := St -> Hp -> (It -> Hp -> Prop) -> Prop
noncomputable def PIE (X : Cx) (pins : List (Addr × Obj)) (σ : St) (tg : Expr) (R : It -> Hp -> Prop) (itv : Value) (s2 : Shared) : Prop :=
 ∃ (it : Addr) (fp : List Addr) (tn : Nat -> Heap -> Prop) (J : It) (H' : Hp), itv = .ref it /\ Inv X pins σ H' s2 /\ Turn X.prog X.w X.K tg J fp it tn /\ tn 0 s2.heap /\ (∀ b ∈ fp, jm X pins H' b) /\ R J H'
noncomputable def PI (X : Cx) (tg iter : Expr) (wi : TI) : Prop :=
 ∀ (pins : List (Addr × Obj)) (s : Shared) (σ : St) (H : Hp) (R : It -> Hp -> Prop), Inv X pins σ H s -> wi σ H R →
   wpAny (model X.prog X.w) X.A (eval iter X.env) (fun v s1 => wpAny (model X.prog X.w) X.A (pyIter v) (PIE X pins σ tg R) X.xe s1) X.xe s
theorem Nu {M : Model} {A : Around} {E : Value -> Shared -> Prop} {s : Shared} {tg : Expr} {it : Addr} {u : Value} {o : Obj} {n : String} {vs : Array Value} {Q : Unit -> Shared -> Prop} (ho : s.heap.get? it = some o) (hc : o.cls = .type n) (hd : o.data = .fields vs)
   (hn : ["enumerate", "zip", "dict_itemiterator", "dict_reverseitemiterator", "odict_iterator", "itertools.zip_longest", "itertools.pairwise"].contains n = false) (hQ : Q () s) : wpAny M A (letOwnedTupleGo tg (.ref it) u) Q E s := by
 unfold letOwnedTupleGo
 cases tg <;> first
   | exact ajo hQ
   | (cases u <;> first
       | exact ajo hQ
       | (refine aiS (wpAny_load ho ?_)
          rw [hc, hd]
          show wpAny M A (if (["enumerate", "zip", "dict_itemiterator", "dict_reverseitemiterator", "odict_iterator", "itertools.zip_longest", "itertools.pairwise"].contains n && vs[0]? == some (rawInt _)) = true then _ else _) Q E s
          rw [aiG (by intro h; rw [hn, Bool.false_and] at h; cases h)]
          exact ajo hQ))
noncomputable def Itl (K : PySem.W.Frag) (a : Addr) : It :=
 ⟨fun i H => ∃ xs x, nS K H a xs /\ xs[i]? = some x, fun i H x H' => H' = H /\ ∀ xs, nS K H a xs -> xs[i]? = some x, fun i H => ∃ xs, nS K H a xs /\ xs.length <= i⟩
noncomputable def Itt (K : PySem.W.Frag) (a : Addr) : It :=
 ⟨fun i H => ∃ xs x, rS K H a xs /\ xs[i]? = some x, fun i H x H' => H' = H /\ ∀ xs, rS K H a xs -> xs[i]? = some x, fun i H => ∃ xs, rS K H a xs /\ xs.length <= i⟩
noncomputable def Itr (lo : Int) (n : Nat) : It := ⟨fun i _ => i < n, fun i H x H' => H' = H /\ x = .int (lo + i), fun i _ => n <= i⟩
theorem KN {P : Program} {w : World} {K : PySem.W.Frag} {tg : Expr} (a it : Addr) : Turn P w K tg (Itl K a) [it] it (fun i h => h.IsListIter it a i) where
 mem := by simp
 obj := fun i h st b hb => by
   have e : b = it := by simpa using hb
   subst e
   obtain ⟨o, e, c, d⟩ := st
   exact ⟨o, e, fun v z => by rw [d] at z; cases z⟩
 keep := fun i h h' st k => st.at fun o e => k it (by simp) o e
 item := by
   intro X hP hw hK hc i pins s σ H E I hf st hg
   subst hP hw hK
   obtain ⟨xs, x, hq, hx⟩ := hg
   obtain ⟨its, rv, p, hz⟩ := I.list hq
   obtain ⟨u, hu, ru⟩ := rv.get hx
   obtain ⟨f0, f1, f2, f3, f4, f5⟩ := hf it (by simp)
   refine wpAny_pyNext_list_item st p.isList (x := u) (by simpa using hu) fun h' GL sb => ?_
   have I1 : Inv X pins σ H { s with heap := h' } := I.turned (t' := s.toks) (fun b o hb e => (sb.2 b hb).trans e) f0 f1 f3 f4 f5
   obtain ⟨o, e, c, d⟩ := id GL
   exact ⟨u, rfl, Nu (s := { s with heap := h' }) e c d (by decide) ⟨x, H, I1, ru, ⟨rfl, fun ys hy => by rw [I.Eb hy hq]; exact hx⟩, GL, fun b hb => (hf b hb).1⟩⟩
 done := by
   intro X hP hw hK hc i pins s σ H E I hf st hg
   subst hP hw hK
   obtain ⟨xs, hq, hx⟩ := hg
   obtain ⟨its, rv, p, hz⟩ := I.list hq
   obtain ⟨f0, f1, f2, f3, f4, f5⟩ := hf it (by simp)
   have hl := rv.length
   exact wpAny_pyNext_list_end (I.ok.hd hc) st p.isList (by simp; omega) fun h' eb => ⟨rfl, I.turned (t' := s.toks) (fun b o hb e => eb b o hb e) f0 f1 f3 f4 f5⟩
 self := fun _ _ _ _ _ st h => wpAny_pyIter_listiter st h
theorem GN {P : Program} {w : World} {K : PySem.W.Frag} {tg : Expr} (a it : Addr) : Turn P w K tg (Itt K a) [it] it (fun i h => h.IsTupleIter it a i) where
 mem := by simp
 obj := fun i h st b hb => by
   have e : b = it := by simpa using hb
   subst e
   obtain ⟨o, e, c, d⟩ := st
   exact ⟨o, e, fun v z => by rw [d] at z; cases z⟩
 keep := fun i h h' st k => st.at fun o e => k it (by simp) o e
 item := by
   intro X hP hw hK hc i pins s σ H E I hf st hg
   subst hP hw hK
   obtain ⟨xs, x, hq, hx⟩ := hg
   obtain ⟨its, rv, p, hz⟩ := I.tuple hq
   obtain ⟨u, hu, ru⟩ := rv.get hx
   obtain ⟨f0, f1, f2, f3, f4, f5⟩ := hf it (by simp)
   refine wpAny_pyNext_tuple_item st (show s.heap.IsTuple a its.toArray from p) (x := u) (by simpa using hu) fun h' GL sb => ?_
   have I1 : Inv X pins σ H { s with heap := h' } := I.turned (t' := s.toks) (fun b o hb e => (sb.2 b hb).trans e) f0 f1 f3 f4 f5
   obtain ⟨o, e, c, d⟩ := id GL
   exact ⟨u, rfl, Nu (s := { s with heap := h' }) e c d (by decide) ⟨x, H, I1, ru, ⟨rfl, fun ys hy => by rw [I.KL hy hq]; exact hx⟩, GL, fun b hb => (hf b hb).1⟩⟩
 done := by
   intro X hP hw hK hc i pins s σ H E I hf st hg
   subst hP hw hK
   obtain ⟨xs, hq, hx⟩ := hg
   obtain ⟨its, rv, p, hz⟩ := I.tuple hq
   obtain ⟨f0, f1, f2, f3, f4, f5⟩ := hf it (by simp)
   have hl := rv.length
   exact wpAny_pyNext_tuple_end (I.ok.hd hc) st (show s.heap.IsTuple a its.toArray from p) (by simp; omega) fun h' eb => ⟨rfl, I.turned (t' := s.toks) (fun b o hb e => eb b o hb e) f0 f1 f3 f4 f5⟩
 self := fun _ _ _ _ _ st h => wpAny_pyIter_tupleiter st h
theorem GO {P : Program} {w : World} {K : PySem.W.Frag} {tg : Expr} (it : Addr) (lo : Int) (n : Nat) : Turn P w K tg (Itr lo n) [it] it (fun i h => IsRangeIter h it (lo + (i : Nat) * 1) ((n : Int) - (i : Nat)) 1) where
 mem := by simp
 obj := fun i h st b hb => by
   have e : b = it := by simpa using hb
   subst e
   exact ⟨_, st, fun v z => by
     have z' : Data.fields _ = Data.cell v := z
     cases z'⟩
 keep := fun i h h' st k => k it (by simp) _ st
 item := by
   intro X hP hw hK hc i pins s σ H E I hf st hg
   subst hP hw hK
   obtain ⟨f0, f1, f2, f3, f4, f5⟩ := hf it (by simp)
   have W := Walks.range (prog := X.prog) (w := X.w) (I.ok.hd hc) it lo 1 n
   refine W.item i s _ _ hg st fun v h' tk hv GL kk => ?_
   obtain ⟨t, rfl⟩ := hv
   have I1 : Inv X pins σ H { s with heap := h', toks := tk } := I.turned (fun b o hb e => kk b o (by simpa using hb) e) f0 f1 f3 f4 f5
   refine ⟨_, rfl, Nu (s := { s with heap := h', toks := tk }) (n := "range_iterator") GL rfl rfl (by decide) ⟨.int (lo + i), H, I1, ⟨t, ?_⟩, ⟨rfl, rfl⟩, GL, fun b hb => (hf b hb).1⟩⟩
   rw [Int.mul_one]
 done := by
   intro X hP hw hK hc i pins s σ H E I hf st hg
   subst hP hw hK
   obtain ⟨f0, f1, f2, f3, f4, f5⟩ := hf it (by simp)
   exact wpAny_pyNext_range_end (I.ok.hd hc) st (by have : n <= i := hg; omega) fun h' eb => ⟨rfl, I.turned (t' := s.toks) (fun b o hb e => eb b o hb e) f0 f1 f3 f4 f5⟩
 self := fun _ _ _ _ _ st h => wpAny_pyIter_rangeiter st h
section
variable {X : Cx} {tg : Expr}
noncomputable def abp (K : PySem.W.Frag) (tl : TE) : TI := fun σ H R => tl σ H fun x H1 => ∃ a, x = .ref a /\ (∃ xs, nS K H1 a xs) /\ R (Itl K a) H1
noncomputable def ad1 (K : PySem.W.Frag) (tl : TE) : TI := fun σ H R => tl σ H fun x H1 => ∃ a, x = .ref a /\ (∃ xs, rS K H1 a xs) /\ R (Itt K a) H1
theorem RV {l : Expr} {tl : TE} (hl : PE X l tl) : PI X tg l (abp X.K tl) := by
 intro pins s σ H R I h
 refine d8 (hl pins s σ H _ I h) fun v s1 zz => ?_
 obtain ⟨x, H1, I1, r1, q1⟩ := zz
 obtain ⟨a, e, ⟨xs, hq⟩, q⟩ := q1
 subst e
 cases r1
 obtain ⟨its, rv, p, hz⟩ := I1.list hq
 refine wpAny_pyIter_list p.isList ?_
 refine ⟨s1.heap.objs.size, [s1.heap.objs.size], _, _, H1, rfl, I1.kept (t' := s1.toks) fun b o e => aiR _ e, KN a _, ⟨_, ajc _ rfl, rfl, rfl⟩, fun b hb => ?_, q⟩
 have e : b = s1.heap.objs.size := by simpa using hb
 subst e
 exact I1.Be (aiH _) (I1.dw.fresh (aiH _))
theorem XA {l : Expr} {tl : TE} (hl : PE X l tl) : PI X tg l (ad1 X.K tl) := by
 intro pins s σ H R I h
 refine d8 (hl pins s σ H _ I h) fun v s1 zz => ?_
 obtain ⟨x, H1, I1, r1, q1⟩ := zz
 obtain ⟨a, e, ⟨xs, hq⟩, q⟩ := q1
 subst e
 cases r1
 obtain ⟨its, rv, p, hz⟩ := I1.tuple hq
 refine wpAny_pyIter_tuple (show s1.heap.IsTuple a its.toArray from p) ?_
 refine ⟨s1.heap.objs.size, [s1.heap.objs.size], _, _, H1, rfl, I1.kept (t' := s1.toks) fun b o e => aiR _ e, GN a _, ⟨_, ajc _ rfl, rfl, rfl⟩, fun b hb => ?_, q⟩
 have e : b = s1.heap.objs.size := by simpa using hb
 subst e
 exact I1.Be (aiH _) (I1.dw.fresh (aiH _))
theorem Ef {pins : List (Addr × Obj)} {σ : St} {H : Hp} {s : Shared} {R : It -> Hp -> Prop} {E : Value -> Shared -> Prop} {lo hi : Int} {t u v : Tok} {tk : Nat} (I : Inv X pins σ H s) (h1 : -(2 ^ 62) <= lo) (h2 : lo < 2 ^ 62) (h3 : -(2 ^ 62) <= hi) (h4 : hi < 2 ^ 62)
   (q : R (Itr lo (hi - lo).toNat) H) : wpAny (model X.prog X.w) X.A (pyIter (.ref s.heap.objs.size)) (PIE X pins σ tg R) E { s with heap := s.heap.push { cls := .type "range", data := .fields #[.int lo t, .int hi u, .int 1 v] }, toks := tk } := by
 refine wpAny_pyIter_range (IsRange.new ..) (small_one h1 h2 h3 h4) ?_
 have I1 : Inv X pins σ H { s with heap := s.heap.push { cls := .type "range", data := .fields #[.int lo t, .int hi u, .int 1 v] }, toks := tk } := I.kept fun b o e => aiR _ e
 refine ⟨(s.heap.push { cls := .type "range", data := .fields #[.int lo t, .int hi u, .int 1 v] }).objs.size, [(s.heap.push { cls := .type "range", data := .fields #[.int lo t, .int hi u, .int 1 v] }).objs.size], _, _, H, rfl,
   I1.kept (t' := tk) fun b o e => aiR _ e, GO _ lo (hi - lo).toNat, ?_, fun b hb => ?_, q⟩
 . have e1 : lo + ((0 : Nat) : Int) * 1 = lo := by simp
   have e2 : (((hi - lo).toNat : Nat) : Int) - ((0 : Nat) : Int) = Builtin.Range.rangeSize lo hi 1 := by rw [rangeSize_one]; split <;> omega
   show IsRangeIter _ _ (lo + ((0 : Nat) : Int) * 1) ((((hi - lo).toNat : Nat) : Int) - ((0 : Nat) : Int)) 1
   rw [e1, e2]
   exact ajc _ rfl
 . have e : b = (s.heap.push { cls := .type "range", data := .fields #[.int lo t, .int hi u, .int 1 v] }).objs.size := by simpa using hb
   subst e
   exact I1.Be (aiH _) (I1.dw.fresh (aiH _))
noncomputable def abq (ta : TA) : TI := fun σ H R => ta σ H fun vs H1 => ∃ j : Int, vs = [.int j] /\ -(2 ^ 62) <= j /\ j < 2 ^ 62 /\ R (Itr 0 j.toNat) H1
noncomputable def abr (ta : TA) : TI := fun σ H R => ta σ H fun vs H1 => ∃ i j : Int, vs = [.int i, .int j] /\ (-(2 ^ 62) <= i /\ i < 2 ^ 62 /\ -(2 ^ 62) <= j /\ j < 2 ^ 62) /\ R (Itr i (j - i).toNat) H1
theorem KP {a : Expr} {ta : TA} {p pos : Pos} (hg : Gl X "range") (hm : X.mg "range" = none) (ha : PA X [a] ta) (hs : starEach [a] X.env = [(false, eval a X.env)] := by rfl) : PI X tg (.Call (.Name "range" p) [a] [] pos) (abq ta) := by
 intro pins s σ H R I h
 refine Call_ (qR I hg hm boot_range (aj5 (d8 (ha pos pins s σ H _ I h) fun us s1 zz => ?_) hs rfl))
 obtain ⟨vs, H1, I1, r1, q1⟩ := zz
 obtain ⟨j, e, q1, q2, q⟩ := q1
 subst e
 cases r1 with
 | cons r rr =>
   cases rr
   obtain ⟨t, rfl⟩ := r
   exact call_range_1 (Ef I1 (by omega) (by omega) q1 q2 (by simpa using q))
theorem KQ {a b : Expr} {ta : TA} {p pos : Pos} (hg : Gl X "range") (hm : X.mg "range" = none) (ha : PA X [a, b] ta) (hs : starEach [a, b] X.env = [(false, eval a X.env), (false, eval b X.env)] := by rfl) (KR : starEach [b] X.env = [(false, eval b X.env)] := by rfl) :
   PI X tg (.Call (.Name "range" p) [a, b] [] pos) (abr ta) := by
 intro pins s σ H R I h
 refine Call_ (qR I hg hm boot_range (aj5 (d8 (ha pos pins s σ H _ I h) fun us s1 zz => ?_) (by rw [hs, KR]) (by rw [KR]; rfl)))
 obtain ⟨vs, H1, I1, r1, q1⟩ := zz
 obtain ⟨i, j, e, ⟨q1, q2, q3, q4⟩, q⟩ := q1
 subst e
 cases r1 with
 | cons r rr =>
   cases rr with
   | cons r' rr =>
     cases rr
     obtain ⟨t, rfl⟩ := r
     obtain ⟨t', rfl⟩ := r'
     exact call_range_2 (Ef I1 q1 q2 q3 q4 q)
noncomputable def ad2 (wi : TI) (g : TG) (tb : TS) : TS := fun D σ H => wi σ H fun J H1 => ∃ W : Nat -> Nat -> St -> Hp -> Prop, (∃ m, W 0 m σ H1) /\ ∀ i m σ H, W i m σ H →
 (J.stop i H /\ D.nx σ H) \/ (J.go i H /\ ∃ N : St -> Hp -> Prop, (∀ σ' H', N σ' H' -> ∃ m', m' < m /\ W (i + 1) m' σ' H') /\ ∀ x H', J.Wv i H x H' -> g x σ H' fun σ2 H2 => tb { D with nx := N, ct := N, bk := D.nx } σ2 H2)
noncomputable def wH (fp : List Addr) (h : Heap) : List (Addr × Obj) := fp.filterMap fun b => (h.get? b).map fun o => (b, o)
theorem iz {fp : List Addr} {h : Heap} {b : Addr} {o : Obj} (hb : b ∈ fp) (e : h.get? b = some o) : (b, o) ∈ wH fp h := List.mem_filterMap.mpr ⟨b, hb, by rw [e]; rfl⟩
theorem KS {fp : List Addr} {h : Heap} {p : Addr × Obj} (hp : p ∈ wH fp h) : p.1 ∈ fp /\ h.get? p.1 = some p.2 := by
 obtain ⟨b, hb, e⟩ := List.mem_filterMap.mp hp
 cases q : h.get? b with
 | none => rw [q] at e; cases e
 | some o =>
   rw [q] at e
   have e' : (b, o) = p := aiZ e
   subst e'
   exact ⟨hb, q⟩
theorem Inv.pinned {pins : List (Addr × Obj)} {σ : St} {H : Hp} {s : Shared} {fp : List Addr} (I : Inv X pins σ H s) (hf : ∀ b ∈ fp, jm X pins H b) (ho : ∀ b ∈ fp, ∃ o, s.heap.get? b = some o /\ ∀ v, o.data ≠ .cell v) : Inv X (pins ++ wH fp s.heap) σ H s :=
 I.vJ fun p hp => (aiO.mp hp).elim (fun z => I.pin p (aiD _ z)) fun z => by
   obtain ⟨hb, e⟩ := KS z
   obtain ⟨f0, f1, f2, _⟩ := hf p.1 hb
   obtain ⟨o, e', d⟩ := ho p.1 hb
   rw [e] at e'; cases e'
   exact ⟨e, f0, f1, f2, d⟩
theorem Inv.nV {pins pl : List (Addr × Obj)} {σ : St} {H : Hp} {s : Shared} (I : Inv X (pins ++ pl) σ H s) : Inv X pins σ H s := I.vJ fun p hp => I.pin p (aiD _ (aiP _ hp))
theorem Nv {iter : Expr} {body : List Stmt} {wi : TI} {g : TG} {tb : TS} {pos : Pos} (hp : PassesOwn (model X.prog X.w) X.A X.env X.xe) (hc : X.calm = true) (hi : PI X tg iter wi) (hg : PG X tg g) (hb : GK X body tb)
   (hs : ∀ x, foldedSetIterable iter X.env x = pure x := by intro _; rfl) : PS X (.For tg iter body [] pos) (ad2 wi g tb) := by
 intro pins s σ H D I h
 refine wpAny_For (d8 (hi pins s σ H _ I h) fun v s1 h1 => d8 h1 fun itv s2 h2 => ?_) hs
 obtain ⟨it, fp, tn, J, H2, e, I2, T, st2, f2, W, ⟨m0, w0⟩, turn⟩ := h2
 subst e
 have stat : ∀ {H' : Hp}, (∀ b ∈ fp, H' b = none) -> ∀ b ∈ fp, jm X pins H' b := fun hn b hb => ⟨hn b hb, (f2 b hb).2⟩
 refine codeAny_forLoop_any (fun n s' => ∃ i σ' H', Inv X pins σ' H' s' /\ tn i s'.heap /\ (∀ b ∈ fp, H' b = none) /\ W i n σ' H') ?_ m0 ⟨0, σ, H2, I2, st2, fun b hb => (f2 b hb).1, w0⟩
 rintro n s3 ⟨i, σ3, H3, I3, st3, fr3, w3⟩
 rcases turn i n σ3 H3 w3 with ⟨stop, qn⟩ | ⟨go, N, hN, step⟩
 . refine aj8 hp (d8 (T.done X rfl rfl rfl hc i pins s3 σ3 H3 X.xe I3 (stat fr3) st3 stop) fun r s4 zz => ?_)
   obtain ⟨hr, I4⟩ := zz
   subst hr
   exact wpAny_execs_nil ⟨σ3, H3, I4, qn⟩
 . refine aj8 hp (d8 (T.item X rfl rfl rfl hc i pins s3 σ3 H3 X.xe I3 (stat fr3) st3 go) fun r s4 zz => ?_)
   obtain ⟨u, hr, h4⟩ := zz
   subst hr
   refine aj8 hp (d8 h4 fun _ s5 zz => ?_)
   obtain ⟨x, H5, I5, r5, y5, st5, fr5⟩ := zz
   have I5' := I5.pinned (stat fr5) (T.obj _ _ st5)
   refine aj8 hp (d8 (hg _ s5 σ3 H5 x u _ I5' r5 (step x H5 y5)) fun _ s6 zz => ?_)
   obtain ⟨σ6, H6, I6, q6⟩ := zz
   refine aj8 hp (d8 (hb _ s6 σ6 H6 _ I6 q6) fun f s7 q7 => ?_)
   have again : ∀ {σ7 : St} {H7 : Hp}, Inv X (pins ++ wH fp s5.heap) σ7 H7 s7 -> N σ7 H7 -> ∃ m, m < n /\ ∃ i σ' H', Inv X pins σ' H' s7 /\ tn i s7.heap /\ (∀ b ∈ fp, H' b = none) /\ W i m σ' H' := fun {σ7 H7} I7 n7 => by
     obtain ⟨m', hm, w7⟩ := hN σ7 H7 n7
     refine ⟨m', hm, i + 1, σ7, H7, I7.nV, T.keep _ _ _ st5 fun b hb o e => (I7.pin (b, o) (aiD _ (aiD _ (iz hb e)))).1, fun b hb => ?_, w7⟩
     obtain ⟨o, e, d⟩ := T.obj _ _ st5 b hb
     exact (I7.pin (b, o) (aiD _ (aiD _ (iz hb e)))).2.1
   cases f with
   | next => obtain ⟨σ7, H7, I7, n7⟩ := q7; exact again I7 n7
   | cont => obtain ⟨σ7, H7, I7, n7⟩ := q7; exact again I7 n7
   | brk => obtain ⟨σ7, H7, I7, q7⟩ := q7; exact ⟨σ7, H7, I7.nV, q7⟩
   | ret v => obtain ⟨x7, σ7, H7, I7, r7, q7⟩ := q7; exact ⟨x7, σ7, H7, I7.nV, r7, q7⟩
end
noncomputable abbrev R2 := V -> V -> Hp -> VK -> Prop
noncomputable def vC (X : Cx) (f : Value -> Value -> Sem Value) (r : R2) : Prop :=
 ∀ (pins : List (Addr × Obj)) (s : Shared) (σ : St) (H : Hp) (x y : V) (v u : Value) (Q : VK), Inv X pins σ H s -> RelV x v -> RelV y u -> r x y H Q →
   wpAny (model X.prog X.w) X.A (f v u) (EP X pins σ Q) X.xe s
noncomputable def UnR (X : Cx) (f : Value -> Sem Value) (r : V -> Hp -> VK -> Prop) : Prop :=
 ∀ (pins : List (Addr × Obj)) (s : Shared) (σ : St) (H : Hp) (x : V) (v : Value) (Q : VK), Inv X pins σ H s -> RelV x v -> r x H Q →
   wpAny (model X.prog X.w) X.A (f v) (EP X pins σ Q) X.xe s
noncomputable def nP (X : Cx) (f : Value) (r : List V -> Hp -> VK -> Prop) : Prop :=
 ∀ (pins : List (Addr × Obj)) (s : Shared) (σ : St) (H : Hp) (xs : List V) (us : List Value) (Q : VK), Inv X pins σ H s -> Vals xs us -> r xs H Q →
   wpAny (model X.prog X.w) X.A (call f us) (EP X pins σ Q) X.xe s
noncomputable def ad4 (X : Cx) (r : V -> Hp -> (Bool -> Hp -> Prop) -> Prop) : Prop :=
 ∀ (pins : List (Addr × Obj)) (s : Shared) (σ : St) (H : Hp) (x : V) (v : Value) (Q : Bool -> Hp -> Prop), Inv X pins σ H s -> RelV x v -> r x H Q →
   wpAny (model X.prog X.w) X.A (truthy v) (TP X pins σ Q) X.xe s
noncomputable def tOp (r : R2) (ta tb : TE) : TE := fun σ H Q => ta σ H fun x H1 => tb σ H1 fun y H2 => r x y H2 Q
noncomputable def tUn (r : V -> Hp -> VK -> Prop) (ta : TE) : TE := fun σ H Q => ta σ H fun x H1 => r x H1 Q
noncomputable def rI (C : Int -> Int -> Prop) (g : Int -> Int -> V) : R2 := fun x y H Q => ∃ i j, x = .int i /\ y = .int j /\ C i j /\ Q (g i j) H
noncomputable def XC (g : Int -> Int -> V) : R2 := fun x y H Q => ∃ i j, x = .int i /\ y = .int j /\ Q (g i j) H
noncomputable def rU (g : Int -> V) : V -> Hp -> VK -> Prop := fun x H Q => ∃ i, x = .int i /\ Q (g i) H
section
variable {X : Cx} {a b c : Expr} {ta tb tc : TE} {pos : Pos}
theorem XD (ha : PE X a ta) (hb : PE X b tb) {pins : List (Addr × Obj)} {s : Shared} {σ : St} {H : Hp} {R : V -> V -> Hp -> Prop} (I : Inv X pins σ H s)
   (h : ta σ H fun x H1 => tb σ H1 fun y H2 => R x y H2) {Q : Value -> Shared -> Prop} {f : Value -> Value -> Sem Value}
   (hf : ∀ v u s2 x y H2, Inv X pins σ H2 s2 -> RelV x v -> RelV y u -> R x y H2 -> wpAny (model X.prog X.w) X.A (f v u) Q X.xe s2) :
   wpAny (model X.prog X.w) X.A (eval a X.env) (fun v s₁ => wpAny (model X.prog X.w) X.A (eval b X.env) (fun u s₂ => wpAny (model X.prog X.w) X.A (f v u) Q X.xe s₂) X.xe s₁) X.xe s := by
 refine d8 (ha pins s σ H _ I h) fun v s1 zz => ?_
 obtain ⟨x, H1, I1, r1, q1⟩ := zz
 refine d8 (hb pins s1 σ H1 _ I1 q1) fun u s2 zz => ?_
 obtain ⟨y, H2, I2, r2, q2⟩ := zz
 exact hf v u s2 x y H2 I2 r1 r2 q2
theorem Ju {op : Operator} {r : R2} (ho : vC X (binaryOp op) r) (ha : PE X a ta) (hb : PE X b tb) : PE X (.BinOp a op b pos) (tOp r ta tb) := by
 intro pins s σ H Q I h
 exact wpAny_BinOp (XD ha hb I h fun v u s2 x y H2 I2 rx ry q => ho pins s2 σ H2 x y v u Q I2 rx ry q)
theorem abu {op : UnaryOp} {r : V -> Hp -> VK -> Prop} (ho : UnR X (unaryOp op) r) (ha : PE X a ta) : PE X (.UnaryOp op a pos) (tUn r ta) := by
 intro pins s σ H Q I h
 exact UnaryOp_ (d8 (ha pins s σ H _ I h) fun v s1 ⟨x, H1, I1, r1, q1⟩ => ho pins s1 σ H1 x v Q I1 r1 q1)
theorem opI {f : Value -> Value -> Sem Value} {C : Int -> Int -> Prop} {g : Int -> Int -> Int}
   (rule : ∀ (i j : Int) (t u : Tok) (s : Shared) (Q : Value -> Shared -> Prop) (E : Value -> Shared -> Prop), C i j -> Q (.int (g i j) s.toks) { s with toks := s.toks + 1 } -> wpAny (model X.prog X.w) X.A (f (.int i t) (.int j u)) Q E s) :
   vC X f (rI C fun i j => .int (g i j)) := by
 intro pins s σ H x y v u Q I rx ry h
 obtain ⟨i, j, rfl, rfl, hc, q⟩ := h
 obtain ⟨t, rfl⟩ := rx
 obtain ⟨t', rfl⟩ := ry
 exact rule i j t t' s _ _ hc ⟨.int (g i j), H, I.tok _, ⟨_, rfl⟩, q⟩
theorem abv {f : Value -> Value -> Sem Value} {g : Int -> Int -> Int}
   (rule : ∀ (i j : Int) (t u : Tok) (s : Shared) (Q : Value -> Shared -> Prop) (E : Value -> Shared -> Prop), Q (.int (g i j) s.toks) { s with toks := s.toks + 1 } -> wpAny (model X.prog X.w) X.A (f (.int i t) (.int j u)) Q E s) :
   vC X f (XC fun i j => .int (g i j)) := by
 intro pins s σ H x y v u Q I rx ry h
 obtain ⟨i, j, rfl, rfl, q⟩ := h
 obtain ⟨t, rfl⟩ := rx
 obtain ⟨t', rfl⟩ := ry
 exact rule i j t t' s _ _ ⟨.int (g i j), H, I.tok _, ⟨_, rfl⟩, q⟩
theorem XE {f : Value -> Value -> Sem Value} {g : Int -> Int -> Bool}
   (rule : ∀ (i j : Int) (t u : Tok) (s : Shared) (Q : Value -> Shared -> Prop) (E : Value -> Shared -> Prop), Q (.bool (g i j)) s -> wpAny (model X.prog X.w) X.A (f (.int i t) (.int j u)) Q E s) :
   vC X f (XC fun i j => .bl (g i j)) := by
 intro pins s σ H x y v u Q I rx ry h
 obtain ⟨i, j, rfl, rfl, q⟩ := h
 obtain ⟨t, rfl⟩ := rx
 obtain ⟨t', rfl⟩ := ry
 exact rule i j t t' s _ _ ⟨.bl (g i j), H, I, rfl, q⟩
noncomputable def abw (i j : Int) : Prop := 0 < j /\ j < 1073741824
noncomputable def abx (i j : Int) : Prop := 0 <= j /\ j <= 1000000 /\ i.natAbs < 2 ^ 64
noncomputable def RW (i j : Int) : Prop := (-(2 ^ 64) < i /\ i < 2 ^ 64) \/ (-(2 ^ 64) < j /\ j < 2 ^ 64)
theorem RW.ok {i j : Int} (h : RW i j) : IntMulOk i j := by
 rcases h with ⟨h1, h2⟩ | ⟨h1, h2⟩
 . exact .of_left (intBits_le_64 h1 h2)
 . exact .of_right (intBits_le_64 h1 h2)
theorem XF : vC X (binaryOp .Add) (XC fun i j => .int (i + j)) := abv fun _ _ _ _ _ _ _ q => add_int q
theorem XG : vC X (binaryOp .Sub) (XC fun i j => .int (i - j)) := abv fun _ _ _ _ _ _ _ q => sub_int q
theorem XH : vC X (binaryOp .Mult) (rI RW fun i j => .int (i * j)) := opI fun _ _ _ _ _ _ _ hc q => mul_int q hc.ok
theorem RX : vC X (binaryOp .FloorDiv) (rI abw fun i j => .int (i / j)) := opI fun i j _ _ _ _ _ hc q => by
 have h1 : (0 : Int) < j := hc.1
 have h2 : j < 1073741824 := hc.2
 exact floordiv_int (by omega) (by rw [Int.fdiv_eq_ediv_of_nonneg i (by omega)]; exact q) (.inl (PyProof.noPylong_small (by omega)))
theorem XI : vC X (binaryOp .Mod) (rI (fun _ j => 0 < j) fun i j => .int (i % j)) := opI fun i j _ _ _ _ _ hc q => by
 have h1 : (0 : Int) < j := hc
 exact mod_int' (by omega) (by rw [Int.fmod_eq_emod_of_nonneg i (by omega)]; exact q)
theorem XJ : vC X (binaryOp .Pow) (rI abx fun i j => .int (i ^ j.toNat)) := opI fun _ _ _ _ _ _ _ hc q => pow_int_small hc.1 hc.2.1 hc.2.2 q
theorem unI {f : Value -> Sem Value} {g : Int -> Int}
   (rule : ∀ (i : Int) (t : Tok) (s : Shared) (Q : Value -> Shared -> Prop) (E : Value -> Shared -> Prop), Q (.int (g i) s.toks) { s with toks := s.toks + 1 } -> wpAny (model X.prog X.w) X.A (f (.int i t)) Q E s) :
   UnR X f (rU fun i => .int (g i)) := by
 intro pins s σ H x v Q I rx h
 obtain ⟨i, rfl, q⟩ := h
 obtain ⟨t, rfl⟩ := rx
 exact rule i t s _ _ ⟨.int (g i), H, I.tok _, ⟨_, rfl⟩, q⟩
theorem XM : UnR X (unaryOp .USub) (rU fun i => .int (-i)) := unI fun _ _ _ _ _ q => neg_int q
end
noncomputable def aby : V -> V -> Bool
 | .non, .non => true | .non, .int _ => true | .int _, .non => true | .non, .bl _ => true | .bl _, .non => true | .non, .str _ => true | .str _, .non => true
 | .int _, .int _ => true | .bl _, .bl _ => true | .str _, .str _ => true | .GJ _, .GJ _ => true
 | .int _, .str _ => true | .str _, .int _ => true | .bl _, .str _ => true | .str _, .bl _ => true
 | _, _ => false
noncomputable def rEq : R2 := fun x y H Q => aby x y = true /\ Q (.bl (decide (x = y))) H
noncomputable def rNe : R2 := fun x y H Q => aby x y = true /\ Q (.bl (!decide (x = y))) H
theorem Jv {i j : Int} : decide (V.int i = V.int j) = (i == j) := by
 rw [Bool.eq_iff_iff]
 simp
theorem Nx {i j : Bool} : decide (V.bl i = V.bl j) = (i == j) := by
 rw [Bool.eq_iff_iff]
 simp
theorem Jw {i j : Str} : decide (V.str i = V.str j) = (i == j) := by
 rw [Bool.eq_iff_iff]
 simp
theorem Jx {i j : Array UInt8} : decide (V.GJ i = V.GJ j) = (i.toList == j.toList) := by
 rw [Bool.eq_iff_iff]
 cases i
 cases j
 simp
section
variable {X : Cx} {a b c : Expr} {ta tb tc : TE} {pos : Pos}
theorem cB {pins : List (Addr × Obj)} {σ : St} {H : Hp} {s : Shared} {Q : VK} {k k' : Bool} (I : Inv X pins σ H s) (q : Q (.bl k) H) (e : k = k') : EP X pins σ Q (.bool k') s := by
 subst e
 exact ⟨.bl k, H, I, rfl, q⟩
theorem Ww : vC X (compareOp .Eq) rEq := by
 intro pins s σ H x y v u Q I rx ry h
 obtain ⟨hs, q⟩ := h
 cases x with
 | non =>
   cases rx
   cases y with
   | non => cases ry; exact PySem.EqNone.eq_none_none (cB I q (by simp))
   | bl j => cases ry; exact PySem.EqNone.eq_none_bool (cB I q (by simp))
   | int j => obtain ⟨t', rfl⟩ := ry; exact PySem.EqNone.eq_none_int (cB I q (by simp))
   | str j => obtain ⟨t', rfl⟩ := ry; exact PySem.EqNone.eq_none_str (cB I q (by simp))
   | _ => exact absurd (show false = true from hs) aiY
 | bl i =>
   cases rx
   cases y with
   | non => cases ry; exact PySem.EqNone.eq_bool_none (cB I q (by simp))
   | bl j => cases ry; exact eq_bool (cB I q Nx)
   | str j => obtain ⟨t', rfl⟩ := ry; exact PySem.EqMixed.eq_bool_str (cB I q (by simp))
   | _ => exact absurd (show false = true from hs) aiY
 | int i =>
   obtain ⟨t, rfl⟩ := rx
   cases y with
   | non => cases ry; exact PySem.EqNone.eq_int_none (cB I q (by simp))
   | int j => obtain ⟨t', rfl⟩ := ry; exact eq_int (cB I q Jv)
   | str j => obtain ⟨t', rfl⟩ := ry; exact PySem.EqMixed.eq_int_str (cB I q (by simp))
   | _ => exact absurd (show false = true from hs) aiY
 | str i =>
   obtain ⟨t, rfl⟩ := rx
   cases y with
   | non => cases ry; exact PySem.EqNone.eq_str_none (cB I q (by simp))
   | bl j => cases ry; exact PySem.EqMixed.eq_str_bool (cB I q (by simp))
   | int j => obtain ⟨t', rfl⟩ := ry; exact PySem.EqMixed.eq_str_int (cB I q (by simp))
   | str j => obtain ⟨t', rfl⟩ := ry; exact eq_str (cB I q Jw)
   | _ => exact absurd (show false = true from hs) aiY
 | GJ i =>
   obtain ⟨t, rfl⟩ := rx
   cases y with
   | GJ j => obtain ⟨t', rfl⟩ := ry; exact PySem.W.eq_bytes (cB I q Jx)
   | _ => exact absurd (show false = true from hs) aiY
 | _ => cases y <;> exact absurd (show false = true from hs) aiY
theorem Wx : vC X (compareOp .NotEq) rNe := by
 intro pins s σ H x y v u Q I rx ry h
 obtain ⟨hs, q⟩ := h
 cases x with
 | non =>
   cases rx
   cases y with
   | non => cases ry; exact PySem.EqNone.ne_none_none (cB I q (by simp))
   | bl j => cases ry; exact PySem.EqNone.ne_none_bool (cB I q (by simp))
   | int j => obtain ⟨t', rfl⟩ := ry; exact PySem.EqNone.ne_none_int (cB I q (by simp))
   | str j => obtain ⟨t', rfl⟩ := ry; exact PySem.EqNone.ne_none_str (cB I q (by simp))
   | _ => exact absurd (show false = true from hs) aiY
 | bl i =>
   cases rx
   cases y with
   | non => cases ry; exact PySem.EqNone.ne_bool_none (cB I q (by simp))
   | bl j => cases ry; exact ne_bool (cB I q (congrArg not Nx))
   | str j => obtain ⟨t', rfl⟩ := ry; exact PySem.EqMixed.ne_bool_str (cB I q (by simp))
   | _ => exact absurd (show false = true from hs) aiY
 | int i =>
   obtain ⟨t, rfl⟩ := rx
   cases y with
   | non => cases ry; exact PySem.EqNone.ne_int_none (cB I q (by simp))
   | int j => obtain ⟨t', rfl⟩ := ry; exact ne_int (cB I q (congrArg not Jv))
   | str j => obtain ⟨t', rfl⟩ := ry; exact PySem.EqMixed.ne_int_str (cB I q (by simp))
   | _ => exact absurd (show false = true from hs) aiY
 | str i =>
   obtain ⟨t, rfl⟩ := rx
   cases y with
   | non => cases ry; exact PySem.EqNone.ne_str_none (cB I q (by simp))
   | bl j => cases ry; exact PySem.EqMixed.ne_str_bool (cB I q (by simp))
   | int j => obtain ⟨t', rfl⟩ := ry; exact PySem.EqMixed.ne_str_int (cB I q (by simp))
   | str j => obtain ⟨t', rfl⟩ := ry; exact ne_str (cB I q (congrArg not Jw))
   | _ => exact absurd (show false = true from hs) aiY
 | GJ i =>
   obtain ⟨t, rfl⟩ := rx
   cases y with
   | GJ j => obtain ⟨t', rfl⟩ := ry; exact PySem.W.ne_bytes (cB I q (congrArg not Jx))
   | _ => exact absurd (show false = true from hs) aiY
 | _ => cases y <;> exact absurd (show false = true from hs) aiY
theorem abz : vC X (compareOp .Lt) (XC fun i j => .bl (decide (i < j))) := XE fun _ _ _ _ _ _ _ q => lt_int q
theorem abA : vC X (compareOp .LtE) (XC fun i j => .bl (decide (i <= j))) := XE fun _ _ _ _ _ _ _ q => le_int q
theorem abB : vC X (compareOp .Gt) (XC fun i j => .bl (decide (j < i))) := XE fun _ _ _ _ _ _ _ q => gt_int q
theorem qS (b : Expr) {op : CmpOp} (h : op ≠ .In := by decide) (h2 : op ≠ .NotIn := by decide) : behindInMarks op b = false := by
 have e1 : (op == CmpOp.In) = false := by cases op <;> first | rfl | exact absurd rfl h
 have e2 : (op == CmpOp.NotIn) = false := by cases op <;> first | rfl | exact absurd rfl h2
 cases b <;> simp [behindInMarks, e1, e2]
theorem vN {op : CmpOp} {r : R2} (ho : vC X (compareOp op) r) (ha : PE X a ta) (hb : PE X b tb) (hm : behindInMarks op b = false) : PE X (.Compare a [op] [b] pos) (tOp r ta tb) := by
 intro pins s σ H Q I h
 exact wpAny_Compare1 (XD ha hb I h fun v u s2 x y H2 I2 rx ry q => ho pins s2 σ H2 x y v u Q I2 rx ry q) hm
noncomputable def abC (t : TE) : TT := fun σ H Q => t σ H fun x H' => ∃ k, x = .bl k /\ Q k H'
theorem vO {op : CmpOp} {r : R2} (ho : vC X (compareOp op) r) (ha : PE X a ta) (hb : PE X b tb) (hm : behindInMarks op b = false) : PT X (.Compare a [op] [b] pos) (abC (tOp r ta tb)) := by
 intro pins s σ H Q I h
 refine wpAny_isTrue_Compare1 (d8 (ha pins s σ H _ I h) fun v s1 ⟨x, H1, I1, r1, q1⟩ => d8 (hb pins s1 σ H1 _ I1 q1) fun u s2 ⟨y, H2, I2, r2, q2⟩ =>
   d8 (ho pins s2 σ H2 x y v u _ I2 r1 r2 q2) fun c s3 ⟨z, H3, I3, r3, k, e, q3⟩ => ?_) hm
 subst e
 cases r3
 exact akb ⟨H3, I3, q3⟩
noncomputable def abD (K : PySem.W.Frag) (x : V) (H : Hp) (k : Bool) : Prop :=
 match x with
 | .non => k = false
 | .bl b => k = b
 | .int i => k = (i != 0)
 | .str y => y.length <= sizeLine /\ k = ((y.length : Int) != 0)
 | .GJ y => y.size <= sizeLine /\ k = ((y.size : Int) != 0)
 | .ref p => (∃ xs, nS K H p xs /\ k = !xs.isEmpty) \/ (∃ xs, rS K H p xs /\ k = !xs.isEmpty) \/ ∃ aY, H p = some (.dK aY) /\ k = !aY.isEmpty
 | _ => False
theorem GP {κ : Type} {aY : List (κ × V)} {vs : List (κ × Value)} (r : KV aY vs) : (!vs.isEmpty) = !aY.isEmpty := by
 cases r <;> rfl
theorem wI {xs : List V} {its : List Value} (r : Vals xs its) : (!its.toArray.isEmpty) = !xs.isEmpty := by
 cases r <;> simp
theorem tS : (sizeLine : Nat) < 2 ^ 63 := by rw [ajk]; decide
theorem XO : ad4 X (fun x H Q => ∃ k, abD X.K x H k /\ Q k H) := by
 intro pins s σ H x v Q I rx h
 obtain ⟨k, e, q⟩ := h
 have hl := tS
 have hs : sizeLine = 16777216 := ajk
 cases x with
 | non =>
   cases rx
   have e' : k = false := e
   subst e'
   exact truthy_none ⟨H, I, q⟩
 | bl b =>
   cases rx
   have e' : k = b := e
   subst e'
   exact akb ⟨H, I, q⟩
 | int i =>
   obtain ⟨t, rfl⟩ := rx
   have e' : k = (i != 0) := e
   subst e'
   exact PySem.P.truthy_int ⟨H, I, q⟩
 | str y =>
   obtain ⟨t, rfl⟩ := rx
   obtain ⟨hy, e'⟩ : y.length <= sizeLine /\ k = ((y.length : Int) != 0) := e
   subst e'
   exact PySem.P.truthy_str (by omega) ⟨H, I.tok _, q⟩
 | GJ y =>
   obtain ⟨t, rfl⟩ := rx
   obtain ⟨hy, e'⟩ : y.size <= sizeLine /\ k = ((y.size : Int) != 0) := e
   subst e'
   exact PySem.W.truthy_bytes (by omega) ⟨H, I.tok _, q⟩
 | ref p =>
   cases rx
   have e' : (∃ xs, nS X.K H p xs /\ k = !xs.isEmpty) \/ (∃ xs, rS X.K H p xs /\ k = !xs.isEmpty) \/ ∃ aY, H p = some (.dK aY) /\ k = !aY.isEmpty := e
   rcases e' with ⟨xs, hx, e'⟩ | ⟨xs, hx, e'⟩ | ⟨aY, hx, e'⟩
   . subst e'
     obtain ⟨its, r, pl, hz⟩ := I.list hx
     have hlen := r.length
     exact wpAny_truthy_list pl.isList (by simp only [aiW]; omega) ⟨H, I.tok _, by rw [wI r]; exact q⟩
   . subst e'
     obtain ⟨its, r, pl, hz⟩ := I.tuple hx
     have hlen := r.length
     exact truthy_tuple pl (by simp only [aiW]; omega) ⟨H, I.tok _, by rw [wI r]; exact q⟩
   . subst e'
     obtain ⟨hz, hS, vs, r, m⟩ : aY.length <= sizeLine /\ (p == sysModules) = false /\ ∃ vs, KV aY vs /\ s.heap.DictOf (fD X.prog X.w) p vs := I.dw p _ hx
     have hlen : aY.length = vs.length := Paired.length r
     exact wpAny_truthy_dict hS m (by omega) ⟨H, I.tok _, by rw [GP r]; exact q⟩
 | _ => exact (show False from e).elim
theorem Ny (ha : PE X a ta) (he : ∀ whole, isTrue a X.env whole = (do let v ← whole; standAt a.pos; holding [v] (truthy v))) :
   PT X a (fun σ H Q => ta σ H fun x H' => ∃ k, abD X.K x H' k /\ Q k H') := by
 intro pins s σ H Q I h
 exact isTrue_plain (d8 (ha pins s σ H _ I h) fun v s1 ⟨x, H1, I1, r1, q1⟩ => XO pins s1 σ H1 x v Q I1 r1 q1) (he _)
theorem GQ : vC X (binaryOp .Add) (fun x y H Q => ∃ i j, x = .str i /\ y = .str j /\ i.length + j.length <= sizeLine /\ Q (.str (i ++ j)) H) := by
 intro pins s σ H x y v u Q I rx ry h
 obtain ⟨i, j, rfl, rfl, hz, q⟩ := h
 obtain ⟨t, rfl⟩ := rx
 obtain ⟨t', rfl⟩ := ry
 exact add_str (fun t' tk => ⟨.str (i ++ j), H, I.tok _, ⟨_, rfl⟩, q⟩) hz
theorem vals1 {x : V} {us : List Value} (r : Vals [x] us) : ∃ u, us = [u] /\ RelV x u := by
 cases r with
 | cons r1 r2 => cases r2; exact ⟨_, rfl, r1⟩
theorem vals2 {x y : V} {us : List Value} (r : Vals [x, y] us) : ∃ u w', us = [u, w'] /\ RelV x u /\ RelV y w' := by
 cases r with
 | cons r1 r2 =>
   cases r2 with
   | cons r3 r4 => cases r4; exact ⟨_, _, rfl, r1, r3⟩
theorem KW (hc : X.calm = true) : nP X (.builtin "max") (fun xs H Q => ∃ i j, xs = [.int i, .int j] /\ Q (.int (if j > i then j else i)) H) := by
 intro pins s σ H xs us Q I r h
 obtain ⟨i, j, rfl, q⟩ := h
 obtain ⟨u, w', rfl, ⟨t, rfl⟩, ⟨t', rfl⟩⟩ := vals2 r
 refine max_two_ints (I.ok.hd hc) fun h' tk k => ⟨_, H, I.kept k, ?_, q⟩
 by_cases hj : j > i
 . rw [aiI hj, aiI hj]; exact ⟨_, rfl⟩
 . rw [aiG hj, aiG hj]; exact ⟨_, rfl⟩
theorem KY (hc : X.calm = true) : nP X (.builtin "min") (fun xs H Q => ∃ i j, xs = [.int i, .int j] /\ Q (.int (if j < i then j else i)) H) := by
 intro pins s σ H xs us Q I r h
 obtain ⟨i, j, rfl, q⟩ := h
 obtain ⟨u, w', rfl, ⟨t, rfl⟩, ⟨t', rfl⟩⟩ := vals2 r
 refine min_two_ints (I.ok.hd hc) fun h' tk k => ⟨_, H, I.kept k, ?_, q⟩
 by_cases hj : j < i
 . rw [aiI hj, aiI hj]; exact ⟨_, rfl⟩
 . rw [aiG hj, aiG hj]; exact ⟨_, rfl⟩
theorem KZ : nP X (.type "int") (fun xs H Q => (∃ i, xs = [.int i] /\ Q (.int i) H) \/ ∃ k, xs = [.bl k] /\ Q (.int (if k then 1 else 0)) H) := by
 intro pins s σ H xs us Q I r h
 rcases h with ⟨i, rfl, q⟩ | ⟨k, rfl, q⟩
 . obtain ⟨u, rfl, t, rfl⟩ := vals1 r
   exact call_int_int ⟨.int i, H, I, ⟨_, rfl⟩, q⟩
 . obtain ⟨u, rfl, r1⟩ := vals1 r
   cases r1
   exact call_int_bool ⟨.int (if k then 1 else 0), H, I.tok _, ⟨_, rfl⟩, q⟩
theorem Bf : nP X (.type "str") (fun xs H Q => ∃ i, xs = [.int i] /\ i.natAbs.log2 < 1920 /\ Q (.str (toString i)) H) := by
 intro pins s σ H xs us Q I r h
 obtain ⟨i, rfl, hz, q⟩ := h
 obtain ⟨u, rfl, t, rfl⟩ := vals1 r
 exact PySem.P.str_of_int hz ⟨.str _, H, I.tok _, ⟨_, rfl⟩, q⟩
end
structure K0 (h : Heap) (x dx C : Addr) (mA : Str -> Option Value) : Prop where
 obj : h.get? x = some (PySem.W.instObj C dx)
 ns : h.Ns1 dx mA
 ne : dx ≠ x
theorem K1 {h : Heap} {dx : Addr} {mA : Str -> Option Value} (n : h.Ns1 dx mA) : ∃ od, h.get? dx = some od /\ ∀ name, PySem.W.lookIn name od = some (mA name) := by
 obtain ⟨o, es, ep, ho, hd, hk, _, hm⟩ := n
 refine ⟨o, ho, fun name => ?_⟩
 have e := hm name
 unfold nsFind findBy at e
 rw [← Array.find?_toList] at e
 unfold PySem.W.lookIn
 rw [hd]
 dsimp only
 split
 . rename_i y q
   rw [q] at e
   exact congrArg some e
 . rename_i q
   rw [q] at e
   have a : es.toList.any (·.refKey) = false := by
     rw [List.any_eq_false]
     intro y hy
     obtain ⟨z, t, ad5⟩ := hk y (Array.mem_toList_iff.mp hy)
     simp [DictEntry.refKey, ad5]
   have a' : ¬ es.toList.any (·.refKey) = true := by rw [a]; exact aiY
   rw [aiG a']
   exact congrArg some e
theorem K0.look {h : Heap} {x dx C : Addr} {mA : Str -> Option Value} (I : K0 h x dx C mA) : ∃ od, PySem.W.InstAt h x (PySem.W.instObj C dx) C (some od) /\ ∀ name, PySem.W.lookIn name od = some (mA name) :=
 let ⟨od, ho, hl⟩ := K1 I.ns
 ⟨od, ⟨I.obj, rfl, rfl, ho⟩, hl⟩
section
variable {prog : Program} {w : World} {A : Around} {E : Value -> Shared -> Prop} {s : Shared} {K : PySem.W.Frag} {x dx C f : Addr} {mA : Str -> Option Value} {name : Str} {v : Value}
theorem get_map {expr : Bool} {Q : Value -> Shared -> Prop} (X : K.In s.heap) (I : K0 s.heap x dx C mA) (hg : PySem.W.plainGet K C name = true) (hh : PySem.W.hasDictIn K C = true)
   (ha : PySem.W.findIn K (.ref C) name = some none) (hv : mA name = some v) (hv' : PySem.W.handedIn v = true) (h : Q v { s with toks := s.toks + 1 }) :
   wpAny (model prog w) A (getAttr (.ref x) name expr) Q E s := by
 obtain ⟨od, J, hl⟩ := I.look
 exact PySem.W.get_value X J (PySem.W.plainGet_of hg).1 (PySem.W.findObj_own hh ha rfl (by rw [hl, hv])) hv' h
theorem RZ {ns : List Str} {Q : Unit -> Shared -> Prop} (X : K.In s.heap) (I : K0 s.heap x dx C mA)
   (hs : PySem.W.findIn K (.ref C) "__setattr__" = some (some (.builtin "object.__setattr__"))) (hp : PySem.W.plainOver K C = true) (ht : PySem.W.takerIn K C name = some none) (hh : PySem.W.hasDictIn K C = true)
   (hw : PySem.Within mA ns) (hsz : ns.length <= sizeLine)
   (h : ∀ h', K0 h' x dx C (fun y => if y = name then some v else mA y) -> Heap.SameBut dx s.heap h' -> Q () { s with heap := h', toks := s.toks + 2 }) :
   wpAny (model prog w) A (setAttr (.ref x) name v) Q E s := by
 obtain ⟨od, J, hl⟩ := I.look
 refine PySem.W.set_plain X J hs (PySem.W.osa_open (s := { s with toks := s.toks + 1 }) (r := none) X J hp ht fun b => ?_)
 obtain ⟨cd, hc, RL⟩ := PySem.W.any_some hh
 have hx : s.heap.get? x = some ⟨.ref C, some dx, .plain, #[]⟩ := I.obj
 refine aiS (ajo (aiS (aiS (wpAny_loadPart hx (aiS (PySem.W.Looks.here (s := { s with toks := s.toks + 1 }) (PySem.W.looks_clsIn X hc) ?_))))))
 rw [RL]
 refine ajo (a := some dx) (aiS (ajo (aiS ?_)))
 refine wpAny_nsSet1 (s := { s with toks := s.toks + 1 }) I.ns fun h' hn2 KR => ?_
 obtain ⟨oD, esD, epD, hoD, hdD, hcD⟩ := hn2.count (PySem.Within.cons name v hw)
 refine aiS (wpAny_lookBehind hoD (by rw [hdD]; exact pastItsLine_dict (ajL hcD (by rw [ai2]; omega))) ?_)
 exact ajo (h _ ⟨(KR.2 _ (akr I.ne)).trans I.obj, hn2, I.ne⟩ KR)
theorem Nz {R : Result -> Shared -> Prop} {vs : List Value} {kw : List (Str × Value)} (X : K.In s.heap) (hm : PySem.W.makesIn K C = true)
   (hi : PySem.W.findIn K (.ref C) "__init__" = some (some (.ref f))) (hf : PySem.W.typeIn K (.ref f) = some (.type "function"))
   (h : codeAny (model prog w) (A.under (.builtin "type.__call__" ⟨.ref C :: vs, kw⟩)) (.call (.ref f) ⟨.ref (s.heap.objs.size + 1) :: vs, kw⟩) (PySem.W.InitBack (s.heap.objs.size + 1) R)
     { s with heap := (s.heap.push PySem.W.emptyDict).push (PySem.W.instObj C s.heap.objs.size) }) :
   codeAny (model prog w) A (.call (.ref C) ⟨vs, kw⟩) R s := by
 obtain ⟨hh, g, d, t, os⟩ := s
 exact PySem.W.make_core (PySem.W.makes_of X hm) (PySem.W.looks_findIn X hi) (fun self => PySem.W.bind_fn X self hf) (.inl rfl) h
end
noncomputable def jA (f : Str) (v : V) : List (Str × V) -> List (Str × V)
 | [] => [(f, v)]
 | (g, x) :: r => if g = f then (g, v) :: r else (g, x) :: jA f v r
theorem uR (f g : Str) (v : V) : ∀ fs : List (Str × V), (jA f v fs).lookup g = if g = f then some v else fs.lookup g
 | [] => by
   show List.lookup g [(f, v)] = _
   by_cases h : g = f
   . have hb : (g == f) = true := beq_iff_eq.mpr h
     simp only [List.lookup, hb, aiI h]
   . have hb : (g == f) = false := ajR.mpr h
     simp only [List.lookup, hb, aiG h]
 | (k, x) :: r => by
   have ih := uR f g v r
   rw [show jA f v ((k, x) :: r) = (if k = f then (k, v) :: r else (k, x) :: jA f v r) from rfl]
   by_cases hk : k = f
   . rw [aiI hk]
     by_cases h : g = k
     . have hb : (g == k) = true := beq_iff_eq.mpr h
       simp only [List.lookup, hb, aiI (h.trans hk)]
     . have hb : (g == k) = false := ajR.mpr h
       simp only [List.lookup, hb, aiG (fun e : g = f => h (e.trans hk.symm))]
   . rw [aiG hk]
     by_cases h : g = k
     . have hb : (g == k) = true := beq_iff_eq.mpr h
       simp only [List.lookup, hb, aiG (fun e : g = f => hk (h.symm.trans e))]
     . have hb : (g == k) = false := ajR.mpr h
       simp only [List.lookup, hb]
       exact ih
theorem tT (f : Str) (v : V) : ∀ fs : List (Str × V), f ∈ (jA f v fs).map (·.1) /\ ∀ g, g ∈ fs.map (·.1) -> g ∈ (jA f v fs).map (·.1)
 | [] => ⟨by simp [jA], fun g h => by simp at h⟩
 | (k, x) :: r => by
   obtain ⟨i1, i2⟩ := tT f v r
   rw [show jA f v ((k, x) :: r) = (if k = f then (k, v) :: r else (k, x) :: jA f v r) from rfl]
   by_cases hk : k = f
   . rw [aiI hk]
     subst hk
     exact ⟨by simp, fun g h => by simpa using h⟩
   . rw [aiG hk]
     refine ⟨?_, fun g h => ?_⟩
     . rw [ai1]
       exact aiE _ i1
     . rw [ai1] at h ⊢
       rcases aiN.mp h with e | e
       . exact aiN.mpr (.inl e)
       . exact aiE _ (i2 g e)
theorem uS (f : Str) (v : V) : ∀ fs : List (Str × V), (jA f v fs).length <= fs.length + 1
 | [] => by simp [jA]
 | (k, x) :: r => by
   have ih := uS f v r
   rw [show jA f v ((k, x) :: r) = (if k = f then (k, v) :: r else (k, x) :: jA f v r) from rfl]
   by_cases hk : k = f
   . rw [aiI hk, ai2, ai2]; omega
   . rw [aiG hk, ai2, ai2]; omega
theorem tR.some_of {v : V} {o : Option Value} (r : tR (some v) o) : ∃ u, o = some u /\ RelV v u := by
 cases o with
 | none => exact (show False from r).elim
 | some u => exact ⟨u, rfl, r⟩
theorem K2 {v : V} {u : Value} (r : RelV v u) : PySem.W.handedIn u = true := by
 cases v with
 | non => cases (show u = Value.none from r); rfl
 | bl b => cases (show u = Value.bool b from r); rfl
 | int i => obtain ⟨t, e⟩ := (show ∃ t, u = Value.int i t from r); cases e; rfl
 | str x => obtain ⟨t, e⟩ := (show ∃ t, u = Value.str x t from r); cases e; rfl
 | GJ b => obtain ⟨t, e⟩ := (show ∃ t, u = Value.bytes b t from r); cases e; rfl
 | flt b => obtain ⟨t, e⟩ := (show ∃ t, u = Value.float b t from r); cases e; rfl
 | ref a => cases (show u = Value.ref a from r); rfl
 | ty n => cases (show u = Value.type n from r); rfl
section
variable {P : Program} {w : World} {H H' : Hp} {h h' : Heap} {a C dx : Addr} {fs fs' : List (Str × V)}
theorem Jy (dw : qQ P w H h) (e : H a = some (.ins C dx fs)) : ∃ mA, K0 h a dx C mA /\ (∀ f, tR (fs.lookup f) (mA f)) /\ PySem.Within mA (fs.map (·.1)) /\ fs.length <= 1000 /\ H dx = some (.own a) := by
 obtain ⟨d, z, ne, ob, mA, n, r, q⟩ := (show eY P w H h a (.ins C dx fs) from dw a _ e)
 exact ⟨mA, ⟨ob, n, ne⟩, r, q, z, d⟩
end
structure Aj (K : PySem.W.Frag) (C : Addr) : Prop where
 pg : PySem.W.plainGet K C Str.empty = true
 hd : PySem.W.hasDictIn K C = true
 po : PySem.W.plainOver K C = true
 sa : PySem.W.findIn K (.ref C) "__setattr__" = some (some (.builtin "object.__setattr__"))
theorem Aj.get {K : PySem.W.Frag} {C : Addr} (c : Aj K C) (f : Str) : PySem.W.plainGet K C f = true := c.pg
noncomputable def bY (K : PySem.W.Frag) (C : Addr) (f : Str) : Prop := PySem.W.findIn K (.ref C) f = some none
theorem bY.abE {K : PySem.W.Frag} {C : Addr} {f : Str} (n : bY K C f) : PySem.W.takerIn K C f = some none := by
 unfold PySem.W.takerIn
 rw [show PySem.W.findIn K (.ref C) f = some none from n]
 rfl
section
variable {X : Cx} {pins : List (Addr × Obj)} {σ : St} {H : Hp} {s : Shared} {a C dx : Addr} {fs : List (Str × V)} {f : Str} {v : V} {A : Around} {E : Value -> Shared -> Prop}
theorem GR {b : Bool} {Q : Value -> Shared -> Prop} (I : Inv X pins σ H s) (e : H a = some (.ins C dx fs)) (c : Aj X.K C) (n : bY X.K C f) (l : fs.lookup f = some v)
   (h : ∀ u s', Inv X pins σ H s' -> RelV v u -> Q u s') : wpAny (model X.prog X.w) A (getAttr (.ref a) f b) Q E s := by
 obtain ⟨mA, O, r, _, _, _⟩ := Jy I.dw e
 obtain ⟨u, hu, ru⟩ := tR.some_of (v := v) (o := mA f) (by rw [← l]; exact r f)
 exact get_map I.D5 O (c.get f) c.hd n hu (K2 ru) (h u _ (I.tok _) ru)
theorem GU {y : V} {u : Value} {Q : Unit -> Shared -> Prop} (I : Inv X pins σ H s) (e : H a = some (.ins C dx fs)) (c : Aj X.K C) (n : bY X.K C f) (hl : fs.length < 1000) (ry : RelV y u)
   (h : ∀ s', Inv X pins σ (upd H a (.ins C dx (jA f y fs))) s' -> Q () s') : wpAny (model X.prog X.w) A (setAttr (.ref a) f u) Q E s := by
 obtain ⟨mA, O, r, wi, _, ho⟩ := Jy I.dw e
 have hz : (fs.map (·.1)).length <= sizeLine := by rw [aiC, ajk]; omega
 refine RZ I.D5 O c.sa c.po n.abE c.hd wi hz fun h' O' sb => h _ ?_
 have hd : ∃ o, h'.get? dx = some o := let ⟨o, _, _, e', _⟩ := O'.ns; ⟨o, e'⟩
 refine I.write (x := a) (e := dx) (by rw [e]; exact True.intro) (.inr ho) (fun b q hb z => (sb.2 b hb).trans z) hd ?_
 refine ⟨by rw [aA O.ne]; exact ho, ?_, O.ne, O'.obj, _, O'.ns, fun g => ?_, fun g hg => ?_⟩
 . have := uS f y fs; omega
 . show tR ((jA f y fs).lookup g) (if g = f then some u else mA g)
   rw [uR]
   by_cases q : g = f
   . rw [aiI q, aiI q]; exact ry
   . rw [aiG q, aiG q]; exact r g
 . by_cases q : g = f
   . rw [q]; exact (tT f y fs).1
   . refine (tT f y fs).2 g (wi g fun z => hg ?_)
     show (if g = f then some u else mA g) = none
     rw [aiG q]; exact z
theorem Inv.made (I : Inv X pins σ H s) : Inv X pins σ (upd (upd H s.heap.objs.size (.own (s.heap.objs.size + 1))) (s.heap.objs.size + 1) (.ins C s.heap.objs.size []))
   { s with heap := (s.heap.push PySem.W.emptyDict).push (PySem.W.instObj C s.heap.objs.size) } := by
 have e1 : (s.heap.push PySem.W.emptyDict).get? s.heap.objs.size = some PySem.W.emptyDict := ajc s.heap rfl
 have e2 : ((s.heap.push PySem.W.emptyDict).push (PySem.W.instObj C s.heap.objs.size)).get? (s.heap.objs.size + 1) = some (PySem.W.instObj C s.heap.objs.size) := by
   have := ajc (s.heap.push PySem.W.emptyDict) (o := PySem.W.instObj C s.heap.objs.size) rfl
   rwa [Heap.size_push] at this
 have e3 : (s.heap.push PySem.W.emptyDict).Ns s.heap.objs.size (fun _ => none) := ⟨PySem.W.emptyDict, #[], _, e1, rfl, (fun e he => absurd he (by simp)), fun _ => rfl⟩
 have I1 := I.laid (a := s.heap.objs.size) (o := .own (s.heap.objs.size + 1)) (h' := s.heap.push PySem.W.emptyDict) (t' := s.toks) (fun b u q => aiR _ q) (aiH _) ⟨_, e1⟩
 refine I1.laid (a := s.heap.objs.size + 1) (o := .ins C s.heap.objs.size []) (t' := s.toks) (fun b u q => aiR _ q) (Nat.le_of_eq (Heap.size_push _ _)) ?_
 have ne : s.heap.objs.size ≠ s.heap.objs.size + 1 := aja (Nat.lt_succ_self _)
 refine ⟨by rw [aA ne, aP], ai9 _, ne, e2, fun _ => none, (Heap.Ns1.of_empty e3).at fun o q => aiR _ q, fun _ => True.intro, fun y hy => absurd rfl hy⟩
theorem R0 {prog : Program} {w : World} {env : Env} {e : Expr} {f : Str} {pos : Pos} {s : Shared} {Q : Value -> Shared -> Prop} (hb : attributeBase e f env (eval e env) = eval e env)
   (h : wpAny (model prog w) A (eval e env) (fun o s₁ => wpAny (model prog w) A (getAttr o f true) Q E s₁) E s) : wpAny (model prog w) A (eval (.Attribute e f pos) env) Q E s :=
 Attribute_any_ h (by rw [arm_eval_Attribute, hb])
end
noncomputable def ad6 (K : PySem.W.Frag) (ta : TE) (f : Str) : TE := fun σ H Q => ta σ H fun x H1 => ∃ a C dx fs v, x = .ref a /\ H1 a = some (.ins C dx fs) /\ Aj K C /\ bY K C f /\ fs.lookup f = some v /\ Q v H1
noncomputable def ad7 (K : PySem.W.Frag) (ta tv : TE) (f : Str) : TS := fun D σ H => tv σ H fun y H1 => ta σ H1 fun x H2 => ∃ a C dx fs, x = .ref a /\ H2 a = some (.ins C dx fs) /\ Aj K C /\ bY K C f /\ fs.length < 1000 ∧
 D.nx σ (upd H2 a (.ins C dx (jA f y fs)))
section
variable {X : Cx} {o e value : Expr} {f : Str} {pos pos' ad8 : Pos} {ta tv : TE}
theorem NB (he : PE X e ta) (hb : attributeBase e f X.env (eval e X.env) = eval e X.env) : PE X (.Attribute e f pos) (ad6 X.K ta f) := by
 intro pins s σ H Q I h
 refine R0 hb (d8 (he pins s σ H _ I h) fun u s1 zz => ?_)
 obtain ⟨x, H1, I1, rx, a, C, dx, fs, v, ex, ea, c, n, l, q⟩ := zz
 subst ex
 obtain rfl : u = Value.ref a := rx
 exact GR I1 ea c n l fun u' s2 I2 ru => ⟨v, H1, I2, ru, q⟩
theorem XQ (ha : PE X o ta) (hv : PE X value tv) (hs : swapsWith value (some (.Attribute o f pos')) pos.line X.env = pure false) : PS X (.Assign [.Attribute o f pos'] value pos) (ad7 X.K ta tv f) := by
 intro pins s σ H D I h
 refine plainObj_wpAny_Assign_Attribute (d8 (hv pins s σ H _ I h) fun u s1 ⟨y, H1, I1, ry, q⟩ => d8 (ha pins s1 σ H1 _ I1 q) fun ov s2 zz => ?_) hs
 obtain ⟨x, H2, I2, rx, a, C, dx, fs, ex, ea, c, n, l, q2⟩ := zz
 subst ex
 obtain rfl : ov = Value.ref a := rx
 exact GU I2 ea c n l ry fun s3 I3 => ⟨σ, _, I3, q2⟩
end
section
variable {X : Cx} {pins : List (Addr × Obj)} {σ : St} {H : Hp} {s : Shared} {A : Around} {E : Value -> Shared -> Prop} {Q : Value -> Shared -> Prop} {c : Value} {b : Bool}
end
structure fF (k : Nat) (A : Around) : Prop where
 hd : A.handled = none
 dp : A.depth + 3 * k + 5 < recursionLimit
 un : A.units + 16 * k + 200 < cLine
theorem fF.mono {j k : Nat} {A : Around} (r : fF k A) (h : j <= k) : fF j A := ⟨r.hd, by have := r.dp; omega, by have := r.un; omega⟩
theorem fF.deeper {k : Nat} {A : Around} (r : fF (k + 1) A) (env : Env) : fF k (A.deeper env) :=
 ⟨r.hd, by have := r.dp; show A.depth + 1 + 3 * k + 5 < _; omega, by have := r.un; show A.units + 3 + 16 * k + 200 < _; omega⟩
theorem GV {A : Around} {C : Addr} {us : List Value} {kw : List (Str × Value)} : (A.under (.builtin "type.__call__" ⟨.ref C :: us, kw⟩)).depth = A.depth + 1 := by
 first | rfl | simp [Around.under, Code.weight, Code.isCreation, Code.isGuard, Code.isCaller, Code.frames, Code.isFrame, guardIds]
theorem GX {A : Around} {C : Addr} {us : List Value} {kw : List (Str × Value)} : (A.under (.builtin "type.__call__" ⟨.ref C :: us, kw⟩)).units = A.units + 1 := by
 first | rfl | simp [Around.under, Code.cUnits, Code.frames, Code.isFrame]
theorem fF.make {k : Nat} {A : Around} (r : fF (k + 1) A) (C : Addr) (us : List Value) (kw : List (Str × Value)) : fF k (A.under (.builtin "type.__call__" ⟨.ref C :: us, kw⟩)) :=
 ⟨r.hd, by have := r.dp; rw [GV]; omega, by have := r.un; rw [GX]; omega⟩
theorem fF.depth {k : Nat} {A : Around} (r : fF k A) : A.depth < recursionLimit := by have := r.dp; omega
theorem fF.units {k : Nat} {A : Around} (r : fF k A) : A.units + 64 < cLine := by have := r.un; omega
noncomputable def NC : TA := fun _ H Q => Q [] H
noncomputable def Jz (ta : TE) (tr : TA) : TA := fun σ H Q => ta σ H fun x H1 => tr σ H1 fun xs H2 => Q (x :: xs) H2
section
variable {X : Cx} {e : Expr} {es : List Expr} {te : TE} {t : TA} {pos : Pos}
theorem fB : PA X [] NC := fun _ _ _ _ H Q I h => Calls.spliced_nil ⟨[], H, I, .nil, h⟩
theorem cN (ha : PE X e te) (hr : PA X es t) (hs : starEach (e :: es) X.env = (false, eval e X.env) :: starEach es X.env := by rfl) : PA X (e :: es) (Jz te t) := by
 intro pos pins s σ H Q I h
 rw [hs]
 show wpAny _ _ (spliced ((false, eval e X.env) :: backTo pos (starEach es X.env))) _ _ s
 refine Calls.spliced_cons (d8 (ha pins s σ H _ I h) fun u s1 zz => ?_)
 obtain ⟨x, H1, I1, r1, q1⟩ := zz
 exact d8 (hr pos pins s1 σ H1 _ I1 q1) fun us s2 ⟨xs, H2, I2, r2, q2⟩ => ⟨x :: xs, H2, I2, .cons r1 r2, q2⟩
noncomputable def ad9 (t : TA) : TE := fun σ H Q => t σ H fun xs H1 => xs.length <= sizeLine /\ ∀ p, H1 p = none -> Q (.ref p) (upd H1 p (.tup xs))
noncomputable def aea (t : TA) : TE := fun σ H Q => t σ H fun xs H1 => xs.length <= sizeLine /\ ∀ p, H1 p = none -> Q (.ref p) (upd H1 p (.lst xs))
theorem XR {x1} (h : PA X es t) : PE X (.Tuple es x1 pos) (ad9 t) := by
 intro pins s σ H Q I hq
 refine wpAny_Tuple_spliced (d8 (h pos pins s σ H _ I hq) fun us s1 ⟨xs, H1, I1, r, z, q⟩ => ⟨by rw [← r.length]; exact z, ?_⟩)
 have hf : H1 s1.heap.objs.size = none := I1.dw.fresh (aiH _)
 refine ⟨.ref s1.heap.objs.size, upd H1 s1.heap.objs.size (.tup xs), I1.laid (t' := s1.toks) (fun b u e => aiR _ e) (aiH _) ?_, rfl, q _ hf⟩
 exact ⟨z, us, r, ⟨_, ajc _ rfl, rfl, _, rfl⟩⟩
theorem XS (h : PA X es t) : PE X (.List es pos) (aea t) := by
 intro pins s σ H Q I hq
 refine wpAny_List_spliced (d8 (h pos pins s σ H _ I hq) fun us s1 ⟨xs, H1, I1, r, z, q⟩ => ⟨by rw [← r.length]; exact z, ?_⟩)
 have hf : H1 s1.heap.objs.size = none := I1.dw.fresh (aiH _)
 refine ⟨.ref s1.heap.objs.size, upd H1 s1.heap.objs.size (.lst xs), I1.laid (t' := s1.toks) (fun b u e => aiR _ e) (aiH _) ?_, rfl, q _ hf⟩
 exact ⟨z, us, 0, r, ajc _ rfl⟩
end
noncomputable abbrev Sp := List V -> Hp -> VK -> XK -> Prop
noncomputable abbrev NF := List Env -> Hp -> Shared -> XK -> Value -> Shared -> Prop
structure GY (P : Program) (w : World) (K : PySem.W.Frag) (mg : Str -> Option Value) (base : Heap) (A : Around) (outer : List Env) (s : Shared) (H : Hp) : Prop where
 frames : A.frames = some outer
 mod : Mod K mg base
 bs : ∀ b o, base.get? b = some o -> s.heap.get? b = some o /\ H b = none
 Rr : base.objs.size <= s.heap.objs.size
 vA : s.heap.FunFrames base outer
 Xd : ∀ b ∈ M4 outer, H b = none
 dw : qQ P w H s.heap
 bare : AllBare s.gens
noncomputable def CE (outer : List Env) (P : Program) (w : World) (H : Hp) (s : Shared) (Q : VK) (u : Value) (s' : Shared) : Prop :=
 ∃ v H', s'.os = s.os /\ AllBare s'.gens /\ Un (M4 outer) [] H H' s.heap s'.heap /\ qQ P w H' s'.heap /\ RelV v u /\ Q v H'
noncomputable def CR (CX : NF) (outer : List Env) (P : Program) (w : World) (H : Hp) (s : Shared) (Q : VK) (E : XK) (r : Result) (s' : Shared) : Prop :=
 match r with
 | .ok (.ret u) => CE outer P w H s Q u s'
 | .ok _ => False
 | .error e => CX outer H s E e s'
structure ck (P : Program) (w : World) (K : PySem.W.Frag) (mg : Str -> Option Value) (base : Heap) (CX : NF) (k : Nat) (f : Addr) (fd : FuncData) (ps : List Str) (sp : Sp) : Prop where
 len : ∀ vs H Q E, sp vs H Q E -> vs.length = ps.length
 run : ∀ (A : Around) (outer : List Env) (s : Shared) (H : Hp) (args : Args) (us : List Value) (vs : List V) (Q : VK) (E : XK), fF k A -> GY P w K mg base A outer s H -> BindsTo s fd args (ps.zip us) -> Vals vs us -> sp vs H Q E →
   codeAny (model P w) A (.call (.ref f) args) (CR CX outer P w H s Q E) s
theorem ck.imp {P : Program} {w : World} {K : PySem.W.Frag} {mg : Str -> Option Value} {base : Heap} {CX : NF} {k : Nat} {f : Addr} {fd : FuncData} {ps : List Str} {sp sp' : Sp} (F : ck P w K mg base CX k f fd ps sp)
   (h : ∀ vs H Q E, sp' vs H Q E -> sp vs H Q E) : ck P w K mg base CX k f fd ps sp' :=
 ⟨fun vs H Q E q => F.len vs H Q E (h _ _ _ _ q), fun A outer s H args us vs Q E hr he hb hv hs => F.run A outer s H args us vs Q E hr he hb hv (h _ _ _ _ hs)⟩
theorem GY.make {P : Program} {w : World} {K : PySem.W.Frag} {mg : Str -> Option Value} {base : Heap} {A : Around} {outer : List Env} {s : Shared} {H : Hp} (e : GY P w K mg base A outer s H) (C : Addr) (us : List Value) (kw : List (Str × Value)) :
   GY P w K mg base (A.under (.builtin "type.__call__" ⟨.ref C :: us, kw⟩)) outer s H := ⟨by first | exact e.frames | (simpa [Around.under, Code.envs, Code.isFrame, pushEnvs] using e.frames), e.mod, e.bs, e.Rr, e.vA, e.Xd, e.dw, e.bare⟩
section
variable {X : Cx} {pins : List (Addr × Obj)} {σ : St} {H : Hp} {s s' : Shared}
theorem Inv.abF (I : Inv X pins σ H s) : GY X.prog X.w X.K X.mg X.base X.A X.stack s H :=
 ⟨I.ok.frames, I.ok.mod, I.bs, ajL I.ok.Rr I.sz, I.stack, I.Bd, I.dw, I.bare⟩
theorem Inv.after {Q : VK} {u : Value} (I : Inv X pins σ H s) (h : CE X.stack X.prog X.w H s Q u s') : EP X pins σ Q u s' := by
 obtain ⟨v, H', os, bare, un, dw, r, q⟩ := h
 obtain ⟨hh, g, d, t, os'⟩ := s'
 obtain rfl : os' = s.os := os
 exact ⟨v, H', I.call (h' := hh) (g' := g) (d' := d) (t' := t) (ch := []) un dw bare (fun b z => absurd z (by simp)), r, q⟩
end
noncomputable def Wy (sp : Sp) (Eg : List V) (E : XK) (t : TA) : TE := fun σ H Q => t σ H fun vs H1 => sp (vs ++ Eg) H1 Q E
noncomputable def abG (C : Addr) (sp : Sp) (Eg : List V) (E : XK) (t : TA) : TE := fun σ H Q => t σ H fun vs H1 => ∀ x dx, H1 x = none -> H1 dx = none -> dx ≠ x →
 sp (.ref x :: (vs ++ Eg)) (upd (upd H1 dx (.own x)) x (.ins C dx [])) (fun v H2 => v = .non /\ Q (.ref x) H2) E
noncomputable def Binds (K : PySem.W.Frag) (fd : FuncData) (ps : List Str) (ds : List Value) : Prop :=
 ∀ (s : Shared) (us : List Value), K.In s.heap -> (us ++ ds).length = ps.length -> BindsTo s fd ⟨us, []⟩ (ps.zip (us ++ ds))
theorem Binds.all {K : PySem.W.Frag} {fd : FuncData} {ps : List Str} (h : ∀ us : List Value, us.length = ps.length -> bindArgs fd ⟨us, []⟩ = pure (ps.zip us)) : Binds K fd ps [] := fun s us _ hl => by
 rw [ai6] at hl ⊢
 exact .of_eq (h us hl)
noncomputable def Passes (CX : NF) (X : Cx) (E : XK) : Prop := ∀ (pins : List (Addr × Obj)) (σ : St) (H : Hp) (s : Shared) (e : Value) (s' : Shared), Inv X pins σ H s -> CX X.stack H s E e s' -> X.xe e s'
section
variable {X : Cx} {CX : NF} {k : Nat} {f C : Addr} {fd : FuncData} {ps : List Str} {sp : Sp} {Eg : List V} {ds : List Value} {E : XK} {x m : Str} {p pos apos : Pos} {e o : Expr} {es : List Expr} {ta : TE} {t : TA}
theorem NK {pins : List (Addr × Obj)} {σ : St} {H : Hp} {s : Shared} {Q : VK} {us : List Value} {vs : List V} (F : ck X.prog X.w X.K X.mg X.base CX k f fd ps sp) (hr : fF k X.A) (hb : Binds X.K fd ps ds) (hd : Vals Eg ds) (hx : Passes CX X E)
   (I : Inv X pins σ H s) (r : Vals vs us) (h : sp (vs ++ Eg) H Q E) : wpAny (model X.prog X.w) X.A (call (.ref f) us) (EP X pins σ Q) X.xe s := by
 have r2 : Vals (vs ++ Eg) (us ++ ds) := r.append hd
 have hl : (us ++ ds).length = ps.length := by rw [← r2.length]; exact F.len _ _ _ _ h
 refine wpAny_call (codeAny_mono (F.run X.A X.stack s H ⟨us, []⟩ (us ++ ds) (vs ++ Eg) Q E hr I.abF (hb s us I.D5 hl) r2 h) fun r s' hq => ?_)
 cases r with
 | error e => exact hx pins σ H s e s' I hq
 | ok fl =>
   cases fl with
   | ret u => exact I.after hq
   | next => exact False.elim hq
   | brk => exact False.elim hq
   | cont => exact False.elim hq
theorem JA (F : ck X.prog X.w X.K X.mg X.base CX k f fd ps sp) (hr : fF k X.A) (hg : Gl X x) (hm : X.mg x = some (.ref f)) (hk : PySem.W.keepIn X.K (.ref f) = true) (hb : Binds X.K fd ps ds) (hd : Vals Eg ds) (hx : Passes CX X E)
   (ha : PA X (e :: es) t) (vD : (x == ("__debug__" : Str)) = false := by decide) (he : starEach (e :: es) X.env = (false, eval e X.env) :: starEach es X.env := by rfl) (hpl : (backTo pos (starEach es X.env)).any (·.1) = false := by rfl) :
   PE X (.Call (.Name x p) (e :: es) [] pos) (Wy sp Eg E t) := by
 intro pins s σ H Q I h
 refine aj6 (vK I hg hm ?_ vD)
 refine PySem.W.callWith_K (h₀ := X.base) I.ok.mod.kin hk (d8 (ha pos pins s σ H _ I h) fun us s1 ⟨vs, H1, I1, r, q⟩ => ⟨I1.D5, ?_⟩) he hpl
 exact NK F hr hb hd hx I1 r q
theorem NP (F : ck X.prog X.w X.K X.mg X.base CX k f fd ps sp) (hr : fF k X.A) (hg : Gl X x) (hm : X.mg x = some (.ref f)) (hk : PySem.W.keepIn X.K (.ref f) = true) (hb : Binds X.K fd ps ds) (hd : Vals Eg ds) (hx : Passes CX X E)
   (vD : (x == ("__debug__" : Str)) = false := by decide) : PE X (.Call (.Name x p) [] [] pos) (Wy sp Eg E NC) := by
 intro pins s σ H Q I h
 refine aj6 (vK I hg hm ?_ vD)
 exact PySem.W.callWith_K0 I.D5 hk (NK (us := []) F hr hb hd hx I .nil h)
structure Mk (K : PySem.W.Frag) (C f : Addr) : Prop where
 makes : PySem.W.makesIn K C = true
 init : PySem.W.findIn K (.ref C) "__init__" = some (some (.ref f))
 fn : PySem.W.isFn K (.ref f) = true
 kp : PySem.W.keepIn K (.ref C) = true
theorem NQ {pins : List (Addr × Obj)} {σ : St} {H : Hp} {s : Shared} {Q : VK} {us : List Value} {vs : List V} (M : Mk X.K C f) (F : ck X.prog X.w X.K X.mg X.base CX k f fd ps sp) (hr : fF (k + 1) X.A) (hb : Binds X.K fd ps ds) (hd : Vals Eg ds)
   (hx : Passes CX X E) (I : Inv X pins σ H s) (r : Vals vs us)
   (h : ∀ x dx, H x = none -> H dx = none -> dx ≠ x -> sp (.ref x :: (vs ++ Eg)) (upd (upd H dx (.own x)) x (.ins C dx [])) (fun v H2 => v = .non /\ Q (.ref x) H2) E) :
   wpAny (model X.prog X.w) X.A (call (.ref C) us) (EP X pins σ Q) X.xe s := by
 have hq := h (s.heap.objs.size + 1) s.heap.objs.size (I.dw.fresh (akf _)) (I.dw.fresh (aiH _)) (aja (Nat.lt_succ_self _))
 have I2 := Inv.made (C := C) I
 have r2 : Vals (V.ref (s.heap.objs.size + 1) :: (vs ++ Eg)) (Value.ref (s.heap.objs.size + 1) :: (us ++ ds)) := .cons rfl (r.append hd)
 have hl : (Value.ref (s.heap.objs.size + 1) :: us ++ ds).length = ps.length := by
   have e := r2.length
   rw [F.len _ _ _ _ hq] at e
   exact e.symm
 refine wpAny_call (Nz (f := f) I.D5 M.makes M.init (beq_iff_eq.mp M.fn) (codeAny_mono (F.run _ X.stack _ _ ⟨Value.ref (s.heap.objs.size + 1) :: us, []⟩ (Value.ref (s.heap.objs.size + 1) :: (us ++ ds)) _ _ E (hr.make C us [])
   (I2.abF.make C us []) (hb _ (Value.ref (s.heap.objs.size + 1) :: us) I2.D5 hl) r2 hq) fun r s' R1 => ?_))
 cases r with
 | error e => exact hx pins σ _ _ e s' I2 R1
 | ok fl =>
   cases fl with
   | ret u =>
     obtain ⟨v, H', I3, rv, ev, q3⟩ := I2.after R1
     subst ev
     exact ⟨rv, ⟨V.ref (s.heap.objs.size + 1), H', I3, rfl, q3⟩⟩
   | next => exact False.elim R1
   | brk => exact False.elim R1
   | cont => exact False.elim R1
theorem JB (M : Mk X.K C f) (F : ck X.prog X.w X.K X.mg X.base CX k f fd ps sp) (hr : fF (k + 1) X.A) (hg : Gl X x) (hm : X.mg x = some (.ref C)) (hb : Binds X.K fd ps ds) (hd : Vals Eg ds) (hx : Passes CX X E)
   (ha : PA X (e :: es) t) (vD : (x == ("__debug__" : Str)) = false := by decide) (he : starEach (e :: es) X.env = (false, eval e X.env) :: starEach es X.env := by rfl) (hpl : (backTo pos (starEach es X.env)).any (·.1) = false := by rfl) :
   PE X (.Call (.Name x p) (e :: es) [] pos) (abG C sp Eg E t) := by
 intro pins s σ H Q I h
 refine aj6 (vK I hg hm ?_ vD)
 refine PySem.W.callWith_K (h₀ := X.base) I.ok.mod.kin M.kp (d8 (ha pos pins s σ H _ I h) fun us s1 ⟨vs, H1, I1, r, q⟩ => ⟨I1.D5, ?_⟩) he hpl
 exact NQ M F hr hb hd hx I1 r q
end
noncomputable def PK (X : Cx) (kws : List Keyword) (t : TA) : Prop :=
 ∀ (pos : Pos) (pins : List (Addr × Obj)) (s : Shared) (σ : St) (H : Hp) (Q : List V -> Hp -> Prop), Inv X pins σ H s -> t σ H Q -> wpAny (model X.prog X.w) X.A (evalAll ((backToKw pos (keywordEach kws X.env)).map (·.2))) (AP X pins σ Q) X.xe s
section
variable {X : Cx} {CX : NF} {k : Nat} {f C : Addr} {fd : FuncData} {ps ks : List Str} {sp : Sp} {E : XK} {x m : Str} {p pos apos aeb : Pos} {e o : Expr} {es : List Expr} {kws : List Keyword} {te ta : TE} {t tk : TA} {nm : Option Str}
theorem XT : PK X [] NC := fun _ _ _ _ H Q I h => wpAny_evalAll_nil ⟨[], H, I, .nil, h⟩
theorem R3 (ha : PE X e te) (hr : PK X kws t) : PK X (⟨nm, e, aeb⟩ :: kws) (Jz te t) := by
 intro pos pins s σ H Q I h
 show wpAny _ _ (evalAll ((do let v ← eval e X.env; standAt pos; pure v) :: (backToKw pos (keywordEach kws X.env)).map (·.2))) _ _ s
 refine wpAny_evalAll_cons (aiS (d8 (ha pins s σ H _ I h) fun u s1 ⟨x, H1, I1, r1, q1⟩ => aiS (wpAny_standAt (ajo ?_))))
 exact d8 (hr pos pins s1 σ H1 _ I1 q1) fun us s2 ⟨xs, H2, I2, r2, q2⟩ => ⟨x :: xs, H2, I2, .cons r1 r2, q2⟩
variable {g : List Value -> List Value -> List Value} {gV : List V -> List V -> List V}
end
structure aU (N P : List Str) (sc : Scope) : Prop where
 kind : sc.kind = .function
 co : sc.isCoroutine = false
 gen : sc.isGenerator = false
 nd : N.Nodup
 pre : N.take P.length = P
 par : ∀ x ∈ P, sc.names.lookup x = some .local \/ sc.names.lookup x = some .cell
 XU : ∀ y ∈ sc.names, y.2 ≠ .free
theorem Ak {kindOf : Str -> Option NameKind} {x : Str} : ∀ {binds : List (Str × Value)} {m : Str -> Option Value}, (∀ v, (x, v) ∉ binds) -> bindL kindOf binds m x = m x
 | [], _, _ => rfl
 | (n, v) :: r, m, h => by
   unfold bindL
   rw [Ak fun w hw => h w (aiE _ hw)]
   split
   . have : x ≠ n := by rintro rfl; exact h v aiF
     simp [this]
   . rfl
theorem Al {kindOf : Str -> Option NameKind} {x : Str} : ∀ {binds : List (Str × Value)} {m : Str -> Option Value}, (∀ v, (x, v) ∉ binds) -> bindC kindOf binds m x = m x
 | [], _, _ => rfl
 | (n, v) :: r, m, h => by
   unfold bindC
   rw [Al fun w hw => h w (aiE _ hw)]
   split
   . rfl
   . have : x ≠ n := by rintro rfl; exact h v aiF
     simp [this]
theorem Am {kindOf : Str -> Option NameKind} {x : Str} {v : Value} : ∀ {P : List Str} {vs : List Value} {i : Nat} {m : Str -> Option Value}, P.Nodup -> P[i]? = some x -> vs[i]? = some v -> kindOf x = some .local →
   bindL kindOf (P.zip vs) m x = some v
 | [], _, _, _, _, h, _, _ => by simp at h
 | _ :: _, [], _, _, _, _, h, _ => by simp at h
 | p :: P, w :: vs, 0, m, nd, h1, h2, hk => by
   simp at h1 h2; subst h1; subst h2
   show bindL kindOf ((p, w) :: P.zip vs) m p = _
   unfold bindL
   rw [Ak fun v hv => (ajA.mp nd).1 (List.of_mem_zip hv).1, aiI hk]
   simp
 | p :: P, w :: vs, i + 1, m, nd, h1, h2, hk => by
   show bindL kindOf ((p, w) :: P.zip vs) m x = _
   unfold bindL
   exact Am (i := i) (List.nodup_cons.mp nd).2 (by simpa using h1) (by simpa using h2) hk
theorem An {kindOf : Str -> Option NameKind} {x : Str} {v : Value} : ∀ {P : List Str} {vs : List Value} {i : Nat} {m : Str -> Option Value}, P.Nodup -> P[i]? = some x -> vs[i]? = some v -> kindOf x ≠ some .local →
   bindC kindOf (P.zip vs) m x = some v
 | [], _, _, _, _, h, _, _ => by simp at h
 | _ :: _, [], _, _, _, _, h, _ => by simp at h
 | p :: P, w :: vs, 0, m, nd, h1, h2, hk => by
   simp at h1 h2; subst h1; subst h2
   show bindC kindOf ((p, w) :: P.zip vs) m p = _
   unfold bindC
   rw [Al fun v hv => (ajA.mp nd).1 (List.of_mem_zip hv).1, aiG hk]
   simp
 | p :: P, w :: vs, i + 1, m, nd, h1, h2, hk => by
   show bindC kindOf ((p, w) :: P.zip vs) m x = _
   unfold bindC
   exact An (i := i) (List.nodup_cons.mp nd).2 (by simpa using h1) (by simpa using h2) hk
noncomputable def start (N : List Str) (vs : List V) : St := vs.map some ++ List.replicate (N.length - vs.length) none
noncomputable def wJ (CX : NF) (P : Program) (w : World) (K : PySem.W.Frag) (mg : Str -> Option Value) (base : Heap) (N : List Str) (qual : Str) (scope : Scope) (f : Addr) (cd : Value) (A : Around) (outer : List Env) (s : Shared) (H : Hp) (E : XK) : Cx where
 prog := P
 w := w
 K := K
 mg := mg
 base := base
 A := A.deeper (envOfC qual scope s.heap.objs.size f cd)
 N := N
 s₀ := s
 H₀ := H
 env := envOfC qual scope s.heap.objs.size f cd
 outer := outer
 stack := envOfC qual scope s.heap.objs.size f cd :: outer
 ex := []
 calm := true
 fn := fun _ => true
 pn := []
 xe := fun e s' => wpAny (model P w) (A.deeper (envOfC qual scope s.heap.objs.size f cd)) (leaving (envOfC qual scope s.heap.objs.size f cd) e) (fun _ s'' => CX outer H s E e s'') (fun e' s'' => CX outer H s E e' s'') s'
theorem Eh {sc : Scope} {n : Nat} {x : Str} (h : sc.names.lookup x = some .cell) : ∃ c, (cellsFrom n sc.names []).lookup x = some c := by
 have q := PySem.W.cellsFrom_some sc.names n [] (.inl h)
 exact Option.isSome_iff_exists.mp q
theorem K3 {CX : NF} {P : Program} {w : World} {K : PySem.W.Frag} {mg : Str -> Option Value} {base : Heap} {N ps : List Str} {qual : Str} {scope : Scope} {f : Addr} {cd : Value} {A : Around} {outer : List Env} {s s1 : Shared} {H : Hp} {E : XK} {us : List Value} {vs : List V}
   (S : aU N ps scope) (hd : A.handled = none) (e0 : GY P w K mg base A outer s H) (hl : vs.length = ps.length) (r : Vals vs us)
   (x : InCallC s s.heap.objs.size (bindL (envOfC qual scope s.heap.objs.size f cd).kindOf (ps.zip us) fun _ => none) (cellsFrom (s.heap.objs.size + 1) scope.names []) (bindC (envOfC qual scope s.heap.objs.size f cd).kindOf (ps.zip us) fun _ => none) s1) :
   Inv (wJ CX P w K mg base N qual scope f cd A outer s H E) [] (start N vs) H s1 := by
 have hpl : ps.length <= N.length := by have := congrArg List.length S.pre; rw [List.length_take] at this; omega
 obtain ⟨h1, tk, rfl, hk⟩ := x.done
 have noA : ∀ b : Addr, b ∉ (wJ CX P w K mg base N qual scope f cd A outer s H E).ex := fun b z => absurd (show b ∈ ([] : List Addr) from z) (by simp)
 refine ⟨⟨e0.mod, S.kind, rfl, rfl, aiH _, fun y z c h1 h2 => ?_, fun y hy => ?_, fun y c _ h => ?_, fun _ => hd, Around.frames_deeper e0.frames, .inr ⟨rfl, rfl⟩, fun b z => absurd z (noA b), e0.bs, e0.Rr, fun b _ _ => noA b, fun b z => absurd z (noA b), e0.vA, e0.Xd⟩,
   rfl, e0.bare, Un.kept hk, ⟨_, x.toInCall.ns, fun i y v h1 h2 h3 => ?_⟩, fun y c h => ⟨_, x.cell y c h⟩, e0.dw.fresh (aiH _), fun y c h => ?_, fun p hp => absurd (show p ∈ ([] : List (Addr × Obj)) from hp) (by simp), e0.dw.kept hk, ?_⟩
 . exact name_of_addr x.apart (ajH h1) (ajH h2)
 . have hy : scope.names.lookup y = some .cell \/ scope.names.lookup y = some .free := hy
   rcases hy with hy | hy
   . exact Eh hy
   . exact absurd rfl (S.XU _ (ajH hy))
 . exact ajy (x.above y c (ajH h))
 . have hi : i < vs.length := by
     unfold start at h2
     by_cases hi : i < vs.length
     . exact hi
     . rw [List.getElem?_append_right (by simpa using hi)] at h2
       rw [List.getElem?_replicate] at h2
       split at h2 <;> cases h2
   have ha : vs[i]? = some v := by
     unfold start at h2
     rw [List.getElem?_append_left (by simpa using hi), List.getElem?_map] at h2
     cases e : vs[i]? with
     | none => rw [e] at h2; cases h2
     | some a => rw [e] at h2; cases h2; rfl
   obtain ⟨u, hu, rv⟩ := r.get ha
   have hp : ps[i]? = some y := by
     rw [← S.pre, List.getElem?_take_of_lt (by omega)]; exact h1
   have ndP : ps.Nodup := by rw [← S.pre]; exact S.nd.sublist (List.take_sublist _ _)
   refine ⟨u, rv, ?_⟩
   rcases S.par y (ajj hp) with k | k
   . exact .inl ⟨k, Am ndP hp hu k⟩
   . obtain ⟨c, e⟩ := Eh (n := s.heap.objs.size + 1) k
     refine .inr ⟨.inl k, c, e, ?_⟩
     have q := x.cell y c e
     rw [An ndP hp hu (by show scope.names.lookup y ≠ _; rw [k]; decide)] at q
     exact q
 . exact e0.dw.fresh (ajy (x.above y c (ajH h)))
 . unfold start
   show _ = N.length
   rw [aiT, aiC, ajV]
   omega
theorem Wz {CX : NF} {P : Program} {w : World} {K : PySem.W.Frag} {mg : Str -> Option Value} {base : Heap} {k : Nat} {f : Addr} {name qual : Str} {params : Arguments} {body : List Stmt} {scope : Scope} {dV kV doc pm dY ct oc : Value} {an od : Option Addr}
   {M5 : Array (Option Value)} {N ps : List Str} {sp : Sp} (lk : K.lookup f = some ⟨oc, od, .func (PySem.W.fnOf name qual params body scope dV kV doc pm an dY ct), M5⟩) (jy : PySem.W.codeIn K dY qual = true) (S : aU N ps scope)
   (len : ∀ vs H Q E, sp vs H Q E -> vs.length = ps.length)
   (Ei : ∀ (A : Around) (outer : List Env) (s : Shared) (H : Hp) (vs : List V) (Q : VK) (E : XK), fF k (A.deeper (envOfC qual scope s.heap.objs.size f dY)) -> sp vs H Q E →
     ∃ t, GK (wJ CX P w K mg base N qual scope f dY A outer s H E) body t /\ t { nx := fun _ H' => Q .non H', rt := Q } (start N vs) H) :
   ck P w K mg base CX (k + 1) f (PySem.W.fnOf name qual params body scope dV kV doc pm an dY ct) ps sp := by
 refine ⟨len, fun A outer s H args us vs Q E hr e0 hb r Ru => ?_⟩
 have hl := len _ _ _ _ Ru
 have KX : K.In s.heap := e0.mod.kin.keeps fun b o e => (e0.bs b o e).1
 have lim : s.heap.NoLimit := e0.mod.nolimit.keeps fun b o e => (e0.bs b o e).1
 have wK : ∀ y ∈ ps.zip us, scope.names.lookup y.1 = some .local \/ (scope.names.lookup y.1 = some .cell /\ ((cellsFrom (s.heap.objs.size + 1) scope.names []).lookup y.1).isSome = true) := fun ⟨n, v⟩ hy => by
   rcases S.par n (List.of_mem_zip hy).1 with q | q
   . exact .inl q
   . exact .inr ⟨q, PySem.W.cellsFrom_some _ _ _ (.inl q)⟩
 refine codeAny_call_function hr.depth (KX _ _ lk) rfl S.co S.gen rfl (PySem.W.codeRec_of KX jy) (hb _ _ _ _ ?_)
 refine wpAny_newFunctionEnv_cells S.kind wK fun env he s1 x => ?_
 subst he
 refine ⟨lim.keeps x.toInCall.keep, codeAny_func ?_⟩
 obtain ⟨t, ht, hq⟩ := Ei A outer s H vs Q E (hr.deeper _) Ru
 have I : Inv (wJ CX P w K mg base N qual scope f dY A outer s H E) [] (start N vs) H s1 := K3 S hr.hd e0 hl r x
 refine ajK (ht [] s1 (start N vs) H _ I hq) (fun fl s' hs => ?_) fun e s' hs => hs
 have fin : ∀ {σ' : St} {H' : Hp} {v : V} {u : Value}, Inv (wJ CX P w K mg base N qual scope f dY A outer s H E) [] σ' H' s' -> RelV v u -> Q v H' -> CE outer P w H s Q u s' :=
   fun {σ' H' v u} J rv q => ⟨v, H', J.os, J.bare, J.base, J.dw, rv, q⟩
 cases fl with
 | ret u =>
   obtain ⟨v, σ', H', J, rv, q⟩ := hs
   exact fin J rv q
 | next =>
   obtain ⟨σ', H', J, q⟩ := hs
   exact fin (v := V.non) (u := Value.none) J rfl q
 | brk =>
   obtain ⟨_, _, _, q⟩ := hs
   exact False.elim q
 | cont =>
   obtain ⟨_, _, _, q⟩ := hs
   exact False.elim q
section
variable {X : Cx} {x : Str} {p pos : Pos} {e : Expr} {es : List Expr} {t : TA} {id T : String} {r : List V -> Hp -> VK -> Prop}
noncomputable def tCB (r : List V -> Hp -> VK -> Prop) (t : TA) : TE := fun σ H Q => t σ H fun vs H1 => r vs H1 Q
theorem lD (hc : nP X (.builtin id) r) (hg : Gl X x) (hm : X.mg x = none) (hv : bootBuiltins x = some (.builtin id)) (ha : PA X (e :: es) t) (hn : x ≠ "__name__" := by decide) (vD : (x == ("__debug__" : Str)) = false := by decide)
   (he : starEach (e :: es) X.env = (false, eval e X.env) :: starEach es X.env := by rfl) (hpl : (backTo pos (starEach es X.env)).any (·.1) = false := by rfl) : PE X (.Call (.Name x p) (e :: es) [] pos) (tCB r t) := by
 intro pins s σ H Q I h
 refine aj6 (qR I hg hm hv ?_ hn vD)
 exact PyProof.Rows.callWith_builtin1 (d8 (ha pos pins s σ H _ I h) fun us s1 ⟨vs, H1, I1, r1, q1⟩ => hc pins s1 σ H1 vs us Q I1 r1 q1) he hpl
theorem lE (hc : nP X (.type T) r) (hg : Gl X x) (hm : X.mg x = none) (hv : bootBuiltins x = some (.type T)) (ha : PA X (e :: es) t) (hn : x ≠ "__name__" := by decide) (vD : (x == ("__debug__" : Str)) = false := by decide)
   (he : starEach (e :: es) X.env = (false, eval e X.env) :: starEach es X.env := by rfl) (hpl : (backTo pos (starEach es X.env)).any (·.1) = false := by rfl) : PE X (.Call (.Name x p) (e :: es) [] pos) (tCB r t) := by
 intro pins s σ H Q I h
 refine aj6 (qR I hg hm hv ?_ hn vD)
 exact aj5 (d8 (ha pos pins s σ H _ I h) fun us s1 ⟨vs, H1, I1, r1, q1⟩ => hc pins s1 σ H1 vs us Q I1 r1 q1) he hpl
end
end L2
namespace HT
open PySem PyProof.Rows
section
open PySem.SeqAt
open PySem.AutoSeq1 (wpAny_loadPart')
open PySem.MeetsSeq PySem.MeetsSeq2 PySem.MeetsSeq3
end
section
variable {prog : Program} {w : World} {A : Around} {E : Value -> Shared -> Prop} {s : Shared}
theorem R4 {t b : Addr} {vs ws : List Value} {Q : Value -> Shared -> Prop} (ht : IsTup s.heap t vs.toArray) (hb : IsTup s.heap b ws.toArray) (hv : vs ≠ [])
   (h1 : ws = [] -> Q (.ref t) s) (h2 : ws ≠ [] -> Q (.ref s.heap.objs.size) { s with heap := s.heap.push { cls := .type "tuple", data := .seq (vs ++ ws).toArray } })
   (hsz : vs.length + ws.length <= sizeLine) : wpAny (model prog w) A (binaryOp .Add (.ref t) (.ref b)) Q E s := by
 obtain ⟨⟨cls, dd, data, sl⟩, ho, hc, n, hd⟩ := id ht
 obtain ⟨⟨aec, dd2, data2, sl2⟩, Rw, Ej, n2, hd2⟩ := id hb
 simp only at hc hd Ej hd2
 subst hc hd Ej hd2
 have e : vs.toArray ++ ws.toArray = (vs ++ ws).toArray := by simp
 by_cases hw : ws = []
 . exact concat_meets ⟨_, ho, rfl⟩ ⟨_, Rw, rfl⟩ noFill_tuple_add seq_tuple_add PySem.F.slot_tuple_add PySem.F.entry_tuple_add (PySem.F.args_tuple_add_2 _ _)
     (tuple_addW1 t b vs.toArray ws.toArray n n2 dd dd2 sl sl2 (by simpa using hv) (by simp [hw])) ⟨ho, Rw, h1 hw⟩
 . refine concat_meets ⟨_, ho, rfl⟩ ⟨_, Rw, rfl⟩ noFill_tuple_add seq_tuple_add PySem.F.slot_tuple_add PySem.F.entry_tuple_add (PySem.F.args_tuple_add_2 _ _)
     (tuple_addW2 t b vs.toArray ws.toArray n n2 dd dd2 sl sl2 (by simpa using hv) (by simpa using hw) (by rw [List.size_toArray, List.size_toArray]; exact hsz)) ⟨ho, Rw, ?_⟩
   rw [e]
   exact h2 hw
noncomputable def zc (n d : Nat) : Option Int -> Nat
 | none => d
 | some v => if v < 0 then (v + (n : Int)).toNat else min v.toNat n
end
end HT
namespace L2
open PySem PySem.Spec PyProof.Rows
noncomputable abbrev TO := St -> Hp -> (Option Int -> Hp -> Prop) -> Prop
noncomputable def PO (X : Cx) (e : Option Expr) (t : TO) : Prop :=
 ∀ (pins : List (Addr × Obj)) (s : Shared) (σ : St) (H : Hp) (Q : Option Int -> Hp -> Prop), Inv X pins σ H s -> t σ H Q →
   wpAny (model X.prog X.w) X.A (evalPart e X.env) (fun u s' => ∃ o H', Inv X pins σ H' s' /\ IsPart u o /\ Q o H') X.xe s
noncomputable def R5 : TO := fun _ H Q => Q none H
noncomputable def abH (t : TE) : TO := fun σ H Q => t σ H fun x H1 => ∃ i, x = .int i /\ Q (some i) H1
theorem intsAre_of {ns : List Int} : ∀ {us : List Value}, Vals (ns.map V.int) us -> IntsAre us ns := by
 induction ns with
 | nil => intro us r; rw [List.map_nil] at r; cases r; exact .nil
 | cons n ns ih =>
   intro us r
   rw [ai1] at r
   cases r with
   | cons r1 r2 =>
     obtain ⟨t, e⟩ := r1
     subst e
     exact .cons n t (ih r2)
section
variable {X : Cx} {e : Expr} {te : TE} {lo hi : Option Expr} {tl th : TO} {pos p2 : Pos}
theorem R6 : PO X none R5 := by
 intro pins s σ H Q I h
 rw [evalPart_none]
 exact ajo ⟨none, H, I, .none, h⟩
theorem R7 (h : PE X e te) : PO X (some e) (abH te) := by
 intro pins s σ H Q I hw
 rw [evalPart_some]
 refine d8 (h pins s σ H _ I hw) fun u s1 zz => ?_
 obtain ⟨x, H1, I1, r1, q1⟩ := zz
 obtain ⟨i, rfl, q⟩ := q1
 obtain ⟨t, rfl⟩ := r1
 exact ⟨some i, H1, I1, .int i t, q⟩
noncomputable def SlR (X : Cx) (r : V -> Option Int -> Option Int -> Hp -> VK -> Prop) : Prop :=
 ∀ (pins : List (Addr × Obj)) (s : Shared) (σ : St) (H : Hp) (x : V) (v vl vu : Value) (lo hi : Option Int) (sl : Addr) (Q : VK), Inv X pins σ H s -> RelV x v -> s.heap.IsSliceOf sl vl vu .none -> IsPart vl lo -> IsPart vu hi -> r x lo hi H Q →
   ∃ T id, typeLookup (.type T) "__getitem__" = pure (some (.builtin id)) /\ s.TypeIs v T /\ wpAny (model X.prog X.w) X.A (getItem v (.ref sl)) (EP X pins σ Q) X.xe s
noncomputable def tSl (r : V -> Option Int -> Option Int -> Hp -> VK -> Prop) (te : TE) (tl th : TO) : TE := fun σ H Q => te σ H fun x H1 => tl σ H1 fun l H2 => th σ H2 fun u H3 => r x l u H3 Q
theorem NR {r : V -> Option Int -> Option Int -> Hp -> VK -> Prop} (hr : SlR X r) (he : PE X e te) (hl : PO X lo tl) (hu : PO X hi th) : PE X (.Subscript e (.Slice lo hi none p2) pos) (tSl r te tl th) := by
 intro pins s σ H Q I h
 refine Subscript_ (d8 (he pins s σ H _ I h) fun v s1 zz => ?_)
 obtain ⟨x, H1, I1, r1, q1⟩ := zz
 refine wpAny_Slice (d8 (hl pins s1 σ H1 _ I1 q1) fun vl s2 ⟨l, H2, I2, pl, q2⟩ => d8 (hu pins s2 σ H2 _ I2 q2) fun vu s3 zz => ?_)
 obtain ⟨u, H3, I3, pu, q3⟩ := zz
 rw [evalPart_none]
 refine ajo ?_
 have I4 : Inv X pins σ H3 { s3 with heap := s3.heap.push { cls := .type "slice", data := .fields #[vl, vu, .none] } } := I3.kept (t' := s3.toks) fun b ob q => aiR _ q
 obtain ⟨T, id, hT, ht, hg⟩ := hr pins { s3 with heap := s3.heap.push { cls := .type "slice", data := .fields #[vl, vu, .none] } } σ H3 x v vl vu l u s3.heap.objs.size Q I4 r1 (Heap.IsSliceOf.new ..) pl pu q3
 show wpAny (model X.prog X.w) X.A (subscriptTail e (.Slice lo hi none p2) v (.ref s3.heap.objs.size)) (EP X pins σ Q) X.xe { s3 with heap := s3.heap.push { cls := .type "slice", data := .fields #[vl, vu, .none] } }
 exact tail_any (ops := [.ref s3.heap.objs.size, v]) ht hT hg (by with_unfolding_all rfl)
noncomputable def K4 (xs : List V) (lo hi : Option Int) : List V := (xs.drop (HT.zc xs.length 0 lo)).take (HT.zc xs.length xs.length hi - HT.zc xs.length 0 lo)
theorem Ek (xs : List V) (lo hi : Option Int) : (K4 xs lo hi).length <= xs.length := by
 unfold K4
 rw [List.length_take, akg]
 omega
noncomputable def abI (K : PySem.W.Frag) : R2 := fun x y H Q => ∃ a b xs ys, x = .ref a /\ y = .ref b /\ rS K H a xs /\ rS K H b ys /\ xs ≠ [] /\ xs.length + ys.length <= sizeLine ∧
 (ys = [] -> Q (.ref a) H) /\ (ys ≠ [] -> ∀ p, H p = none -> Q (.ref p) (upd H p (.tup (xs ++ ys))))
theorem Vals.vP {xs : List V} {us : List Value} (r : Vals xs us) : us = [] ↔ xs = [] := by
 cases r with
 | nil => simp
 | cons _ _ => simp
theorem R8 : vC X (binaryOp .Add) (abI X.K) := by
 intro pins s σ H x y v u Q I rx ry h
 obtain ⟨a, b, xs, ys, rfl, rfl, ha, hb, hx, hz, q1, q2⟩ := h
 cases rx
 cases ry
 obtain ⟨its, r1, p1, _⟩ := I.tuple ha
 obtain ⟨wL, r2, p2, _⟩ := I.tuple hb
 refine HT.R4 p1 p2 (fun z => hx (r1.vP.mp z)) (fun z => ⟨.ref a, H, I, rfl, q1 (r2.vP.mp z)⟩) (fun z => ?_) (by rw [← r1.length, ← r2.length]; exact hz)
 refine ⟨.ref s.heap.objs.size, _, I.laid (t' := s.toks) (o := .tup (xs ++ ys)) (fun b ob q => aiR _ q) (aiH _) ?_, rfl, q2 (fun w => z (r2.vP.mpr w)) _ (I.dw.fresh (aiH _))⟩
 exact ⟨by rw [aiT]; exact hz, _, r1.append r2, IsTup.new _ _⟩
end
noncomputable def NS (n : Nat) (i : Int) : Option Nat := if 0 <= i then (if i < n then some i.toNat else none) else if -(n : Int) <= i then some (i + n).toNat else none
noncomputable def tN {α : Type} (xs : List α) (i : Int) : Option α := (NS xs.length i).bind fun j => xs[j]?
theorem Bg {n : Nat} {i : Int} {j : Nat} (h : NS n i = some j) : seqIndex? i n = some j /\ j < n /\ -(n : Int) <= i /\ i < n := by
 unfold NS at h
 by_cases h0 : 0 <= i
 . rw [aiI h0] at h
   by_cases h1 : i < n
   . rw [aiI h1] at h
     have e : i.toNat = j := aiZ h
     exact ⟨by rw [seqIndex_of h0 h1, e], by omega, by omega, h1⟩
   . rw [aiG h1] at h; cases h
 . rw [aiG h0] at h
   by_cases h1 : -(n : Int) <= i
   . rw [aiI h1] at h
     have e : (i + n).toNat = j := aiZ h
     exact ⟨by rw [seqIndex_neg (by omega) h1, e], by omega, h1, by omega⟩
   . rw [aiG h1] at h; cases h
theorem Bh {α : Type} {xs : List α} {i : Int} {v : α} (h : tN xs i = some v) : ∃ j, seqIndex? i xs.length = some j /\ xs[j]? = some v /\ j < xs.length /\ -(xs.length : Int) <= i /\ i < xs.length := by
 unfold tN at h
 cases e : NS xs.length i with
 | none => rw [e] at h; cases h
 | some j =>
   rw [e] at h
   obtain ⟨h1, h2, h3, h4⟩ := Bg e
   exact ⟨j, h1, h, h2, h3, h4⟩
theorem aF {α : Type} {xs : List α} {j : Nat} {v : α} (h : xs[j]? = some v) : tN xs (j : Int) = some v := by
 have hj : j < xs.length := (ai3.mp h).1
 have e : NS xs.length (j : Int) = some j := by
   unfold NS
   rw [aiI (by omega), aiI (by omega)]; simp
 unfold tN; rw [e]; exact h
noncomputable def pN (b : Expr) : Prop := ∀ o i, subscripted b false o i = operate [o, i] (getItem o i)
noncomputable def IxR (X : Cx) (r : R2) : Prop :=
 ∀ (value slice : Expr) (pins : List (Addr × Obj)) (s : Shared) (σ : St) (H : Hp) (x y : V) (v u : Value) (Q : VK), Inv X pins σ H s -> RelV x v -> RelV y u -> r x y H Q →
   subscripted slice false v u = operate [v, u] (getItem v u) -> wpAny (model X.prog X.w) X.A (subscriptTail value slice v u) (EP X pins σ Q) X.xe s
noncomputable def MtR (X : Cx) (id : String) (r : V -> List V -> Hp -> VK -> Prop) : Prop :=
 ∀ (pins : List (Addr × Obj)) (s : Shared) (σ : St) (H : Hp) (x : V) (xs : List V) (v : Value) (us : List Value) (Q : VK), Inv X pins σ H s -> RelV x v -> Vals xs us -> r x xs H Q →
   wpAny (model X.prog X.w) X.A (call (.builtin id) (v :: us)) (EP X pins σ Q) X.xe s
section
variable {X : Cx} {a b : Expr} {ta tb : TE} {pos : Pos}
theorem El {r : R2} (hr : IxR X r) (ha : PE X a ta) (hb : PE X b tb) (hs : pN b) : PE X (.Subscript a b pos) (tOp r ta tb) := by
 intro pins s σ H Q I h
 exact Subscript_ (XD ha hb I h fun v u s2 x y H2 I2 rx ry q => hr a b pins s2 σ H2 x y v u Q I2 rx ry q (hs _ _))
noncomputable def aee (K : PySem.W.Frag) : R2 := fun x y H Q => ∃ p xs i v, x = .ref p /\ y = .int i /\ nS K H p xs /\ tN xs i = some v /\ Q v H
noncomputable def aef (K : PySem.W.Frag) : R2 := fun x y H Q => ∃ p xs i v, x = .ref p /\ y = .int i /\ rS K H p xs /\ tN xs i = some v /\ Q v H
noncomputable def aeg : R2 := fun x y H Q => ∃ z i c, x = .str z /\ y = .int i /\ z.length <= sizeLine /\ tN z.cps.toList i = some c /\ Q (.str ⟨#[c]⟩) H
theorem JC : IxR X (aee X.K) := by
 intro value slice pins s σ H x y v u Q I rx ry h hs
 obtain ⟨p, xs, i, z, rfl, rfl, hq, he, q⟩ := h
 cases rx
 obtain ⟨t, rfl⟩ := ry
 obtain ⟨its, r, pl, hz⟩ := I.list hq
 obtain ⟨j, h1, h2, h3, h4, h5⟩ := Bh he
 obtain ⟨w, ew, K5⟩ := r.get h2
 have hl := r.length
 have hn := tS
 have fin : EP X pins σ Q w s := ⟨z, H, I, K5, q⟩
 by_cases h0 : 0 <= i
 . have hj : i.toNat = j := by
     rw [seqIndex_of h0 h5] at h1
     exact aiZ h1
   exact item_listR pl.isList h0 (by omega) (by rw [hj]; simpa using ew) fin hs
 . have hj : (i + (its.toArray.size : Int)).toNat = j := by
     rw [seqIndex_neg (by omega) h4] at h1
     rw [aiW, ← hl]
     exact aiZ h1
   exact subscriptTail_builtinR (x := w) pl.isList.typeIs slot_list_getitem.lookup
     (wpAny_getItem_list_neg (Q := fun r s' => r = w /\ EP X pins σ Q r s') pl.isList (by omega) (by rw [List.size_toArray] <;> omega) (by omega) (by rw [hj]; simpa using ew) ⟨rfl, fin⟩) hs
theorem NT : IxR X (aef X.K) := by
 intro value slice pins s σ H x y v u Q I rx ry h hs
 obtain ⟨p, xs, i, z, rfl, rfl, hq, he, q⟩ := h
 cases rx
 obtain ⟨t, rfl⟩ := ry
 obtain ⟨its, r, pl, hz⟩ := I.tuple hq
 obtain ⟨j, h1, h2, h3, h4, h5⟩ := Bh he
 obtain ⟨w, ew, K5⟩ := r.get h2
 have hl := r.length
 have hn := tS
 have fin : EP X pins σ Q w s := ⟨z, H, I, K5, q⟩
 exact subscriptTail_builtinR (x := w) pl.typeIs slot_tuple_getitem.lookup
   (getItem_tuple (j := j) (Q := fun r s' => r = w /\ EP X pins σ Q r s') pl (by omega) (by omega) (by rw [List.size_toArray, ← hl]; exact h1) (by simpa using ew) ⟨rfl, fin⟩) hs
theorem XW : IxR X aeg := by
 intro value slice pins s σ H x y v u Q I rx ry h hs
 obtain ⟨z, i, c, rfl, rfl, hz, he, q⟩ := h
 obtain ⟨t, rfl⟩ := rx
 obtain ⟨t', rfl⟩ := ry
 obtain ⟨j, h1, h2, h3, h4, h5⟩ := Bh he
 have hl : z.cps.toList.length = z.length := by simp [Str.length]
 rw [hl] at h1 h4 h5
 have hn := tS
 exact tail_any (typeIs_str s z t) slot_str_getitem.lookup (getItem_str (c := c) (by
   have e1 : decide (i < -(2 ^ 63 : Int)) = false := ajw (by omega)
   have e2 : decide (i ≥ 2 ^ 63) = false := ajw (by omega)
   rw [e1, e2, Bool.or_false]) (by rw [h1]; simpa using h2) ⟨.str ⟨#[c]⟩, H, I.tok _, ⟨_, rfl⟩, q⟩) hs
theorem GZ (its : List Value) (n j : Nat) (u : Value) : Obj.mapSeq (·.setIfInBounds j u) { cls := .type "list", data := .seq its.toArray n } = { cls := .type "list", data := .seq (its.set j u).toArray n } := by
 simp [Obj.mapSeq]
theorem Inv.lst {pins : List (Addr × Obj)} {σ : St} {H : Hp} {s : Shared} {p : Addr} {xs : List V} (I : Inv X pins σ H s) (h : H p = some (.lst xs)) :
   ∃ (its : List Value) (n : Nat), Vals xs its /\ s.heap.get? p = some { cls := .type "list", data := .seq its.toArray n } /\ xs.length <= sizeLine := by
 obtain ⟨z, its, n, r, e⟩ := I.dw p _ h
 exact ⟨its, n, r, e, z⟩
theorem Inv.XY {pins : List (Addr × Obj)} {σ : St} {H : Hp} {s : Shared} {p : Addr} {xs ys : List V} {its its' : List Value} {n n' : Nat} {f : Obj -> Obj} (I : Inv X pins σ H s) (h : H p = some (.lst xs))
   (ho : s.heap.get? p = some { cls := .type "list", data := .seq its.toArray n }) (hf : f { cls := .type "list", data := .seq its.toArray n } = { cls := .type "list", data := .seq its'.toArray n' }) (r : Vals ys its') (hz : ys.length <= sizeLine) (t : Nat) :
   Inv X pins σ (upd H p (.lst ys)) { s with heap := s.heap.update p f, toks := t } := by
 have e : (s.heap.update p f).get? p = some { cls := .type "list", data := .seq its'.toArray n' } := by
   rw [Heap.get?_update_self f ho (by rw [hf] <;> rfl), hf]
 refine I.write (x := p) (e := p) (by rw [h]; trivial) (.inl rfl) (fun b u hb q => (Heap.get?_update_other _ _ (akr hb)).trans q) ⟨_, e⟩ ?_
 exact ⟨hz, its', n', r, e⟩
noncomputable def abJ : V -> V -> V -> Hp -> (Hp -> Prop) -> Prop := fun o i v H Q => ∃ p xs k j, o = .ref p /\ i = .int k /\ H p = some (.lst xs) /\ NS xs.length k = some j /\ Q (upd H p (.lst (xs.set j v)))
theorem set_list : abn X abJ := by
 intro pins s σ H o i v ov iv u Q I ro ri rv h
 obtain ⟨p, xs, k, j, rfl, rfl, hp, hj, q⟩ := h
 cases ro
 obtain ⟨t, rfl⟩ := ri
 obtain ⟨its, n, r, ho, hz⟩ := I.lst hp
 obtain ⟨h1, h2, h3, h4⟩ := Bg hj
 have hl := r.length
 have hn := tS
 have I' : Inv X pins σ (upd H p (.lst (xs.set j v))) { s with heap := s.heap.update p (Obj.mapSeq (·.setIfInBounds j u)) } :=
   I.XY hp ho (GZ its n j u) (r.set rv j) (by rw [List.length_set]; exact hz) s.toks
 by_cases h0 : 0 <= k
 . have hk : k.toNat = j := by
     rw [seqIndex_of h0 h4] at h1
     exact aiZ h1
   exact PySem.W.ki_setAt ho h0 (by omega) (by rw [aiW, ← hl]; exact h4) (by rw [hk]; exact ⟨_, I', q⟩)
 . have hk : (k + (its.toArray.size : Int)).toNat = j := by
     rw [seqIndex_neg (by omega) h3] at h1
     rw [aiW, ← hl]
     exact aiZ h1
   exact PySem.W.ki_setBack ho (by omega) (by rw [aiW, ← hl]; exact h3) (by omega) (by rw [hk]; exact ⟨_, I', q⟩)
theorem Bj (lo hi : Option Int) (n : Nat) : (sliceBounds lo hi none n).1 = ((HT.zc n 0 lo : Nat) : Int) /\ (sliceBounds lo hi none n).2.1 = ((HT.zc n n hi : Nat) : Int) /\ (sliceBounds lo hi none n).2.2 = 1 := by
 refine ⟨?_, ?_, rfl⟩
 . cases lo with
   | none => simp [sliceBounds, HT.zc]
   | some i =>
     simp only [sliceBounds, HT.zc, Option.getD_none, show (1 : Int) > 0 by decide, akm]
     by_cases h : i < 0
     . simp only [h, akm] <;> omega
     . simp only [h, aka] <;> omega
 . cases hi with
   | none => simp [sliceBounds, HT.zc]
   | some i =>
     simp only [sliceBounds, HT.zc, Option.getD_none, show (1 : Int) > 0 by decide, akm]
     by_cases h : i < 0
     . simp only [h, akm] <;> omega
     . simp only [h, aka] <;> omega
theorem zf (its : List Value) (lo hi : Option Int) : slicePick its.toArray lo hi none = ((its.drop (HT.zc its.length 0 lo)).take (HT.zc its.length its.length hi - HT.zc its.length 0 lo)).toArray := by
 obtain ⟨h1, h2, h3⟩ := Bj lo hi its.toArray.size
 unfold slicePick
 rw [h1, h2, h3]
 simp only [sliceRange_one, pick_run, aiW] <;> rfl
noncomputable def aeh (K : PySem.W.Frag) : V -> Option Int -> Option Int -> Hp -> VK -> Prop := fun x lo hi H Q => ∃ a xs, x = .ref a /\ nS K H a xs /\ ∀ p, H p = none -> Q (.ref p) (upd H p (.lst (K4 xs lo hi)))
theorem R9 : SlR X (aeh X.K) := by
 intro pins s σ H x v vl vu lo hi sl Q I rx hs pl pu h
 obtain ⟨a, xs, rfl, hx, q⟩ := h
 cases rx
 obtain ⟨its, r, ht, hz⟩ := I.list hx
 have hlen := r.length
 refine ⟨"list", _, slot_list_getitem.lookup, ht.isList.typeIs, ?_⟩
 refine wpAny_getItem_list_slice ht.isList hs pl pu .none (by simp) ?_ (by rw [aiW] <;> omega)
 rw [zf, ← hlen]
 refine ⟨.ref s.heap.objs.size, _, I.laid (t' := s.toks) (o := .lst (K4 xs lo hi)) (fun b ob q => aiR _ q) (aiH _) ?_, rfl, q _ (I.dw.fresh (aiH _))⟩
 exact ⟨ajL (Ek xs lo hi) hz, _, 0, (r.drop (HT.zc xs.length 0 lo)).take (HT.zc xs.length xs.length hi - HT.zc xs.length 0 lo), ajc _ rfl⟩
noncomputable def qE : V -> Bool
 | .non => true
 | .bl _ => true
 | .int _ => true
 | .str _ => true
 | _ => false
noncomputable def NV : V -> V -> Bool
 | .non, .non => true
 | .bl a, .bl b => a == b
 | .bl a, .int b => (if a then 1 else 0) == b
 | .int a, .bl b => a == (if b then 1 else 0)
 | .int a, .int b => a == b
 | .str a, .str b => a == b
 | _, _ => false
theorem XZ {A : Around} {s : Shared} {y x : V} {u v : Value} (ry : RelV y u) (rx : RelV x v) (fy : qE y = true) (fx : qE x = true) : SeqAt.EqAt A s u v (NV y x) := by
 cases y with
 | non =>
   cases ry
   cases x with
   | non => cases rx; exact SeqAt.EqAt.same _
   | bl b => cases rx; exact SeqAt.EqAt.none_bool b
   | int b => obtain ⟨t, rfl⟩ := rx; exact SeqAt.EqAt.none_int b t
   | str b => obtain ⟨t, rfl⟩ := rx; exact SeqAt.EqAt.none_str b t
   | _ => exact absurd (show false = true from fx) aiY
 | bl a =>
   cases ry
   cases x with
   | non => cases rx; exact SeqAt.EqAt.bool_none a
   | bl b => cases rx; exact SeqAt.EqAt.bool_bool a b
   | int b => obtain ⟨t, rfl⟩ := rx; exact SeqAt.EqAt.bool_int a b t
   | str b => obtain ⟨t, rfl⟩ := rx; exact SeqAt.EqAt.bool_str a b t
   | _ => exact absurd (show false = true from fx) aiY
 | int a =>
   obtain ⟨t', rfl⟩ := ry
   cases x with
   | non => cases rx; exact SeqAt.EqAt.int_none a t'
   | bl b => cases rx; exact SeqAt.EqAt.int_bool a t' b
   | int b => obtain ⟨t, rfl⟩ := rx; exact SeqAt.EqAt.int_int a t' b t
   | str b => obtain ⟨t, rfl⟩ := rx; exact SeqAt.EqAt.int_str a t' b t
   | _ => exact absurd (show false = true from fx) aiY
 | str a =>
   obtain ⟨t', rfl⟩ := ry
   cases x with
   | non => cases rx; exact SeqAt.EqAt.str_none a t'
   | bl b => cases rx; exact SeqAt.EqAt.str_bool a t' b
   | int b => obtain ⟨t, rfl⟩ := rx; exact SeqAt.EqAt.str_int a t' b t
   | str b => obtain ⟨t, rfl⟩ := rx; exact SeqAt.EqAt.str_str a t' b t
   | _ => exact absurd (show false = true from fx) aiY
 | _ => exact absurd (show false = true from fy) aiY
noncomputable def G0 (x : V) (u : Value) : Bool := match u with
 | .none => NV .non x
 | .bool b => NV (.bl b) x
 | .int i _ => NV (.int i) x
 | .str z _ => NV (.str z) x
 | _ => false
theorem NW {x y : V} {u : Value} (r : RelV y u) (f : qE y = true) : G0 x u = NV y x := by
 cases y with
 | non => cases r; rfl
 | bl b => cases r; rfl
 | int i => obtain ⟨t, rfl⟩ := r; rfl
 | str z => obtain ⟨t, rfl⟩ := r; rfl
 | _ => exact absurd (show false = true from f) aiY
theorem rV {x : V} : ∀ {xs : List V} {us : List Value}, Vals xs us -> xs.all qE = true -> us.any (G0 x) = xs.any fun y => NV y x
 | _, _, .nil, _ => rfl
 | y :: xs, u :: us, .cons r t, f => by
   rw [List.all_cons, ajm] at f
   rw [aj0, aj0, NW r f.1, rV t f.2]
theorem nW {A : Around} {s : Shared} {x : V} {v : Value} (rx : RelV x v) (fx : qE x = true) : ∀ {xs : List V} {us : List Value}, Vals xs us -> xs.all qE = true -> ∀ u ∈ us, SeqAt.EqAt A s u v (G0 x u)
 | _, _, .nil, _ => fun u hu => by cases hu
 | y :: xs, u :: us, .cons r t, f => fun u' hu => by
   rw [List.all_cons, ajm] at f
   rcases aiN.mp hu with rfl | hu
   . rw [NW r f.1]; exact XZ r rx f.1 fx
   . exact nW rx fx t f.2 u' hu
noncomputable def WB (x : V) (xs : List V) : Bool := xs.any fun y => NV y x
noncomputable def rIn (K : PySem.W.Frag) (neg : Bool) : R2 := fun x y H Q => ∃ p xs, y = .ref p /\ (nS K H p xs \/ rS K H p xs) /\ qE x = true /\ xs.all qE = true /\ Q (.bl (if neg then !WB x xs else WB x xs)) H
theorem Ao : vC X (compareOp .In) (rIn X.K false) := by
 intro pins s σ H x y v u Q I rx ry h
 obtain ⟨p, xs, rfl, hq, fx, fs, q⟩ := h
 cases ry
 rcases hq with hq | hq
 . obtain ⟨its, r, pl, hz⟩ := I.list hq
   refine SeqAt.in_listAt (G0 x) pl.isList (fun w hw => nW rx fx r fs w (by simpa using hw)) ⟨.bl _, H, I, rfl, ?_⟩
   rw [show its.toArray.any (G0 x) = its.any (G0 x) by simp, rV r fs]
   exact q
 . obtain ⟨its, r, pl, hz⟩ := I.tuple hq
   refine SeqAt.in_tupleAt (G0 x) pl (fun w hw => nW rx fx r fs w (by simpa using hw)) ⟨.bl _, H, I, rfl, ?_⟩
   rw [show its.toArray.any (G0 x) = its.any (G0 x) by simp, rV r fs]
   exact q
theorem jn : vC X (compareOp .NotIn) (rIn X.K true) := by
 intro pins s σ H x y v u Q I rx ry h
 obtain ⟨p, xs, rfl, hq, fx, fs, q⟩ := h
 cases ry
 rcases hq with hq | hq
 . obtain ⟨its, r, pl, hz⟩ := I.list hq
   refine SeqAt.notIn_listAt (G0 x) pl.isList (fun w hw => nW rx fx r fs w (by simpa using hw)) ⟨.bl _, H, I, rfl, ?_⟩
   rw [show its.toArray.any (G0 x) = its.any (G0 x) by simp, rV r fs]
   exact q
 . obtain ⟨its, r, pl, hz⟩ := I.tuple hq
   refine SeqAt.notIn_tupleAt (G0 x) pl (fun w hw => nW rx fx r fs w (by simpa using hw)) ⟨.bl _, H, I, rfl, ?_⟩
   rw [show its.toArray.any (G0 x) = its.any (G0 x) by simp, rV r fs]
   exact q
theorem rW : nP X (.builtin "len") (fun xs H Q => ∃ p ys, xs = [.ref p] /\ (nS X.K H p ys \/ rS X.K H p ys) /\ Q (.int ys.length) H) := by
 intro pins s σ H xs us Q I r h
 obtain ⟨p, ys, rfl, hq, q⟩ := h
 obtain ⟨u, rfl, rx⟩ := vals1 r
 cases rx
 have hn := tS
 rcases hq with hq | hq
 . obtain ⟨its, r', pl, hz⟩ := I.list hq
   have hlen := r'.length
   exact Calls.call_len_list pl.isList (by simp only [aiW] <;> omega) ⟨.int ys.length, H, I.tok _, ⟨s.toks + 1, by rw [aiW, hlen]⟩, q⟩
 . obtain ⟨its, r', pl, hz⟩ := I.tuple hq
   have hlen := r'.length
   exact len_tuple pl (by simp only [aiW] <;> omega) ⟨.int ys.length, H, I.tok _, ⟨s.toks + 1, by rw [aiW, hlen]⟩, q⟩
theorem Bk : nP X (.type "list") (fun xs H Q => ∃ p ys, xs = [.ref p] /\ (nS X.K H p ys \/ rS X.K H p ys) /\ ∀ l, H l = none -> Q (.ref l) (upd H l (.lst ys))) := by
 intro pins s σ H xs us Q I r h
 obtain ⟨p, ys, rfl, hq, q⟩ := h
 obtain ⟨u, rfl, rx⟩ := vals1 r
 cases rx
 have fin : ∀ (its : List Value), Vals ys its -> ys.length <= sizeLine -> ∀ (h' : Heap) (c' : Nat), (∀ b o', s.heap.get? b = some o' -> h'.get? b = some o') →
     h'.get? s.heap.objs.size = some { cls := .type "list", dict := none, data := .seq its.toArray c', slots := #[] } -> EP X pins σ Q (.ref s.heap.objs.size) { s with heap := h' } := fun its r' hz h' c' kp e =>
   ⟨.ref s.heap.objs.size, _, I.laid (t' := s.toks) kp (aiH _) (show eY X.prog X.w _ h' _ (.lst ys) from ⟨hz, its, c', r', e⟩), rfl, q _ (I.dw.fresh (aiH _))⟩
 rcases hq with hq | hq
 . obtain ⟨its, r', pl, hz⟩ := I.list hq
   have hlen := r'.length
   obtain ⟨o, ho, hc, n, hd⟩ := pl.isList
   exact call_list_seq p (.inl rfl) ho hc hd (fun h' c' kp e => fin its r' hz h' c' kp e) (by simp only [aiW] <;> omega)
 . obtain ⟨its, r', pl, hz⟩ := I.tuple hq
   have hlen := r'.length
   obtain ⟨o, ho, hc, n, hd⟩ := pl
   exact call_list_seq p (.inr rfl) ho hc hd (fun h' c' kp e => fin its r' hz h' c' kp e) (by simp only [aiW] <;> omega)
theorem zg : nP X (.type "tuple") (fun xs H Q => ∃ p ys, xs = [.ref p] /\ ((nS X.K H p ys /\ ∀ l, H l = none -> Q (.ref l) (upd H l (.tup ys))) \/ (rS X.K H p ys /\ Q (.ref p) H))) := by
 intro pins s σ H xs us Q I r h
 obtain ⟨p, ys, rfl, h⟩ := h
 obtain ⟨u, rfl, rx⟩ := vals1 r
 cases rx
 rcases h with ⟨hq, q⟩ | ⟨hq, q⟩
 . obtain ⟨its, r', pl, hz⟩ := I.list hq
   have hlen := r'.length
   refine call_tuple_list pl.isList (fun h' kp => ?_) (by simp only [aiW] <;> omega)
   have I1 : Inv X pins σ H { s with heap := h' } := I.kept (t' := s.toks) kp
   have I2 : Inv X pins σ (upd H h'.objs.size (.tup ys)) { s with heap := h'.push { cls := .type "tuple", data := .seq its.toArray } } :=
     I1.laid (t' := s.toks) (fun b o e => aiR _ e) (aiH _) (show eY X.prog X.w _ _ _ (.tup ys) from ⟨hz, its, r', IsTup.new _ _⟩)
   exact ⟨.ref h'.objs.size, _, I2, rfl, q _ (I1.dw.fresh (aiH _))⟩
 . obtain ⟨its, r', pl, hz⟩ := I.tuple hq
   exact call_tuple_same pl ⟨.ref p, H, I, rfl, q⟩
noncomputable def tyV (K : PySem.W.Frag) (T : String) (x : V) (H : Hp) : Prop := match x with
 | .str _ => T = "str"
 | .int _ => T = "int"
 | .ref p => (T = "list" /\ ∃ xs, nS K H p xs) \/ (T = "tuple" /\ ∃ o, K.lookup p = some o /\ o.cls = .type "tuple" /\ o.dict = none) ∨
     (T = "dict" /\ ((∃ aY, H p = some (.dK aY)) \/ ∃ aY, H p = some (.dT aY))) \/ (T = "set" /\ ∃ S n, H p = some (.set S n))
 | _ => False
theorem NX {pins : List (Addr × Obj)} {σ : St} {H : Hp} {s : Shared} {T : String} {x : V} {v : Value} (I : Inv X pins σ H s) (r : RelV x v) (ty : tyV X.K T x H) :
   s.TypeIs v T /\ ∀ a, v = .ref a -> ∃ ob, s.heap.get? a = some ob /\ ob.dict = none := by
 cases x with
 | str z =>
   obtain ⟨t, rfl⟩ := r
   cases (show T = "str" from ty)
   exact ⟨typeIs_str s z t, fun _ e => nomatch e⟩
 | int i =>
   obtain ⟨t, rfl⟩ := r
   cases (show T = "int" from ty)
   exact ⟨typeIs_int s i t, fun _ e => nomatch e⟩
 | ref p =>
   cases r
   rcases ty with ⟨rfl, xs, hq⟩ | ⟨rfl, o, hk, hc, hd⟩ | ⟨rfl, hk⟩ | ⟨rfl, S, n, hk⟩
   . obtain ⟨its, _, pl, _⟩ := I.list hq
     refine ⟨pl.isList.typeIs, fun a e => ?_⟩
     cases e
     obtain ⟨o, n, e, c, hd, _⟩ := pl
     exact ⟨o, e, hd⟩
   . refine ⟨⟨o, I.D5 p o hk, hc⟩, fun a e => ?_⟩
     cases e
     exact ⟨o, I.D5 _ o hk, hd⟩
   . have z : ∃ o, s.heap.get? p = some o /\ o.ExactDict := by
       rcases hk with ⟨aY, hk⟩ | ⟨aY, hk⟩
       . obtain ⟨_, _, _, _, o, _, _, e, ex, _⟩ := I.dw p _ hk
         exact ⟨o, e, ex⟩
       . obtain ⟨_, _, _, _, o, _, _, e, ex, _⟩ := I.dw p _ hk
         exact ⟨o, e, ex⟩
     obtain ⟨o, e, ex⟩ := z
     refine ⟨⟨o, e, ex.1⟩, fun a e2 => ?_⟩
     cases e2
     exact ⟨o, e, ex.2.1⟩
   . obtain ⟨o, _, _, _, e, ex, _⟩ := I.dw p _ hk
     refine ⟨⟨o, e, ex.1⟩, fun a e2 => ?_⟩
     cases e2
     exact ⟨o, e, ex.2.1⟩
 | _ => exact False.elim ty
noncomputable def aej (K : PySem.W.Frag) (T : String) (r : V -> List V -> Hp -> VK -> Prop) (to : TE) : TE := fun σ H Q => to σ H fun x H1 => tyV K T x H1 /\ r x [] H1 Q
noncomputable def tBM (K : PySem.W.Frag) (T : String) (r : V -> List V -> Hp -> VK -> Prop) (to : TE) (t : TA) : TE := fun σ H Q => to σ H fun x H1 => tyV K T x H1 /\ t σ H1 fun xs H2 => r x xs H2 Q
variable {o e : Expr} {es : List Expr} {to : TE} {t : TA} {name : Str} {apos zj : Pos} {T id : String} {r : V -> List V -> Hp -> VK -> Prop}
theorem X3 (pa : PlainAttrs T) (slot : Slot T name id) (hty : typeOf (.builtin id) = pure (.type "method_descriptor")) (hm : MtR X id r) (ho : PE X o to)
   (lF : attributeBase o name X.env (eval o X.env) = eval o X.env := by rfl) (hline : (apos.endLine == zj.line) = true := by rfl) : PE X (.Call (.Attribute o name apos) [] [] zj) (aej X.K T r to) := by
 intro pins s σ H Q I h
 refine wpAny_Call_method0_late lF hline (d8 (ho pins s σ H _ I h) fun v s1 zz => ?_)
 obtain ⟨x, H1, I1, r1, ty, q1⟩ := zz
 obtain ⟨h1, h2⟩ := NX I1 r1 ty
 exact ⟨T, id, pa, slot, hty, h1, h2, Calls.callWith_builtin rfl (PySem.evalArgs_none (hm pins s1 σ H1 x [] v [] Q I1 r1 .nil q1))⟩
theorem NZ (pa : PlainAttrs T) (slot : Slot T name id) (hty : typeOf (.builtin id) = pure (.type "method_descriptor")) (hm : MtR X id r) (ho : PE X o to) (ha : PA X (e :: es) t)
   (lF : attributeBase o name X.env (eval o X.env) = eval o X.env := by rfl)
   (Bl : ((backTo zj (starEach (e :: es) X.env)).all (fun x => !x.1) && (backToKw zj (keywordEach [] X.env)).all (fun x => x.1.isSome)
     && decide ((e :: es).length + ([] : List Keyword).length + (if ([] : List Keyword).isEmpty then 0 else 1) < 30)) = true := by rfl)
   (hline : (apos.endLine == zj.line) = true := by rfl) (hs : starEach (e :: es) X.env = (false, eval e X.env) :: starEach es X.env := by rfl) (G3 : (backTo zj (starEach es X.env)).any (·.1) = false := by rfl) :
   PE X (.Call (.Attribute o name apos) (e :: es) [] zj) (tBM X.K T r to t) := by
 intro pins s σ H Q I h
 refine wpAny_Call_method_late lF Bl hline rfl (d8 (ho pins s σ H _ I h) fun v s1 zz => ?_)
 obtain ⟨x, H1, I1, r1, ty, q1⟩ := zz
 obtain ⟨h1, h2⟩ := NX I1 r1 ty
 refine ⟨T, id, pa, slot, hty, h1, h2, ?_⟩
 have hA := ha zj pins s1 σ H1 _ I1 q1
 rw [hs] at hA ⊢
 refine Calls.callWith_builtin (by show (false || (backTo zj (starEach es X.env)).any (·.1)) = false; rw [G3] <;> rfl) (Calls.evalArgs_plain ?_)
 exact d8 hA fun us s2 ⟨vs, H2, I2, r2, q2⟩ => hm pins s2 σ H2 x vs v us Q I2 r1 r2 q2
end
noncomputable def MtM (X : Cx) (id : String) (r : V -> List V -> Hp -> VK -> Prop) : Prop :=
 ∀ (pins : List (Addr × Obj)) (s : Shared) (σ : St) (H : Hp) (x : V) (xs : List V) (v : Value) (us : List Value) (Q : VK), Inv X pins σ H s -> RelV x v -> Vals xs us -> r x xs H Q →
   wpAny (model X.prog X.w) X.A (call (.builtin id) (v :: us)) (EP X pins σ Q) X.xe s
theorem Vals.one {x : V} {us : List Value} (h : Vals [x] us) : ∃ u, us = [u] /\ RelV x u := by
 cases h with
 | cons r h => cases h; exact ⟨_, rfl, r⟩
theorem Vals.two {x y : V} {us : List Value} (h : Vals [x, y] us) : ∃ u v, us = [u, v] /\ RelV x u /\ RelV y v := by
 cases h with
 | cons r h => cases h with
   | cons q h => cases h; exact ⟨_, _, rfl, r, q⟩
theorem Vals.zero : ∀ {us : List Value}, Vals [] us -> us = []
 | _, .nil => rfl
theorem Vals.dropLast {xs : List V} {us : List Value} (h : Vals xs us) : Vals xs.dropLast us.dropLast := by
 induction h with
 | nil => exact .nil
 | cons r t ih =>
   cases t with
   | nil => exact .nil
   | cons q t' => exact .cons r ih
theorem G4 {α : Type} (l : List α) : l.eraseIdx (l.length - 1) = l.dropLast := by
 induction l with
 | nil => rfl
 | cons a r ih =>
   cases r with
   | nil => rfl
   | cons b r =>
     have e : (a :: b :: r).length - 1 = ((b :: r).length - 1) + 1 := by
       have h1 : (a :: b :: r).length = r.length + 2 := rfl
       have h2 : (b :: r).length = r.length + 1 := rfl
       omega
     rw [e, List.eraseIdx_cons_succ, ih]
     all_goals rfl
section
variable {X : Cx} {pins : List (Addr × Obj)} {σ : St} {H : Hp} {s : Shared} {l b : Addr} {xs ys zs : List V}
theorem Inv.X4 {its its' : List Value} {n : Nat} {f : Array Value -> Array Value} {t' : Nat} (I : Inv X pins σ H s) (hH : H l = some (.lst xs))
   (e : s.heap.get? l = some { cls := .type "list", data := .seq its.toArray n }) (hf : f its.toArray = its'.toArray) (hv : Vals ys its') (hz : ys.length <= sizeLine) :
   Inv X pins σ (upd H l (.lst ys)) { s with heap := s.heap.update l (Obj.mapSeq f), toks := t' } := by
 have q := PySem.IsL.update e f
 rw [hf] at q
 refine I.write (x := l) (e := l) (by rw [hH]; exact trivial) (.inl rfl) (fun b' u hb hu => (Heap.get?_update_other s.heap (Obj.mapSeq f) (akr hb)).trans hu) ⟨_, q⟩ ?_
 exact ⟨hz, its', _, hv, q⟩
theorem Inv.aem {its : List Value} {t' : Nat} (I : Inv X pins σ H s) (hv : Vals ys its) (hz : ys.length <= sizeLine) :
   Inv X pins σ (upd H s.heap.objs.size (.lst ys)) { s with heap := s.heap.push { cls := .type "list", data := .seq its.toArray }, toks := t' } :=
 I.laid (fun _ _ q => aiR _ q) (aiH _) ⟨hz, its, 0, hv, ajc _ rfl⟩
theorem Inv.fresh (I : Inv X pins σ H s) : H s.heap.objs.size = none := I.dw.fresh (aiH _)
theorem Inv.Sb (I : Inv X pins σ H s) (hH : H l = some (.lst xs)) : xs.length <= sizeLine /\ ∃ (its : List Value) (n : Nat), Vals xs its /\ xs.length = its.length /\ s.heap.get? l = some { cls := .type "list", data := .seq its.toArray n } := by
 obtain ⟨z, its, n, r, e⟩ := I.dw l _ hH
 exact ⟨z, its, n, r, r.length, e⟩
theorem N1 {n : Nat} (h : n <= sizeLine) : Builtin.List.listTooLong n = false := by
 unfold Builtin.List.listTooLong
 exact ajw (by omega)
end
section
variable {X : Cx}
noncomputable def Sd : V -> List V -> Hp -> VK -> Prop := fun x vs H Q => ∃ l xs y, x = .ref l /\ vs = [y] /\ H l = some (.lst xs) /\ xs.length < sizeLine /\ Q .non (upd H l (.lst (xs ++ [y])))
theorem Aq : MtM X "list.append" Sd := by
 intro pins s σ H x vs v us Q I rx rv h
 obtain ⟨l, xs, y, rfl, rfl, hH, hz, q⟩ := h
 cases rx
 obtain ⟨u, rfl, ru⟩ := rv.one
 obtain ⟨z, its, n, r, hl, e⟩ := I.Sb hH
 refine call_meets F.slot_list_append ⟨_, e, rfl⟩ F.entry_list_append (F.args_list_append_2 _ _) (PySem.list_append l its.toArray n u (by rw [aiW]; omega)) ⟨e, ?_⟩
 refine ⟨.non, _, I.X4 (its' := its ++ [u]) hH e (by simp) (r.append (.cons ru .nil)) ?_, rfl, q⟩
 rw [aiT, akn]
 omega
noncomputable def Se : V -> List V -> Hp -> VK -> Prop := fun x vs H Q => ∃ l b xs zs, x = .ref l /\ vs = [.ref b] /\ H l = some (.lst xs) /\ H b = some (.lst zs) /\ xs.length + zs.length <= sizeLine /\ Q .non (upd H l (.lst (xs ++ zs)))
theorem K6 : MtM X "list.extend" Se := by
 intro pins s σ H x vs v us Q I rx rv h
 obtain ⟨l, b, xs, zs, rfl, rfl, hH, hB, hz, q⟩ := h
 cases rx
 obtain ⟨u, rfl, ru⟩ := rv.one
 cases ru
 obtain ⟨z, its, n, r, hl, e⟩ := I.Sb hH
 obtain ⟨z2, wL, n2, r2, hl2, e2⟩ := I.Sb hB
 have hsz : its.toArray.size + wL.toArray.size <= sizeLine := by rw [aiW, aiW]; omega
 have abK : ¬ (!its.toArray.isEmpty && Builtin.List.listTooLong (its.toArray.size + wL.toArray.size)) = true := by
   rw [N1 hsz, Bool.and_false]
   exact aiY
 refine call_meets F.slot_list_extend ⟨_, e, rfl⟩ F.entry_list_extend (F.args_list_extend_2 _ _)
   (AutoSeq1.list_extend_list_list_0 l its.toArray n b wL.toArray n2 abK (by rw [aiW]; omega) (by omega)) ⟨e, e2, ?_⟩
 refine ⟨.non, _, I.X4 (its' := its ++ wL) hH e (by simp) (r.append r2) ?_, rfl, q⟩
 rw [aiT]
 omega
noncomputable def aen : V -> List V -> Hp -> VK -> Prop := fun x vs H Q => ∃ l xs y, x = .ref l /\ vs = [] /\ H l = some (.lst xs) /\ xs[xs.length - 1]? = some y /\ Q y (upd H l (.lst xs.dropLast))
theorem X5 : MtM X "list.pop" aen := by
 intro pins s σ H x vs v us Q I rx rv h
 obtain ⟨l, xs, y, rfl, rfl, hH, hy, q⟩ := h
 cases rx
 have hus := rv.zero
 subst hus
 obtain ⟨z, its, n, r, hl, e⟩ := I.Sb hH
 obtain ⟨u, hu, ru⟩ := r.get hy
 have hy' : its.toArray[its.toArray.size - 1]? = some u := by
   show its.toArray[its.length - 1]? = some u
   rw [← aj9, ← hl]
   exact hu
 refine call_meets F.slot_list_pop ⟨_, e, rfl⟩ F.entry_list_pop (F.args_list_pop_1 _) (MeetsSeq.list_pop_last l its.toArray n u hy' (by rw [aiW]; omega)) ⟨e, ?_⟩
 refine ⟨y, _, I.X4 (its' := its.dropLast) hH e ?_ r.dropLast ?_, ru, q⟩
 . show its.toArray.eraseIdxIfInBounds (its.toArray.size - 1) = its.dropLast.toArray
   rw [aiW, List.eraseIdxIfInBounds_toArray, G4]
 . rw [List.length_dropLast]
   omega
end
section
variable {prog : Program} {w : World} {A : Around} {E : Value -> Shared -> Prop} {s : Shared}
set_option maxRecDepth 100000 in
end
section
variable {X : Cx}
end
end L2
namespace Att
open PySem PySem.W PySem.Calls PyProof.Rows
theorem vE {P : Params} {h : Heap} : ∀ (ns : List Int) (vs : List Value), WellAll P h vs (ns.map WData.int) -> IntsAre vs ns := by
 intro ns
 induction ns with
 | nil =>
   intro vs w
   rw [List.map_nil] at w
   cases w
   exact .nil
 | cons n ns ih =>
   intro vs w
   rw [List.map_cons] at w
   cases w with
   | cons a b =>
     cases a
     exact .cons _ _ (ih _ b)
theorem K7 {l : OpenLaw} {n : Nat} (hn : l.most = some n) {P : Params} {h : Heap} {args : List WData} {vals : List Value}
   (tU : l.row.toRowW.claim.pre args = true) (JD : WellAll P h vals args) :
   ∃ a vs ns, vals = [Value.ref a] /\ args = [WData.list (ns.map WData.int)] /\ h.get? a = some { cls := .type "list", data := .seq vs.toArray } /\ IntsAre vs ns /\ ns.length <= n := by
 have hsh : WShape.hasAll [] args [.list .int] = true := (pre_splitW tU).1
 have hc : l.pre.holds [] { args := args } = true := (pre_splitW tU).2
 obtain ⟨d, r, rfl, h1, h2⟩ := hasAllW_cons hsh
 obtain rfl := hasAllW_nil h2
 obtain ⟨xs, rfl, h3⟩ := hasW_list h1
 obtain ⟨ns, rfl⟩ := items_int h3
 have hlen : ns.length <= n := by
   unfold OpenLaw.pre at hc
   have h4 : (WTm.not (.lt (.lit (.int (n : Int))) (.len (.arg 0)))).holds [] { args := [.list (ns.map .int)] } = true := by
     have h4 := (holds_andW hc).1
     rw [hn] at h4
     exact h4
   have h5 := condW_of h4 (w_not (w_lt w_lit (w_len_list (w_arg rfl))))
   rw [List.length_map] at h5
   refine Nat.le_of_not_lt fun q => ?_
   have q' : (n : Int) < ((ns.length : Nat) : Int) := by omega
   first
     | (rw [decide_eq_true q'] at h5; exact absurd h5 (by decide))
     | (simp at h5; omega)
 cases JD with
 | cons w1 w2 =>
   cases w2
   cases w1 with
   | list ho aeo => exact ⟨_, _, ns, rfl, rfl, ho, vE ns _ aeo, hlen⟩
theorem K8 (l : OpenLaw) (args : List WData) : l.row.toRowW.claim.post args (.bool true) args = true :=
 postW_of (r := l.row.toRowW) (X := (true == true))
   (show WShape.has [] (.bool true) .bool = true by first | rfl | decide | simp [WShape.has, WShape.arms, WShape.armsAll])
   (show (WTm.eq .res (.lit (.bool true))).value [] { args := args, res := some (.bool true), after := args } = some (.bool (true == true)) from w_eq_bool (w_res rfl) w_lit) rfl
theorem Em {l : OpenLaw} {n : Nat} {q : Program} {loose : List Str} {XP : (Str -> Option Value) -> Heap -> Prop} {YP : World -> Heap -> Prop} {d : DefRec}
   (hn : l.most = some n) (hdf : d.params.defaults = [])
   (call : ∀ (w : World) (s₀ s₁ : Shared) (mg mb : Str -> Option Value) (fa : Addr) (o : Obj) (pm cd doc : Value) (a : Addr) (vs : List Value) (ns : List Int),
     Ground q loose [] XP w s₀ mg mb s₁.heap -> YP w s₁.heap →
     s₁.heap.get? fa = some o -> o.data = .func (docDef d.name d.params d.body d.scope pm cd doc) -> s₁.heap.CodeRec cd d.name -> mg d.name = some (.ref fa) →
     s₁.heap.get? a = some { cls := .type "list", data := .seq vs.toArray } -> IntsAre vs ns -> ns.length <= n -> s₁.gens = #[] →
     codeAny (model l.prog w) callerA (.call (.ref fa) ⟨[.ref a], []⟩) (fun r s' => r = .ok (.ret (.bool true)) /\ OldK s₁.heap s'.heap /\ s'.os = s₁.os /\ AllBare s'.gens) s₁) :
   WalkO q loose XP YP l.row.toRowW d [] (fun f vs => PySem.call f vs) := by
 intro w s₀ s₁ mg mb G Y fa o pm cd doc dV kV ho hd jy hD hmg hg args vals as tU hlay hrd JD hlo
 obtain rfl : dV = .none := Dflts.none hD hdf
 obtain rfl : kV = .none := Dflts.noKw hD
 obtain ⟨a, vs, ns, rfl, rfl, X6, hints, hlen⟩ := K7 hn tU JD
 refine enter_call (codeAny_mono (call w s₀ s₁ mg mb fa o pm cd doc a vs ns G Y ho (fd_plain hd) jy hmg X6 hints hlen hg) fun r s' hq => ?_)
 obtain ⟨rfl, h2, h3, h4⟩ := hq
 exact ⟨.inl ⟨.bool true, .bool true, [], rfl, fun _ => rfl, .bool true, K8 l _, fun _ => ⟨List.Pairwise.nil, fun _ hm => (nomatch hm)⟩⟩, h2, h3, h4⟩
section
variable {prog : Program} {w : World} {A : Around} {E : Value -> Shared -> Prop} {s : Shared} {K : Frag}
noncomputable def ledger (h : Heap) (L d : Addr) : List (Addr × Obj) := (List.range h.objs.size).filterMap fun a => if a = L \/ a = d then none else (h.get? a).map fun o => (a, o)
end
end Att
namespace L2
open PySem PySem.Spec PyProof.Rows
theorem As : ∀ {vs : List Value} {ns : List Int}, IntsAre vs ns -> Vals (ns.map V.int) vs
 | _, _, .nil => .nil
 | _, _, .cons n t h => .cons ⟨t, rfl⟩ (As h)
noncomputable def inClass (s : Stmt) (j : Nat) : Stmt := match s with
 | .ClassDef _ _ _ body _ _ _ _ _ _ _ => body.getD j (.Pass ⟨0, 0, 0, 0⟩)
 | _ => .Pass ⟨0, 0, 0, 0⟩
noncomputable def vQ (s : Stmt) : Arguments := match s with
 | .FunctionDef _ a _ _ _ _ _ _ _ _ => a
 | _ => { posonlyargs := [], args := [], vararg := none, kwonlyargs := [], kw_defaults := [], kwarg := none, defaults := [] }
noncomputable def gk (s : Stmt) : List Stmt := match s with
 | .FunctionDef _ _ b _ _ _ _ _ _ _ => b
 | _ => []
noncomputable def ao (s : Stmt) : Scope := match s with
 | .FunctionDef _ _ _ _ _ _ sc _ _ _ => sc
 | _ => { kind := .function, names := [], isGenerator := false, isCoroutine := false }
noncomputable abbrev gO : NF := fun _ _ _ _ _ _ => False
noncomputable abbrev E0 : XK := fun _ _ _ => False
theorem En {X : Cx} : Passes gO X E0 := fun _ _ _ _ _ _ _ h => h.elim
structure jB (K : PySem.W.Frag) (x qual : Str) (st : Stmt) (f : Addr) (fd : FuncData) : Prop where
 ex : ∃ (oc : Value) (od : Option Addr) (kV doc pm : Value) (an : Option Addr) (dY ct : Value) (M5 : Array (Option Value)),
   fd = PySem.W.fnOf x qual (vQ st) (gk st) (ao st) .none kV doc pm an dY ct /\ K.lookup f = some ⟨oc, od, .func fd, M5⟩ /\ PySem.W.codeIn K dY qual = true
 kp : PySem.W.keepIn K (.ref f) = true
section
variable {P : Program} {w : World} {K : PySem.W.Frag} {mg : Str -> Option Value} {base : Heap}
theorem jB.ok {x qual : Str} {st : Stmt} {f : Addr} {fd : FuncData} {N ps : List Str} {k : Nat} {sp : Sp} (F : jB K x qual st f fd) (S : aU N ps (ao st)) (len : ∀ vs H Q E, sp vs H Q E -> vs.length = ps.length)
   (Ei : ∀ (dY : Value) (A : Around) (outer : List Env) (s : Shared) (H : Hp) (vs : List V) (Q : VK) (E : XK), fF k (A.deeper (envOfC qual (ao st) s.heap.objs.size f dY)) -> sp vs H Q E →
     ∃ t, GK (wJ gO P w K mg base N qual (ao st) f dY A outer s H E).Rt (gk st) t /\ t { nx := fun _ H' => Q .non H', rt := Q } (start N vs) H) : ck P w K mg base gO (k + 1) f fd ps sp := by
 obtain ⟨oc, od, kV, doc, pm, an, dY, ct, M5, rfl, lk, jy⟩ := F.ex
 refine Wz lk jy S len fun A outer s H vs Q E hr Ru => ?_
 obtain ⟨t, h, q⟩ := Ei dY A outer s H vs Q E hr Ru
 exact ⟨t, h.Rt, q⟩
theorem jB.binds {x qual : Str} {st : Stmt} {f : Addr} {fd : FuncData} {ps : List Str} (F : jB K x qual st f fd)
   (h : ∀ (kV doc pm : Value) (an : Option Addr) (dY ct : Value) (us : List Value), us.length = ps.length -> bindArgs (PySem.W.fnOf x qual (vQ st) (gk st) (ao st) .none kV doc pm an dY ct) ⟨us, []⟩ = pure (ps.zip us)) : Binds K fd ps [] := by
 obtain ⟨oc, od, kV, doc, pm, an, dY, ct, M5, rfl, lk, jy⟩ := F.ex
 exact .all (h kV doc pm an dY ct)
theorem bM {x qual : Str} {st : Stmt} {f : Addr} {oc : Value} {od an : Option Addr} {M5 : Array (Option Value)} {kV doc pm dY ct : Value} (l : K.lookup f = some ⟨oc, od, .func (PySem.W.fnOf x qual (vQ st) (gk st) (ao st) .none kV doc pm an dY ct), M5⟩)
   (c : PySem.W.codeIn K dY qual = true) (k : PySem.W.keepIn K (.ref f) = true) : jB K x qual st f (PySem.W.fnOf x qual (vQ st) (gk st) (ao st) .none kV doc pm an dY ct) := ⟨⟨oc, od, kV, doc, pm, an, dY, ct, M5, rfl, l, c⟩, k⟩
end
theorem cJ {n : Nat} (h : n <= 1000) : n < sizeLine := akv h (by decide)
section
variable {X : Cx}
end
theorem N2 {A B : Prop} (h : B) : if false = true then A else B := by
 rw [aiG aiY]
 exact h
theorem N3 {A B : Prop} (h : A) : if true = true then A else B := by
 rw [aiI rfl]
 exact h
noncomputable def aH (H H' : Hp) : Prop := ∀ b o, H b = some o -> H' b = some o
theorem aH.refl (H : Hp) : aH H H := fun _ _ h => h
theorem aH.trans {H H1 H2 : Hp} (a : aH H H1) (b : aH H1 H2) : aH H H2 := fun c o h => b c o (a c o h)
theorem aH.free {H H' : Hp} (e : aH H H') {l : Addr} (h : H' l = Option.none) : H l = Option.none := by
 cases q : H l with
 | none => rfl
 | some o =>
   rw [e l o q] at h
   cases h
theorem aH.seq {K : PySem.W.Frag} {H H' : Hp} {a : Addr} {xs : List V} (e : aH H H') (h : nS K H a xs) : nS K H' a xs := by
 rcases h with (h | ⟨o, h⟩) | h
 . exact .inl (.inl (e _ _ h))
 . exact .inl (.inr ⟨o, e _ _ h⟩)
 . exact .inr h
section
variable {κ : Type} [DecidableEq κ]
noncomputable def qT (aY : List (κ × V)) (k : κ) : Option V := (aY.find? fun kv => decide (kv.1 = k)).map (·.2)
noncomputable def putK (aY : List (κ × V)) (k : κ) (v : V) : List (κ × V) :=
 if (aY.any fun kv => decide (kv.1 = k)) = true then aY.map (fun kv => if kv.1 = k then (kv.1, v) else kv) else aY ++ [(k, v)]
theorem rX {p : κ × V} {r : List (κ × V)} {k : κ} (e : p.1 = k) : qT (p :: r) k = some p.2 := by simp [qT, ajE, e]
theorem nX {p : κ × V} {r : List (κ × V)} {k : κ} (e : ¬ p.1 = k) : qT (p :: r) k = qT r k := by simp [qT, ajE, e]
theorem Eo (k : κ) : ∀ aY : List (κ × V), (aY.any fun kv => decide (kv.1 = k)) = (qT aY k).isSome
 | [] => rfl
 | p :: r => by
   rw [aj0]
   by_cases e : p.1 = k
   . simp only [rX e, ajW e, Bool.true_or, Option.isSome_some]
   . rw [nX e, ajw e, Bool.false_or]; exact Eo k r
theorem uT (aY : List (κ × V)) (k : κ) (v : V) : (putK aY k v).length <= aY.length + 1 := by
 unfold putK
 split
 . rw [aiC]; omega
 . rw [aiT, ai2, ajQ]; omega
theorem tR.tV {o : Option V} {u : Option Value} (r : tR o u) : o.isSome = u.isSome := by
 cases o with
 | none => cases u with
   | none => rfl
   | some _ => exact (show False from r).elim
 | some _ => cases u with
   | none => exact (show False from r).elim
   | some _ => rfl
theorem KV.val {aY : List (κ × V)} {vs : List (κ × Value)} (r : KV aY vs) (k : κ) : tR (qT aY k) (valueAt vs k) := by
 unfold KV at r
 induction r with
 | nil => exact True.intro
 | @cons p q ps qs h t ih =>
   obtain ⟨h1, h2⟩ := h
   by_cases e : p.1 = k
   . have e' : q.1 = k := h1.symm.trans e
     have b : valueAt (q :: qs) k = some q.2 := by simp [valueAt, ajE, e']
     rw [rX e, b]; exact h2
   . have e' : ¬ q.1 = k := fun z => e (h1.trans z)
     have b : valueAt (q :: qs) k = valueAt qs k := by simp [valueAt, ajE, e']
     rw [nX e, b]; exact ih
theorem KV.any {aY : List (κ × V)} {vs : List (κ × Value)} (r : KV aY vs) (k : κ) : (aY.any fun kv => decide (kv.1 = k)) = vs.any fun kv => decide (kv.1 = k) := by
 unfold KV at r
 induction r with
 | nil => rfl
 | cons h t ih => rw [aj0, aj0, ih, h.1]
theorem KV.repl {aY : List (κ × V)} {vs : List (κ × Value)} (r : KV aY vs) (k : κ) {y : V} {u : Value} (ry : RelV y u) :
   KV (aY.map fun kv => if kv.1 = k then (kv.1, y) else kv) (vs.map fun kv => if kv.1 = k then (kv.1, u) else kv) := by
 unfold KV at r ⊢
 induction r with
 | nil => exact .nil
 | @cons p q ps qs h t ih =>
   rw [ai1, ai1]
   refine .cons ?_ ih
   obtain ⟨h1, h2⟩ := h
   by_cases e : p.1 = k
   . rw [aiI e, aiI (h1.symm.trans e)]; exact ⟨h1, ry⟩
   . rw [aiG e, aiG (fun z => e (h1.trans z))]; exact ⟨h1, h2⟩
theorem KV.put {aY : List (κ × V)} {vs : List (κ × Value)} (r : KV aY vs) (k : κ) {y : V} {u : Value} (ry : RelV y u) : KV (putK aY k y) (stored vs k u) := by
 unfold putK stored
 rw [r.any k]
 by_cases e : (vs.any fun kv => decide (kv.1 = k)) = true
 . rw [aiI e, aiI e]; exact r.repl k ry
 . rw [aiG e, aiG e]; exact Paired.snoc r ⟨rfl, ry⟩
theorem KV.length {aY : List (κ × V)} {vs : List (κ × Value)} (r : KV aY vs) : aY.length = vs.length := Paired.length r
end
theorem JF {P : Program} {w : World} {k : Key} {u : Value} (r : RelV (kV k) u) : (fD P w).is k u = true := by
 cases k with
 | inl i => obtain ⟨t, e⟩ := (show ∃ t, u = Value.int i t from r); subst e; exact D6 P w i t
 | inr x => obtain ⟨t, e⟩ := (show ∃ t, u = Value.str x t from r); subst e; exact D7 P w x t
theorem Au {P : Program} {w : World} : ∀ {ks : List Key} {us : List Value}, Vals (ks.map kV) us -> ItemsAre (fD P w) ks us
 | [], _, r => by rw [List.map_nil] at r; cases r; exact .nil
 | k :: ks, _, r => by
   rw [ai1] at r
   cases r with
   | cons h t => exact .cons (JF h) (Au t)
noncomputable abbrev KT (H : Hp) : List (List Key × V) -> List (List Key × Addr × Value) -> Prop := Paired fun p q => p.1 = q.1 /\ H q.2.1 = some (.tup (p.1.map kV)) /\ RelV p.2 q.2.2
theorem KT.val {H : Hp} {aY : List (List Key × V)} {xs : List (List Key × Addr × Value)} (r : KT H aY xs) (k : List Key) : tR (qT aY k) ((atKey xs k).map (·.2)) := by
 induction r with
 | nil => exact True.intro
 | @cons p q ps qs h t ih =>
   obtain ⟨h1, _, h2⟩ := h
   by_cases e : p.1 = k
   . have e' : q.1 = k := h1.symm.trans e
     have b : atKey (q :: qs) k = some q.2 := by simp [atKey, ajE, e']
     rw [rX e, b]; exact h2
   . have e' : ¬ q.1 = k := fun z => e (h1.trans z)
     have b : atKey (q :: qs) k = atKey qs k := by simp [atKey, ajE, e']
     rw [nX e, b]; exact ih
theorem KT.repl {H : Hp} {aY : List (List Key × V)} {xs : List (List Key × Addr × Value)} (r : KT H aY xs) (k : List Key) {y : V} {u : Value} (ry : RelV y u) :
   KT H (aY.map fun kv => if kv.1 = k then (kv.1, y) else kv) (xs.map (putAt k u)) := by
 induction r with
 | nil => exact .nil
 | @cons p q ps qs h t ih =>
   rw [ai1, ai1]
   refine .cons ?_ ih
   obtain ⟨h1, h2, h3⟩ := h
   unfold putAt
   by_cases e : p.1 = k
   . rw [aiI e, aiI (h1.symm.trans e)]; exact ⟨h1, h2, ry⟩
   . rw [aiG e, aiG (fun z => e (h1.trans z))]; exact ⟨h1, h2, h3⟩
theorem KT.put {H : Hp} {aY : List (List Key × V)} {xs : List (List Key × Addr × Value)} (r : KT H aY xs) (k : List Key) {b : Addr} {y : V} {u : Value} (hb : H b = some (.tup (k.map kV))) (ry : RelV y u) :
   KT H (putK aY k y) (storedH xs k b u) := by
 have e : (aY.any fun kv => decide (kv.1 = k)) = (atKey xs k).isSome := by
   rw [Eo, (r.val k).tV, Option.isSome_map]
 unfold putK storedH
 rw [e]
 by_cases q : (atKey xs k).isSome = true
 . rw [aiI q, aiI q]; exact r.repl k ry
 . rw [aiG q, aiG q]; exact Paired.snoc r ⟨rfl, hb, ry⟩
theorem KT.keeps {H H' : Hp} {aY : List (List Key × V)} {xs : List (List Key × Addr × Value)} (r : KT H aY xs) (ht : ∀ b ys, H b = some (.tup ys) -> H' b = some (.tup ys)) : KT H' aY xs :=
 Paired.Xa r fun _ _ z => ⟨z.1, ht _ _ z.2.1, z.2.2⟩
section
variable {P : Program} {w : World} {H : Hp} {h : Heap} {a : Addr}
theorem WC {u : HO} (ok : qQ P w H h) (e : Rd H a u) : eY P w H h a u := e.ok ok
theorem Ep {aY : List (Key × V)} (ok : qQ P w H h) (e : Rd H a (.dK aY)) : aY.length <= sizeLine /\ (a == sysModules) = false /\ ∃ vs, KV aY vs /\ h.DictOf (fD P w) a vs :=
 show eY P w H h a (.dK aY) from WC ok e
theorem abN {aY : List (Key × V)} (ok : qQ P w H h) (e : H a = some (.dK aY)) : aY.length <= sizeLine /\ (a == sysModules) = false /\ ∃ vs, KV aY vs /\ h.DictOf (fD P w) a vs := Ep ok (.inl e)
theorem Bm {ks : List Key} (ok : qQ P w H h) (e : H a = some (.tup (ks.map kV))) : (tupleKind (fD P w)).is h ks a := by
 obtain ⟨_, its, r, o, h1, h2, n, h3⟩ := (show eY P w H h a (.tup (ks.map kV)) from ok a _ e)
 exact ⟨o, its.toArray, n, h1, h2, h3, by simpa using Au r⟩
theorem JG {aY : List (List Key × V)} (ok : qQ P w H h) (e : Rd H a (.dT aY)) : aY.length <= sizeLine /\ (a == sysModules) = false ∧
   ∃ xs, KT H aY xs /\ h.DictOfH (tupleKind (fD P w)) a xs := by
 obtain ⟨z, y, xs, r, o, es, ep, h1, h2, h3, h4, h5⟩ := (show eY P w H h a (.dT aY) from WC ok e)
 refine ⟨z, y, xs, r, o, es, ep, h1, h2, h3, h4, fun x hx => ?_, h5⟩
 have all : ∀ {l : List (List Key × V)} {m : List (List Key × Addr × Value)}, KT H l m -> ∀ x ∈ m, (tupleKind (fD P w)).is h x.1 x.2.1 := by
   intro l m q
   induction q with
   | nil => intro x hx; exact nomatch hx
   | @cons p q ps qs hq t ih =>
     intro x hx
     rcases aiN.mp hx with e | hx
     . subst e
       exact Bm ok (by rw [← hq.1]; exact hq.2.1)
     . exact ih x hx
 exact all r x hx
theorem abO {aY : List (List Key × V)} (ok : qQ P w H h) (e : H a = some (.dT aY)) : aY.length <= sizeLine /\ (a == sysModules) = false ∧
   ∃ xs, KT H aY xs /\ h.DictOfH (tupleKind (fD P w)) a xs := JG ok (.inl e)
end
noncomputable def Bo (H : Hp) (a : Addr) (y : V) (r : Option V) : Prop :=
 (∃ aY k, Rd H a (.dK aY) /\ y = kV k /\ r = qT aY k) \/ ∃ aY k b, Rd H a (.dT aY) /\ y = .ref b /\ H b = some (.tup (k.map kV)) /\ r = qT aY k
noncomputable def N4 (H : Hp) (a : Addr) (y v : V) (H' : Hp) : Prop :=
 (∃ aY k, H a = some (.dK aY) /\ y = kV k /\ aY.length < sizeLine /\ H' = upd H a (.dK (putK aY k v))) ∨
 ∃ aY k b, H a = some (.dT aY) /\ y = .ref b /\ H b = some (.tup (k.map kV)) /\ aY.length < sizeLine /\ H' = upd H a (.dT (putK aY k v))
theorem Bo.k {H : Hp} {a : Addr} {aY : List (Key × V)} {k : Key} (e : H a = some (.dK aY)) : Bo H a (kV k) (qT aY k) := .inl ⟨aY, k, .inl e, rfl, rfl⟩
theorem N4.k {H : Hp} {a : Addr} {aY : List (Key × V)} {k : Key} {v : V} (e : H a = some (.dK aY)) (hl : aY.length < sizeLine) : N4 H a (kV k) v (upd H a (.dK (putK aY k v))) := .inl ⟨aY, k, e, rfl, hl, rfl⟩
section
variable {X : Cx} {pins : List (Addr × Obj)} {σ : St} {H : Hp} {s : Shared} {a : Addr} {y v : V} {u r : Value} {o : Option V} {A : Around} {E : Value -> Shared -> Prop}
theorem Inv.big (I : Inv X pins σ H s) : sysModules < s.heap.objs.size := by
 have h : mainGlobals < s.heap.objs.size := (I.mod.glob.keeps I.bk).lt
 exact Nat.lt_trans (by decide) h
theorem K9 {Q : Value -> Shared -> Prop} (hu : A.units + 1 < cLine) (I : Inv X pins σ H s) (g : Bo H a y (some v)) (ry : RelV y u) (h : ∀ w' s', Inv X pins σ H s' -> RelV v w' -> Q w' s') :
   wpAny (model X.prog X.w) A (getItem (.ref a) u) Q E s := by
 rcases g with ⟨aY, k, e, ey, l⟩ | ⟨aY, k, b, e, ey, eb, l⟩
 . subst ey
   obtain ⟨z, hd, vs, rel, dd⟩ := Ep I.dw e
   obtain ⟨w', hw, K5⟩ := tR.some_of (v := v) (o := valueAt vs k) (by rw [l]; exact rel.val k)
   exact wpAny_getItem_of (JF ry) dd.mapOf hw (h w' _ (I.tok _) K5)
 . subst ey
   cases (show u = Value.ref b from ry)
   obtain ⟨z, hd, xs, rel, dd⟩ := JG I.dw e
   obtain ⟨w', hw, K5⟩ := tR.some_of (v := v) (o := (atKey xs k).map (·.2)) (by rw [l]; exact rel.val k)
   obtain ⟨p, hp, hp2⟩ := Option.map_eq_some_iff.mp hw
   refine wpAny_getItem_heap (tupleKind_room_in1 hu) (Bm I.dw eb) dd hp ?_
   rw [hp2]
   exact h w' _ (I.tok _) K5
theorem aep {Q : Value -> Shared -> Prop} (hu : A.units + 1 < cLine) (I : Inv X pins σ H s) (g : Bo H a y o) (ry : RelV y u) (h : ∀ s', Inv X pins σ H s' -> Q (.bool o.isSome) s') :
   wpAny (model X.prog X.w) A (compareOp .In u (.ref a)) Q E s := by
 rcases g with ⟨aY, k, e, ey, l⟩ | ⟨aY, k, b, e, ey, eb, l⟩
 . subst ey
   obtain ⟨z, hd, vs, rel, dd⟩ := Ep I.dw e
   refine wpAny_in_of (JF ry) hd dd.mapOf ?_
   rw [← (rel.val k).tV, ← l]
   exact h _ (I.tok _)
 . subst ey
   cases (show u = Value.ref b from ry)
   obtain ⟨z, hd, xs, rel, dd⟩ := JG I.dw e
   refine wpAny_in_heap (tupleKind_room_in1 hu) (Bm I.dw eb) hd dd ?_
   have q := (rel.val k).tV
   rw [Option.isSome_map] at q
   rw [← q, ← l]
   exact h _ (I.tok _)
theorem JH {h' : Heap} {t' : Nat} {ob : HO} (I : Inv X pins σ H s) (mu : Mut (H a)) (hs : Heap.SameBut a s.heap h') (he : ∃ q, h'.get? a = some q) (new : eY X.prog X.w (upd H a ob) h' a ob) :
   Inv X pins σ (upd H a ob) { s with heap := h', toks := t' } :=
 I.write (x := a) (e := a) mu (.inl rfl) (fun b q hb z => (hs.2 b hb).trans z) he new
theorem N5 {P : Program} {w : World} {H' : Hp} {h' : Heap} {aY : List (Key × V)} {vs : List (Key × Value)} (z : aY.length <= sizeLine) (hd : (a == sysModules) = false) (rel : KV aY vs) (dd : h'.DictOf (fD P w) a vs) :
   eY P w H' h' a (.dK aY) := ⟨z, hd, vs, rel, dd⟩
theorem La {H' : Hp} {Q : Unit -> Shared -> Prop} (hu : A.units + 1 < cLine) (I : Inv X pins σ H s) (g : N4 H a y v H') (ry : RelV y u) (rv : RelV v r) (h : ∀ s', Inv X pins σ H' s' -> Q () s') :
   wpAny (model X.prog X.w) A (setItem (.ref a) u r) Q E s := by
 rcases g with ⟨aY, k, e, ey, l, eH⟩ | ⟨aY, k, b, e, ey, eb, l, eH⟩
 . subst ey eH
   obtain ⟨z, hd, vs, rel, dd⟩ := abN I.dw e
   have hz : vs.length <= sizeLine := by rw [← rel.length]; exact z
   have hl : (putK aY k v).length <= sizeLine := by have := uT aY k v; omega
   refine wpAny_setItem_pairs (hsz := hz) (JF ry) dd fun h' dd' hs => h _ ?_
   have he : ∃ q, h'.get? a = some q := let ⟨q, _, _, hq, _⟩ := dd'; ⟨q, hq⟩
   exact JH I (by rw [e]; exact True.intro) hs he (N5 hl hd (rel.put k rv) dd')
 . subst ey eH
   cases (show u = Value.ref b from ry)
   obtain ⟨z, hd, xs, rel, dd⟩ := abO I.dw e
   have hz : xs.length <= sizeLine := by rw [← Paired.length rel]; exact z
   have hl : (putK aY k v).length <= sizeLine := by have := uT aY k v; omega
   refine wpAny_setItem_heap (hsz := hz) (tupleKind_room_in1 hu) (Bm I.dw eb) dd fun h' dd' hs => h _ ?_
   obtain ⟨q, es, ep, hq, h2, h3, h4, _, h5⟩ := dd'
   refine JH I (by rw [e]; exact True.intro) hs ⟨q, hq⟩ ⟨hl, hd, _, (rel.put k eb rv).keeps fun c ys ec => ?_, q, es, ep, hq, h2, h3, h4, h5⟩
   rw [aA (aa8 ec e (fun z => nomatch z))]
   exact ec
end
section
variable {X : Cx} {pins : List (Addr × Obj)} {σ : St} {H : Hp} {s : Shared} {a : Addr} {aY : List (Key × V)} {k : Key} {u : Value} {A : Around} {E : Value -> Shared -> Prop}
end
noncomputable def X7 (i : Expr) : Prop := ∀ ov iv, subscripted i false ov iv = operate [ov, iv] (getItem ov iv)
theorem Sf {prog : Program} {w : World} {A : Around} {E : Value -> Shared -> Prop} {s : Shared} {env : Env} {value slice : Expr} {pos : Pos} {T id : String} {Q : Value -> Shared -> Prop}
   (hl : typeLookup (.type T) "__getitem__" = pure (some (.builtin id))) (hs : X7 slice)
   (h : wpAny (model prog w) A (eval value env) (fun o s₁ => wpAny (model prog w) A (eval slice env) (fun i s₂ => s₂.TypeIs o T /\ wpAny (model prog w) A (getItem o i) Q E s₂) E s₁) E s) :
   wpAny (model prog w) A (eval (.Subscript value slice pos) env) Q E s := by
 refine Subscript_ (ajK h (fun o s₁ h₁ => ajK h₁ (fun i s₂ h₂ => ?_) fun _ _ x => x) fun _ _ x => x)
 obtain ⟨hT, h₂⟩ := h₂
 unfold subscriptTail
 refine aiS ?_
 rw [getitemInPython_of_ne hT.not_modules]
 refine aiS (wpAny_specialOf hT hl ?_)
 have fin : wpAny (model prog w) A (subscripted slice false o i) (fun r s₃ => wpAny (model prog w) A (letTemporaryGo value o r >>= fun _ => pure r) Q E s₃) E s₂ := by
   rw [hs o i]
   exact wpAny_operating (ajK h₂ (fun r s₃ h₃ => aiS (wpAny_letTemporaryGo (ajo h₃))) fun _ _ x => x)
 first
   | exact ajo (aiS fin)
   | exact aiS (ajo (aiS fin))
   | exact aiS fin
theorem Er {X : Cx} {pins : List (Addr × Obj)} {σ : St} {H : Hp} {s : Shared} {a : Addr} {y : V} {o : Option V} (I : Inv X pins σ H s) (g : Bo H a y o) : s.TypeIs (.ref a) "dict" := by
 rcases g with ⟨aY, k, e, _, _⟩ | ⟨aY, k, b, e, _, _, _⟩
 . obtain ⟨_, _, vs, _, dd⟩ := Ep I.dw e
   exact dd.typeIs
 . obtain ⟨_, _, xs, _, dd⟩ := JG I.dw e
   exact dd.typeIs
noncomputable def abQ (td ty : TE) : TE := fun σ H Q => td σ H fun x H1 => ty σ H1 fun y H2 => ∃ a v, x = .ref a /\ Bo H2 a y (some v) /\ Q v H2
noncomputable def aeq (ty td : TE) : TE := fun σ H Q => ty σ H fun y H1 => td σ H1 fun x H2 => ∃ a o, x = .ref a /\ Bo H2 a y o /\ Q (.bl o.isSome) H2
noncomputable def abR (td ty tv : TE) : TS := fun D σ H => tv σ H fun v H1 => td σ H1 fun x H2 => ty σ H2 fun y H3 => ∃ a H4, x = .ref a /\ N4 H3 a y v H4 /\ D.nx σ H4
section
variable {X : Cx} {o i e value : Expr} {pos pos' ad8 : Pos} {td ty tv : TE}
theorem Sg (hu : X.A.units + 1 < cLine) (ho : PE X o td) (hi : PE X i ty) (hs : X7 i) : PE X (.Subscript o i pos) (abQ td ty) := by
 intro pins s σ H Q I h
 refine Sf PySem.F.slot_dict_getitem.lookup hs (d8 (ho pins s σ H _ I h) fun u s1 ⟨x, H1, I1, rx, q1⟩ => d8 (hi pins s1 σ H1 _ I1 q1) fun iv s2 zz => ?_)
 obtain ⟨y, H2, I2, ry, a, v, ex, g, q2⟩ := zz
 subst ex
 obtain rfl : u = Value.ref a := rx
 exact ⟨Er I2 g, K9 hu I2 g ry fun w' s3 I3 K5 => ⟨v, H2, I3, K5, q2⟩⟩
theorem X8 (hu : X.A.units + 1 < cLine) (hi : PE X i ty) (ho : PE X o td) : PC X .In i o (aeq ty td) := by
 intro pins s σ H Q I h
 refine d8 (hi pins s σ H _ I h) fun iv s1 ⟨y, H1, I1, ry, q1⟩ => d8 (ho pins s1 σ H1 _ I1 q1) fun u s2 zz => ?_
 obtain ⟨x, H2, I2, rx, a, ov, ex, g, q2⟩ := zz
 subst ex
 obtain rfl : u = Value.ref a := rx
 exact aep hu I2 g ry fun s3 I3 => ⟨.bl ov.isSome, H2, I3, rfl, q2⟩
theorem Sh (hu : X.A.units + 1 < cLine) (ho : PE X o td) (hi : PE X i ty) (hv : PE X value tv) (hs : swapsWith value (some (.Subscript o i pos')) pos.line X.env = pure false) :
   PS X (.Assign [.Subscript o i pos'] value pos) (abR td ty tv) := by
 intro pins s σ H D I h
 refine wpAny_Assign_Subscript (d8 (hv pins s σ H _ I h) fun r s1 ⟨v, H1, I1, rv, q1⟩ => d8 (ho pins s1 σ H1 _ I1 q1) fun u s2 ⟨x, H2, I2, rx, q2⟩ => d8 (hi pins s2 σ H2 _ I2 q2) fun iv s3 zz => ?_) hs
 obtain ⟨y, H3, I3, ry, a, H4, ex, g, q3⟩ := zz
 subst ex
 obtain rfl : u = Value.ref a := rx
 exact La hu I3 g ry rv fun s4 I4 => ⟨σ, H4, I4, q3⟩
end
theorem N6 {P : Program} {w : World} {H : Hp} (h : Heap) (hb : sysModules < h.objs.size) : eY P w H (h.push { cls := .type "dict", data := .dict #[] }) h.objs.size (.dK []) :=
 ⟨ai9 _, ajR.mpr (akr (aja hb)), [], .nil, Heap.DictOf.new h⟩
noncomputable def X9 : TE := fun _ H Q => ∀ p, H p = none -> Q (.ref p) (upd H p (.dK []))
section
variable {X : Cx} {pos : Pos}
theorem N7 : PE X (.Dict [] [] pos) X9 := fun pins s σ H Q I h =>
 wpAny_Dict_empty ⟨.ref s.heap.objs.size, _, I.laid (a := s.heap.objs.size) (o := .dK []) (t' := s.toks) (fun _ _ q => aiR _ q) (aiH _) (N6 s.heap I.big), rfl, h _ (I.dw.fresh (aiH _))⟩
end
section
variable {X : Cx} {pins : List (Addr × Obj)} {σ : St} {H : Hp} {s : Shared} {a : Addr} {y d : V} {u r : Value} {o : Option V} {A : Around} {E : Value -> Shared -> Prop}
end
section
variable {X : Cx} {o e f : Expr} {apos zj : Pos} {td ty tx : TE}
end
section
variable {X : Cx} {pins : List (Addr × Obj)} {σ : St} {H : Hp} {s : Shared} {a : Addr} {aY : List (Key × V)} {A : Around} {E : Value -> Shared -> Prop}
theorem N8 {Q : Value -> Shared -> Prop} (I : Inv X pins σ H s) (e : Rd H a (.dK aY)) (h : ∀ p s', H p = none -> Inv X pins σ (upd H p (.dK aY)) s' -> Q (.ref p) s') : wpAny (model X.prog X.w) A (call (.type "dict") [.ref a]) Q E s := by
 obtain ⟨z, hd, vs, rel, dd⟩ := Ep I.dw e
 refine kt_call_dict hd dd (by rw [← rel.length]; exact z) fun h' dd' hs => ?_
 refine h _ _ (I.dw.fresh (aiH _)) (I.laid (a := s.heap.objs.size) (o := .dK aY) (t' := s.toks) (fun b q hq => ?_) (aiH _) (N5 z (ajR.mpr (akr (aja I.big))) rel dd'))
 exact (hs.2 b (aja (aiX hq))).trans (aiR _ hq)
end
section
variable {X : Cx} {pins : List (Addr × Obj)} {σ : St} {H : Hp} {s : Shared} {a : Addr} {y : V} {u : Value} {A : Around} {E : Value -> Shared -> Prop}
end
end L2
namespace L3
open PySem PySem.Spec PyProof.Rows L2
inductive D where
 | non | bl (b : Bool) | int (i : Int) | str (x : Str)
 | tup (ds : List D) | lst (ds : List D) | ins (c : Str) (fs : List (Str × D)) | jC (aY : List (Key × D))
 | dct (aY : List (List Key × D))
 | any
 | val (v : V)
inductive T where
 | sh (d : D) | tup (ts : List T) | lst (ts : List T) | ins (c : Str) (fs : List (Str × T)) | jC (aY : List (Key × D)) | dct (aY : List (List Key × T))
 | pin (x : Addr) (t : T)
mutual
noncomputable def T.dQ : T -> D
 | .sh d => d
 | .tup ts => .tup (dD ts)
 | .lst ts => .lst (dD ts)
 | .ins c fs => .ins c (qD fs)
 | .jC aY => .jC aY
 | .dct aY => .dct (N9 aY)
 | .pin _ t => t.dQ
noncomputable def T.dD : List T -> List D
 | [] => []
 | t :: ts => t.dQ :: T.dD ts
noncomputable def T.qD : List (Str × T) -> List (Str × D)
 | [] => []
 | (x, t) :: fs => (x, t.dQ) :: T.qD fs
noncomputable def T.N9 : List (List Key × T) -> List (List Key × D)
 | [] => []
 | (x, t) :: fs => (x, t.dQ) :: T.N9 fs
end
variable (K : PySem.W.Frag) (CL : Str -> Addr)
mutual
inductive bR (Z : Hp) : D -> V -> Prop where
 | non : bR Z .non .non
 | bl (b : Bool) : bR Z (.bl b) (.bl b)
 | int (i : Int) : bR Z (.int i) (.int i)
 | str (x : Str) : bR Z (.str x) (.str x)
 | any (v : V) : bR Z .any v
 | val (v : V) : bR Z (.val v) v
 | tup {a : Addr} {vs : List V} {ds : List D} : rS K Z a vs -> aK Z ds vs -> bR Z (.tup ds) (.ref a)
 | lst {a : Addr} {vs : List V} {ds : List D} : nS K Z a vs -> aK Z ds vs -> bR Z (.lst ds) (.ref a)
 | ins {a dx : Addr} {c : Str} {gs : List (Str × V)} {fs : List (Str × D)} : Z a = some (.ins (CL c) dx gs) -> nY Z fs gs -> bR Z (.ins c fs) (.ref a)
 | jC {a : Addr} {gs : List (Key × V)} {fs : List (Key × D)} : Z a = some (.dK gs) -> bU Z fs gs -> bR Z (.jC fs) (.ref a)
 | dct {a : Addr} {gs : List (List Key × V)} {fs : List (List Key × D)} : Z a = some (.dT gs) -> uU Z fs gs -> bR Z (.dct fs) (.ref a)
inductive aK (Z : Hp) : List D -> List V -> Prop where
 | nil : aK Z [] []
 | cons {d : D} {v : V} {ds : List D} {vs : List V} : bR Z d v -> aK Z ds vs -> aK Z (d :: ds) (v :: vs)
inductive nY (Z : Hp) : List (Str × D) -> List (Str × V) -> Prop where
 | nil : nY Z [] []
 | cons {x : Str} {d : D} {v : V} {ds : List (Str × D)} {vs : List (Str × V)} : bR Z d v -> nY Z ds vs -> nY Z ((x, d) :: ds) ((x, v) :: vs)
inductive bU (Z : Hp) : List (Key × D) -> List (Key × V) -> Prop where
 | nil : bU Z [] []
 | cons {x : Key} {d : D} {v : V} {ds : List (Key × D)} {vs : List (Key × V)} : bR Z d v -> bU Z ds vs -> bU Z ((x, d) :: ds) ((x, v) :: vs)
inductive uU (Z : Hp) : List (List Key × D) -> List (List Key × V) -> Prop where
 | nil : uU Z [] []
 | cons {x : List Key} {d : D} {v : V} {ds : List (List Key × D)} {vs : List (List Key × V)} : bR Z d v -> uU Z ds vs -> uU Z ((x, d) :: ds) ((x, v) :: vs)
end
mutual
inductive cW (H Z : Hp) : T -> V -> List Addr -> Prop where
 | sh {d : D} {v : V} : bR K CL Z d v -> cW H Z (.sh d) v []
 | tup {a : Addr} {vs : List V} {ts : List T} {fp : List Addr} : Z a = some (.tup vs) -> aZ H Z ts vs fp -> cW H Z (.tup ts) (.ref a) fp
 | lst {a : Addr} {vs : List V} {ts : List T} {fp : List Addr} : H a = some (.lst vs) -> aZ H Z ts vs fp -> cW H Z (.lst ts) (.ref a) (a :: fp)
 | ins {a dx : Addr} {c : Str} {gs : List (Str × V)} {fs : List (Str × T)} {fp : List Addr} : H a = some (.ins (CL c) dx gs) -> dS H Z fs gs fp -> cW H Z (.ins c fs) (.ref a) (a :: fp)
 | jC {a : Addr} {gs : List (Key × V)} {aY : List (Key × D)} : H a = some (.dK gs) -> bU K CL Z aY gs -> cW H Z (.jC aY) (.ref a) [a]
 | dct {a : Addr} {gs : List (List Key × V)} {aY : List (List Key × T)} {fp : List Addr} : H a = some (.dT gs) -> uV H Z aY gs fp -> cW H Z (.dct aY) (.ref a) (a :: fp)
 | pin {x : Addr} {t : T} {fp : List Addr} : cW H Z t (.ref x) fp -> cW H Z (.pin x t) (.ref x) fp
inductive aZ (H Z : Hp) : List T -> List V -> List Addr -> Prop where
 | nil : aZ H Z [] [] []
 | cons {t : T} {v : V} {ts : List T} {vs : List V} {fp gp : List Addr} : cW H Z t v fp -> aZ H Z ts vs gp -> aZ H Z (t :: ts) (v :: vs) (fp ++ gp)
inductive dS (H Z : Hp) : List (Str × T) -> List (Str × V) -> List Addr -> Prop where
 | nil : dS H Z [] [] []
 | cons {x : Str} {t : T} {v : V} {ts : List (Str × T)} {vs : List (Str × V)} {fp gp : List Addr} : cW H Z t v fp -> dS H Z ts vs gp -> dS H Z ((x, t) :: ts) ((x, v) :: vs) (fp ++ gp)
inductive uV (H Z : Hp) : List (List Key × T) -> List (List Key × V) -> List Addr -> Prop where
 | nil : uV H Z [] [] []
 | cons {x : List Key} {t : T} {v : V} {ts : List (List Key × T)} {vs : List (List Key × V)} {fp gp : List Addr} : cW H Z t v fp -> uV H Z ts vs gp -> uV H Z ((x, t) :: ts) ((x, v) :: vs) (fp ++ gp)
end
inductive fX (H Z : Hp) : List (Option T) -> L2.St -> List Addr -> Prop where
 | nil : fX H Z [] [] []
 | skip {o : Option V} {δ : List (Option T)} {σ : L2.St} {fp : List Addr} : fX H Z δ σ fp -> fX H Z (none :: δ) (o :: σ) fp
 | cons {t : T} {v : V} {δ : List (Option T)} {σ : L2.St} {fp gp : List Addr} : cW K CL H Z t v fp -> fX H Z δ σ gp -> fX H Z (some t :: δ) (some v :: σ) (fp ++ gp)
section
variable {K : PySem.W.Frag} {CL : Str -> Addr}
theorem aH.Lb {H H' : Hp} {a : Addr} {xs : List V} (e : aH H H') (h : rS K H a xs) : rS K H' a xs := by
 rcases h with (h | ⟨o, h⟩) | h
 . exact .inl (.inl (e _ _ h))
 . exact .inl (.inr ⟨o, e _ _ h⟩)
 . exact .inr h
theorem bR.mono {Z Z' : Hp} (e : aH Z Z') {d : D} {v : V} (h : bR K CL Z d v) : bR K CL Z' d v :=
 bR.rec (motive_1 := fun d v _ => bR K CL Z' d v) (motive_2 := fun d v _ => aK K CL Z' d v) (motive_3 := fun d v _ => nY K CL Z' d v) (motive_4 := fun d v _ => bU K CL Z' d v) (motive_5 := fun d v _ => uU K CL Z' d v)
   .non .bl .int .str .any .val (fun h _ r => .tup (aH.Lb e h) r) (fun h _ r => .lst (e.seq h) r) (fun h _ r => .ins (e _ _ h) r) (fun h _ r => .jC (e _ _ h) r) (fun h _ r => .dct (e _ _ h) r) .nil (fun _ _ h r => .cons h r) .nil (fun _ _ h r => .cons h r) .nil (fun _ _ h r => .cons h r) .nil (fun _ _ h r => .cons h r) h
theorem aK.mono {Z Z' : Hp} (e : aH Z Z') {d : List D} {v : List V} (h : aK K CL Z d v) : aK K CL Z' d v :=
 aK.rec (motive_1 := fun d v _ => bR K CL Z' d v) (motive_2 := fun d v _ => aK K CL Z' d v) (motive_3 := fun d v _ => nY K CL Z' d v) (motive_4 := fun d v _ => bU K CL Z' d v) (motive_5 := fun d v _ => uU K CL Z' d v)
   .non .bl .int .str .any .val (fun h _ r => .tup (aH.Lb e h) r) (fun h _ r => .lst (e.seq h) r) (fun h _ r => .ins (e _ _ h) r) (fun h _ r => .jC (e _ _ h) r) (fun h _ r => .dct (e _ _ h) r) .nil (fun _ _ h r => .cons h r) .nil (fun _ _ h r => .cons h r) .nil (fun _ _ h r => .cons h r) .nil (fun _ _ h r => .cons h r) h
theorem bU.mono {Z Z' : Hp} (e : aH Z Z') {d : List (Key × D)} {v : List (Key × V)} (h : bU K CL Z d v) : bU K CL Z' d v :=
 bU.rec (motive_1 := fun d v _ => bR K CL Z' d v) (motive_2 := fun d v _ => aK K CL Z' d v) (motive_3 := fun d v _ => nY K CL Z' d v) (motive_4 := fun d v _ => bU K CL Z' d v) (motive_5 := fun d v _ => uU K CL Z' d v)
   .non .bl .int .str .any .val (fun h _ r => .tup (aH.Lb e h) r) (fun h _ r => .lst (e.seq h) r) (fun h _ r => .ins (e _ _ h) r) (fun h _ r => .jC (e _ _ h) r) (fun h _ r => .dct (e _ _ h) r) .nil (fun _ _ h r => .cons h r) .nil (fun _ _ h r => .cons h r) .nil (fun _ _ h r => .cons h r) .nil (fun _ _ h r => .cons h r) h
theorem cW.mono {H H' Z Z' : Hp} (e : aH Z Z') {t : T} {v : V} {fp : List Addr} (k : ∀ a ∈ fp, H' a = H a) (h : cW K CL H Z t v fp) : cW K CL H' Z' t v fp :=
 cW.rec (motive_1 := fun t v fp _ => (∀ a ∈ fp, H' a = H a) -> cW K CL H' Z' t v fp) (motive_2 := fun t v fp _ => (∀ a ∈ fp, H' a = H a) -> aZ K CL H' Z' t v fp) (motive_3 := fun t v fp _ => (∀ a ∈ fp, H' a = H a) -> dS K CL H' Z' t v fp) (motive_4 := fun t v fp _ => (∀ a ∈ fp, H' a = H a) -> uV K CL H' Z' t v fp)
   (fun h _ => .sh (h.mono e)) (fun h _ r k => .tup (e _ _ h) (r k)) (fun h _ r k => .lst ((k _ aiF).trans h) (r fun a ha => k a (aiE _ ha))) (fun h _ r k => .ins ((k _ aiF).trans h) (r fun a ha => k a (aiE _ ha))) (fun h f k => .jC ((k _ aiF).trans h) (bU.mono e f)) (fun h _ r k => .dct ((k _ aiF).trans h) (r fun a ha => k a (aiE _ ha))) (fun _ r k => .pin (r k)) (fun _ => .nil) (fun _ _ h r k => .cons (h fun a ha => k a (aiP _ ha)) (r fun a ha => k a (aiD _ ha))) (fun _ => .nil) (fun _ _ h r k => .cons (h fun a ha => k a (aiP _ ha)) (r fun a ha => k a (aiD _ ha))) (fun _ => .nil) (fun _ _ h r k => .cons (h fun a ha => k a (aiP _ ha)) (r fun a ha => k a (aiD _ ha))) h k
theorem aZ.mono {H H' Z Z' : Hp} (e : aH Z Z') {t : List T} {v : List V} {fp : List Addr} (k : ∀ a ∈ fp, H' a = H a) (h : aZ K CL H Z t v fp) : aZ K CL H' Z' t v fp :=
 aZ.rec (motive_1 := fun t v fp _ => (∀ a ∈ fp, H' a = H a) -> cW K CL H' Z' t v fp) (motive_2 := fun t v fp _ => (∀ a ∈ fp, H' a = H a) -> aZ K CL H' Z' t v fp) (motive_3 := fun t v fp _ => (∀ a ∈ fp, H' a = H a) -> dS K CL H' Z' t v fp) (motive_4 := fun t v fp _ => (∀ a ∈ fp, H' a = H a) -> uV K CL H' Z' t v fp)
   (fun h _ => .sh (h.mono e)) (fun h _ r k => .tup (e _ _ h) (r k)) (fun h _ r k => .lst ((k _ aiF).trans h) (r fun a ha => k a (aiE _ ha))) (fun h _ r k => .ins ((k _ aiF).trans h) (r fun a ha => k a (aiE _ ha))) (fun h f k => .jC ((k _ aiF).trans h) (bU.mono e f)) (fun h _ r k => .dct ((k _ aiF).trans h) (r fun a ha => k a (aiE _ ha))) (fun _ r k => .pin (r k)) (fun _ => .nil) (fun _ _ h r k => .cons (h fun a ha => k a (aiP _ ha)) (r fun a ha => k a (aiD _ ha))) (fun _ => .nil) (fun _ _ h r k => .cons (h fun a ha => k a (aiP _ ha)) (r fun a ha => k a (aiD _ ha))) (fun _ => .nil) (fun _ _ h r k => .cons (h fun a ha => k a (aiP _ ha)) (r fun a ha => k a (aiD _ ha))) h k
theorem dS.mono {H H' Z Z' : Hp} (e : aH Z Z') {t : List (Str × T)} {v : List (Str × V)} {fp : List Addr} (k : ∀ a ∈ fp, H' a = H a) (h : dS K CL H Z t v fp) : dS K CL H' Z' t v fp :=
 dS.rec (motive_1 := fun t v fp _ => (∀ a ∈ fp, H' a = H a) -> cW K CL H' Z' t v fp) (motive_2 := fun t v fp _ => (∀ a ∈ fp, H' a = H a) -> aZ K CL H' Z' t v fp) (motive_3 := fun t v fp _ => (∀ a ∈ fp, H' a = H a) -> dS K CL H' Z' t v fp) (motive_4 := fun t v fp _ => (∀ a ∈ fp, H' a = H a) -> uV K CL H' Z' t v fp)
   (fun h _ => .sh (h.mono e)) (fun h _ r k => .tup (e _ _ h) (r k)) (fun h _ r k => .lst ((k _ aiF).trans h) (r fun a ha => k a (aiE _ ha))) (fun h _ r k => .ins ((k _ aiF).trans h) (r fun a ha => k a (aiE _ ha))) (fun h f k => .jC ((k _ aiF).trans h) (bU.mono e f)) (fun h _ r k => .dct ((k _ aiF).trans h) (r fun a ha => k a (aiE _ ha))) (fun _ r k => .pin (r k)) (fun _ => .nil) (fun _ _ h r k => .cons (h fun a ha => k a (aiP _ ha)) (r fun a ha => k a (aiD _ ha))) (fun _ => .nil) (fun _ _ h r k => .cons (h fun a ha => k a (aiP _ ha)) (r fun a ha => k a (aiD _ ha))) (fun _ => .nil) (fun _ _ h r k => .cons (h fun a ha => k a (aiP _ ha)) (r fun a ha => k a (aiD _ ha))) h k
theorem cW.there {H Z : Hp} {t : T} {v : V} {fp : List Addr} (h : cW K CL H Z t v fp) : ∀ a ∈ fp, ∃ o, H a = some o :=
 cW.rec (motive_1 := fun t v fp _ => ∀ a ∈ fp, ∃ o, H a = some o) (motive_2 := fun t v fp _ => ∀ a ∈ fp, ∃ o, H a = some o) (motive_3 := fun t v fp _ => ∀ a ∈ fp, ∃ o, H a = some o) (motive_4 := fun t v fp _ => ∀ a ∈ fp, ∃ o, H a = some o)
   (fun _ a ha => absurd ha ajp) (fun _ _ r => r) (fun h _ r a ha => (aiN.mp ha).elim (fun q => ⟨_, q ▸ h⟩) (r a)) (fun h _ r a ha => (aiN.mp ha).elim (fun q => ⟨_, q ▸ h⟩) (r a)) (fun h _ a ha => (aiN.mp ha).elim (fun q => ⟨_, q ▸ h⟩) (fun q => absurd q ajp)) (fun h _ r a ha => (aiN.mp ha).elim (fun q => ⟨_, q ▸ h⟩) (r a)) (fun _ r => r) (fun a ha => absurd ha ajp) (fun _ _ h r a ha => (aiO.mp ha).elim (h a) (r a)) (fun a ha => absurd ha ajp) (fun _ _ h r a ha => (aiO.mp ha).elim (h a) (r a)) (fun a ha => absurd ha ajp) (fun _ _ h r a ha => (aiO.mp ha).elim (h a) (r a)) h
theorem aZ.there {H Z : Hp} {t : List T} {v : List V} {fp : List Addr} (h : aZ K CL H Z t v fp) : ∀ a ∈ fp, ∃ o, H a = some o :=
 aZ.rec (motive_1 := fun t v fp _ => ∀ a ∈ fp, ∃ o, H a = some o) (motive_2 := fun t v fp _ => ∀ a ∈ fp, ∃ o, H a = some o) (motive_3 := fun t v fp _ => ∀ a ∈ fp, ∃ o, H a = some o) (motive_4 := fun t v fp _ => ∀ a ∈ fp, ∃ o, H a = some o)
   (fun _ a ha => absurd ha ajp) (fun _ _ r => r) (fun h _ r a ha => (aiN.mp ha).elim (fun q => ⟨_, q ▸ h⟩) (r a)) (fun h _ r a ha => (aiN.mp ha).elim (fun q => ⟨_, q ▸ h⟩) (r a)) (fun h _ a ha => (aiN.mp ha).elim (fun q => ⟨_, q ▸ h⟩) (fun q => absurd q ajp)) (fun h _ r a ha => (aiN.mp ha).elim (fun q => ⟨_, q ▸ h⟩) (r a)) (fun _ r => r) (fun a ha => absurd ha ajp) (fun _ _ h r a ha => (aiO.mp ha).elim (h a) (r a)) (fun a ha => absurd ha ajp) (fun _ _ h r a ha => (aiO.mp ha).elim (h a) (r a)) (fun a ha => absurd ha ajp) (fun _ _ h r a ha => (aiO.mp ha).elim (h a) (r a)) h
theorem cW.dQ {H Z Z' : Hp} (e : aH Z Z') {t : T} {v : V} {fp : List Addr} (k : ∀ a ∈ fp, Z' a = H a) (h : cW K CL H Z t v fp) : bR K CL Z' t.dQ v :=
 cW.rec (motive_1 := fun t v fp _ => (∀ a ∈ fp, Z' a = H a) -> bR K CL Z' t.dQ v) (motive_2 := fun t v fp _ => (∀ a ∈ fp, Z' a = H a) -> aK K CL Z' (T.dD t) v) (motive_3 := fun t v fp _ => (∀ a ∈ fp, Z' a = H a) -> nY K CL Z' (T.qD t) v) (motive_4 := fun t v fp _ => (∀ a ∈ fp, Z' a = H a) -> uU K CL Z' (T.N9 t) v)
   (fun h _ => by rw [T.dQ]; exact h.mono e) (fun h _ r k => by rw [T.dQ]; exact .tup (rS.of (e _ _ h)) (r k)) (fun h _ r k => by rw [T.dQ]; exact .lst (nS.of ((k _ aiF).trans h)) (r fun a ha => k a (aiE _ ha))) (fun h _ r k => by rw [T.dQ]; exact .ins ((k _ aiF).trans h) (r fun a ha => k a (aiE _ ha))) (fun h f k => by rw [T.dQ]; exact .jC ((k _ aiF).trans h) (bU.mono e f)) (fun h _ r k => by rw [T.dQ]; exact .dct ((k _ aiF).trans h) (r fun a ha => k a (aiE _ ha))) (fun _ r k => by rw [T.dQ]; exact r k) (fun _ => by rw [T.dD]; exact .nil) (fun _ _ h r k => by rw [T.dD]; exact .cons (h fun a ha => k a (aiP _ ha)) (r fun a ha => k a (aiD _ ha))) (fun _ => by rw [T.qD]; exact .nil) (fun _ _ h r k => by rw [T.qD]; exact .cons (h fun a ha => k a (aiP _ ha)) (r fun a ha => k a (aiD _ ha))) (fun _ => by rw [T.N9]; exact .nil) (fun _ _ h r k => by rw [T.N9]; exact .cons (h fun a ha => k a (aiP _ ha)) (r fun a ha => k a (aiD _ ha))) h k
theorem aK.ind {Z : Hp} {P : List D -> List V -> Prop} (n : P [] []) (c : ∀ {d : D} {v : V} {ds : List D} {vs : List V}, bR K CL Z d v -> aK K CL Z ds vs -> P ds vs -> P (d :: ds) (v :: vs)) {ds : List D} {vs : List V} (h : aK K CL Z ds vs) : P ds vs :=
 aK.rec (motive_1 := fun _ _ _ => True) (motive_2 := fun d v _ => P d v) (motive_3 := fun _ _ _ => True) (motive_4 := fun _ _ _ => True) (motive_5 := fun _ _ _ => True)
   trivial (fun _ => trivial) (fun _ => trivial) (fun _ => trivial) (fun _ => trivial) (fun _ => trivial) (fun _ _ _ => trivial) (fun _ _ _ => trivial) (fun _ _ _ => trivial) (fun _ _ _ => trivial) (fun _ _ _ => trivial) n (fun a b _ i => c a b i) trivial (fun _ _ _ _ => trivial) trivial (fun _ _ _ _ => trivial) trivial (fun _ _ _ _ => trivial) h
theorem bU.ind {Z : Hp} {P : List (Key × D) -> List (Key × V) -> Prop} (n : P [] []) (c : ∀ {x : Key} {d : D} {v : V} {ds : List (Key × D)} {vs : List (Key × V)}, bR K CL Z d v -> bU K CL Z ds vs -> P ds vs -> P ((x, d) :: ds) ((x, v) :: vs)) {ds : List (Key × D)} {vs : List (Key × V)} (h : bU K CL Z ds vs) : P ds vs :=
 bU.rec (motive_1 := fun _ _ _ => True) (motive_2 := fun _ _ _ => True) (motive_3 := fun _ _ _ => True) (motive_4 := fun d v _ => P d v) (motive_5 := fun _ _ _ => True)
   trivial (fun _ => trivial) (fun _ => trivial) (fun _ => trivial) (fun _ => trivial) (fun _ => trivial) (fun _ _ _ => trivial) (fun _ _ _ => trivial) (fun _ _ _ => trivial) (fun _ _ _ => trivial) (fun _ _ _ => trivial) trivial (fun _ _ _ _ => trivial) trivial (fun _ _ _ _ => trivial) n (fun a b _ i => c a b i) trivial (fun _ _ _ _ => trivial) h
theorem aZ.ind {H Z : Hp} {P : List T -> List V -> List Addr -> Prop} (n : P [] [] []) (c : ∀ {t : T} {v : V} {ts : List T} {vs : List V} {fp gp : List Addr}, cW K CL H Z t v fp -> aZ K CL H Z ts vs gp -> P ts vs gp -> P (t :: ts) (v :: vs) (fp ++ gp)) {ts : List T} {vs : List V} {fp : List Addr} (h : aZ K CL H Z ts vs fp) : P ts vs fp :=
 aZ.rec (motive_1 := fun _ _ _ _ => True) (motive_2 := fun d v f _ => P d v f) (motive_3 := fun _ _ _ _ => True) (motive_4 := fun _ _ _ _ => True)
   (fun _ => trivial) (fun _ _ _ => trivial) (fun _ _ _ => trivial) (fun _ _ _ => trivial) (fun _ _ => trivial) (fun _ _ _ => trivial) (fun _ _ => trivial) n (fun a b _ i => c a b i) trivial (fun _ _ _ _ => trivial) trivial (fun _ _ _ _ => trivial) h
theorem dS.ind {H Z : Hp} {P : List (Str × T) -> List (Str × V) -> List Addr -> Prop} (n : P [] [] []) (c : ∀ {x : Str} {t : T} {v : V} {ts : List (Str × T)} {vs : List (Str × V)} {fp gp : List Addr}, cW K CL H Z t v fp -> dS K CL H Z ts vs gp -> P ts vs gp -> P ((x, t) :: ts) ((x, v) :: vs) (fp ++ gp)) {ts : List (Str × T)} {vs : List (Str × V)} {fp : List Addr} (h : dS K CL H Z ts vs fp) : P ts vs fp :=
 dS.rec (motive_1 := fun _ _ _ _ => True) (motive_2 := fun _ _ _ _ => True) (motive_3 := fun d v f _ => P d v f) (motive_4 := fun _ _ _ _ => True)
   (fun _ => trivial) (fun _ _ _ => trivial) (fun _ _ _ => trivial) (fun _ _ _ => trivial) (fun _ _ => trivial) (fun _ _ _ => trivial) (fun _ _ => trivial) trivial (fun _ _ _ _ => trivial) n (fun a b _ i => c a b i) trivial (fun _ _ _ _ => trivial) h
theorem aK.length {Z : Hp} {d : List D} {v : List V} (h : aK K CL Z d v) : d.length = v.length :=
 aK.ind (P := fun d v => d.length = v.length) rfl (fun _ _ i => congrArg (· + 1) i) h
theorem aZ.length {H Z : Hp} {d : List T} {v : List V} {fp : List Addr} (h : aZ K CL H Z d v fp) : d.length = v.length :=
 aZ.ind (P := fun d v _ => d.length = v.length) rfl (fun _ _ i => congrArg (· + 1) i) h
theorem aK.get {Z : Hp} : ∀ {ds : List D} {vs : List V} {i : Nat} {d : D}, aK K CL Z ds vs -> ds[i]? = some d -> ∃ v, vs[i]? = some v /\ bR K CL Z d v
 | _, _, _, _, .nil, e => by simp at e
 | _, _, 0, _, .cons r _, e => by simp at e; subst e; exact ⟨_, rfl, r⟩
 | _, _, i + 1, d, .cons _ t, e => by
   obtain ⟨u, h1, h2⟩ := aK.get (i := i) (d := d) t (by simpa using e)
   exact ⟨u, by simpa using h1, h2⟩
theorem aK.Oa {Z : Hp} : ∀ {ds : List D} {vs : List V} {i : Nat} {v : V}, aK K CL Z ds vs -> vs[i]? = some v -> ∃ d, ds[i]? = some d /\ bR K CL Z d v
 | _, _, _, _, .nil, e => by simp at e
 | _, _, 0, _, .cons r _, e => by simp at e; subst e; exact ⟨_, rfl, r⟩
 | _, _, i + 1, d, .cons _ t, e => by
   obtain ⟨u, h1, h2⟩ := aK.Oa (i := i) (v := d) t (by simpa using e)
   exact ⟨u, by simpa using h1, h2⟩
theorem fX.get {H Z : Hp} : ∀ {δ : List (Option T)} {σ : L2.St} {fp : List Addr} {i : Nat} {t : T}, fX K CL H Z δ σ fp -> δ[i]? = some (some t) →
   ∃ v f1 f2 f3, σ[i]? = some (some v) /\ fp = f1 ++ (f2 ++ f3) /\ cW K CL H Z t v f2 ∧
     (∀ {H' Z' : Hp} {t' : T} {v' : V} {g : List Addr}, aH Z Z' -> (∀ a ∈ f1 ++ f3, H' a = H a) -> cW K CL H' Z' t' v' g -> fX K CL H' Z' (δ.set i (some t')) (σ.set i (some v')) (f1 ++ (g ++ f3))) ∧
     (∀ {o : Option V}, fX K CL H Z (δ.set i none) (σ.set i o) (f1 ++ f3)) := by
 intro δ σ fp i t h
 have mono : ∀ {H H' Z Z' : Hp} {δ : List (Option T)} {σ : L2.St} {fp : List Addr}, aH Z Z' -> (∀ a ∈ fp, H' a = H a) -> fX K CL H Z δ σ fp -> fX K CL H' Z' δ σ fp := by
   intro H H' Z Z' δ σ fp e k r
   induction r with
   | nil => exact .nil
   | skip _ ih => exact .skip (ih k)
   | cons r _ ih => exact .cons (r.mono e fun a ha => k a (aiP _ ha)) (ih fun a ha => k a (aiD _ ha))
 induction h generalizing i with
 | nil => intro e; simp at e
 | @skip o δ σ fp r ih =>
   cases i with
   | zero => intro e; simp at e
   | succ i =>
     intro e
     obtain ⟨v, f1, f2, f3, h1, h2, h3, h4, h5⟩ := ih (i := i) (by simpa using e)
     exact ⟨v, f1, f2, f3, by simpa using h1, h2, h3, fun e k q => .skip (h4 e k q), .skip h5⟩
 | @cons t0 v0 δ σ fp gp r0 r ih =>
   cases i with
   | zero =>
     intro e
     simp at e
     subst e
     refine ⟨v0, [], fp, gp, rfl, rfl, r0, fun {H' Z' t' v' g} e k q => fX.cons (fp := g) (gp := gp) q (mono (fp := gp) e (fun a ha => k a (by simpa using ha)) r), .skip (by simpa using r)⟩
   | succ i =>
     intro e
     obtain ⟨v, f1, f2, f3, h1, h2, h3, h4, h5⟩ := ih (i := i) (by simpa using e)
     refine ⟨v, fp ++ f1, f2, f3, by simpa using h1, by rw [h2, List.append_assoc], h3, fun {H' Z' t' v' g} e k q => ?_, fun {o} => ?_⟩
     . rw [aiM]
       exact .cons (r0.mono e fun a ha => k a (by simp [ha])) (h4 e (fun a ha => k a (by rw [aiM]; exact aiD _ ha)) q)
     . rw [aiM]
       exact .cons r0 h5
theorem fX.mono {H H' Z Z' : Hp} {δ : List (Option T)} {σ : L2.St} {fp : List Addr} (e : aH Z Z') (k : ∀ a ∈ fp, H' a = H a) (r : fX K CL H Z δ σ fp) : fX K CL H' Z' δ σ fp := by
 induction r with
 | nil => exact .nil
 | skip _ ih => exact .skip (ih k)
 | cons r _ ih => exact .cons (r.mono e fun a ha => k a (aiP _ ha)) (ih fun a ha => k a (aiD _ ha))
theorem fX.there {H Z : Hp} {δ : List (Option T)} {σ : L2.St} {fp : List Addr} (r : fX K CL H Z δ σ fp) : ∀ a ∈ fp, ∃ o, H a = some o := by
 induction r with
 | nil => intro a ha; cases ha
 | skip _ ih => exact ih
 | cons r _ ih => exact fun a ha => (aiO.mp ha).elim (r.there a) (ih a)
theorem fX.put {H Z : Hp} {δ : List (Option T)} {σ : L2.St} {fp : List Addr} (r : fX K CL H Z δ σ fp) {t : T} {v : V} {g : List Addr} (q : cW K CL H Z t v g) :
   ∀ {i : Nat}, i < δ.length -> ∃ f, fX K CL H Z (δ.set i (some t)) (σ.set i (some v)) f /\ ∃ f', f'.Sublist fp /\ f.Perm (g ++ f') := by
 induction r with
 | nil => intro i hi; simp at hi
 | @skip o δ σ fp r ih =>
   intro i hi
   cases i with
   | zero => exact ⟨g ++ fp, .cons q r, fp, aje _, akz _⟩
   | succ i =>
     obtain ⟨f, h1, f', h2, h3⟩ := ih (i := i) (by simpa using hi)
     exact ⟨f, .skip h1, f', h2, h3⟩
 | @cons t0 v0 δ σ fp gp r0 r ih =>
   intro i hi
   cases i with
   | zero => exact ⟨g ++ gp, .cons q r, gp, ajO _ _, akz _⟩
   | succ i =>
     obtain ⟨f, h1, f', h2, h3⟩ := ih (i := i) (by simpa using hi)
     refine ⟨fp ++ f, .cons r0 h1, fp ++ f', aji (aje _) h2, ?_⟩
     refine (ajd fp h3).trans ?_
     rw [← aiM, ← aiM]
     exact List.Perm.append_right f' ajl
end
noncomputable def Bp (X : Cx) (e : Expr) : TE := fun σ H Q => ∀ (pins : List (Addr × Obj)) (s : Shared), Inv X pins σ H s -> wpAny (model X.prog X.w) X.A (eval e X.env) (EP X pins σ Q) X.xe s
noncomputable def Si (X : Cx) (e : Expr) : TT := fun σ H Q => ∀ (pins : List (Addr × Obj)) (s : Shared), Inv X pins σ H s -> wpAny (model X.prog X.w) X.A (isTrue e X.env (eval e X.env)) (TP X pins σ Q) X.xe s
noncomputable def Ob (X : Cx) (es : List Expr) : TA := fun σ H Q => ∀ (pos : Pos) (pins : List (Addr × Obj)) (s : Shared), Inv X pins σ H s -> wpAny (model X.prog X.w) X.A (spliced (backTo pos (starEach es X.env))) (AP X pins σ Q) X.xe s
noncomputable def Yb (X : Cx) (st : Stmt) : TS := fun D σ H => ∀ (pins : List (Addr × Obj)) (s : Shared), Inv X pins σ H s -> wpAny (model X.prog X.w) X.A (exec st X.env) (SP X pins D) X.xe s
noncomputable def Yc (X : Cx) (st : List Stmt) : TS := fun D σ H => ∀ (pins : List (Addr × Obj)) (s : Shared), Inv X pins σ H s -> wpAny (model X.prog X.w) X.A (execs st X.env) (SP X pins D) X.xe s
section
variable {X : Cx}
theorem eu {e : Expr} : PE X e (Bp X e) := fun pins s _ _ _ I h => h pins s I
theorem Yd {e : Expr} : PT X e (Si X e) := fun pins s _ _ _ I h => h pins s I
theorem M6 {e : List Expr} : PA X e (Ob X e) := fun pos pins s _ _ _ I h => h pos pins s I
theorem psS {e : Stmt} : PS X e (Yb X e) := fun pins s _ _ _ I h => h pins s I
theorem Sj {e : List Stmt} : GK X e (Yc X e) := fun pins s _ _ _ I h => h pins s I
theorem c6 {e : Expr} {t : TE} (h : PE X e t) {σ : L2.St} {H : Hp} {Q : VK} (q : t σ H Q) : Bp X e σ H Q := fun pins s I => h pins s σ H Q I q
theorem Bq {e : Expr} {t : TT} (h : PT X e t) {σ : L2.St} {H : Hp} {Q : Bool -> Hp -> Prop} (q : t σ H Q) : Si X e σ H Q := fun pins s I => h pins s σ H Q I q
theorem Lc {e : List Expr} {t : TA} (h : PA X e t) {σ : L2.St} {H : Hp} {Q : List V -> Hp -> Prop} (q : t σ H Q) : Ob X e σ H Q := fun pos pins s I => h pos pins s σ H Q I q
theorem tW {e : Stmt} {t : TS} (h : PS X e t) {σ : L2.St} {H : Hp} {D : Ends} (q : t D σ H) : Yb X e D σ H := fun pins s I => h pins s σ H D I q
theorem abS {e : List Stmt} {t : TS} (h : GK X e t) {σ : L2.St} {H : Hp} {D : Ends} (q : t D σ H) : Yc X e D σ H := fun pins s I => h pins s σ H D I q
end
noncomputable def notStar : Expr -> Bool
 | .Starred _ _ => false
 | _ => true
theorem bN {e : Expr} {es : List Expr} {env : Env} (h : notStar e = true) : starEach (e :: es) env = (false, eval e env) :: starEach es env := by
 cases e <;> first | rfl | (cases h)
structure Bx where
 B : Hp
 Z : Hp
noncomputable def jW : HO -> Bool
 | .tup _ => true
 | .dQ _ _ => true
 | _ => false
noncomputable def Es (x : Str) : Bool := x.cps[0]? == some 35
noncomputable def Ld (x : Str) : Str := ⟨x.cps.extract 1 x.cps.size⟩
noncomputable def n5 (CL : Str -> Addr) (Z : Hp) : Prop := ∀ x, Es x = true -> CL x ≠ 0 -> Z (CL x) = some (.tabs (Ld x))
structure bX (K : PySem.W.Frag) (CL : Str -> Addr) (b : Bx) (H Z : Hp) (δ : List (Option T)) (σ : L2.St) (ts : List T) (vs : List V) : Prop where
 rep : ∃ fp gp, fX K CL H Z δ σ fp /\ aZ K CL H Z ts vs gp /\ (fp ++ gp).Nodup /\ ∀ a ∈ fp ++ gp, Z a = none /\ b.B a = none
 bh : aH b.B H
 zz : aH b.Z Z
 zh : aH Z H
 new : ∀ a o, Z a = some o -> b.Z a = none -> b.B a = none
 tp : ∀ a o, H a = some o -> jW o = true -> Z a = some o
 tab : n5 CL b.Z
section
variable {K : PySem.W.Frag} {CL : Str -> Addr} {b : Bx} {H H' Z Z' : Hp} {δ δ' : List (Option T)} {σ σ' : L2.St} {ts ts' : List T} {vs vs' : List V} {t : T} {v : V}
theorem n5.mono {A B : Hp} (h : n5 CL A) (e : aH A B) : n5 CL B := fun x hx h0 => e _ _ (h x hx h0)
theorem bX.Ye (S : bX K CL b H Z δ σ ts vs) : n5 CL Z := S.tab.mono S.zz
theorem bX.Le (S : bX K CL b H Z δ σ ts vs) : n5 CL H := S.Ye.mono S.zh
theorem Yg {A B : Hp} (e : aH A B) {a : Addr} (h : B a = none) : A a = none := e.free h
theorem aH.upd {H : Hp} {p : Addr} {o : HO} (h : H p = none) : aH H (upd H p o) := fun b u e => by rw [aA (aL e h)]; exact e
theorem bX.view (S : bX K CL b H Z δ σ (t :: ts) (v :: vs)) : bR K CL H t.dQ v := by
 obtain ⟨fp, gp, _, r, _, _⟩ := S.rep
 cases r with
 | cons r _ => exact r.dQ S.zh fun _ _ => rfl
theorem bX.pop (S : bX K CL b H Z δ σ (t :: ts) (v :: vs)) : bX K CL b H Z δ σ ts vs := by
 obtain ⟨fp, gp, e, r, nd, k⟩ := S.rep
 cases r with
 | @cons _ _ _ _ f1 f2 r1 r2 =>
   refine ⟨⟨fp, f2, e, r2, nd.sublist (aji (aje _) (ajO _ _)), fun a ha => k a ?_⟩, S.bh, S.zz, S.zh, S.new, S.tp, S.tab⟩
   rcases aiO.mp ha with h | h
   . exact aiP _ h
   . exact aiD _ (aiD _ h)
theorem bX.push {d : D} (S : bX K CL b H Z δ σ ts vs) (r : bR K CL Z d v) : bX K CL b H Z δ σ (.sh d :: ts) (v :: vs) := by
 obtain ⟨fp, gp, e, r2, nd, k⟩ := S.rep
 exact ⟨⟨fp, [] ++ gp, e, .cons (.sh r) r2, nd, k⟩, S.bh, S.zz, S.zh, S.new, S.tp, S.tab⟩
theorem bX.G5 (S : bX K CL b H Z δ σ (t :: ts) (v :: vs)) : ∃ Z', aH Z Z' /\ bX K CL b H Z' δ σ (.sh t.dQ :: ts) (v :: vs) := by
 classical
 obtain ⟨fp, gp, e, r, nd, k⟩ := S.rep
 cases r with
 | @cons _ _ _ _ f1 f2 r1 r2 =>
   have nZ : ∀ a ∈ f1, Z a = none /\ b.B a = none := fun a ha => k a (aiD _ (aiP _ ha))
   have sz : aH Z (fun a => if a ∈ f1 then H a else Z a) := fun a o q => by
     by_cases ha : a ∈ f1
     . rw [(nZ a ha).1] at q; cases q
     . show (if a ∈ f1 then H a else Z a) = some o
       rw [aiG ha]; exact q
   have nd1 := ajt.mp nd
   have dj : ∀ a ∈ fp ++ f2, a ∉ f1 := fun a ha h1 => by
     rcases aiO.mp ha with h | h
     . exact nd1.2.2 a h a (aiP _ h1) rfl
     . exact (ajt.mp nd1.2.1).2.2 a h1 a h rfl
   refine ⟨fun a => if a ∈ f1 then H a else Z a, sz, ⟨⟨fp, [] ++ f2, e.mono sz (fun _ _ => rfl), .cons (.sh (r1.dQ sz fun a ha => aiI ha)) (r2.mono sz fun _ _ => rfl), ?_, fun a ha => ?_⟩, S.bh, S.zz.trans sz, fun a o q => ?_, fun a o q z => ?_, fun a o q i => ?_, S.tab⟩⟩
   . exact nd.sublist (aji (aje _) (ajO _ _))
   . have Oc : a ∈ fp ++ f2 := ha
     refine ⟨?_, (k a ?_).2⟩
     . show (if a ∈ f1 then H a else Z a) = none
       rw [aiG (dj a Oc)]
       refine (k a ?_).1
       rcases aiO.mp Oc with h | h
       . exact aiP _ h
       . exact aiD _ (aiD _ h)
     . rcases aiO.mp Oc with h | h
       . exact aiP _ h
       . exact aiD _ (aiD _ h)
   . have q' : (if a ∈ f1 then H a else Z a) = some o := q
     by_cases ha : a ∈ f1
     . rw [aiI ha] at q'; exact q'
     . rw [aiG ha] at q'; exact S.zh a o q'
   . have q' : (if a ∈ f1 then H a else Z a) = some o := q
     by_cases ha : a ∈ f1
     . exact (nZ a ha).2
     . rw [aiG ha] at q'; exact S.new a o q' z
   . exact sz a o (S.tp a o q i)
theorem bX.JK {i : Nat} (S : bX K CL b H Z δ σ ts vs) (hi : δ[i]? = some (some t)) : ∃ v Z', σ[i]? = some (some v) /\ aH Z Z' /\ bX K CL b H Z' (δ.set i (some (.sh t.dQ))) σ (.sh t.dQ :: ts) (v :: vs) := by
 classical
 obtain ⟨fp, gp, e, r, nd, k⟩ := S.rep
 obtain ⟨v, f1, f2, f3, hv, rR, rt, put, _⟩ := e.get hi
 subst rR
 have nZ : ∀ a ∈ f2, Z a = none /\ b.B a = none := fun a ha => k a (by simp [ha])
 have sz : aH Z (fun a => if a ∈ f2 then H a else Z a) := fun a o q => by
   by_cases ha : a ∈ f2
   . rw [(nZ a ha).1] at q; cases q
   . show (if a ∈ f2 then H a else Z a) = some o
     rw [aiG ha]; exact q
 have dj : ∀ a ∈ (f1 ++ f3) ++ gp, a ∉ f2 := fun a ha h2 => by
   have hp : ((f1 ++ (f2 ++ f3)) ++ gp).Perm (f2 ++ ((f1 ++ f3) ++ gp)) := by
     rw [← aiM, ← aiM]
     refine (List.perm_append_right_iff gp).mpr ?_
     rw [← aiM]
     exact (List.perm_append_right_iff f3).mpr ajl
   exact (ajt.mp (hp.nodup_iff.mp nd)).2.2 a h2 a ha rfl
 have rF : bR K CL (fun a => if a ∈ f2 then H a else Z a) t.dQ v := rt.dQ sz fun a ha => aiI ha
 have Yh : σ.set i (some v) = σ := by
   apply akc
   intro j
   rw [List.getElem?_set]
   split
   . rename_i h; subst h
     split
     . exact hv.symm
     . rename_i h2; rw [ako (by omega)]
   . rfl
 have e2 : fX K CL H (fun a => if a ∈ f2 then H a else Z a) (δ.set i (some (.sh t.dQ))) σ (f1 ++ ([] ++ f3)) := by
   have := put (H' := H) (t' := .sh t.dQ) (v' := v) (g := []) sz (fun _ _ => rfl) (.sh rF)
   rwa [Yh] at this
 refine ⟨v, fun a => if a ∈ f2 then H a else Z a, hv, sz, ⟨⟨f1 ++ ([] ++ f3), [] ++ gp, e2, .cons (.sh rF) (r.mono sz fun _ _ => rfl), ?_, fun a ha => ?_⟩, S.bh, S.zz.trans sz, fun a o q => ?_, fun a o q z => ?_, fun a o q i => sz a o (S.tp a o q i), S.tab⟩⟩
 . exact nd.sublist (aji (aji (aje _) (ajO _ _)) (aje _))
 . have Oc : a ∈ (f1 ++ f3) ++ gp := ha
   have hm : a ∈ (f1 ++ (f2 ++ f3)) ++ gp := by
     simp only [aiO] at Oc ⊢
     rcases Oc with (h | h) | h
     . exact .inl (.inl h)
     . exact .inl (.inr (.inr h))
     . exact .inr h
   refine ⟨?_, (k a hm).2⟩
   show (if a ∈ f2 then H a else Z a) = none
   rw [aiG (dj a Oc)]
   exact (k a hm).1
 . have q' : (if a ∈ f2 then H a else Z a) = some o := q
   by_cases ha : a ∈ f2
   . rw [aiI ha] at q'; exact q'
   . rw [aiG ha] at q'; exact S.zh a o q'
 . have q' : (if a ∈ f2 then H a else Z a) = some o := q
   by_cases ha : a ∈ f2
   . exact (nZ a ha).2
   . rw [aiG ha] at q'; exact S.new a o q' z
theorem bX.move {i : Nat} (S : bX K CL b H Z δ σ ts vs) (hi : δ[i]? = some (some t)) : ∃ v, σ[i]? = some (some v) /\ bX K CL b H Z (δ.set i none) σ (t :: ts) (v :: vs) := by
 obtain ⟨fp, gp, e, r, nd, k⟩ := S.rep
 obtain ⟨v, f1, f2, f3, hv, rR, rt, _, del⟩ := e.get hi
 subst rR
 have Yh : σ.set i (some v) = σ := by
   apply akc
   intro j
   rw [List.getElem?_set]
   split
   . rename_i h; subst h
     split
     . exact hv.symm
     . rename_i h2; rw [ako (by omega)]
   . rfl
 have hp : ((f1 ++ (f2 ++ f3)) ++ gp).Perm ((f1 ++ f3) ++ (f2 ++ gp)) := by
   have h1 : (f2 ++ f3).Perm (f3 ++ f2) := ajl
   have h2 := (ajd f1 h1).append_right gp
   simp only [aiM] at h2 ⊢
   exact h2
 refine ⟨v, hv, ⟨⟨f1 ++ f3, f2 ++ gp, ?_, .cons rt r, hp.nodup_iff.mp nd, fun a ha => k a (hp.mem_iff.mpr ha)⟩, S.bh, S.zz, S.zh, S.new, S.tp, S.tab⟩⟩
 have := del (o := some v)
 rwa [Yh] at this
theorem bX.look {i : Nat} (S : bX K CL b H Z δ σ ts vs) (hi : δ[i]? = some (some t)) : ∃ v, σ[i]? = some (some v) /\ bR K CL H t.dQ v := by
 obtain ⟨fp, gp, e, r, nd, k⟩ := S.rep
 obtain ⟨v, f1, f2, f3, hv, rR, rt, _, _⟩ := e.get hi
 exact ⟨v, hv, rt.dQ S.zh fun _ _ => rfl⟩
theorem bX.WD {i : Nat} {d : D} (S : bX K CL b H Z δ σ ts vs) (hi : δ[i]? = some (some (.sh d))) : ∃ v, σ[i]? = some (some v) /\ bR K CL Z d v := by
 obtain ⟨fp, gp, e, r, nd, k⟩ := S.rep
 obtain ⟨v, f1, f2, f3, hv, rR, rt, _, _⟩ := e.get hi
 cases rt with
 | sh h => exact ⟨v, hv, h⟩
theorem bX.set {i : Nat} (S : bX K CL b H Z δ σ (t :: ts) (v :: vs)) (hi : i < δ.length) : bX K CL b H Z (δ.set i (some t)) (σ.set i (some v)) ts vs := by
 obtain ⟨fp, gp, e, r, nd, k⟩ := S.rep
 cases r with
 | @cons _ _ _ _ f1 f2 r1 r2 =>
   obtain ⟨f, h1, f', h2, h3⟩ := e.put r1 hi
   have hp : (f ++ f2).Perm (f' ++ (f1 ++ f2)) := by
     refine (h3.append_right f2).trans ?_
     rw [← aiM]
     exact ajl.append_right f2
   have abU : (f' ++ (f1 ++ f2)).Sublist (fp ++ (f1 ++ f2)) := aji h2 (aje _)
   exact ⟨⟨f, f2, h1, r2, hp.nodup_iff.mpr (nd.sublist abU), fun a ha => k a (abU.subset (hp.mem_iff.mp ha))⟩, S.bh, S.zz, S.zh, S.new, S.tp, S.tab⟩
end
mutual
noncomputable def D.mG : D -> Bool
 | .tup ds => D.bV ds
 | .lst _ => false
 | .ins _ _ => false
 | .jC _ => false
 | .dct _ => false
 | .any => false
 | _ => true
noncomputable def D.bV : List D -> Bool
 | [] => true
 | d :: ds => d.mG && D.bV ds
end
mutual
noncomputable def T.clean : T -> Bool
 | .sh d => d.mG
 | .tup ts => T.iA ts
 | .lst ts => T.iA ts
 | .ins _ fs => T.bS fs
 | .jC aY => D.bV (aY.map (·.2))
 | .dct aY => T.Br aY
 | .pin _ t => t.clean
noncomputable def T.iA : List T -> Bool
 | [] => true
 | t :: ts => t.clean && T.iA ts
noncomputable def T.bS : List (Str × T) -> Bool
 | [] => true
 | (_, t) :: ts => t.clean && T.bS ts
noncomputable def T.Br : List (List Key × T) -> Bool
 | [] => true
 | (_, t) :: ts => t.clean && T.Br ts
end
noncomputable def cC (X : Cx) (CL : Str -> Addr) (b : Bx) (e : Expr) (δ : List (Option T)) (t : T) (δ' : List (Option T)) : Prop :=
 ∀ (H Z : Hp) (σ : L2.St) (ts : List T) (vs : List V) (Q : VK), bX X.K CL b H Z δ σ ts vs -> (∀ v H' Z', aH Z Z' -> aH H H' -> bX X.K CL b H' Z' δ' σ (t :: ts) (v :: vs) -> Q v H') -> Bp X e σ H Q
noncomputable def dz (X : Cx) (CL : Str -> Addr) (b : Bx) (e : Expr) (δ : List (Option T)) (d : D) (δ' : List (Option T)) : Prop :=
 ∀ (H Z : Hp) (σ : L2.St) (ts : List T) (vs : List V) (Q : VK), bX X.K CL b H Z δ σ ts vs -> (∀ v H' Z', aH Z Z' -> aH H H' -> bX X.K CL b H' Z' δ' σ ts vs -> bR X.K CL H' d v -> Q v H') -> Bp X e σ H Q
noncomputable def tO (X : Cx) (CL : Str -> Addr) (b : Bx) (e : Expr) (δ : List (Option T)) (p : Bool) (δ' : List (Option T)) : Prop :=
 ∀ (H Z : Hp) (σ : L2.St) (ts : List T) (vs : List V) (Q : Bool -> Hp -> Prop), bX X.K CL b H Z δ σ ts vs -> (∀ H' Z', aH Z Z' -> aH H H' -> bX X.K CL b H' Z' δ' σ ts vs -> Q p H') -> Si X e σ H Q
noncomputable def Lf (X : Cx) (CL : Str -> Addr) (b : Bx) (es : List Expr) (δ : List (Option T)) (tl : List T) (δ' : List (Option T)) : Prop :=
 ∀ (H Z : Hp) (σ : L2.St) (ts : List T) (vs : List V) (Q : List V -> Hp -> Prop), bX X.K CL b H Z δ σ ts vs →
   (∀ us H' Z', us.length = tl.length -> aH Z Z' -> aH H H' -> bX X.K CL b H' Z' δ' σ (tl.reverse ++ ts) (us.reverse ++ vs) -> Q us H') -> Ob X es σ H Q
noncomputable def Rx (X : Cx) (CL : Str -> Addr) (b : Bx) (es : List Expr) (δ : List (Option T)) (ds : List D) (δ' : List (Option T)) : Prop :=
 ∀ (H Z : Hp) (σ : L2.St) (ts : List T) (vs : List V) (Q : List V -> Hp -> Prop), bX X.K CL b H Z δ σ ts vs →
   (∀ us H' Z', aH Z Z' -> aH H H' -> bX X.K CL b H' Z' δ' σ ts vs -> aK X.K CL H' ds us -> Q us H') -> Ob X es σ H Q
structure c7 where
 nx : List (Option T) -> Prop
 rt : T -> List (Option T) -> Prop
 bk : List (Option T) -> Prop := fun _ => False
 ct : List (Option T) -> Prop := fun _ => False
structure Meets (K : PySem.W.Frag) (CL : Str -> Addr) (b : Bx) (Z : Hp) (ts : List T) (vs : List V) (D : c7) (E : Ends) : Prop where
 nx : ∀ δ' σ' H' Z', aH Z Z' -> bX K CL b H' Z' δ' σ' ts vs -> D.nx δ' -> E.nx σ' H'
 rt : ∀ t v H' Z' δ' σ', aH Z Z' -> bX K CL b H' Z' δ' σ' (t :: ts) (v :: vs) -> D.rt t δ' -> E.rt v H'
 bk : ∀ δ' σ' H' Z', aH Z Z' -> bX K CL b H' Z' δ' σ' ts vs -> D.bk δ' -> E.bk σ' H'
 ct : ∀ δ' σ' H' Z', aH Z Z' -> bX K CL b H' Z' δ' σ' ts vs -> D.ct δ' -> E.ct σ' H'
noncomputable def Ry (X : Cx) (CL : Str -> Addr) (b : Bx) (st : Stmt) (δ : List (Option T)) (D : c7) : Prop :=
 ∀ (H Z : Hp) (σ : L2.St) (ts : List T) (vs : List V) (E : Ends), bX X.K CL b H Z δ σ ts vs -> Meets X.K CL b Z ts vs D E -> Yb X st E σ H
noncomputable def fq (X : Cx) (CL : Str -> Addr) (b : Bx) (st : List Stmt) (δ : List (Option T)) (D : c7) : Prop :=
 ∀ (H Z : Hp) (σ : L2.St) (ts : List T) (vs : List V) (E : Ends), bX X.K CL b H Z δ σ ts vs -> Meets X.K CL b Z ts vs D E -> Yc X st E σ H
section
variable {K : PySem.W.Frag} {CL : Str -> Addr} {b : Bx} {H H' Z Z' : Hp} {δ δ' : List (Option T)} {σ σ' : L2.St} {ts ts' : List T} {vs vs' : List V} {t : T} {v : V}
theorem Meets.mono {D : c7} {E : Ends} (M : Meets K CL b Z ts vs D E) (e : aH Z Z') : Meets K CL b Z' ts vs D E :=
 ⟨fun _ _ _ _ s => M.nx _ _ _ _ (e.trans s), fun _ _ _ _ _ _ s => M.rt _ _ _ _ _ _ (e.trans s), fun _ _ _ _ s => M.bk _ _ _ _ (e.trans s), fun _ _ _ _ s => M.ct _ _ _ _ (e.trans s)⟩
theorem JL {a : Addr} {xs : List V} (zh : ∀ a o, H a = some o -> jW o = true -> Z a = some o) (h : rS K H a xs) : rS K Z a xs := by
 rcases h with (h | ⟨o, h⟩) | h
 . exact .inl (.inl (zh _ _ h rfl))
 . exact .inl (.inr ⟨o, zh _ _ h rfl⟩)
 . exact .inr h
theorem bR.mG (zh : ∀ a o, H a = some o -> jW o = true -> Z a = some o) {d : D} {v : V} (k : d.mG = true) (h : bR K CL H d v) : bR K CL Z d v :=
 bR.rec (motive_1 := fun d v _ => d.mG = true -> bR K CL Z d v) (motive_2 := fun d v _ => D.bV d = true -> aK K CL Z d v) (motive_3 := fun d v _ => True) (motive_4 := fun d v _ => True) (motive_5 := fun d v _ => True)
   (fun _ => .non) (fun b _ => .bl b) (fun b _ => .int b) (fun b _ => .str b) (fun _ k => by rw [D.mG] at k; cases k) (fun b _ => .val b) (fun h _ r k => .tup (JL zh h) (r (by rw [D.mG] at k; exact k))) (fun _ _ _ k => by rw [D.mG] at k; cases k) (fun _ _ _ k => by rw [D.mG] at k; cases k) (fun _ _ _ k => by rw [D.mG] at k; cases k) (fun _ _ _ k => by rw [D.mG] at k; cases k) (fun _ => .nil) (fun _ _ h r k => by rw [D.bV, ajm] at k; exact .cons (h k.1) (r k.2)) trivial (fun _ _ _ _ => trivial) trivial (fun _ _ _ _ => trivial) trivial (fun _ _ _ _ => trivial) h k
theorem aK.mG (zh : ∀ a o, H a = some o -> jW o = true -> Z a = some o) {d : List D} {v : List V} (k : D.bV d = true) (h : aK K CL H d v) : aK K CL Z d v :=
 aK.rec (motive_1 := fun d v _ => d.mG = true -> bR K CL Z d v) (motive_2 := fun d v _ => D.bV d = true -> aK K CL Z d v) (motive_3 := fun d v _ => True) (motive_4 := fun d v _ => True) (motive_5 := fun d v _ => True)
   (fun _ => .non) (fun b _ => .bl b) (fun b _ => .int b) (fun b _ => .str b) (fun _ k => by rw [D.mG] at k; cases k) (fun b _ => .val b) (fun h _ r k => .tup (JL zh h) (r (by rw [D.mG] at k; exact k))) (fun _ _ _ k => by rw [D.mG] at k; cases k) (fun _ _ _ k => by rw [D.mG] at k; cases k) (fun _ _ _ k => by rw [D.mG] at k; cases k) (fun _ _ _ k => by rw [D.mG] at k; cases k) (fun _ => .nil) (fun _ _ h r k => by rw [D.bV, ajm] at k; exact .cons (h k.1) (r k.2)) trivial (fun _ _ _ _ => trivial) trivial (fun _ _ _ _ => trivial) trivial (fun _ _ _ _ => trivial) h k
theorem bU.clean {Z1 : Hp} (zi : ∀ {d : D} {v : V}, d.mG = true -> bR K CL Z1 d v -> bR K CL Z d v) {aY : List (Key × D)} {gs : List (Key × V)} (k : D.bV (aY.map (·.2)) = true) (h : bU K CL Z1 aY gs) : bU K CL Z aY gs :=
 bU.ind (P := fun aY gs => D.bV (aY.map (·.2)) = true -> bU K CL Z aY gs) (fun _ => .nil) (fun h _ i k => by rw [ai1, D.bV, ajm] at k; exact .cons (zi k.1 h) (i k.2)) h k
theorem cW.clean {Z1 : Hp} (zh : ∀ a xs, Z1 a = some (.tup xs) -> Z a = some (.tup xs)) (zi : ∀ {d : D} {v : V}, d.mG = true -> bR K CL Z1 d v -> bR K CL Z d v) {t : T} {v : V} {fp : List Addr} (k : t.clean = true) (h : cW K CL H Z1 t v fp) : cW K CL H Z t v fp :=
 cW.rec (motive_1 := fun t v fp _ => t.clean = true -> cW K CL H Z t v fp) (motive_2 := fun t v fp _ => T.iA t = true -> aZ K CL H Z t v fp) (motive_3 := fun t v fp _ => T.bS t = true -> dS K CL H Z t v fp) (motive_4 := fun t v fp _ => T.Br t = true -> uV K CL H Z t v fp)
   (fun h k => .sh (zi (by rw [T.clean] at k; exact k) h)) (fun h _ r k => .tup (zh _ _ h) (r (by rw [T.clean] at k; exact k))) (fun h _ r k => .lst h (r (by rw [T.clean] at k; exact k))) (fun h _ r k => .ins h (r (by rw [T.clean] at k; exact k))) (fun h f k => .jC h (bU.clean zi (by rw [T.clean] at k; exact k) f)) (fun h _ r k => .dct h (r (by rw [T.clean] at k; exact k))) (fun _ r k => .pin (r (by rw [T.clean] at k; exact k))) (fun _ => .nil) (fun _ _ h r k => by rw [T.iA, ajm] at k; exact .cons (h k.1) (r k.2)) (fun _ => .nil) (fun _ _ h r k => by rw [T.bS, ajm] at k; exact .cons (h k.1) (r k.2)) (fun _ => .nil) (fun _ _ h r k => by rw [T.Br, ajm] at k; exact .cons (h k.1) (r k.2)) h k
theorem bX.back {W W' : Hp} {fp : List Addr} (S : bX K CL b H Z δ σ ts vs) (hh : aH H H') (zw : aH Z W) (ww : aH W W') (wh : aH W' H') (new : ∀ a o, W' a = some o -> W a = none -> H a = none)
   (tp : ∀ a o, H' a = some o -> jW o = true -> W' a = some o) (r : cW K CL H' W' t v fp) (nd : fp.Nodup) (own : ∀ a ∈ fp, W' a = none /\ H a = none) (c : W = Z \/ t.clean = true) :
   ∃ Z', aH Z Z' /\ bX K CL b H' Z' δ σ (t :: ts) (v :: vs) := by
 classical
 let Z' : Hp := fun a => if (H a).isSome = true then Z a else W' a
 have zs : ∀ {a : Addr} {o : HO}, H a = some o -> Z' a = Z a := fun {a o} e => by
   show (if (H a).isSome = true then Z a else W' a) = Z a
   rw [aiI (by rw [e]; rfl)]
 have zn : ∀ {a : Addr}, H a = none -> Z' a = W' a := fun {a} e => by
   show (if (H a).isSome = true then Z a else W' a) = W' a
   rw [aiG (by rw [e]; simp)]
 have sz : aH Z Z' := fun a o q => by rw [zs (S.zh a o q)]; exact q
 have zw' : ∀ a o, Z' a = some o -> W' a = some o := fun a o q => by
   cases e : H a with
   | none => rw [zn e] at q; exact q
   | some u => rw [zs e] at q; exact ww a o (zw a o q)
 have ztp : ∀ a o, H' a = some o -> jW o = true -> Z' a = some o := fun a o q i => by
   cases e : H a with
   | none => rw [zn e]; exact tp a o q i
   | some u =>
     rw [zs e]
     have := hh a u e
     rw [q] at this; cases this
     exact S.tp a o e i
 have r' : cW K CL H' Z' t v fp := by
   rcases c with c | c
   . have : Z' = W' := by
       funext a
       cases e : H a with
       | none => exact zn e
       | some u =>
         rw [zs e]
         cases q : W' a with
         | none =>
           cases q2 : Z a with
           | none => rfl
           | some o => rw [ww a o (zw a o q2)] at q; cases q
         | some o =>
           cases q2 : W a with
           | none => rw [new a o q q2] at e; cases e
           | some o2 =>
             have := ww a o2 q2
             rw [q] at this; cases this
             rw [← c]; exact q2
     rw [this]; exact r
   . refine cW.clean (fun a xs h => ?_) (fun {d v} k h => ?_) c r
     . exact ztp a _ (wh a _ h) rfl
     . exact bR.mG (H := H') ztp k (h.mono wh)
 obtain ⟨f0, g0, e0, r0, nd0, k0⟩ := S.rep
 have old : ∀ a ∈ f0 ++ g0, ∃ o, H a = some o := fun a ha => (aiO.mp ha).elim (e0.there a) (r0.there a)
 have keep : ∀ a ∈ f0 ++ g0, H' a = H a := fun a ha => by
   obtain ⟨o, e⟩ := old a ha
   rw [e]; exact hh a o e
 refine ⟨Z', sz, ⟨⟨f0, fp ++ g0, e0.mono sz (fun a ha => keep a (aiP _ ha)), .cons r' (r0.mono sz fun a ha => keep a (aiD _ ha)), ?_, fun a ha => ?_⟩, S.bh.trans hh, S.zz.trans sz, fun a o q => wh a o (zw' a o q), fun a o q z => ?_, ztp, S.tab⟩⟩
 . have hp : (f0 ++ (fp ++ g0)).Perm (fp ++ (f0 ++ g0)) := by
     rw [← aiM, ← aiM]
     exact ajl.append_right g0
   refine hp.nodup_iff.mpr (ajt.mpr ⟨nd, nd0, fun a ha c hc e => ?_⟩)
   subst e
   obtain ⟨o, q⟩ := old a hc
   rw [(own a ha).2] at q; cases q
 . have : a ∈ f0 ++ g0 \/ a ∈ fp := by
     simp only [aiO] at ha ⊢
     rcases ha with h | h | h
     . exact .inl (.inl h)
     . exact .inr h
     . exact .inl (.inr h)
   rcases this with h | h
   . obtain ⟨o, q⟩ := old a h
     exact ⟨by rw [zs q]; exact (k0 a h).1, (k0 a h).2⟩
   . exact ⟨by rw [zn (own a h).2]; exact (own a h).1, S.bh.free (own a h).2⟩
 . cases e : H a with
   | none => exact S.bh.free e
   | some u => rw [zs e] at q; exact S.new a o q z
end
section
variable {X : Cx} {CL : Str -> Addr} {b : Bx} {δ δ1 δ2 δ3 : List (Option T)} {e e1 e2 : Expr} {t t1 t2 : T} {d d1 d2 : D} {pos : Pos}
theorem Od (h : cC X CL b e δ t δ1) : dz X CL b e δ t.dQ δ1 := fun H Z σ ts vs Q S k => h H Z σ ts vs Q S fun v H' Z' z s S' => k v H' Z' z s S'.pop S'.view
theorem ah (h : cC X CL b e δ (.sh d) δ1) : dz X CL b e δ d δ1 := by have := Od h; rwa [T.dQ] at this
theorem fY (h : dz X CL b e δ d δ1) (i : d.mG = true) : cC X CL b e δ (.sh d) δ1 := fun H Z σ ts vs Q S k => h H Z σ ts vs Q S fun v H' Z' z s S' r => k v H' Z' z s (S'.push (bR.mG S'.tp i r))
theorem G6 (h : cC X CL b e δ t δ1) : cC X CL b e δ (.sh t.dQ) δ1 := fun H Z σ ts vs Q S k => h H Z σ ts vs Q S fun v H' Z' z s S' => by
 obtain ⟨Z2, z2, S2⟩ := S'.G5
 exact k v H' Z2 (z.trans z2) s S2
theorem aj {i : Int} {j : Nat} : cC X CL b (.Constant (.int i) j pos) δ (.sh (.int i)) δ := fun H Z σ ts vs Q S k => c6 Xf (k _ _ Z (.refl _) (.refl _) (S.push (.int i)))
theorem lG {i : Bool} {j : Nat} : cC X CL b (.Constant (.bool i) j pos) δ (.sh (.bl i)) δ := fun H Z σ ts vs Q S k => c6 abg (k _ _ Z (.refl _) (.refl _) (S.push (.bl i)))
theorem bG {x : Str} {j : Nat} : cC X CL b (.Constant (.str x) j pos) δ (.sh (.str x)) δ := fun H Z σ ts vs Q S k => c6 Xg (k _ _ Z (.refl _) (.refl _) (S.push (.str x)))
section
variable (i : Nat) {x : Str} (hi : X.N[i]? = some x := by rfl) (hv : Xc X.env.scope x := by first | exact Or.inl rfl | exact Or.inr (Or.inl rfl) | exact Or.inr (Or.inr rfl)) (hd : (x == ("__debug__" : Str)) = false := by decide) (jy : (x == ("__classdict__" : Str)) = false := by decide)
include hi hv hd jy
theorem Yi (h : δ[i]? = some (some (.sh d)) := by rfl) : cC X CL b (.Name x pos) δ (.sh d) δ := fun H Z σ ts vs Q S k => by
 obtain ⟨v, e, r⟩ := S.WD h
 exact c6 (kI hi hv hd jy) ⟨v, e, k v H Z (.refl _) (.refl _) (S.push r)⟩
theorem Sl (h : δ[i]? = some (some t) := by rfl) : cC X CL b (.Name x pos) δ (.sh t.dQ) (δ.set i (some (.sh t.dQ))) := fun H Z σ ts vs Q S k => by
 obtain ⟨v, Z', e, z, S'⟩ := S.JK h
 exact c6 (kI hi hv hd jy) ⟨v, e, k v H Z' z (.refl _) S'⟩
theorem Sn (h : δ[i]? = some (some t) := by rfl) : cC X CL b (.Name x pos) δ t (δ.set i none) := fun H Z σ ts vs Q S k => by
 obtain ⟨v, e, S'⟩ := S.move h
 exact c6 (kI hi hv hd jy) ⟨v, e, k v H Z (.refl _) (.refl _) S'⟩
theorem Yj (h : δ[i]? = some (some t) := by rfl) : dz X CL b (.Name x pos) δ t.dQ δ := fun H Z σ ts vs Q S k => by
 obtain ⟨v, e, r⟩ := S.look h
 exact c6 (kI hi hv hd jy) ⟨v, e, k v H Z (.refl _) (.refl _) S r⟩
end
noncomputable def Yk : D -> Option V
 | .non => some .non
 | .bl b => some (.bl b)
 | .int i => some (.int i)
 | .str x => some (.str x)
 | _ => none
theorem bR.sc {K : PySem.W.Frag} {Z : Hp} {d : D} {v w : V} (r : bR K CL Z d v) (h : Yk d = some w) : v = w := by
 cases r <;> first | (exact aiZ h) | (cases h)
theorem Sq {K : PySem.W.Frag} {Z : Hp} {d : D} {w : V} (h : Yk d = some w) : bR K CL Z d w := by
 cases d <;> first | (cases h; constructor) | (cases h)
theorem qU {op : Operator} {r : R2} {w1 w2 w : V} (ho : vC X (binaryOp op) r) (h1 : dz X CL b e1 δ d1 δ1) (h2 : dz X CL b e2 δ1 d2 δ2) (s1 : Yk d1 = some w1) (s2 : Yk d2 = some w2) (s3 : Yk d = some w)
   (hr : ∀ (H : Hp) (Q : VK), Q w H -> r w1 w2 H Q) : cC X CL b (.BinOp e1 op e2 pos) δ (.sh d) δ2 := fun H Z σ ts vs Q S k => by
 refine c6 (Ju ho eu eu) (h1 H Z σ ts vs _ S fun v1 H1 Z1 z1 k1 S1 r1 => h2 H1 Z1 σ ts vs _ S1 fun v2 H2 Z2 z2 k2 S2 r2 => ?_)
 rw [r1.sc s1, r2.sc s2]
 exact hr H2 Q (k w H2 Z2 (z1.trans z2) (k1.trans k2) (S2.push (Sq s3)))
theorem cu {i j : Int} (h1 : dz X CL b e1 δ (.int i) δ1) (h2 : dz X CL b e2 δ1 (.int j) δ2) : cC X CL b (.BinOp e1 .Add e2 pos) δ (.sh (.int (i + j))) δ2 := qU XF h1 h2 rfl rfl rfl fun _ _ q => ⟨i, j, rfl, rfl, q⟩
theorem mH {i j : Int} (h1 : dz X CL b e1 δ (.int i) δ1) (h2 : dz X CL b e2 δ1 (.int j) δ2) : cC X CL b (.BinOp e1 .Sub e2 pos) δ (.sh (.int (i - j))) δ2 := qU XG h1 h2 rfl rfl rfl fun _ _ q => ⟨i, j, rfl, rfl, q⟩
theorem tX {i j : Int} (h1 : dz X CL b e1 δ (.int i) δ1) (h2 : dz X CL b e2 δ1 (.int j) δ2) (c : RW i j) : cC X CL b (.BinOp e1 .Mult e2 pos) δ (.sh (.int (i * j))) δ2 := qU XH h1 h2 rfl rfl rfl fun _ _ q => ⟨i, j, rfl, rfl, c, q⟩
theorem bD {i j : Int} (h1 : dz X CL b e1 δ (.int i) δ1) (h2 : dz X CL b e2 δ1 (.int j) δ2) (c : 0 < j) : cC X CL b (.BinOp e1 .Mod e2 pos) δ (.sh (.int (i % j))) δ2 := qU XI h1 h2 rfl rfl rfl fun _ _ q => ⟨i, j, rfl, rfl, c, q⟩
theorem cA {i j : Int} (h1 : dz X CL b e1 δ (.int i) δ1) (h2 : dz X CL b e2 δ1 (.int j) δ2) (c : abw i j) : cC X CL b (.BinOp e1 .FloorDiv e2 pos) δ (.sh (.int (i / j))) δ2 := qU RX h1 h2 rfl rfl rfl fun _ _ q => ⟨i, j, rfl, rfl, c, q⟩
theorem Bs {i j : Int} (h1 : dz X CL b e1 δ (.int i) δ1) (h2 : dz X CL b e2 δ1 (.int j) δ2) (c : abx i j) : cC X CL b (.BinOp e1 .Pow e2 pos) δ (.sh (.int (i ^ j.toNat))) δ2 := qU XJ h1 h2 rfl rfl rfl fun _ _ q => ⟨i, j, rfl, rfl, c, q⟩
theorem qV {x y : Str} (h1 : dz X CL b e1 δ (.str x) δ1) (h2 : dz X CL b e2 δ1 (.str y) δ2) (c : x.length + y.length <= sizeLine) : cC X CL b (.BinOp e1 .Add e2 pos) δ (.sh (.str (x ++ y))) δ2 := qU GQ h1 h2 rfl rfl rfl fun _ _ q => ⟨x, y, rfl, rfl, c, q⟩
theorem wM {op : CmpOp} {r : R2} {p : Bool} {w1 w2 : V} (ho : vC X (compareOp op) r) (h1 : dz X CL b e1 δ d1 δ1) (h2 : dz X CL b e2 δ1 d2 δ2) (s1 : Yk d1 = some w1) (s2 : Yk d2 = some w2)
   (hr : ∀ (H : Hp) (Q : VK), Q (.bl p) H -> r w1 w2 H Q) (hm : behindInMarks op e2 = false) : tO X CL b (.Compare e1 [op] [e2] pos) δ p δ2 /\ cC X CL b (.Compare e1 [op] [e2] pos) δ (.sh (.bl p)) δ2 := by
 constructor
 . intro H Z σ ts vs Q S k
   refine Bq (vO ho eu eu hm) (h1 H Z σ ts vs _ S fun v1 H1 Z1 z1 k1 S1 r1 => h2 H1 Z1 σ ts vs _ S1 fun v2 H2 Z2 z2 k2 S2 r2 => ?_)
   rw [r1.sc s1, r2.sc s2]
   exact hr H2 _ ⟨p, rfl, k H2 Z2 (z1.trans z2) (k1.trans k2) S2⟩
 . intro H Z σ ts vs Q S k
   refine c6 (vN ho eu eu hm) (h1 H Z σ ts vs _ S fun v1 H1 Z1 z1 k1 S1 r1 => h2 H1 Z1 σ ts vs _ S1 fun v2 H2 Z2 z2 k2 S2 r2 => ?_)
   rw [r1.sc s1, r2.sc s2]
   exact hr H2 _ (k _ H2 Z2 (z1.trans z2) (k1.trans k2) (S2.push (.bl p)))
theorem eB {i j : Int} (h1 : dz X CL b e1 δ (.int i) δ1) (h2 : dz X CL b e2 δ1 (.int j) δ2) : tO X CL b (.Compare e1 [.Eq] [e2] pos) δ (decide (i = j)) δ2 /\ cC X CL b (.Compare e1 [.Eq] [e2] pos) δ (.sh (.bl (decide (i = j)))) δ2 :=
 wM Ww h1 h2 rfl rfl (fun _ _ q => ⟨rfl, by rw [show decide (V.int i = V.int j) = decide (i = j) by simp]; exact q⟩) (qS _)
theorem tY {i j : Int} (h1 : dz X CL b e1 δ (.int i) δ1) (h2 : dz X CL b e2 δ1 (.int j) δ2) : tO X CL b (.Compare e1 [.NotEq] [e2] pos) δ (!decide (i = j)) δ2 /\ cC X CL b (.Compare e1 [.NotEq] [e2] pos) δ (.sh (.bl (!decide (i = j)))) δ2 :=
 wM Wx h1 h2 rfl rfl (fun _ _ q => ⟨rfl, by rw [show decide (V.int i = V.int j) = decide (i = j) by simp]; exact q⟩) (qS _)
theorem fC {i j : Str} (h1 : dz X CL b e1 δ (.str i) δ1) (h2 : dz X CL b e2 δ1 (.str j) δ2) : tO X CL b (.Compare e1 [.Eq] [e2] pos) δ (decide (i = j)) δ2 /\ cC X CL b (.Compare e1 [.Eq] [e2] pos) δ (.sh (.bl (decide (i = j)))) δ2 :=
 wM Ww h1 h2 rfl rfl (fun _ _ q => ⟨rfl, by rw [show decide (V.str i = V.str j) = decide (i = j) by simp]; exact q⟩) (qS _)
theorem Oe {i j : Int} (h1 : dz X CL b e1 δ (.int i) δ1) (h2 : dz X CL b e2 δ1 (.int j) δ2) : tO X CL b (.Compare e1 [.Lt] [e2] pos) δ (decide (i < j)) δ2 /\ cC X CL b (.Compare e1 [.Lt] [e2] pos) δ (.sh (.bl (decide (i < j)))) δ2 := wM abz h1 h2 rfl rfl (fun _ _ q => ⟨i, j, rfl, rfl, q⟩) (qS _)
theorem abV {i j : Int} (h1 : dz X CL b e1 δ (.int i) δ1) (h2 : dz X CL b e2 δ1 (.int j) δ2) : tO X CL b (.Compare e1 [.LtE] [e2] pos) δ (decide (i <= j)) δ2 /\ cC X CL b (.Compare e1 [.LtE] [e2] pos) δ (.sh (.bl (decide (i <= j)))) δ2 := wM abA h1 h2 rfl rfl (fun _ _ q => ⟨i, j, rfl, rfl, q⟩) (qS _)
theorem JM {i j : Int} (h1 : dz X CL b e1 δ (.int i) δ1) (h2 : dz X CL b e2 δ1 (.int j) δ2) : tO X CL b (.Compare e1 [.Gt] [e2] pos) δ (decide (j < i)) δ2 /\ cC X CL b (.Compare e1 [.Gt] [e2] pos) δ (.sh (.bl (decide (j < i)))) δ2 := wM abB h1 h2 rfl rfl (fun _ _ q => ⟨i, j, rfl, rfl, q⟩) (qS _)
end
section
variable {K : PySem.W.Frag} {CL : Str -> Addr} {H Z : Hp}
theorem aZ.split : ∀ {as bs : List T} {us ws : List V} {gp : List Addr}, as.length = us.length -> aZ K CL H Z (as ++ bs) (us ++ ws) gp -> ∃ g1 g2, gp = g1 ++ g2 /\ aZ K CL H Z as us g1 /\ aZ K CL H Z bs ws g2
 | [], _, [], _, gp, _, r => ⟨[], gp, rfl, .nil, r⟩
 | [], _, _ :: _, _, _, h, _ => by simp at h
 | _ :: _, _, [], _, _, h, _ => by simp at h
 | a :: as, bs, u :: us, ws, gp, h, r => by
   cases r with
   | @cons _ _ _ _ f1 f2 r1 r2 =>
     obtain ⟨g1, g2, e, h1, h2⟩ := aZ.split (as := as) (us := us) (by simpa using h) r2
     exact ⟨f1 ++ g1, g2, by rw [e, aiM], .cons r1 h1, h2⟩
theorem aZ.app {as bs : List T} {us ws : List V} {g1 g2 : List Addr} (h : aZ K CL H Z as us g1) (q : aZ K CL H Z bs ws g2) : aZ K CL H Z (as ++ bs) (us ++ ws) (g1 ++ g2) :=
 aZ.ind (P := fun as us g1 => aZ K CL H Z (as ++ bs) (us ++ ws) (g1 ++ g2)) q (fun r _ i => by rw [aiM]; exact .cons r i) h
theorem aZ.rev : ∀ {as : List T} {us : List V} {g : List Addr}, aZ K CL H Z as.reverse us.reverse g -> ∃ g', aZ K CL H Z as us g' /\ g'.Perm g
 | [], [], g, r => by
   have r' : aZ K CL H Z [] [] g := r
   cases r'
   exact ⟨[], .nil, akz _⟩
 | [], u :: us, g, r => by have := r.length; simp at this
 | a :: as, [], g, r => by have := r.length; simp at this
 | a :: as, u :: us, g, r => by
   rw [akd, akd] at r
   have hl := r.length
   obtain ⟨g1, g2, e, r1, r2⟩ := aZ.split (by simp at hl ⊢; omega) r
   subst e
   obtain ⟨g', r', p⟩ := aZ.rev r1
   cases r2 with
   | @cons _ _ _ _ f1 f2 q1 q2 =>
     cases q2
     refine ⟨f1 ++ g', .cons q1 r', ?_⟩
     rw [ai6]
     exact (ajd f1 p).trans ajl
theorem aZ.toF : ∀ {ds : List D} {us : List V} {g : List Addr}, aZ K CL H Z (ds.map T.sh) us g -> aK K CL Z ds us /\ g = []
 | [], _, _, r => by
   have r' : aZ K CL H Z [] _ _ := r
   cases r'
   exact ⟨.nil, rfl⟩
 | d :: ds, _, _, r => by
   have r' : aZ K CL H Z (T.sh d :: ds.map T.sh) _ _ := r
   cases r' with
   | cons r1 r2 =>
     cases r1 with
     | sh h =>
       obtain ⟨q, e⟩ := aZ.toF r2
       exact ⟨.cons h q, by rw [e]; rfl⟩
theorem jo : ∀ (ds : List D), T.dD (ds.map T.sh) = ds
 | [] => rfl
 | d :: ds => by rw [ai1, T.dD, jo ds, T.dQ]
end
section
variable {K : PySem.W.Frag} {CL : Str -> Addr} {b : Bx} {H H' Z Z' : Hp} {δ δ' : List (Option T)} {σ σ' : L2.St} {ts tl : List T} {vs us : List V} {t : T} {v : V}
theorem bX.G7 {p : Addr} (S : bX K CL b H Z δ σ (tl.reverse ++ ts) (us.reverse ++ vs)) (hl : us.length = tl.length) (hp : H p = none) :
   aH Z (upd Z p (.tup us)) /\ aH H (upd H p (.tup us)) /\ bX K CL b (upd H p (.tup us)) (upd Z p (.tup us)) δ σ (.tup tl :: ts) (.ref p :: vs) := by
 obtain ⟨fp, gp, e, r, nd, k⟩ := S.rep
 obtain ⟨g1, g2, eg, r1, r2⟩ := aZ.split (by simp [hl]) r
 subst eg
 obtain ⟨g', r', pm⟩ := r1.rev
 have zp : Z p = none := S.zh.free hp
 have sz : aH Z (upd Z p (.tup us)) := aH.upd zp
 have sh : aH H (upd H p (.tup us)) := aH.upd hp
 have keep : ∀ a ∈ fp ++ (g1 ++ g2), a ≠ p := fun a ha => by
   have : ∃ o, H a = some o := by
     rcases aiO.mp ha with h | h
     . exact e.there a h
     . exact r.there a h
   obtain ⟨o, q⟩ := this
   exact aL q hp
 have WG : (fp ++ (g' ++ g2)).Perm (fp ++ (g1 ++ g2)) := (pm.append_right g2).append_left fp
 have kk : ∀ a ∈ fp ++ (g' ++ g2), a ≠ p := fun a ha => keep a (WG.mem_iff.mp ha)
 refine ⟨sz, sh, ⟨⟨fp, g' ++ g2, e.mono sz (fun a ha => aA (keep a (aiP _ ha))), .cons (.tup aP (r'.mono sz fun a ha => aA (kk a (by simp [ha])))) (r2.mono sz fun a ha => aA (keep a (by simp [ha]))), WG.nodup_iff.mpr nd, fun a ha => ?_⟩, S.bh.trans sh, S.zz.trans sz, fun a o q => ?_, fun a o q z => ?_, fun a o q i => ?_, S.tab⟩⟩
 . exact ⟨by rw [aA (kk a ha)]; exact (k a (WG.mem_iff.mp ha)).1, (k a (WG.mem_iff.mp ha)).2⟩
 . by_cases ha : a = p
   . subst ha; rw [aP] at q ⊢; exact q
   . rw [aA ha] at q ⊢; exact S.zh a o q
 . by_cases ha : a = p
   . subst ha; exact S.bh.free hp
   . rw [aA ha] at q; exact S.new a o q z
 . by_cases ha : a = p
   . subst ha; rw [aP] at q ⊢; exact q
   . rw [aA ha] at q ⊢; exact S.tp a o q i
theorem bX.tZ {p : Addr} {g0 : List Addr} (S : bX K CL b H Z δ σ (tl.reverse ++ ts) (us.reverse ++ vs)) (hl : us.length = tl.length) (hp : H p = none) :
   aH H (upd H p (.lst us)) /\ bX K CL b (upd H p (.lst us)) Z δ σ (.lst tl :: ts) (.ref p :: vs) := by
 obtain ⟨fp, gp, e, r, nd, k⟩ := S.rep
 obtain ⟨g1, g2, eg, r1, r2⟩ := aZ.split (by simp [hl]) r
 subst eg
 obtain ⟨g', r', pm⟩ := r1.rev
 have zp : Z p = none := S.zh.free hp
 have sh : aH H (upd H p (.lst us)) := aH.upd hp
 have keep : ∀ a ∈ fp ++ (g1 ++ g2), a ≠ p := fun a ha => by
   have : ∃ o, H a = some o := by
     rcases aiO.mp ha with h | h
     . exact e.there a h
     . exact r.there a h
   obtain ⟨o, q⟩ := this
   exact aL q hp
 have WG : (fp ++ (g' ++ g2)).Perm (fp ++ (g1 ++ g2)) := (pm.append_right g2).append_left fp
 have kk : ∀ a ∈ fp ++ (g' ++ g2), a ≠ p := fun a ha => keep a (WG.mem_iff.mp ha)
 have pm3 : (fp ++ ((p :: g') ++ g2)).Perm (p :: (fp ++ (g' ++ g2))) := by
   rw [ai0]; exact ajG
 refine ⟨sh, ⟨⟨fp, (p :: g') ++ g2, e.mono (.refl _) (fun a ha => aA (keep a (aiP _ ha))), .cons (.lst aP (r'.mono (.refl _) fun a ha => aA (kk a (by simp [ha])))) (r2.mono (.refl _) fun a ha => aA (keep a (by simp [ha]))), ?_, fun a ha => ?_⟩, S.bh.trans sh, S.zz, S.zh.trans sh, S.new, fun a o q i => ?_, S.tab⟩⟩
 . refine pm3.nodup_iff.mpr (ajA.mpr ⟨fun h => kk p h rfl, WG.nodup_iff.mpr nd⟩)
 . rcases aiN.mp (pm3.mem_iff.mp ha) with h | h
   . subst h; exact ⟨zp, S.bh.free hp⟩
   . exact k a (WG.mem_iff.mp h)
 . by_cases ha : a = p
   . subst ha; rw [aP] at q; cases q; cases i
   . rw [aA ha] at q; exact S.tp a o q i
end
section
variable {X : Cx} {CL : Str -> Addr} {b : Bx} {δ δ1 δ2 δ3 : List (Option T)} {e e1 e2 e3 : Expr} {es : List Expr} {t t1 t2 : T} {d d1 d2 : D} {tl : List T} {ds : List D} {p q : Bool} {pos : Pos}
theorem cO : Lf X CL b [] δ [] δ := fun H Z σ ts vs Q S k => Lc fB (k [] H Z rfl (.refl _) (.refl _) S)
theorem bu (h1 : cC X CL b e δ t δ1) (h2 : Lf X CL b es δ1 tl δ2) (hs : starEach (e :: es) X.env = (false, eval e X.env) :: starEach es X.env := by exact bN rfl) : Lf X CL b (e :: es) δ (t :: tl) δ2 := fun H Z σ ts vs Q S k =>
 Lc (cN eu M6 hs) (h1 H Z σ ts vs _ S fun v H1 Z1 z1 k1 S1 => h2 H1 Z1 σ _ _ _ S1 fun us H2 Z2 hl z2 k2 S2 => k (v :: us) H2 Z2 (by simp [hl]) (z1.trans z2) (k1.trans k2) (by
   rw [akd, akd, aiM, aiM]
   exact S2))
theorem aN : Rx X CL b [] δ [] δ := fun H Z σ ts vs Q S k => Lc fB (k [] H Z (.refl _) (.refl _) S .nil)
theorem ai (h1 : dz X CL b e δ d δ1) (h2 : Rx X CL b es δ1 ds δ2) (hs : starEach (e :: es) X.env = (false, eval e X.env) :: starEach es X.env := by exact bN rfl) : Rx X CL b (e :: es) δ (d :: ds) δ2 := fun H Z σ ts vs Q S k =>
 Lc (cN eu M6 hs) (h1 H Z σ ts vs _ S fun v H1 Z1 z1 k1 S1 r1 => h2 H1 Z1 σ _ _ _ S1 fun us H2 Z2 z2 k2 S2 r2 => k (v :: us) H2 Z2 (z1.trans z2) (k1.trans k2) S2 (.cons (r1.mono k2) r2))
theorem wN {j : Nat} (h : Lf X CL b es δ tl δ1) (hl : tl.length <= sizeLine) : cC X CL b (.Tuple es j pos) δ (.tup tl) δ1 := fun H Z σ ts vs Q S k =>
 c6 (XR M6) (h H Z σ ts vs _ S fun us H1 Z1 hu z1 k1 S1 => ⟨by rw [hu]; exact hl, fun p hp => by
   obtain ⟨a, c, S2⟩ := S1.G7 hu hp
   exact k _ _ _ (z1.trans a) (k1.trans c) S2⟩)
theorem d9 {j : Nat} (h : Lf X CL b es δ (ds.map T.sh) δ1) (hl : ds.length <= sizeLine) : cC X CL b (.Tuple es j pos) δ (.sh (.tup ds)) δ1 := by
 have := G6 (wN (pos := pos) (j := j) h (by simpa using hl))
 rwa [T.dQ, jo] at this
theorem dF (h : Lf X CL b es δ tl δ1) (hl : tl.length <= sizeLine) : cC X CL b (.List es pos) δ (.lst tl) δ1 := fun H Z σ ts vs Q S k =>
 c6 (XS M6) (h H Z σ ts vs _ S fun us H1 Z1 hu z1 k1 S1 => ⟨by rw [hu]; exact hl, fun p hp => by
   obtain ⟨c, S2⟩ := S1.tZ (g0 := []) hu hp
   exact k _ _ _ z1 (k1.trans c) S2⟩)
theorem f6 (h : cC X CL b e δ (.sh (.bl p)) δ1) (he : ∀ whole, isTrue e X.env whole = (do let v ← whole; standAt e.pos; holding [v] (truthy v)) := by intro _; rfl) : tO X CL b e δ p δ1 := fun H Z σ ts vs Q S k =>
 Bq (Xi eu he) (h H Z σ ts vs _ S fun v H1 Z1 z1 k1 S1 => ⟨p, by have := S1.view; rw [T.dQ] at this; exact this.sc rfl, k H1 Z1 z1 k1 S1.pop⟩)
theorem mJ (h : tO X CL b e δ p δ1) : tO X CL b (.UnaryOp .Not e pos) δ (!p) δ1 := fun H Z σ ts vs Q S k => Bq (Xl Yd) (h H Z σ ts vs _ S fun H1 Z1 z1 k1 S1 => k H1 Z1 z1 k1 S1)
noncomputable def Yl (X : Cx) (e : Expr) : TT := fun σ H Q => ∀ (whole : Sem Value) (pins : List (Addr × Obj)) (s : Shared), Inv X pins σ H s -> wpAny (model X.prog X.w) X.A (isTrue e X.env whole) (TP X pins σ Q) X.xe s
theorem pwS {e : Expr} : PW X e (Yl X e) := fun whole pins s _ _ _ I h => h whole pins s I
noncomputable def Ym (X : Cx) (CL : Str -> Addr) (b : Bx) (e : Expr) (δ : List (Option T)) (p : Bool) (δ' : List (Option T)) : Prop :=
 ∀ (H Z : Hp) (σ : L2.St) (ts : List T) (vs : List V) (Q : Bool -> Hp -> Prop), bX X.K CL b H Z δ σ ts vs -> (∀ H' Z', aH Z Z' -> aH H H' -> bX X.K CL b H' Z' δ' σ ts vs -> Q p H') -> Yl X e σ H Q
theorem Ss {t : TT} (h : PW X e t) {σ : L2.St} {H : Hp} {Q : Bool -> Hp -> Prop} (q : t σ H Q) : Yl X e σ H Q := fun whole pins s I => h whole pins s σ H Q I q
theorem jD (h : Ym X CL b e δ p δ1) : tO X CL b e δ p δ1 := fun H Z σ ts vs Q S k pins s I => h H Z σ ts vs Q S k _ pins s I
theorem jY (h : tO X CL b e δ p δ1) : Ym X CL b (.BoolOp .And [e] pos) δ p δ1 := fun H Z σ ts vs Q S k => Ss (RP Yd) (h H Z σ ts vs _ S k)
theorem kJ (h : tO X CL b e δ p δ1) : Ym X CL b (.BoolOp .Or [e] pos) δ p δ1 := fun H Z σ ts vs Q S k => Ss (Xj Yd) (h H Z σ ts vs _ S k)
theorem gE (h : tO X CL b e δ p δ1) (h2 : p = true -> Ym X CL b (.BoolOp .And (e2 :: es) pos) δ1 q δ1) : Ym X CL b (.BoolOp .And (e :: e2 :: es) pos) δ (p && q) δ1 := fun H Z σ ts vs Q S k =>
 Ss (Xk Yd pwS) (h H Z σ ts vs _ S fun H1 Z1 z1 k1 S1 => by
   cases p with
   | true => exact N3 (h2 rfl H1 Z1 σ ts vs _ S1 fun H2 Z2 z2 k2 S2 => k H2 Z2 (z1.trans z2) (k1.trans k2) S2)
   | false => exact N2 (k H1 Z1 z1 k1 S1))
theorem qF (h : tO X CL b e δ p δ1) (h2 : p = false -> Ym X CL b (.BoolOp .Or (e2 :: es) pos) δ1 q δ1) : Ym X CL b (.BoolOp .Or (e :: e2 :: es) pos) δ (p || q) δ1 := fun H Z σ ts vs Q S k =>
 Ss (abh Yd pwS) (h H Z σ ts vs _ S fun H1 Z1 z1 k1 S1 => by
   cases p with
   | true => exact N3 (k H1 Z1 z1 k1 S1)
   | false => exact N2 (h2 rfl H1 Z1 σ ts vs _ S1 fun H2 Z2 z2 k2 S2 => k H2 Z2 (z1.trans z2) (k1.trans k2) S2))
theorem Og {op : BoolOp} (h : cC X CL b e δ t δ1) : cC X CL b (.BoolOp op [e] pos) δ t δ1 := fun H Z σ ts vs Q S k => c6 (Xm eu) (h H Z σ ts vs _ S k)
theorem G8 (h : cC X CL b e δ (.sh (.bl p)) δ1) (h2 : p = true -> cC X CL b (.BoolOp .And (e2 :: es) pos) δ1 (.sh (.bl q)) δ1) : cC X CL b (.BoolOp .And (e :: e2 :: es) pos) δ (.sh (.bl (p && q))) δ1 := fun H Z σ ts vs Q S k =>
 c6 (Xn eu eu) (h H Z σ ts vs _ S fun v H1 Z1 z1 k1 S1 => by
   have hv : v = .bl p := by have := S1.view; rw [T.dQ] at this; exact this.sc rfl
   refine ⟨p, hv, ?_⟩
   cases p with
   | true => exact N3 (h2 rfl H1 Z1 σ ts vs _ S1.pop fun v H2 Z2 z2 k2 S2 => k v H2 Z2 (z1.trans z2) (k1.trans k2) S2)
   | false => exact N2 (k _ H1 Z1 z1 k1 (S1.pop.push (.bl false))))
theorem Yn (h : cC X CL b e δ (.sh (.bl p)) δ1) : cC X CL b (.UnaryOp .Not e pos) δ (.sh (.bl (!p))) δ1 := fun H Z σ ts vs Q S k =>
 c6 (L2.Xo eu) (h H Z σ ts vs _ S fun v H1 Z1 z1 k1 S1 => ⟨p, by have := S1.view; rw [T.dQ] at this; exact this.sc rfl, k _ H1 Z1 z1 k1 (S1.pop.push (.bl (!p)))⟩)
theorem vR {K : PySem.W.Frag} {Z : Hp} {vs : List V} {k : Int} (r : aK K CL Z ds vs) (h : tN ds k = some d) : ∃ v, tN vs k = some v /\ bR K CL Z d v := by
 unfold tN at h ⊢
 rw [← r.length]
 cases e : NS ds.length k with
 | none => rw [e] at h; cases h
 | some j =>
   rw [e] at h
   exact r.get h
theorem aV {k : Int} (h1 : dz X CL b e1 δ (.tup ds) δ1) (h2 : dz X CL b e2 δ1 (.int k) δ2) (hk : tN ds k = some d) (hs : pN e2 := by exact fun _ _ => rfl) : dz X CL b (.Subscript e1 e2 pos) δ d δ2 := fun H Z σ ts vs Q S kk =>
 c6 (El NT eu eu hs) (h1 H Z σ ts vs _ S fun v1 H1 Z1 z1 k1 S1 r1 => h2 H1 Z1 σ ts vs _ S1 fun v2 H2 Z2 z2 k2 S2 r2 => by
   have r1' := r1.mono k2
   cases r1' with
   | tup hq rr =>
     obtain ⟨v, hv, rv⟩ := vR rr hk
     exact ⟨_, _, k, v, rfl, r2.sc rfl, hq, hv, kk v H2 Z2 (z1.trans z2) (k1.trans k2) S2 rv⟩)
theorem bZ {k : Int} (h1 : dz X CL b e1 δ (.lst ds) δ1) (h2 : dz X CL b e2 δ1 (.int k) δ2) (hk : tN ds k = some d) (hs : pN e2 := by exact fun _ _ => rfl) : dz X CL b (.Subscript e1 e2 pos) δ d δ2 := fun H Z σ ts vs Q S kk =>
 c6 (El JC eu eu hs) (h1 H Z σ ts vs _ S fun v1 H1 Z1 z1 k1 S1 r1 => h2 H1 Z1 σ ts vs _ S1 fun v2 H2 Z2 z2 k2 S2 r2 => by
   have r1' := r1.mono k2
   cases r1' with
   | lst hq rr =>
     obtain ⟨v, hv, rv⟩ := vR rr hk
     exact ⟨_, _, k, v, rfl, r2.sc rfl, hq, hv, kk v H2 Z2 (z1.trans z2) (k1.trans k2) S2 rv⟩)
theorem Oh {k : Int} {x : Str} {c : Nat} (h1 : dz X CL b e1 δ (.str x) δ1) (h2 : dz X CL b e2 δ1 (.int k) δ2) (hl : x.length <= sizeLine) (hk : tN x.cps.toList k = some c) (hs : pN e2 := by exact fun _ _ => rfl) : cC X CL b (.Subscript e1 e2 pos) δ (.sh (.str ⟨#[c]⟩)) δ2 := fun H Z σ ts vs Q S kk =>
 c6 (El XW eu eu hs) (h1 H Z σ ts vs _ S fun v1 H1 Z1 z1 k1 S1 r1 => h2 H1 Z1 σ ts vs _ S1 fun v2 H2 Z2 z2 k2 S2 r2 =>
   ⟨x, k, c, r1.sc rfl, r2.sc rfl, hl, hk, kk _ H2 Z2 (z1.trans z2) (k1.trans k2) (S2.push (.str _))⟩)
theorem cL {k : Int} (h1 : cC X CL b e1 δ (.sh (.tup ds)) δ1) (h2 : dz X CL b e2 δ1 (.int k) δ2) (hk : tN ds k = some d) (hs : pN e2 := by exact fun _ _ => rfl) : cC X CL b (.Subscript e1 e2 pos) δ (.sh d) δ2 := fun H Z σ ts vs Q S kk =>
 c6 (El NT eu eu hs) (h1 H Z σ ts vs _ S fun v1 H1 Z1 z1 k1 S1 => h2 H1 Z1 σ _ _ _ S1 fun v2 H2 Z2 z2 k2 S2 r2 => by
   obtain ⟨fp, gp, _, r, _, _⟩ := S2.rep
   cases r with
   | cons r _ =>
     cases r with
     | sh r =>
       cases r with
       | tup hq rr =>
         obtain ⟨v, hv, rv⟩ := vR rr hk
         exact ⟨_, _, k, v, rfl, r2.sc rfl, aH.Lb S2.zh hq, hv, kk v H2 Z2 (z1.trans z2) (k1.trans k2) (S2.pop.push rv)⟩)
theorem G9 {k : Int} (h1 : cC X CL b e1 δ (.sh (.lst ds)) δ1) (h2 : dz X CL b e2 δ1 (.int k) δ2) (hk : tN ds k = some d) (hs : pN e2 := by exact fun _ _ => rfl) : cC X CL b (.Subscript e1 e2 pos) δ (.sh d) δ2 := fun H Z σ ts vs Q S kk =>
 c6 (El JC eu eu hs) (h1 H Z σ ts vs _ S fun v1 H1 Z1 z1 k1 S1 => h2 H1 Z1 σ _ _ _ S1 fun v2 H2 Z2 z2 k2 S2 r2 => by
   obtain ⟨fp, gp, _, r, _, _⟩ := S2.rep
   cases r with
   | cons r _ =>
     cases r with
     | sh r =>
       cases r with
       | lst hq rr =>
         obtain ⟨v, hv, rv⟩ := vR rr hk
         exact ⟨_, _, k, v, rfl, r2.sc rfl, S2.zh.seq hq, hv, kk v H2 Z2 (z1.trans z2) (k1.trans k2) (S2.pop.push rv)⟩)
end
section
variable {K : PySem.W.Frag} {CL : Str -> Addr} {b : Bx} {H H' Z Z' : Hp} {δ δ' : List (Option T)} {σ σ' : L2.St} {ts tl : List T} {vs us : List V} {t : T} {v : V}
theorem bX.uW : ∀ {ds : List D} {us : List V} {ts : List T} {vs : List V}, aK K CL Z ds us -> bX K CL b H Z δ σ ts vs -> bX K CL b H Z δ σ ((ds.map T.sh).reverse ++ ts) (us.reverse ++ vs)
 | _, _, _, _, .nil, S => S
 | _, _, ts, vs, .cons (d := d) (v := v) (ds := ds) (vs := us) r t, S => by
   rw [ai1, akd, akd, aiM, aiM]
   exact bX.uW t (S.push r)
theorem bX.drops (S : bX K CL b H Z δ σ (tl ++ ts) (us ++ vs)) (hl : us.length = tl.length) : bX K CL b H Z δ σ ts vs := by
 induction tl generalizing us with
 | nil =>
   cases us with
   | nil => exact S
   | cons _ _ => simp at hl
 | cons t tl ih =>
   cases us with
   | nil => simp at hl
   | cons u us => exact ih S.pop (by simpa using hl)
theorem bX.Sv {ds : List D} (S : bX K CL b H Z δ σ ((ds.map T.sh).reverse ++ ts) (us.reverse ++ vs)) (hl : us.length = ds.length) : aK K CL Z ds us := by
 obtain ⟨fp, gp, e, r, nd, k⟩ := S.rep
 obtain ⟨g1, g2, eg, r1, r2⟩ := aZ.split (by simp [hl]) r
 obtain ⟨g', r', pm⟩ := r1.rev
 exact r'.toF.1
end
section
variable {X : Cx} {CL : Str -> Addr} {b : Bx} {δ δ1 δ2 δ3 : List (Option T)} {e e1 e2 e3 : Expr} {es : List Expr} {t t1 t2 : T} {d d1 d2 : D} {tl : List T} {ds : List D} {p q : Bool} {pos pp : Pos}
theorem vS (hm : X.mg "len" = none) (h : dz X CL b e δ (.lst ds) δ1) (hg : Gl X "len" := by rfl) (hs : starEach [e] X.env = (false, eval e X.env) :: starEach [] X.env := by exact bN rfl) (hpl : (backTo pos (starEach ([] : List Expr) X.env)).any (·.1) = false := by rfl) : cC X CL b (.Call (.Name "len" pp) [e] [] pos) δ (.sh (.int ds.length)) δ1 := fun H Z σ ts vs Q S k =>
 c6 (lD rW hg hm PySem.boot_len (cN eu fB hs) (he := hs)) (h H Z σ ts vs _ S fun v H1 Z1 z1 k1 S1 r => by
   cases r with
   | lst hq rr => exact ⟨_, _, rfl, .inl hq, by rw [← rr.length]; exact k _ H1 Z1 z1 k1 (S1.push (.int _))⟩)
theorem jZ (hm : X.mg "len" = none) (h : dz X CL b e δ (.tup ds) δ1) (hg : Gl X "len" := by rfl) (hs : starEach [e] X.env = (false, eval e X.env) :: starEach [] X.env := by exact bN rfl) : cC X CL b (.Call (.Name "len" pp) [e] [] pos) δ (.sh (.int ds.length)) δ1 := fun H Z σ ts vs Q S k =>
 c6 (lD rW hg hm PySem.boot_len (cN eu fB hs) (he := hs)) (h H Z σ ts vs _ S fun v H1 Z1 z1 k1 S1 r => by
   cases r with
   | tup hq rr => exact ⟨_, _, rfl, .inr hq, by rw [← rr.length]; exact k _ H1 Z1 z1 k1 (S1.push (.int _))⟩)
theorem c9 (hm : X.mg "list" = none) (h : dz X CL b e δ (.lst ds) δ1) (hi : D.bV ds = true) (hg : Gl X "list" := by rfl) (hv : bootBuiltins "list" = some (.type "list") := by rfl) (hs : starEach [e] X.env = (false, eval e X.env) :: starEach [] X.env := by exact bN rfl) : cC X CL b (.Call (.Name "list" pp) [e] [] pos) δ (.lst (ds.map T.sh)) δ1 := fun H Z σ ts vs Q S k =>
 c6 (lE Bk hg hm hv (cN eu fB hs) (he := hs)) (h H Z σ ts vs _ S fun v H1 Z1 z1 k1 S1 r => by
   cases r with
   | lst hq rr =>
     refine ⟨_, _, rfl, .inl hq, fun l hl => ?_⟩
     obtain ⟨c, S2⟩ := (bX.uW (aK.mG S1.tp hi rr) S1).tZ (g0 := []) (by simp [rr.length]) hl
     exact k _ _ _ z1 (k1.trans c) S2)
noncomputable def kK (K : PySem.W.Frag) (CL : Str -> Addr) {A : Type} (n : Nat) (arg : A -> List D) (Pre : A -> Prop) (res : A -> T) : Sp := fun vs H Q _ =>
 ∃ (W : Hp) (a : A), aH W H /\ (∀ c o, H c = some o -> jW o = true -> W c = some o) /\ aK K CL W (arg a) vs /\ (arg a).length = n /\ Pre a /\ n5 CL W ∧
   ∀ v H' W' fp, aH H H' -> aH W W' -> aH W' H' -> (∀ c o, W' c = some o -> W c = none -> H c = none) -> (∀ c o, H' c = some o -> jW o = true -> W' c = some o) →
     cW K CL H' W' (res a) v fp -> fp.Nodup -> (∀ c ∈ fp, W' c = none /\ H c = none) -> Q v H'
section
variable {A : Type} {k n : Nat} {f : Addr} {fd : FuncData} {ps : List Str} {arg : A -> List D} {Pre : A -> Prop} {res : A -> T} {x : Str}
theorem Sw (a : A) (F : ck X.prog X.w X.K X.mg X.base gO k f fd ps (kK X.K CL n arg Pre res)) (hr : fF k X.A) (hm : X.mg x = some (.ref f)) (hk : PySem.W.keepIn X.K (.ref f) = true) (hb : Binds X.K fd ps [])
   (h : Rx X CL b (e :: es) δ (arg a) δ1) (hn : (arg a).length = n) (hp : Pre a) (hc : (res a).clean = true) (hg : Gl X x)
   (vD : (x == ("__debug__" : Str)) = false := by decide) (he : starEach (e :: es) X.env = (false, eval e X.env) :: starEach es X.env := by exact bN rfl) (hpl : (backTo pos (starEach es X.env)).any (·.1) = false := by rfl) :
   cC X CL b (.Call (.Name x pp) (e :: es) [] pos) δ (res a) δ1 := fun H Z σ ts vs Q S kk =>
 c6 (JA F hr hg hm hk hb .nil En M6 vD he hpl) (h H Z σ ts vs _ S fun us H1 Z1 z1 k1 S1 r => by
   rw [ai6]
   refine ⟨H1, a, .refl _, fun _ _ q _ => q, r, hn, hp, S1.Le, fun v H' W' fp hh ww wh nw tp rt nd own => ?_⟩
   obtain ⟨Z', z', S'⟩ := S1.back hh S1.zh ww wh nw tp rt nd own (.inr hc)
   exact kk v H' Z' (z1.trans z') (k1.trans hh) S')
theorem Oi (a : A) (F : ck X.prog X.w X.K X.mg X.base gO k f fd ps (kK X.K CL n arg Pre res)) (hr : fF k X.A) (hm : X.mg x = some (.ref f)) (hk : PySem.W.keepIn X.K (.ref f) = true) (hb : Binds X.K fd ps [])
   (h : Lf X CL b (e :: es) δ ((arg a).map T.sh) δ1) (hn : (arg a).length = n) (hp : Pre a) (hg : Gl X x)
   (vD : (x == ("__debug__" : Str)) = false := by decide) (he : starEach (e :: es) X.env = (false, eval e X.env) :: starEach es X.env := by exact bN rfl) (hpl : (backTo pos (starEach es X.env)).any (·.1) = false := by rfl) :
   cC X CL b (.Call (.Name x pp) (e :: es) [] pos) δ (res a) δ1 := fun H Z σ ts vs Q S kk =>
 c6 (JA F hr hg hm hk hb .nil En M6 vD he hpl) (h H Z σ ts vs _ S fun us H1 Z1 hl z1 k1 S1 => by
   rw [ai6]
   have hl' : us.length = (arg a).length := by rw [hl, aiC]
   have S2 := S1.drops (by simp [hl'])
   refine ⟨Z1, a, S1.zh, S1.tp, S1.Sv hl', hn, hp, S1.Ye, fun v H' W' fp hh ww wh nw tp rt nd own => ?_⟩
   obtain ⟨Z', z', S'⟩ := S2.back hh (.refl _) ww wh nw tp rt nd own (.inl rfl)
   exact kk v H' Z' (z1.trans z') (k1.trans hh) S')
end
variable {D D' : c7} {st : Stmt} {fG abX : List Stmt}
theorem Meets.to {K : PySem.W.Frag} {Z : Hp} {ts : List T} {vs : List V} {E : Ends} (M : Meets K CL b Z ts vs D E) (h1 : ∀ δ, D'.nx δ -> D.nx δ) (h2 : ∀ t δ, D'.rt t δ -> D.rt t δ) (h3 : ∀ δ, D'.bk δ -> D.bk δ) (h4 : ∀ δ, D'.ct δ -> D.ct δ) : Meets K CL b Z ts vs D' E :=
 ⟨fun _ _ _ _ s S k => M.nx _ _ _ _ s S (h1 _ k), fun _ _ _ _ _ _ s S k => M.rt _ _ _ _ _ _ s S (h2 _ _ k), fun _ _ _ _ s S k => M.bk _ _ _ _ s S (h3 _ k), fun _ _ _ _ s S k => M.ct _ _ _ _ s S (h4 _ k)⟩
theorem aq (h : D.nx δ) : fq X CL b [] δ D := fun H Z σ ts vs E S M => abS RQ (M.nx δ σ H Z (.refl _) S h)
theorem dG (h : Ry X CL b st δ { D with nx := fun δ1 => fq X CL b fG δ1 D }) : fq X CL b (st :: fG) δ D := fun H Z σ ts vs E S M =>
 abS (Nn psS Sj) (h H Z σ ts vs _ S ⟨fun δ' σ' H' Z' s S' k => k H' Z' σ' ts vs E S' (M.mono s), M.rt, M.bk, M.ct⟩)
theorem Oj (h : D.bk δ) : Ry X CL b (.Break pos) δ D := fun H Z σ ts vs E S M => tW Np (M.bk δ σ H Z (.refl _) S h)
theorem Yo (h : cC X CL b e δ t δ1) (k : D.rt t δ1) : Ry X CL b (.Return (some e) pos) δ D := fun H Z σ ts vs E S M => tW (Xq eu) (h H Z σ ts vs _ S fun v H1 Z1 z1 k1 S1 => M.rt t v H1 Z1 δ1 σ z1 S1 k)
theorem abY (h : tO X CL b e δ p δ1) (h1 : p = true -> fq X CL b fG δ1 D) (h2 : p = false -> fq X CL b abX δ1 D) : Ry X CL b (.If e fG abX pos) δ D := fun H Z σ ts vs E S M =>
 tW (abm Yd Sj Sj) (h H Z σ ts vs _ S fun H1 Z1 z1 k1 S1 => by
   cases p with
   | true => exact N3 (h1 rfl H1 Z1 σ ts vs E S1 (M.mono z1))
   | false => exact N2 (h2 rfl H1 Z1 σ ts vs E S1 (M.mono z1)))
theorem Ol (i : Nat) {x : Str} {pos' : Pos} (h : cC X CL b e δ t δ1) (k : D.nx (δ1.set i (some t))) (hl : i < δ1.length := by decide) (hN : X.N.Nodup := by assumption) (hi : X.N[i]? = some x := by rfl) (hx : Loc X.env.scope x := by first | exact .inl rfl | exact .inr rfl)
   (hs : swapsWith e (some (.Name x pos')) pos.line X.env = pure false := by rfl) (hf : X.fn x = true \/ X.env.scope.names.lookup x = some .local := by first | exact .inl rfl | exact .inr rfl | assumption) : Ry X CL b (.Assign [.Name x pos'] e pos) δ D := fun H Z σ ts vs E S M =>
 tW (Nr hN hi hx eu hs hf) (h H Z σ ts vs _ S fun v H1 Z1 z1 k1 S1 => M.nx _ _ H1 Z1 z1 (S1.set hl) k)
end
noncomputable def entry (N : List Str) (ds : List D) : List (Option T) := ds.map (fun d => some (T.sh d)) ++ List.replicate (N.length - ds.length) none
theorem jE {K : PySem.W.Frag} {CL : Str -> Addr} {H Z : Hp} : ∀ {ds : List D} {vs : List V} (n : Nat), aK K CL Z ds vs -> fX K CL H Z (ds.map (fun d => some (T.sh d)) ++ List.replicate n none) (vs.map some ++ List.replicate n none) []
 | _, _, 0, .nil => .nil
 | _, _, n + 1, .nil => .skip (jE (ds := []) (vs := []) n .nil)
 | _, _, n, .cons r t => .cons (fp := []) (gp := []) (.sh r) (jE n t)
theorem bA {P : Program} {w : World} {K : PySem.W.Frag} {mg : Str -> Option Value} {base : Heap} {CL : Str -> Addr} {x qual : Str} {st : Stmt} {f : Addr} {fd : FuncData} {N ps : List Str} {k : Nat} {A : Type} {arg : A -> List D} {Pre : A -> Prop} {res : A -> T} (F : jB K x qual st f fd) (S : aU N ps (ao st))
   (hb : ∀ (dY : Value) (Ar : Around) (outer : List Env) (s : Shared) (H : Hp) (E : XK) (b : Bx) (a : A), fF k (Ar.deeper (envOfC qual (ao st) s.heap.objs.size f dY)) -> Pre a →
     fq (wJ gO P w K mg base N qual (ao st) f dY Ar outer s H E).Rt CL b (gk st) (entry N (arg a)) { nx := fun _ => res a = .sh .non, rt := fun t _ => t = res a }) :
   ck P w K mg base gO (k + 1) f fd ps (kK K CL ps.length arg Pre res) := by
 refine F.ok S (fun vs H Q E h => ?_) (fun dY Ar outer s H vs Q E hr h => ?_)
 . obtain ⟨W, a, _, _, r, hl, _⟩ := h
   rw [← r.length]; exact hl
 . obtain ⟨W, a, wh, tp, r, hl, hp, tb, kk⟩ := h
   refine ⟨_, Sj, hb dY Ar outer s H E ⟨H, W⟩ a hr hp H W _ [] [] _ ⟨⟨[], [], ?_, .nil, aj4, fun a ha => by cases ha⟩, .refl _, .refl _, wh, fun a o q z => ?_, tp, tb⟩ ⟨fun δ' σ' H' Z' s' S' e => ?_, fun t v H' Z' δ' σ' s' S' e => ?_, fun _ _ _ _ _ _ e => e.elim, fun _ _ _ _ _ _ e => e.elim⟩⟩
   . unfold entry L2.start
     rw [← r.length]
     exact jE _ r
   . have q' : W a = some o := q
     have z' : W a = none := z
     rw [q'] at z'; cases z'
   . exact kk .non H' Z' [] S'.bh S'.zz S'.zh S'.new S'.tp (by rw [show res a = .sh .non from e]; exact .sh .non) aj4 fun a ha => by cases ha
   . have e' : t = res a := e
     subst e'
     obtain ⟨fp, gp, _, r', nd, own⟩ := S'.rep
     cases r' with
     | @cons _ _ _ _ f1 f2 r1 r2 =>
       have h1 := (ajt.mp nd).2.1
       exact kk v H' Z' f1 S'.bh S'.zz S'.zh S'.new S'.tp r1 (ajt.mp h1).1 fun a ha => own a (aiD _ (aiP _ ha))
section
variable {prog : Program} {w : World} {A : Around} {R : Result -> Shared -> Prop} {s : Shared}
theorem Bt {elt target iter : Expr} {ifs : List Expr} {scope : Scope} {pos : Pos} {it acc : Value} {env : Env} (I : Nat -> Shared -> Prop)
   (turn : ∀ n s, I n s -> wpAny (model prog w) A (pyNext it) (fun r s₁ => match r with
     | none => R (.ok .next) s₁
     | some v => wpAny (model prog w) A (letOwnedTupleGo target it v) (fun _ WH => wpAny (model prog w) A (assign target env v) (fun _ s₂ =>
         wpAny (model prog w) A (forIn ifs true fun c r => if r = true then do let ok ← isTrue c env (eval c env); pure (ForInStep.yield ok) else pure (ForInStep.yield r)) (fun ok s₃ =>
           if ok = true then wpAny (model prog w) A (eval elt env) (fun x s₄ =>
             wpAny (model prog w) A (call (.builtin "list.append") [acc, x]) (fun _ s₅ => ∃ m, m < n /\ I m s₅) (fun _ _ => False) s₄) (fun _ _ => False) s₃
           else ∃ m, m < n /\ I m s₃) (fun _ _ => False) s₂) (fun _ _ => False) WH) (fun _ _ => False) s₁) (fun _ _ => False) s)
   (n : Nat) (h : I n s) :
   codeAny (model prog w) A (.compLoop (.ListComp elt [⟨target, iter, ifs, 0⟩] scope pos) 0 it acc env) R s := by
 refine codeAny_loop rfl I (fun n s hI => ?_) n h
 show wpAny _ A ((compTurn (.ListComp elt [⟨target, iter, ifs, 0⟩] scope pos) 0 it acc env).onRaise (fun x => do noteFrame x env; theTreesLotGoes x)) _ _ s
 refine wpAny_noted ?_
 rw [compTurn_list]
 refine aiS (wpAny_standAt (aiS (ajK (turn n s hI) (fun r s₁ h₁ => ?_) fun _ _ h' => h'.elim)))
 cases r with
 | none => exact ajo h₁
 | some v =>
   refine aiS (ajK h₁ (fun _ WH h₁' => ?_) fun _ _ h' => h'.elim)
   refine aiS (ajK h₁' (fun _ s₂ h₂ => aiS (ajK h₂ (fun ok s₃ h₃ => ?_) fun _ _ h' => h'.elim)) fun _ _ h' => h'.elim)
   cases ok with
   | false => exact ajo ⟨rfl, h₃⟩
   | true =>
     exact aiS (aiS (ajK h₃ (fun x s₄ h₄ => aiS (ajK h₄ (fun _ s₅ h₅ => ajo (ajo ⟨rfl, h₅⟩)) fun _ _ h' => h'.elim)) fun _ _ h' => h'.elim))
end
noncomputable def cR (env : Env) : List (Str × NameKind) -> List (Str × Addr) -> List (Str × Addr)
 | [], cs => cs
 | (n, k) :: r, cs => cR env r (if k == .free then (n, (env.cells.lookup n).getD 0) :: cs else cs)
theorem kL {scope : Scope} {env : Env} (h : ∀ x ∈ scope.names, x.2 = .free -> ∃ c, env.cells.lookup x.1 = some c) : closureFor scope env = pure (cR env scope.names []) := by
 have go : ∀ (l : List (Str × NameKind)) (cs : List (Str × Addr)), (∀ x ∈ l, x.2 = .free -> ∃ c, env.cells.lookup x.1 = some c) →
     (forIn l cs fun x r => match x with | (name, kind) => if (kind == NameKind.free) = true then do let a ← cellOf env name; pure (ForInStep.yield ((name, a) :: r)) else pure (ForInStep.yield r) : Sem (List (Str × Addr))) = pure (cR env l cs) := by
   intro l
   induction l with
   | nil => intro cs _; rfl
   | cons x r ih =>
     intro cs hx
     obtain ⟨n, k⟩ := x
     rw [List.forIn_cons]
     by_cases hk : k = .free
     . subst hk
       obtain ⟨c, hc⟩ := hx (n, .free) aiF rfl
       have e : cellOf env n = pure c := by unfold cellOf; rw [hc]
       simp only [akh, akm, e, pure_bind]
       rw [ih _ fun y hy => hx y (aiE _ hy)]
       simp only [cR, akh, akm]
       rw [hc]; rfl
     . have hb : (k == NameKind.free) = false := by simpa using hk
       simp only [hb, ajz, aka, pure_bind]
       rw [ih _ fun y hy => hx y (aiE _ hy)]
       simp only [cR, hb, ajz, aka]
 unfold closureFor
 have := go scope.names [] h
 simp only [bind_pure] at this ⊢
 exact this
theorem mK {env : Env} : ∀ {l : List (Str × NameKind)} {cs : List (Str × Addr)} {y : Str} {c : Addr}, (∀ x ∈ l, x.2 = .free -> ∃ c, env.cells.lookup x.1 = some c) -> (∀ y c, cs.lookup y = some c -> env.cells.lookup y = some c) →
   (cR env l cs).lookup y = some c -> env.cells.lookup y = some c
 | [], cs, y, c, _, h, e => h y c e
 | (n, k) :: r, cs, y, c, hx, h, e => by
   refine mK (l := r) (fun z hz => hx z (aiE _ hz)) (fun z d hz => ?_) e
   by_cases hk : k = .free
   . subst hk
     obtain ⟨c', hc⟩ := hx (n, .free) aiF rfl
     simp only [akh, akm, hc, Option.getD_some, ajg] at hz
     by_cases hzn : (z == n) = true
     . rw [hzn] at hz
       have : z = n := by simpa using hzn
       subst this
       cases hz
       exact hc
     . have : (z == n) = false := by simpa using hzn
       rw [this] at hz
       exact h z d hz
   . have hb : (k == NameKind.free) = false := by simpa using hk
     rw [hb] at hz
     exact h z d hz
theorem uX {env : Env} {y : Str} : ∀ {l : List (Str × NameKind)} {cs : List (Str × Addr)}, (∃ c, cs.lookup y = some c) -> ∃ c, (cR env l cs).lookup y = some c
 | [], cs, h => h
 | (n, k) :: r, cs, h => by
   refine uX (l := r) ?_
   by_cases hk : (k == NameKind.free) = true
   . rw [aiI hk, ajg]
     by_cases hy : (y == n) = true
     . rw [hy]; exact ⟨_, rfl⟩
     . have : (y == n) = false := by simpa using hy
       rw [this]; exact h
   . rw [aiG hk]; exact h
theorem jF {env : Env} {y : Str} : ∀ {l : List (Str × NameKind)} {cs : List (Str × Addr)}, l.lookup y = some .free -> ∃ c, (cR env l cs).lookup y = some c
 | [], _, h => by simp at h
 | (n, k) :: r, cs, h => by
   rw [ajg] at h
   by_cases hy : (y == n) = true
   . rw [hy] at h
     cases h
     refine uX (l := r) ?_
     rw [aiI (by rfl), ajg, hy]
     exact ⟨_, rfl⟩
   . have : (y == n) = false := by simpa using hy
     rw [this] at h
     exact jF (l := r) h
noncomputable def dO (X : Cx) (scope : Scope) (Nc : List Str) (C : Addr) (s : Shared) (H : Hp) (fp : List Addr) : Cx where
 prog := X.prog
 w := X.w
 K := X.K
 mg := X.mg
 base := X.base
 A := X.A
 N := Nc
 s₀ := s
 H₀ := H
 env := compEnvC scope (cR X.env scope.names []) C X.env
 outer := X.stack
 stack := X.stack
 ex := fp
 fn := fun _ => false
 calm := X.calm
 pn := []
 xe := fun _ _ => False
structure gI (X : Cx) (scope : Scope) (x : Str) (Nc : List Str) (ix : List Nat) : Prop where
 kind : scope.kind = .function
 t6 : ∀ y ∈ scope.names, y.2 ≠ .cell
 nd : Nc.Nodup
 names : ∀ y ∈ scope.names, y.2 = .local -> scope.names.lookup y.1 = some .local
 own : scope.names.lookup x = some .local
 frees : ∀ y ∈ scope.names, y.2 = .free -> scope.names.lookup y.1 = some .free /\ (X.env.kindOf y.1 = some .cell \/ X.env.kindOf y.1 = some .free)
 hd : Nc = x :: ix.filterMap (X.N[·]?)
 WK : ∀ i ∈ ix, ∃ y, X.N[i]? = some y /\ scope.names.lookup y = some .free
theorem fH {env : Env} : ∀ {names : List (Str × NameKind)} {x : Str} {k : NameKind}, names.lookup x = some k -> 
   (names.map fun (n, k) => if (k == NameKind.free && env.scope.kind == .function && env.kindOf n == some .cell) then (n, NameKind.cell) else (n, k)).lookup x = some (if (k == NameKind.free && env.scope.kind == .function && env.kindOf x == some .cell) then .cell else k)
 | [], _, _, h => by simp at h
 | (n, k') :: r, x, k, h => by
   have ih := @fH env r x k
   show List.lookup x ((if (k' == NameKind.free && env.scope.kind == .function && env.kindOf n == some .cell) = true then (n, NameKind.cell) else (n, k')) :: _) = _
   cases hx : x == n with
   | true =>
     simp only [ajg, hx] at h
     cases h
     have e : x = n := by simpa using hx
     subst e
     split <;> simp [ajg]
   | false =>
     simp only [ajg, hx] at h
     split
     . simp only [ajg, hx]; exact ih h
     . simp only [ajg, hx]; exact ih h
theorem jk {env : Env} : ∀ {names : List (Str × NameKind)} {x : Str}, names.lookup x = none -> 
   (names.map fun (n, k) => if (k == NameKind.free && env.scope.kind == .function && env.kindOf n == some .cell) then (n, NameKind.cell) else (n, k)).lookup x = none
 | [], _, _ => rfl
 | (n, k') :: r, x, h => by
   have ih := @jk env r x
   show List.lookup x ((if (k' == NameKind.free && env.scope.kind == .function && env.kindOf n == some .cell) = true then (n, NameKind.cell) else (n, k')) :: _) = _
   cases hx : x == n with
   | true => simp only [ajg, hx] at h; cases h
   | false =>
     simp only [ajg, hx] at h
     split
     . simp only [ajg, hx]; exact ih h
     . simp only [ajg, hx]; exact ih h
section
variable {X : Cx} {scope : Scope} {x : Str} {Nc : List Str} {ix : List Nat} {pins : List (Addr × Obj)} {σ : L2.St} {H : Hp} {s : Shared}
noncomputable def t7 (σ : L2.St) (ix : List Nat) (o : Option V) : L2.St := o :: ix.map fun i => (σ[i]?).getD none
theorem Lg {fp : List Addr} {jz : List (Addr × Obj)} {σ' : L2.St} {H' : Hp} {s' : Shared} {h'' : Heap} (I : Inv X pins σ H s) (rR : ∀ b ∈ fp, jm X pins H b)
   (J : Inv (dO X scope Nc s.heap.objs.size s H fp) jz σ' H' s') (hs : Heap.SameBut s.heap.objs.size s'.heap h'') : Inv X pins σ H' { s' with heap := h'' } := by
 have un : Un (M4 X.stack) fp H H' s.heap s'.heap := J.base
 have un2 : Un (M4 X.stack) fp H H' s.heap h'' := by
   have ne : ∀ b o, s.heap.get? b = some o -> b ≠ s.heap.objs.size := fun b o e => aja (aiX e)
   refine ⟨fun b o e n hb hx => (hs.2 b (ne b o e)).trans (un.keep b o e n hb hx), fun b o e n hb hx => ?_, un.free, fun b o e hx => ?_, un.Ba, un.dD, un.Bb⟩
   . obtain ⟨sl, q⟩ := un.slot b o e n hb hx
     exact ⟨sl, (hs.2 b (ne b o e)).trans q⟩
   . obtain ⟨o', q⟩ := un.there b o e hx
     exact ⟨o', (hs.2 b (ne b o e)).trans q⟩
 have nC : H' s.heap.objs.size = none := J.free
 have dw : qQ X.prog X.w H' h'' := fun b u e => by
   refine (J.dw b u e).A9 (fun c v hc q => (hs.2 c ?_).trans q) (fun _ q => q) fun _ _ q => q
   rintro rfl
   rcases hc with z | z
   . subst z; rw [nC] at e; cases e
   . rw [nC] at z; cases z
 obtain ⟨hh, g, d, t, os'⟩ := s'
 obtain rfl : os' = s.os := J.os
 show L2.Inv X pins σ H' { s with heap := h'', gens := g, drawn := d, toks := t }
 exact I.call (h' := h'') (g' := g) (d' := d) (t' := t) (ch := fp) un2 dw J.bare fun b hb => ⟨(rR b hb).2.2.2.1, (rR b hb).2.1, (rR b hb).2.2.2.2.1, (rR b hb).2.2.2.2.2⟩
noncomputable def Yp (X : Cx) : List Expr -> TT
 | [] => fun _ H Q => Q true H
 | [c] => Si X c
 | _ => fun _ _ _ => False
theorem Om {ifs : List Expr} {Q : Bool -> Hp -> Prop} (I : Inv X pins σ H s) (h : Yp X ifs σ H Q) (hx : X.xe = fun _ _ => False) :
   wpAny (model X.prog X.w) X.A (forIn ifs true fun c r => if r = true then do let ok ← isTrue c X.env (eval c X.env); pure (ForInStep.yield ok) else pure (ForInStep.yield r)) (TP X pins σ Q) (fun _ _ => False) s := by
 match ifs, h with
 | [], h => exact wpAny_tests_nil ⟨H, I, h⟩
 | [c], h =>
   have := h pins s I
   rw [hx] at this
   exact wpAny_tests_one this
end
noncomputable def TIv (X : Cx) (CL : Str -> Addr) (b : Bx) (ifs : List Expr) (δ : List (Option T)) (p : Bool) : Prop :=
 match ifs with
 | [] => p = true
 | [c] => tO X CL b c δ p δ
 | _ => False
theorem TIv.sem {X : Cx} {CL : Str -> Addr} {b : Bx} {ifs : List Expr} {δ : List (Option T)} {p : Bool} (h : TIv X CL b ifs δ p) {H Z : Hp} {σ : L2.St} {Q : Bool -> Hp -> Prop} (S : bX X.K CL b H Z δ σ [] [])
   (k : ∀ H' Z', aH Z Z' -> aH H H' -> bX X.K CL b H' Z' δ σ [] [] -> Q p H') : Yp X ifs σ H Q := by
 match ifs, h with
 | [], h =>
   have e : p = true := h
   subst e
   exact k H Z (.refl _) (.refl _) S
 | [c], h => exact (show tO X CL b c δ p δ from h) H Z σ [] [] Q S k
theorem lH {ts : List T} : (T.lst ts).clean = T.iA ts := by rw [T.clean]
theorem wO {g : D -> T} : ∀ {ds : List D}, (∀ d ∈ ds, (g d).clean = true) -> T.iA (ds.map g) = true
 | [], _ => by rw [List.map_nil, T.iA]
 | d :: ds, h => by
   rw [ai1, T.iA, h d aiF, wO fun e he => h e (aiE _ he)]
   rfl
section
variable {X : Cx} {CL : Str -> Addr} {b : Bx} {H Z W1 : Hp} {δ δc : List (Option T)} {σ : L2.St} {ts : List T} {vs us : List V} {ds : List D} {scope : Scope} {Nc : List Str} {ix : List Nat} {elt : Expr} {ifs : List Expr} {p : D -> Bool} {g : D -> T} {J : It}
end
section
variable {K : PySem.W.Frag} {CL : Str -> Addr} {b : Bx} {H H' Z Z' : Hp} {δ δ' : List (Option T)} {σ σ' : L2.St} {ts tl : List T} {vs us : List V} {t : T} {v : V}
theorem aZ.at : ∀ {tl : List T} {us : List V} {fp : List Addr} {j : Nat} {t : T}, aZ K CL H Z tl us fp -> tl[j]? = some t -> ∃ v f1 f2 f3, us[j]? = some v /\ fp = f1 ++ (f2 ++ f3) /\ cW K CL H Z t v f2 ∧
   ∀ {H' : Hp} {t' : T} {v' : V} {g : List Addr}, (∀ a ∈ f1 ++ f3, H' a = H a) -> cW K CL H' Z t' v' g -> aZ K CL H' Z (tl.set j t') (us.set j v') (f1 ++ (g ++ f3))
 | _, _, _, _, _, .nil, e => by simp at e
 | _, _, _, 0, _, .cons (fp := fp) (gp := gp) r q, e => by
   simp at e
   subst e
   exact ⟨_, [], fp, gp, rfl, rfl, r, fun {H' t' v' g} k r' => aZ.cons (fp := g) (gp := gp) r' (aZ.mono (fp := gp) (.refl _) (fun a ha => k a (by simpa using ha)) q)⟩
 | _, _, _, j + 1, t, .cons (fp := fp) (gp := gp) r q, e => by
   obtain ⟨v, f1, f2, f3, h1, h2, h3, h4⟩ := aZ.at (j := j) (t := t) q (by simpa using e)
   refine ⟨v, fp ++ f1, f2, f3, by simpa using h1, by rw [h2, List.append_assoc], h3, fun k r' => ?_⟩
   rw [aiM]
   exact .cons (r.mono (.refl _) fun a ha => k a (by simp [ha])) (h4 (fun a ha => k a (by rw [aiM]; exact aiD _ ha)) r')
theorem lI {α : Type} {l : List α} {i : Nat} {x : α} (h : l[i]? = some x) : l.set i x = l := by
 apply akc
 intro j
 rw [List.getElem?_set]
 split
 . rename_i e; subst e
   split
   . exact h.symm
   . rename_i h2; rw [ako (by omega)]
 . rfl
theorem bX.write {a : Addr} {xs : List V} {f1 f2 f3 g gp Yq : List Addr} {δ2 : List (Option T)} (S : bX K CL b H Z δ σ ts vs) (nd : ((f1 ++ (f2 ++ f3)) ++ gp).Nodup) (own : ∀ c ∈ (f1 ++ (f2 ++ f3)) ++ gp, Z c = none /\ b.B c = none) (ha : a ∈ f2)
   (hH : ∃ o, H a = some o) (e' : fX K CL (upd H a (.lst xs)) Z δ2 σ (f1 ++ (g ++ f3))) (r' : aZ K CL (upd H a (.lst xs)) Z tl us Yq) (pm : ((f1 ++ (g ++ f3)) ++ Yq).Nodup) (sub : ∀ c ∈ (f1 ++ (g ++ f3)) ++ Yq, c ∈ (f1 ++ (f2 ++ f3)) ++ gp) :
   bX K CL b (upd H a (.lst xs)) Z δ2 σ tl us := by
 have oa := own a (by simp [ha])
 refine ⟨⟨_, _, e', r', pm, fun c hc => own c (sub c hc)⟩, fun c o q => ?_, S.zz, fun c o q => ?_, S.new, fun c o q i => ?_, S.tab⟩
 . rw [aA (aL q oa.2)]; exact S.bh c o q
 . rw [aA (aL q oa.1)]; exact S.zh c o q
 . by_cases hc : c = a
   . subst hc; rw [aP] at q; cases q; cases i
   . rw [aA hc] at q; exact S.tp c o q i
theorem bX.append {i : Nat} (S : bX K CL b H Z δ σ (t :: ts) (v :: vs)) (hi : δ[i]? = some (some (.lst tl))) :
   ∃ a us, σ[i]? = some (some (.ref a)) /\ H a = some (.lst us) /\ us.length = tl.length /\ bX K CL b (upd H a (.lst (us ++ [v]))) Z (δ.set i (some (.lst (tl ++ [t])))) σ ts vs := by
 obtain ⟨fp, gp, e, r, nd, k⟩ := S.rep
 obtain ⟨v0, f1, f2, f3, hv, rR, rt, put, _⟩ := e.get hi
 subst rR
 cases rt with
 | @lst a us _ g ha rs =>
   cases r with
   | @cons _ _ _ _ ft gr q1 q2 =>
     have ne : ∀ c ∈ (f1 ++ (g ++ f3)) ++ (ft ++ gr), c ≠ a := fun c hc e => by
       subst e
       have hp : ((f1 ++ ((c :: g) ++ f3)) ++ (ft ++ gr)).Perm (c :: ((f1 ++ (g ++ f3)) ++ (ft ++ gr))) := by
         rw [ai0, ← ai0]
         exact (ajG.append_right _)
       exact (ajA.mp (hp.nodup_iff.mp nd)).1 hc
     refine ⟨a, us, hv, ha, rs.length.symm, ?_⟩
     have r1 : cW K CL (upd H a (.lst (us ++ [v]))) Z (.lst (tl ++ [t])) (.ref a) (a :: (g ++ (ft ++ []))) :=
       .lst aP (aZ.app (rs.mono (.refl _) fun c hc => aA (ne c (by simp [hc]))) (.cons (q1.mono (.refl _) fun c hc => aA (ne c (by simp [hc]))) .nil))
     have e2 := put (H' := upd H a (.lst (us ++ [v]))) (.refl _) (fun c hc => aA (ne c (by
       rcases aiO.mp hc with h | h
       . simp [h]
       . simp [h]))) r1
     rw [lI hv] at e2
     have hp : ((f1 ++ ((a :: (g ++ (ft ++ []))) ++ f3)) ++ gr).Perm ((f1 ++ ((a :: g) ++ f3)) ++ (ft ++ gr)) := by
       simp only [ai6, ai0, aiM]
       refine ajd f1 (List.Perm.cons a (ajd g ?_))
       rw [← aiM, ← aiM]
       exact ajl.append_right gr
     exact S.write nd k (aiF) ⟨_, ha⟩ e2 (q2.mono (.refl _) fun c hc => aA (ne c (by simp [hc]))) (hp.nodup_iff.mpr nd) fun c hc => hp.mem_iff.mp hc
theorem bX.setAt {i j : Nat} (S : bX K CL b H Z δ σ (t :: ts) (v :: vs)) (hi : δ[i]? = some (some (.lst tl))) (hj : j < tl.length) :
   ∃ a us, σ[i]? = some (some (.ref a)) /\ H a = some (.lst us) /\ us.length = tl.length /\ bX K CL b (upd H a (.lst (us.set j v))) Z (δ.set i (some (.lst (tl.set j t)))) σ ts vs := by
 obtain ⟨fp, gp, e, r, nd, k⟩ := S.rep
 obtain ⟨v0, f1, f2, f3, hv, rR, rt, put, _⟩ := e.get hi
 subst rR
 cases rt with
 | @lst a us _ g ha rs =>
   cases r with
   | @cons _ _ _ _ ft gr q1 q2 =>
     have ne : ∀ c ∈ (f1 ++ (g ++ f3)) ++ (ft ++ gr), c ≠ a := fun c hc e => by
       subst e
       have hp : ((f1 ++ ((c :: g) ++ f3)) ++ (ft ++ gr)).Perm (c :: ((f1 ++ (g ++ f3)) ++ (ft ++ gr))) := by
         rw [ai0, ← ai0]
         exact (ajG.append_right _)
       exact (ajA.mp (hp.nodup_iff.mp nd)).1 hc
     refine ⟨a, us, hv, ha, rs.length.symm, ?_⟩
     obtain ⟨vj, g1, g2, g3, _, hg, _, set⟩ := rs.at (aiL hj)
     subst hg
     have r1 : cW K CL (upd H a (.lst (us.set j v))) Z (.lst (tl.set j t)) (.ref a) (a :: (g1 ++ (ft ++ g3))) :=
       .lst aP (set (fun c hc => aA (ne c (by
         rcases aiO.mp hc with h | h
         . simp [h]
         . simp [h]))) (q1.mono (.refl _) fun c hc => aA (ne c (by simp [hc]))))
     have e2 := put (H' := upd H a (.lst (us.set j v))) (.refl _) (fun c hc => aA (ne c (by
       rcases aiO.mp hc with h | h
       . simp [h]
       . simp [h]))) r1
     rw [lI hv] at e2
     have hp : ((f1 ++ ((a :: (g1 ++ (ft ++ g3))) ++ f3)) ++ gr).Perm ((f1 ++ ((a :: (g1 ++ g3)) ++ f3)) ++ (ft ++ gr)) := by
       simp only [ai0, aiM]
       refine ajd f1 (List.Perm.cons a (ajd g1 ?_))
       have := (ajl (l₁ := ft) (l₂ := g3 ++ f3)).append_right gr
       simp only [aiM] at this
       exact this
     have sb : ((f1 ++ ((a :: (g1 ++ g3)) ++ f3)) ++ (ft ++ gr)).Sublist ((f1 ++ ((a :: (g1 ++ (g2 ++ g3))) ++ f3)) ++ (ft ++ gr)) := by
       refine aji (aji (aje _) (aji (List.Sublist.cons₂ a ?_) (aje _))) (aje _)
       exact aji (aje _) (ajO _ _)
     exact S.write nd k (aiF) ⟨_, ha⟩ e2 (q2.mono (.refl _) fun c hc => aA (ne c (by simp [hc]))) (hp.nodup_iff.mpr (nd.sublist sb)) fun c hc => sb.subset (hp.mem_iff.mp hc)
end
section
variable {X : Cx} {CL : Str -> Addr} {b : Bx} {δ δ1 δ2 : List (Option T)} {e e2 : Expr} {t : T} {tl Oo tt tt0 : List T} {D : c7} {pos pp pa pb : Pos}
theorem Yr (i : Nat) {x : Str} (h0 : δ[i]? = some (some (.lst Oo))) (h : cC X CL b e δ t δ1) (h1 : δ1[i]? = some (some (.lst tl))) (hl : tl.length < sizeLine) (k : D.nx (δ1.set i (some (.lst (tl ++ [t])))))
   (hi : X.N[i]? = some x := by rfl) (hv : Xc X.env.scope x := by first | exact Or.inl rfl | exact Or.inr (Or.inl rfl) | exact Or.inr (Or.inr rfl)) (hd : (x == ("__debug__" : Str)) = false := by decide) (jy : (x == ("__classdict__" : Str)) = false := by decide)
   (lF : attributeBase (.Name x pp) "append" X.env (eval (.Name x pp) X.env) = eval (.Name x pp) X.env := by rfl)
   (Bl : ((backTo pb (starEach [e] X.env)).all (fun x => !x.1) && (backToKw pb (keywordEach [] X.env)).all (fun x => x.1.isSome) && decide ([e].length + ([] : List Keyword).length + (if ([] : List Keyword).isEmpty then 0 else 1) < 30)) = true := by rfl)
   (hline : (pa.endLine == pb.line) = true := by rfl) (hs : starEach [e] X.env = (false, eval e X.env) :: starEach [] X.env := by exact bN rfl) (Hf : swapsWith (.Call (.Attribute (.Name x pp) "append" pa) [e] [] pb) none pos.line X.env = pure false := by rfl) :
   Ry X CL b (.Expr (.Call (.Attribute (.Name x pp) "append" pa) [e] [] pb) pos) δ D := fun H Z σ ts vs E S M =>
 tW (Jt (NZ akB PySem.F.slot_list_append PySem.F.type_list_append Aq (kI hi hv hd jy) (cN eu fB hs) lF Bl hline hs rfl) Hf) (by
   obtain ⟨v0, e0, r0⟩ := S.look h0
   refine ⟨v0, e0, ?_, ?_⟩
   . rw [T.dQ] at r0
     cases r0 with
     | lst hq _ => exact .inl ⟨rfl, _, hq⟩
   . refine h H Z σ ts vs _ S fun v H1 Z1 z1 k1 S1 => ?_
     obtain ⟨a, us, ea, ha, hu, S2⟩ := S1.append h1
     rw [e0] at ea
     cases ea
     exact ⟨a, us, v, rfl, rfl, ha, by rw [hu]; exact hl, M.nx _ σ _ Z1 z1 S2 k⟩)
end
noncomputable def ab0 : Option (Option T) -> Option T
 | some (some t) => some (.sh t.dQ)
 | _ => none
noncomputable def shO : Option (Option T) -> Option T
 | some (some (T.sh d)) => some (.sh d)
 | _ => none
noncomputable def zk (δ : List (Option T)) (ix : List Nat) : List (Option T) := ix.map fun i => ab0 δ[i]?
noncomputable def Et (δ : List (Option T)) (ix : List Nat) : List (Option T) := ix.map fun i => shO δ[i]?
section
variable {K : PySem.W.Frag} {CL : Str -> Addr} {b : Bx} {H Z : Hp} {δ : List (Option T)} {σ : L2.St} {ts : List T} {vs : List V}
theorem wQ (S : bX K CL b H Z δ σ ts vs) : ∀ (ix : List Nat) (H' : Hp), fX K CL H' H (zk δ ix) (ix.map fun i => (σ[i]?).getD none) []
 | [], _ => .nil
 | i :: r, H' => by
   have ih := wQ S r H'
   show fX K CL H' H (ab0 δ[i]? :: zk δ r) (((σ[i]?).getD none) :: r.map fun i => (σ[i]?).getD none) []
   cases e : δ[i]? with
   | none => exact .skip ih
   | some o =>
     cases o with
     | none => exact .skip ih
     | some t =>
       obtain ⟨v, hv, rv⟩ := S.look e
       rw [hv]
       exact .cons (fp := []) (gp := []) (.sh rv) ih
theorem Eu (S : bX K CL b H Z δ σ ts vs) : ∀ (ix : List Nat) (H' : Hp), fX K CL H' Z (Et δ ix) (ix.map fun i => (σ[i]?).getD none) []
 | [], _ => .nil
 | i :: r, H' => by
   have ih := Eu S r H'
   show fX K CL H' Z (shO δ[i]? :: Et δ r) (((σ[i]?).getD none) :: r.map fun i => (σ[i]?).getD none) []
   cases e : δ[i]? with
   | none => exact .skip ih
   | some o =>
     cases o with
     | none => exact .skip ih
     | some t =>
       cases t with
       | sh d =>
         obtain ⟨v, hv, rv⟩ := S.WD e
         rw [hv]
         exact .cons (fp := []) (gp := []) (.sh rv) ih
       | tup _ => exact .skip ih
       | lst _ => exact .skip ih
       | ins _ _ => exact .skip ih
       | jC _ => exact .skip ih
       | dct _ => exact .skip ih
       | pin _ _ => exact .skip ih
end
section
variable {X : Cx} {CL : Str -> Addr} {b : Bx} {δ δ1 : List (Option T)} {scope : Scope} {x : Str} {Nc : List Str} {ix : List Nat} {elt iter : Expr} {ifs : List Expr} {px pos : Pos} {ds : List D}
structure Comes (X : Cx) (CL : Str -> Addr) (b : Bx) (δ1 : List (Option T)) (σ : L2.St) (ts : List T) (vs : List V) (Z H : Hp) (ds : List D) (J : It) (H1 : Hp) : Prop where
 ex : ∃ Z1 us, aH Z Z1 /\ aH H H1 /\ bX X.K CL b H1 Z1 δ1 σ ts vs /\ aK X.K CL Z1 ds us /\ (∀ i H2, aH Z1 H2 -> i < ds.length -> J.go i H2) ∧
   (∀ i H2 x H', aH Z1 H2 -> i < ds.length -> J.Wv i H2 x H' -> H' = H2 /\ us[i]? = some x) /\ (∀ H2, aH Z1 H2 -> J.stop ds.length H2)
noncomputable def Sx (X : Cx) (CL : Str -> Addr) (b : Bx) (tg e : Expr) (δ : List (Option T)) (ds : List D) (δ1 : List (Option T)) : Prop :=
 ∃ wi, PI X tg e wi /\ ∀ (H Z : Hp) (σ : L2.St) (ts : List T) (vs : List V) (R : It -> Hp -> Prop), bX X.K CL b H Z δ σ ts vs -> (∀ J H1, Comes X CL b δ1 σ ts vs Z H ds J H1 -> R J H1) -> wi σ H R
theorem n6 {tg : Expr} (h : cC X CL b iter δ (.sh (.lst ds)) δ1) : Sx X CL b tg iter δ ds δ1 := by
 refine ⟨_, RV eu, fun H Z σ ts vs R S k => h H Z σ ts vs _ S fun v H1 Z1 z1 k1 S1 => ?_⟩
 obtain ⟨fp, gp, _, r, _, _⟩ := S1.rep
 cases r with
 | cons r _ =>
   cases r with
   | sh r =>
     cases r with
     | @lst a us _ hq rr =>
       refine ⟨a, rfl, ⟨us, S1.zh.seq hq⟩, k _ _ ⟨Z1, us, z1, k1, S1.pop, rr, fun i H2 s hi => ?_, fun i H2 y H' s hi hy => ⟨hy.1, hy.2 us (s.seq hq)⟩, fun H2 s => ⟨us, s.seq hq, by rw [rr.length]; exact aiH _⟩⟩⟩
       have Hg : i < us.length := by rw [← rr.length]; exact hi
       exact ⟨us, us[i], s.seq hq, by simp [Hg]⟩
theorem wR {tg : Expr} (h : cC X CL b iter δ (.sh (.tup ds)) δ1) : Sx X CL b tg iter δ ds δ1 := by
 refine ⟨_, XA eu, fun H Z σ ts vs R S k => h H Z σ ts vs _ S fun v H1 Z1 z1 k1 S1 => ?_⟩
 obtain ⟨fp, gp, _, r, _, _⟩ := S1.rep
 cases r with
 | cons r _ =>
   cases r with
   | sh r =>
     cases r with
     | @tup a us _ hq rr =>
       refine ⟨a, rfl, ⟨us, aH.Lb S1.zh hq⟩, k _ _ ⟨Z1, us, z1, k1, S1.pop, rr, fun i H2 s hi => ?_, fun i H2 y H' s hi hy => ⟨hy.1, hy.2 us (aH.Lb s hq)⟩, fun H2 s => ⟨us, aH.Lb s hq, by rw [rr.length]; exact aiH _⟩⟩⟩
       have Hg : i < us.length := by rw [← rr.length]; exact hi
       exact ⟨us, us[i], aH.Lb s hq, by simp [Hg]⟩
noncomputable def bB (lo : Int) (n : Nat) : List D := (List.range n).map fun (i : Nat) => D.int (lo + i)
theorem Ew {K : PySem.W.Frag} {Z : Hp} (lo : Int) (n : Nat) : aK K CL Z (bB lo n) ((List.range n).map fun (i : Nat) => V.int (lo + i)) := by
 unfold bB
 generalize List.range n = l
 induction l with
 | nil => exact .nil
 | cons i r ih => exact .cons (.int _) ih
theorem cS {tg : Expr} {pr pc : Pos} {n : Int} (hm : X.mg "range" = none) (h : dz X CL b iter δ (.int n) δ1) (hn : -(2 ^ 62) <= n /\ n < 2 ^ 62) (hg : Gl X "range") (Nq : starEach [iter] X.env = [(false, eval iter X.env)] := by rfl) (Ys : starEach [iter] X.env = (false, eval iter X.env) :: starEach [] X.env := by exact bN rfl) :
   Sx X CL b tg (.Call (.Name "range" pr) [iter] [] pc) δ (bB 0 n.toNat) δ1 := by
 refine ⟨_, KP hg hm (cN eu fB Ys) Nq, fun H Z σ ts vs R S k => h H Z σ ts vs _ S fun v H1 Z1 z1 k1 S1 r => ⟨n, by rw [r.sc rfl], hn.1, hn.2, k _ _ ⟨Z1, _, z1, k1, S1, Ew 0 n.toNat, fun i H2 s hi => ?_, fun i H2 y H' s hi hy => ?_, fun H2 s => ?_⟩⟩⟩
 . show i < n.toNat
   have : (bB 0 n.toNat).length = n.toNat := by simp [bB]
   omega
 . have Hg : i < n.toNat := by simpa [bB] using hi
   refine ⟨hy.1, ?_⟩
   rw [ai5, ajI Hg, hy.2]
   rfl
 . show n.toNat <= (bB 0 n.toNat).length
   simp [bB]
theorem Av {tg : Expr} {pr pc : Pos} {e1 e2 : Expr} {δ2 : List (Option T)} {m n : Int} (hm : X.mg "range" = none) (h1 : dz X CL b e1 δ (.int m) δ1) (h2 : dz X CL b e2 δ1 (.int n) δ2) (hn : -(2 ^ 62) <= m /\ m < 2 ^ 62 /\ -(2 ^ 62) <= n /\ n < 2 ^ 62) (hg : Gl X "range")
   (Nq : starEach [e1, e2] X.env = [(false, eval e1 X.env), (false, eval e2 X.env)] := by rfl) (Ys : starEach [e2] X.env = [(false, eval e2 X.env)] := by rfl) (aew : starEach [e1, e2] X.env = (false, eval e1 X.env) :: starEach [e2] X.env := by rfl) (aex : starEach [e2] X.env = (false, eval e2 X.env) :: starEach [] X.env := by rfl) :
   Sx X CL b tg (.Call (.Name "range" pr) [e1, e2] [] pc) δ (bB m (n - m).toNat) δ2 := by
 refine ⟨_, KQ hg hm (cN eu (cN eu fB aex) aew) Nq Ys, fun H Z σ ts vs R S k => h1 H Z σ ts vs _ S fun v H1 Z1 z1 k1 S1 r => h2 H1 Z1 σ ts vs _ S1 fun v2 H2 Z2 z2 k2 S2 r2 => ⟨m, n, by rw [r.sc rfl, r2.sc rfl], hn, k _ _ ⟨Z2, _, z1.trans z2, k1.trans k2, S2, Ew m (n - m).toNat, fun i H2 s hi => ?_, fun i H2 y H' s hi hy => ?_, fun H2 s => ?_⟩⟩⟩
 . show i < (n - m).toNat
   have : (bB m (n - m).toNat).length = (n - m).toNat := by simp [bB]
   omega
 . have Hg : i < (n - m).toNat := by simpa [bB] using hi
   refine ⟨hy.1, ?_⟩
   rw [ai5, ajI Hg, hy.2]
   rfl
 . show (n - m).toNat <= (bB m (n - m).toNat).length
   simp [bB]
theorem Yt {D : c7} {fG : List Stmt} (i : Nat) {pos' : Pos} (P : Nat -> List (Option T) -> Prop) (h : Sx X CL b (.Name x pos') iter δ ds δ1) (h0 : P 0 δ1) (hl : ∀ j δ, P j δ -> i < δ.length)
   (hs : ∀ j d δ, ds[j]? = some d -> P j δ -> fq X CL b fG (δ.set i (some (.sh d))) { nx := P (j + 1), rt := D.rt, bk := D.nx, ct := P (j + 1) }) (hd : ∀ δ, P ds.length δ -> D.nx δ)
   (hp : PassesOwn (model X.prog X.w) X.A X.env X.xe) (hc : X.calm = true) (hN : X.N.Nodup) (hi : X.N[i]? = some x) (hx : Loc X.env.scope x) (hf : X.fn x = true \/ X.env.scope.names.lookup x = some .local) (hq : ∀ x, foldedSetIterable iter X.env x = pure x := by intro _; rfl) :
   Ry X CL b (.For (.Name x pos') iter fG [] pos) δ D := fun H Z σ ts vs E S M => by
 obtain ⟨wi, pi, hw⟩ := h
 refine tW (Nv hp hc pi (rT hN hi hx hf) Sj hq) (hw H Z σ ts vs _ S fun J H1 zz => ?_)
 obtain ⟨Z1, us, z1, k1, S1, rr, go, yl, st⟩ := zz
 refine ⟨fun j m σ H2 => m = ds.length - j /\ j <= ds.length /\ ∃ Z2 δ2, aH Z1 Z2 /\ bX X.K CL b H2 Z2 δ2 σ ts vs /\ P j δ2, ⟨_, rfl, ai9 _, Z1, δ1, .refl _, S1, h0⟩, ?_⟩
 rintro j m σ H2 ⟨rfl, hj, Z2, δ2, s, S2, p2⟩
 by_cases rY : j < ds.length
 . refine .inr ⟨go j H2 (s.trans S2.zh) rY, fun σ' H' => ∃ Z2 δ2, aH Z1 Z2 /\ bX X.K CL b H' Z2 δ2 σ' ts vs /\ P (j + 1) δ2, fun σ' H' h => ⟨ds.length - (j + 1), by omega, rfl, rY, h⟩, fun y H' hy => ?_⟩
   obtain ⟨e, hu⟩ := yl j H2 y H' (s.trans S2.zh) rY hy
   subst e
   obtain ⟨d, RL, rd⟩ := rr.Oa hu
   have S3 := (S2.push (rd.mono s)).set (hl j δ2 p2)
   exact hs j d δ2 RL p2 _ Z2 _ ts vs _ S3 ⟨fun δ' σ' H' Z' s' S' k => ⟨Z', δ', s.trans s', S', k⟩, fun t v H' Z' δ' σ' s' S' k => M.rt t v H' Z' δ' σ' (z1.trans (s.trans s')) S' k, fun δ' σ' H' Z' s' S' k => M.nx δ' σ' H' Z' (z1.trans (s.trans s')) S' k, fun δ' σ' H' Z' s' S' k => ⟨Z', δ', s.trans s', S', k⟩⟩
 . have e : j = ds.length := by omega
   subst e
   exact .inl ⟨st H2 (s.trans S2.zh), M.nx δ2 σ H2 Z2 (z1.trans s) S2 (hd δ2 p2)⟩
noncomputable def Block (X : Cx) (CL : Str -> Addr) (scope : Scope) (Nc : List Str) (ifs : List Expr) (elt : Expr) (δc : List (Option T)) (ds : List D) (p : D -> Bool) (g : D -> T) : Prop :=
 ∀ C s0 H0 f0 b' d, d ∈ ds -> TIv (dO X scope Nc C s0 H0 f0) CL b' ifs (some (.sh d) :: δc) (p d) /\ (p d = true -> cC (dO X scope Nc C s0 H0 f0) CL b' elt (some (.sh d) :: δc) (g d) (some (.sh d) :: δc))
variable {p : D -> Bool} {g : D -> T} {δc : List (Option T)}
end
section
variable {X : Cx} {CL : Str -> Addr} {b : Bx} {δ δ1 : List (Option T)} {scope : Scope} {x : Str} {Nc : List Str} {ix : List Nat} {elt iter : Expr} {ifs : List Expr} {px pos : Pos} {ds : List D} {p : D -> Bool} {g : D -> T} {δc : List (Option T)}
noncomputable def isD : L3.D -> String -> Option Bool
 | .non, n => if n = "int" \/ n = "str" \/ n = "list" \/ n = "tuple" \/ n = "bool" \/ n = "dict" then some false else none
 | .bl _, n => if n = "int" \/ n = "bool" then some true else if n = "str" \/ n = "list" \/ n = "tuple" \/ n = "dict" then some false else none
 | .int _, n => if n = "int" then some true else if n = "str" \/ n = "list" \/ n = "tuple" \/ n = "bool" \/ n = "dict" then some false else none
 | .str _, n => if n = "str" then some true else if n = "int" \/ n = "list" \/ n = "tuple" \/ n = "bool" \/ n = "dict" then some false else none
 | .lst _, n => if n = "list" then some true else if n = "int" \/ n = "str" \/ n = "tuple" \/ n = "bool" \/ n = "dict" then some false else none
 | .tup _, n => if n = "tuple" then some true else if n = "int" \/ n = "str" \/ n = "list" \/ n = "bool" \/ n = "dict" then some false else none
 | _, _ => none
noncomputable def Yu (t n : String) : Option Bool := if (Value.type t == Value.type n) = true then some true else if PySem.W.kitMeta n = true then (fastBuiltinMro t).map (·.contains (.type n)) else none
theorem lJ {K : PySem.W.Frag} {t n : String} : PySem.W.kitOne K (.type t) (.type n) = Yu t n := rfl
theorem Oq : (["NoneType", "bool", "int", "str", "list", "tuple"].all fun t => ["int", "str", "list", "tuple", "bool", "dict"].all fun n => Yu t n == some (t == n || (t == "bool" && n == "int"))) = true := by decide +kernel
theorem pO {t n : String} (ht : t ∈ ["NoneType", "bool", "int", "str", "list", "tuple"]) (hn : n ∈ ["int", "str", "list", "tuple", "bool", "dict"]) : Yu t n = some (t == n || (t == "bool" && n == "int")) := by
 have := Oq
 rw [ajB] at this
 have h := this t ht
 rw [ajB] at h
 simpa using h n hn
noncomputable def Yv : L3.D -> Option String
 | .non => some "NoneType"
 | .bl _ => some "bool"
 | .int _ => some "int"
 | .str _ => some "str"
 | .lst _ => some "list"
 | .tup _ => some "tuple"
 | _ => none
theorem Lh : nP X (.builtin "isinstance") (fun xs H Q => ∃ y n d t, xs = [y, .ty n] /\ bR X.K CL H d y /\ Yv d = some t /\ n ∈ ["int", "str", "list", "tuple", "bool", "dict"] /\ Q (.bl (t == n || (t == "bool" && n == "int"))) H) := by
 intro pins s σ H xs us Q I r h
 obtain ⟨y, n, d, t, rfl, rd, ht, hn, q⟩ := h
 obtain ⟨u, u2, rfl, ru, ru2⟩ := r.two
 cases (show u2 = Value.type n from ru2)
 have fin : ∀ tk, EP X pins σ Q (.bool (t == n || (t == "bool" && n == "int"))) { s with toks := tk } := fun tk => ⟨.bl _, H, I.tok tk, rfl, q⟩
 cases rd with
 | non => cases ht; cases (show u = Value.none from ru); exact akj PySem.W.kitx_none I.D5 True.intro (lJ.trans (pO (by decide) hn)) (fun z => nomatch z) fin
 | bl c => cases ht; cases (show u = Value.bool c from ru); exact akj PySem.W.kitx_bool I.D5 True.intro (lJ.trans (pO (by decide) hn)) (fun z => nomatch z) fin
 | int c => cases ht; obtain ⟨tt, e⟩ := (show ∃ t, u = Value.int c t from ru); cases e; exact akj PySem.W.kitx_int I.D5 True.intro (lJ.trans (pO (by decide) hn)) (fun z => nomatch z) fin
 | str c => cases ht; obtain ⟨tt, e⟩ := (show ∃ t, u = Value.str c t from ru); cases e; exact akj PySem.W.kitx_str I.D5 True.intro (lJ.trans (pO (by decide) hn)) (fun z => nomatch z) fin
 | @lst a ws _ hq rr =>
   cases ht
   cases (show u = Value.ref a from ru)
   obtain ⟨its, _, pl, _⟩ := I.list hq
   obtain ⟨o, n', e, c, _⟩ := pl
   exact akj PySem.W.kitx_list I.D5 ⟨o, e, c⟩ (lJ.trans (pO (by decide) hn)) (fun z => nomatch z) fin
 | @tup a ws _ hq rr =>
   cases ht
   cases (show u = Value.ref a from ru)
   obtain ⟨its, _, pl, _⟩ := I.tuple hq
   obtain ⟨o, e, c, _⟩ := pl
   exact akj PySem.W.kitx_tuple I.D5 ⟨o, e, c⟩ (lJ.trans (pO (by decide) hn)) (fun z => nomatch z) fin
 | ins _ _ => cases ht
 | any _ => cases ht
 | val _ => cases ht
 | jC _ _ => cases ht
 | dct _ _ => cases ht
theorem rZ {e : Expr} {d : L3.D} {t n : String} {nm : Str} {pp pq : Pos} (hm : X.mg "isinstance" = none) (Ot : X.mg nm = none) (hg : Gl X "isinstance") (Ou : Gl X nm) (hbn : bootBuiltins nm = some (.type n)) (hnm : nm ≠ "__name__") (hnd : (nm == ("__debug__" : Str)) = false) (h : dz X CL b e δ d δ1) (ht : Yv d = some t) (hn : n ∈ ["int", "str", "list", "tuple", "bool", "dict"])
   (hs : starEach [e, .Name nm pq] X.env = (false, eval e X.env) :: starEach [.Name nm pq] X.env := by exact bN rfl) :
   cC X CL b (.Call (.Name "isinstance" pp) [e, .Name nm pq] [] pos) δ (.sh (.bl (t == n || (t == "bool" && n == "int")))) δ1 := fun H Z σ ts vs Q S k =>
 c6 (lD (Lh (CL := CL)) hg hm boot_isinstance (cN eu (cN (RN Ou Ot hbn (v := .ty n) rfl hnm hnd) fB) hs) (he := hs)) (h H Z σ ts vs _ S fun v H1 Z1 z1 k1 S1 r =>
   ⟨v, n, d, t, rfl, r, ht, hn, k _ H1 Z1 z1 k1 (S1.push (.bl _))⟩)
end
theorem aM {n : Nat} (h : Nat.ble n 1000 = true) : n <= sizeLine := ajy (cJ (aiJ h))
structure Vn (X : Cx) (i : Nat) (x : Str) : Prop where
 hi : X.N[i]? = some x
 hv : Xc X.env.scope x
 hd : (x == ("__debug__" : Str)) = false
 jy : (x == ("__classdict__" : Str)) = false
structure Ln (X : Cx) (i : Nat) (x : Str) : Prop extends Vn X i x where
 loc : Loc X.env.scope x
 hf : X.fn x = true \/ X.env.scope.names.lookup x = some .local
structure Gx (X : Cx) : Prop where
 nd : X.N.Nodup
 calm : X.calm = true
 xe : X.xe = fun _ _ => False
structure Fc (X : Cx) (CL : Str -> Addr) (x : Str) (k n : Nat) {A : Type} (arg : A -> List D) (Pre : A -> Prop) (res : A -> T) : Prop where
 ex : ∃ f fd ps, ck X.prog X.w X.K X.mg X.base gO k f fd ps (kK X.K CL n arg Pre res) /\ X.mg x = some (.ref f) /\ PySem.W.keepIn X.K (.ref f) = true /\ Binds X.K fd ps []
 room : fF k X.A
section
variable {X : Cx} {CL : Str -> Addr} {b : Bx} {δ δ1 δ2 : List (Option T)} {e e1 e2 : Expr} {es : List Expr} {d : L3.D} {t : T} {i : Nat} {x : Str} {pos pp : Pos} {D : c7} {fG : List Stmt} {ds : List L3.D}
theorem v_ (n : Vn X i x) (h : δ[i]? = some (some (.sh d)) := by rfl) : cC X CL b (.Name x pos) δ (.sh d) δ := Yi i n.hi n.hv n.hd n.jy h
theorem vF (n : Vn X i x) (h : δ[i]? = some (some t) := by rfl) : cC X CL b (.Name x pos) δ (.sh t.dQ) (δ.set i (some (.sh t.dQ))) := Sl i n.hi n.hv n.hd n.jy h
theorem vM (n : Vn X i x) (h : δ[i]? = some (some t) := by rfl) : cC X CL b (.Name x pos) δ t (δ.set i none) := Sn i n.hi n.hv n.hd n.jy h
theorem vB (n : Vn X i x) (h : δ[i]? = some (some t) := by rfl) : dz X CL b (.Name x pos) δ t.dQ δ := Yj i n.hi n.hv n.hd n.jy h
theorem qW {k : Int} (h : dz X CL b e δ (.int k) δ1) : cC X CL b (.UnaryOp .USub e pos) δ (.sh (.int (-k))) δ1 := fun H Z σ ts vs Q S kk =>
 c6 (abu XM eu) (h H Z σ ts vs _ S fun v H1 Z1 z1 k1 S1 r => ⟨k, r.sc rfl, kk _ H1 Z1 z1 k1 (S1.push (.int _))⟩)
theorem vL (n : Vn X i x) (h : δ[i]? = some (some (.lst (ds.map T.sh))) := by rfl) : dz X CL b (.Name x pos) δ (.lst ds) δ := by
 have := vB (CL := CL) (b := b) (pos := pos) n h
 rwa [T.dQ, jo] at this
theorem c_ {k n : Nat} {A : Type} {arg : A -> List L3.D} {Pre : A -> Prop} {res : A -> T} (a : A) (F : Fc X CL x k n arg Pre res) (hg : Gl X x) (h : Rx X CL b (e :: es) δ (arg a) δ1) (hp : Pre a) (hc : (res a).clean = true) (hn : (arg a).length = n := by rfl)
   (vD : (x == ("__debug__" : Str)) = false := by decide) (he : starEach (e :: es) X.env = (false, eval e X.env) :: starEach es X.env := by exact bN rfl) (hpl : (backTo pos (starEach es X.env)).any (·.1) = false := by rfl) :
   cC X CL b (.Call (.Name x pp) (e :: es) [] pos) δ (res a) δ1 := by
 obtain ⟨f, fd, ps, F1, m, k, b⟩ := F.ex
 exact Sw a F1 F.room m k b h hn hp hc hg vD he hpl
theorem cF {k n : Nat} {A : Type} {arg : A -> List L3.D} {Pre : A -> Prop} {res : A -> T} (a : A) (F : Fc X CL x k n arg Pre res) (hg : Gl X x) (h : Lf X CL b (e :: es) δ ((arg a).map T.sh) δ1) (hp : Pre a) (hn : (arg a).length = n := by rfl)
   (vD : (x == ("__debug__" : Str)) = false := by decide) (he : starEach (e :: es) X.env = (false, eval e X.env) :: starEach es X.env := by exact bN rfl) (hpl : (backTo pos (starEach es X.env)).any (·.1) = false := by rfl) :
   cC X CL b (.Call (.Name x pp) (e :: es) [] pos) δ (res a) δ1 := by
 obtain ⟨f, fd, ps, F1, m, k, b⟩ := F.ex
 exact Oi a F1 F.room m k b h hn hp hg vD he hpl
theorem aO {pos' : Pos} (g : Gx X) (n : Ln X i x) (h : cC X CL b e δ t δ1) (k : fq X CL b fG (δ1.set i (some t)) D) (hl : i < δ1.length := by exact aiJ rfl) (hs : swapsWith e (some (.Name x pos')) pos.line X.env = pure false := by rfl) :
   fq X CL b (.Assign [.Name x pos'] e pos :: fG) δ D := dG (Ol i h k hl g.nd n.hi n.loc hs n.hf)
theorem bL (h : cC X CL b e δ t δ1) (k : D.rt t δ1) : fq X CL b (.Return (some e) pos :: fG) δ D := dG (Yo h k)
theorem dc {p : Bool} {a c : List Stmt} (h : tO X CL b e δ p δ1) (h1 : p = true -> fq X CL b a δ1 { D with nx := fun δ2 => fq X CL b fG δ2 D }) (h2 : p = false -> fq X CL b c δ1 { D with nx := fun δ2 => fq X CL b fG δ2 D }) : fq X CL b (.If e a c pos :: fG) δ D := dG (abY h h1 h2)
theorem fq.to {D' : c7} (h : fq X CL b fG δ D') (h1 : ∀ δ, D'.nx δ -> D.nx δ) (h2 : ∀ t δ, D'.rt t δ -> D.rt t δ) (h3 : ∀ δ, D'.bk δ -> D.bk δ) (h4 : ∀ δ, D'.ct δ -> D.ct δ) : fq X CL b fG δ D := fun H Z σ ts vs E S M => h H Z σ ts vs E S (M.to h1 h2 h3 h4)
theorem r6 {p : Bool} {a c : List Stmt} (J : List (Option T) -> Prop) (h : tO X CL b e δ p δ1) (h1 : p = true -> fq X CL b a δ1 { D with nx := J }) (h2 : p = false -> fq X CL b c δ1 { D with nx := J }) (k : ∀ δ2, J δ2 -> fq X CL b fG δ2 D) : fq X CL b (.If e a c pos :: fG) δ D :=
 dc h (fun hp => fq.to (h1 hp) k (fun _ _ q => q) (fun _ q => q) (fun _ q => q)) (fun hp => fq.to (h2 hp) k (fun _ _ q => q) (fun _ q => q) (fun _ q => q))
theorem gJ {body : List Stmt} {pos' : Pos} (g : Gx X) (n : Ln X i x) (P : Nat -> List (Option T) -> Prop) (h : Sx X CL b (.Name x pos') e δ ds δ1) (h0 : P 0 δ1) (hl : ∀ j δ, P j δ -> i < δ.length)
   (hs : ∀ j d δ, ds[j]? = some d -> P j δ -> fq X CL b body (δ.set i (some (.sh d))) { nx := P (j + 1), rt := D.rt, bk := fun δ2 => fq X CL b fG δ2 D, ct := P (j + 1) }) (hd : ∀ δ, P ds.length δ -> fq X CL b fG δ D) (hq : ∀ x, foldedSetIterable e X.env x = pure x := by intro _; rfl) :
   fq X CL b (.For (.Name x pos') e body [] pos :: fG) δ D :=
 dG (Yt (D := { D with nx := fun δ1 => fq X CL b fG δ1 D }) i P h h0 hl hs hd (by rw [g.xe]; exact PassesOwn.never) g.calm g.nd n.hi n.loc n.hf hq)
theorem jG {e : Expr} {o : Option Expr} {l : Nat} {env : Env} (h : ∃ c, swapsWith e o l env = pure c) : swapsWith e o l env = pure true \/ swapsWith e o l env = pure false := by
 obtain ⟨c, h⟩ := h
 cases c
 . exact .inr h
 . exact .inl h
theorem eF {scope : Scope} {Nc : List Str} {C : Addr} {s : Shared} {H : Hp} {fp : List Addr} (h1 : Nc[i]? = some x) (h2 : scope.names.lookup x = some .local) (hd : (x == ("__debug__" : Str)) = false := by decide) (jy : (x == ("__classdict__" : Str)) = false := by decide) : Vn (dO X scope Nc C s H fp) i x :=
 ⟨h1, .inl (lookup_relabel_local h2), hd, jy⟩
theorem gQ {scope : Scope} {Nc : List Str} {C : Addr} {s : Shared} {H : Hp} {fp : List Addr} (h1 : Nc[i]? = some x) (h2 : scope.names.lookup x = some .free) (hd : (x == ("__debug__" : Str)) = false := by decide) (jy : (x == ("__classdict__" : Str)) = false := by decide) : Vn (dO X scope Nc C s H fp) i x := by
 refine ⟨h1, ?_, hd, jy⟩
 have q := fH (env := X.env) h2
 show (relabel scope X.env).names.lookup x = some .local \/ (relabel scope X.env).names.lookup x = some .cell \/ (relabel scope X.env).names.lookup x = some .free
 rw [show (relabel scope X.env).names.lookup x = _ from q]
 split
 . exact .inr (.inl rfl)
 . exact .inr (.inr rfl)
theorem gR {scope : Scope} {Nc : List Str} {C : Addr} {s : Shared} {H : Hp} {fp : List Addr} (h2 : scope.names.lookup x = some .globalImplicit) : Gl (dO X scope Nc C s H fp) x := by
 have q := fH (env := X.env) h2
 show (relabel scope X.env).names.lookup x = some .globalImplicit
 rw [show (relabel scope X.env).names.lookup x = _ from q]
 rfl
theorem mL {scope : Scope} {Nc : List Str} {C : Addr} {s : Shared} {H : Hp} {fp : List Addr} {k n : Nat} {A : Type} {arg : A -> List L3.D} {Pre : A -> Prop} {res : A -> T} (F : Fc X CL x k n arg Pre res) : Fc (dO X scope Nc C s H fp) CL x k n arg Pre res := ⟨F.ex, F.room⟩
end
section
variable {X : Cx} {CL : Str -> Addr} {b : Bx} {δ δ1 δ2 : List (Option T)} {e e1 e2 : Expr} {es : List Expr} {ds : List L3.D} {pos : Pos}
theorem Bu {i j : Bool} (h1 : dz X CL b e1 δ (.bl i) δ1) (h2 : dz X CL b e2 δ1 (.bl j) δ2) : tO X CL b (.Compare e1 [.NotEq] [e2] pos) δ (!decide (i = j)) δ2 /\ cC X CL b (.Compare e1 [.NotEq] [e2] pos) δ (.sh (.bl (!decide (i = j)))) δ2 :=
 wM Wx h1 h2 rfl rfl (fun _ _ q => ⟨rfl, by rw [show decide (V.bl i = V.bl j) = decide (i = j) by simp]; exact q⟩) (qS _)
end
section
variable {X : Cx} {CL : Str -> Addr} {b : Bx} {δ δ1 : List (Option T)} {e : Expr} {d : L3.D} {t : String} {pos pp pq : Pos}
theorem Aw : bootBuiltins "int" = some (.type "int") := by decide +kernel
theorem isI (hm : X.mg "isinstance" = none) (Ot : X.mg "int" = none) (hg : Gl X "isinstance") (Ou : Gl X "int") (h : dz X CL b e δ d δ1) (ht : Yv d = some t := by rfl) (hs : starEach [e, .Name "int" pq] X.env = (false, eval e X.env) :: starEach [.Name "int" pq] X.env := by exact bN rfl) :
   cC X CL b (.Call (.Name "isinstance" pp) [e, .Name "int" pq] [] pos) δ (.sh (.bl (t == "int" || (t == "bool" && "int" == "int")))) δ1 := rZ hm Ot hg Ou Aw (by decide) (by decide) h ht (by decide) hs
theorem Hh : bootBuiltins "bool" = some (.type "bool") := by decide +kernel
theorem isB (hm : X.mg "isinstance" = none) (Ot : X.mg "bool" = none) (hg : Gl X "isinstance") (Ou : Gl X "bool") (h : dz X CL b e δ d δ1) (ht : Yv d = some t := by rfl) (hs : starEach [e, .Name "bool" pq] X.env = (false, eval e X.env) :: starEach [.Name "bool" pq] X.env := by exact bN rfl) :
   cC X CL b (.Call (.Name "isinstance" pp) [e, .Name "bool" pq] [] pos) δ (.sh (.bl (t == "bool" || (t == "bool" && "bool" == "int")))) δ1 := rZ hm Ot hg Ou Hh (by decide) (by decide) h ht (by decide) hs
theorem Li : bootBuiltins "str" = some (.type "str") := by decide +kernel
theorem isS (hm : X.mg "isinstance" = none) (Ot : X.mg "str" = none) (hg : Gl X "isinstance") (Ou : Gl X "str") (h : dz X CL b e δ d δ1) (ht : Yv d = some t := by rfl) (hs : starEach [e, .Name "str" pq] X.env = (false, eval e X.env) :: starEach [.Name "str" pq] X.env := by exact bN rfl) :
   cC X CL b (.Call (.Name "isinstance" pp) [e, .Name "str" pq] [] pos) δ (.sh (.bl (t == "str" || (t == "bool" && "str" == "int")))) δ1 := rZ hm Ot hg Ou Li (by decide) (by decide) h ht (by decide) hs
theorem bW : bootBuiltins "list" = some (.type "list") := by decide +kernel
theorem isL (hm : X.mg "isinstance" = none) (Ot : X.mg "list" = none) (hg : Gl X "isinstance") (Ou : Gl X "list") (h : dz X CL b e δ d δ1) (ht : Yv d = some t := by rfl) (hs : starEach [e, .Name "list" pq] X.env = (false, eval e X.env) :: starEach [.Name "list" pq] X.env := by exact bN rfl) :
   cC X CL b (.Call (.Name "isinstance" pp) [e, .Name "list" pq] [] pos) δ (.sh (.bl (t == "list" || (t == "bool" && "list" == "int")))) δ1 := rZ hm Ot hg Ou bW (by decide) (by decide) h ht (by decide) hs
theorem uY : bootBuiltins "tuple" = some (.type "tuple") := by decide +kernel
theorem Yw (hm : X.mg "isinstance" = none) (Ot : X.mg "tuple" = none) (hg : Gl X "isinstance") (Ou : Gl X "tuple") (h : dz X CL b e δ d δ1) (ht : Yv d = some t := by rfl) (hs : starEach [e, .Name "tuple" pq] X.env = (false, eval e X.env) :: starEach [.Name "tuple" pq] X.env := by exact bN rfl) :
   cC X CL b (.Call (.Name "isinstance" pp) [e, .Name "tuple" pq] [] pos) δ (.sh (.bl (t == "tuple" || (t == "bool" && "tuple" == "int")))) δ1 := rZ hm Ot hg Ou uY (by decide) (by decide) h ht (by decide) hs
end
noncomputable def kM (sc : Scope) (l : List (Str × NameKind)) : Bool := l.all fun p => sc.names.lookup p.1 == some p.2
theorem ef {sc : Scope} {l : List (Str × NameKind)} (h : kM sc l = true) (i : Nat) {x : Str} {k : NameKind} (hi : l[i]? = some (x, k)) : sc.names.lookup x = some k := by
 unfold kM at h
 rw [ajB] at h
 exact beq_iff_eq.mp (h _ (ajj hi))
inductive Sy (X : Cx) : List Nat -> List Str -> Prop where
 | nil : Sy X [] []
 | cons {i : Nat} {y : Str} {ix : List Nat} {ys : List Str} (n : Vn X i y) (k : X.env.kindOf y = some .cell \/ X.env.kindOf y = some .free) (r : Sy X ix ys) : Sy X (i :: ix) (y :: ys)
noncomputable def Ov (scope : Scope) (x : Str) (Ex : List Str) : Bool :=
 scope.kind == .function && scope.names.lookup x == some .local && Ex.all (fun y => scope.names.lookup y == some .free) && decide ((x :: Ex).Nodup) &&
   scope.names.all fun y => y.2 != .cell && (y.2 != .local || scope.names.lookup y.1 == some .local) && (y.2 != .free || (Ex.contains y.1 && scope.names.lookup y.1 == some .free))
theorem cQ {X : Cx} {scope : Scope} {x : Str} {ix : List Nat} {Ex : List Str} (c : Sy X ix Ex) (ok : Ov scope x Ex = true) : gI X scope x (x :: Ex) ix := by
 unfold Ov at ok
 simp only [ajm, ajB, ajY, beq_iff_eq] at ok
 obtain ⟨⟨⟨⟨h1, h2⟩, h3⟩, h4⟩, h5⟩ := ok
 have kc : ∀ y ∈ Ex, X.env.kindOf y = some .cell \/ X.env.kindOf y = some .free := by
   clear h3 h4 h5
   induction c with
   | nil => intro y hy; cases hy
   | cons n k r ih =>
     intro y hy
     rcases aiN.mp hy with e | hy
     . subst e; exact k
     . exact ih y hy
 refine ⟨h1, fun y hy e => ?_, h4, fun y hy e => ?_, h2, fun y hy e => ?_, ?_, fun i hi => ?_⟩
 . have := (h5 y hy).1.1
   rw [e] at this
   simp at this
 . have := (h5 y hy).1.2
   rw [e] at this
   simpa using this
 . have := (h5 y hy).2
   rw [e] at this
   simp at this
   exact ⟨this.2, kc _ this.1⟩
 . congr 1
   clear h3 h4 h5 kc
   induction c with
   | nil => rfl
   | cons n k r ih => rw [ajM, n.hi, ← ih]
 . clear h4 h5 kc
   induction c with
   | nil => cases hi
   | @cons i' y ix ys n k r ih =>
     rcases aiN.mp hi with e | hi
     . subst e; exact ⟨y, n.hi, h3 y aiF⟩
     . exact ih (fun z hz => h3 z (aiE _ hz)) hi
noncomputable def D.vG : D -> Int
 | .int i => i
 | _ => 0
noncomputable def D.toS : D -> Str
 | .str x => x
 | _ => Str.empty
theorem fJ {bs : List Int} {k : Int} (h0 : 0 <= k) (h1 : k < bs.length) : tN (bs.map D.int) k = some (.int (bs.getD k.toNat 0)) := by
 obtain ⟨j, rfl⟩ : ∃ j : Nat, k = j := ⟨k.toNat, by omega⟩
 refine aF ?_
 have hl : j < bs.length := by omega
 rw [ai5, aiL hl]
 simp [List.getD, hl]
theorem dU : ∀ (bs : List Int), D.bV (bs.map D.int) = true
 | [] => rfl
 | i :: r => by rw [ai1, D.bV, dU r]; rfl
theorem fK {lo : Int} {n j : Nat} {d : D} (h : (bB lo n)[j]? = some d) : d = .int (lo + j) /\ j < n := by
 have hl : j < n := by
   have := (ai3.mp h).1
   simpa [bB] using this
 refine ⟨?_, hl⟩
 unfold bB at h
 rw [ai5, ajI hl] at h
 exact (aiZ h).symm
theorem fL {α : Type} (l : List α) : l.filter (fun _ => true) = l := by simp
theorem Ey {K : PySem.W.Frag} {CL : Str -> Addr} {Z : Hp} : ∀ (ns : List Int), aK K CL Z (ns.map D.int) (ns.map V.int)
 | [] => .nil
 | n :: r => .cons (.int n) (Ey r)
section
variable {X : Cx} {CL : Str -> Addr} {pins : List (Addr × Obj)} {σ : L2.St} {H : Hp} {s : Shared}
end
section
variable {X : Cx} {CL : Str -> Addr} {b : Bx} {δ δ1 δ2 δ3 : List (Option T)} {e e1 e2 e3 : Expr} {d1 d2 : D} {ds : List D} {pos p2 pp : Pos} {n m : Nat} {i : Nat} {x : Str} {t : T} {fG : List Stmt} {DD : c7}
noncomputable def cutD {α : Type} (xs : List α) (lo hi : Option Int) : List α := (xs.drop (HT.zc xs.length 0 lo)).take (HT.zc xs.length xs.length hi - HT.zc xs.length 0 lo)
theorem aK.drop {K : PySem.W.Frag} {Z : Hp} : ∀ {ds : List L3.D} {vs : List V} (n : Nat), aK K CL Z ds vs -> aK K CL Z (ds.drop n) (vs.drop n)
 | _, _, 0, r => r
 | _, _, _ + 1, .nil => .nil
 | _, _, n + 1, .cons _ t => aK.drop n t
theorem aK.take {K : PySem.W.Frag} {Z : Hp} : ∀ {ds : List L3.D} {vs : List V} (n : Nat), aK K CL Z ds vs -> aK K CL Z (ds.take n) (vs.take n)
 | _, _, 0, _ => .nil
 | _, _, _ + 1, .nil => .nil
 | _, _, n + 1, .cons r t => .cons r (aK.take n t)
theorem aK.cut {K : PySem.W.Frag} {Z : Hp} {ds : List L3.D} {vs : List V} (r : aK K CL Z ds vs) (lo hi : Option Int) : aK K CL Z (cutD ds lo hi) (K4 vs lo hi) := by
 unfold cutD K4
 rw [r.length]
 exact (r.drop _).take _
theorem wU : ∀ {ds : List L3.D}, D.bV ds = true -> ∀ d ∈ ds, d.mG = true
 | [], _, _, h => by cases h
 | d :: ds, k, e, h => by
   rw [D.bV, ajm] at k
   rcases aiN.mp h with h | h
   . subst h; exact k.1
   . exact wU k.2 e h
theorem vU : ∀ {ds : List L3.D}, (∀ d ∈ ds, d.mG = true) -> D.bV ds = true
 | [], _ => rfl
 | d :: ds, h => by rw [D.bV, h d aiF, vU fun e he => h e (aiE _ he)]; rfl
theorem Sz {α : Type} {xs : List α} {lo hi : Option Int} {x : α} (h : x ∈ cutD xs lo hi) : x ∈ xs := List.mem_of_mem_drop (List.mem_of_mem_take h)
noncomputable def TOv (X : Cx) (CL : Str -> Addr) (b : Bx) (e : Option Expr) (δ : List (Option T)) (k : Option Int) (δ' : List (Option T)) : Prop :=
 ∃ t, PO X e t /\ ∀ (H Z : Hp) (σ : L2.St) (ts : List T) (vs : List V) (Q : Option Int -> Hp -> Prop), bX X.K CL b H Z δ σ ts vs -> (∀ H' Z', aH Z Z' -> aH H H' -> bX X.K CL b H' Z' δ' σ ts vs -> Q k H') -> t σ H Q
theorem SD : TOv X CL b none δ none δ := ⟨_, R6, fun H Z σ ts vs Q S k => k H Z (.refl _) (.refl _) S⟩
theorem SG {k : Int} (h : dz X CL b e δ (.int k) δ1) : TOv X CL b (some e) δ (some k) δ1 := ⟨_, R7 eu, fun H Z σ ts vs Q S kk => h H Z σ ts vs _ S fun v H1 Z1 z1 k1 S1 r => ⟨k, r.sc rfl, kk H1 Z1 z1 k1 S1⟩⟩
theorem Ow {lo hi : Option Expr} {l h : Option Int} (h1 : dz X CL b e δ (.lst ds) δ1) (hi1 : D.bV ds = true) (h2 : TOv X CL b lo δ1 l δ2) (h3 : TOv X CL b hi δ2 h δ3) : cC X CL b (.Subscript e (.Slice lo hi none p2) pos) δ (.lst ((cutD ds l h).map T.sh)) δ3 := fun H Z σ ts vs Q S k => by
 obtain ⟨t2, po2, w2⟩ := h2
 obtain ⟨t3, po3, w3⟩ := h3
 refine c6 (NR R9 eu po2 po3) (h1 H Z σ ts vs _ S fun v H1 Z1 z1 k1 S1 r => w2 H1 Z1 σ ts vs _ S1 fun H2 Z2 z2 k2 S2 => w3 H2 Z2 σ ts vs _ S2 fun H3 Z3 z3 k3 S3 => ?_)
 have r' := r.mono (k2.trans k3)
 cases r' with
 | lst hq rr =>
   refine ⟨_, _, rfl, hq, fun p hp => ?_⟩
   have rc := aK.mG S3.tp (vU fun d hd => wU hi1 d (Sz hd)) (rr.cut l h)
   obtain ⟨c, S4⟩ := (bX.uW rc S3).tZ (g0 := []) (by simp [rc.length]) hp
   exact k _ _ _ (z1.trans (z2.trans z3)) (k1.trans (k2.trans (k3.trans c))) S4
theorem lK (hm : X.mg "tuple" = none) (h : dz X CL b e δ (.lst ds) δ1) (hi : D.bV ds = true) (hg : Gl X "tuple") (hs : starEach [e] X.env = (false, eval e X.env) :: starEach [] X.env := by exact bN rfl) : cC X CL b (.Call (.Name "tuple" pp) [e] [] pos) δ (.sh (.tup ds)) δ1 := fun H Z σ ts vs Q S k =>
 c6 (lE zg hg hm uY (cN eu fB hs) (he := hs)) (h H Z σ ts vs _ S fun v H1 Z1 z1 k1 S1 r => by
   cases r with
   | lst hq rr =>
     refine ⟨_, _, rfl, .inl ⟨hq, fun l hl => ?_⟩⟩
     obtain ⟨a, c, S2⟩ := (bX.uW (aK.mG S1.tp hi rr) S1).G7 (by simp [rr.length]) hl
     obtain ⟨Z3, z3, S3⟩ := S2.G5
     rw [T.dQ, jo] at S3
     exact k _ _ Z3 (z1.trans (a.trans z3)) (k1.trans c) S3)
theorem iy {tl Oo : List T} {pa pb : Pos} (n : Vn X i x) (h0 : δ[i]? = some (some (.lst Oo))) (h : cC X CL b e δ t δ1) (h1 : δ1[i]? = some (some (.lst tl))) (hl : tl.length <= 1000000) (k : fq X CL b fG (δ1.set i (some (.lst (tl ++ [t])))) DD)
   (lF : attributeBase (.Name x pp) "append" X.env (eval (.Name x pp) X.env) = eval (.Name x pp) X.env := by rfl)
   (Bl : ((backTo pb (starEach [e] X.env)).all (fun x => !x.1) && (backToKw pb (keywordEach [] X.env)).all (fun x => x.1.isSome) && decide ([e].length + ([] : List Keyword).length + (if ([] : List Keyword).isEmpty then 0 else 1) < 30)) = true := by rfl)
   (hline : (pa.endLine == pb.line) = true := by rfl) (hs : starEach [e] X.env = (false, eval e X.env) :: starEach [] X.env := by exact bN rfl) (Hf : swapsWith (.Call (.Attribute (.Name x pp) "append" pa) [e] [] pb) none pos.line X.env = pure false := by rfl) :
   fq X CL b (.Expr (.Call (.Attribute (.Name x pp) "append" pa) [e] [] pb) pos :: fG) δ DD :=
 dG (Yr i h0 h h1 (akv hl (by rw [ajk]; decide)) k n.hi n.hv n.hd n.jy lF Bl hline hs Hf)
theorem ab3 {tl : List T} {k : Int} {j : Nat} {ps : Pos} (n : Vn X i x) (h : cC X CL b e δ t δ1) (h2 : dz X CL b e2 δ1 (.int k) δ1) (h1 : δ1[i]? = some (some (.lst tl))) (hk : NS tl.length k = some j) (kk : fq X CL b fG (δ1.set i (some (.lst (tl.set j t)))) DD)
   (ha : ∀ v, assign (.Subscript (.Name x pp) e2 ps) X.env v = (do
     let ov ← holding [v] (eval (.Name x pp) X.env)
     let iv ← holding [v, ov] (eval e2 X.env)
     standAt ps
     holding [v, ov, iv] (setItem ov iv v)
     release [v, ov, iv] []) := by intro _; rfl)
   (hs : swapsWithSole [.Subscript (.Name x pp) e2 ps] e pos.line X.env = pure false := by rfl) (hw : swappedStores [.Subscript (.Name x pp) e2 ps] e X.env = pure none := by rfl) (ha1 : (assignEach [.Subscript (.Name x pp) e2 ps] X.env).map (·.2) = [assign (.Subscript (.Name x pp) e2 ps) X.env] := by rfl) :
   fq X CL b (.Assign [.Subscript (.Name x pp) e2 ps] e pos :: fG) δ DD := by
 refine dG fun H Z σ ts vs E S M => tW (Xy eu (Xx (kI n.hi n.hv n.hd n.jy) eu set_list ha) hs hw ha1) (h H Z σ ts vs _ S fun v H1 Z1 z1 k1 S1 => ?_)
 have hj : j < tl.length := (Bg hk).2.1
 obtain ⟨v0, e0, _⟩ := S1.look h1
 refine ⟨v0, e0, ?_⟩
 refine h2 H1 Z1 σ _ _ _ S1 fun v2 H2 Z2 z2 k2 S2 r2 => ?_
 obtain ⟨a, us, ea, Oc, hu, S3⟩ := S2.setAt h1 hj
 rw [e0] at ea
 cases ea
 exact ⟨a, us, k, j, rfl, r2.sc rfl, Oc, by rw [hu]; exact hk, M.nx _ σ _ Z2 (z1.trans z2) S3 kk⟩
theorem di {n : Nat} (hn : ds.length = n) (hm : X.mg "len" = none) (h : dz X CL b e δ (.lst ds) δ1) (hg : Gl X "len") (hs : starEach [e] X.env = (false, eval e X.env) :: starEach [] X.env := by exact bN rfl) : cC X CL b (.Call (.Name "len" pp) [e] [] pos) δ (.sh (.int n)) δ1 := by
 subst hn
 exact vS hm h hg hs
theorem dZ (h : cC X CL b e δ (.lst (ds.map T.sh)) δ1) : dz X CL b e δ (.lst ds) δ1 := by
 have := Od h
 rwa [T.dQ, jo] at this
theorem SJ {ds' : List L3.D} (h : cC X CL b e δ (.lst (ds.map T.sh)) δ1) (e' : ds = ds') : dz X CL b e δ (.lst ds') δ1 := e' ▸ dZ h
end
theorem iB {α : Type} {f : α -> D} {l : List α} {k : Int} (z : α) (h0 : 0 <= k) (h1 : k < l.length) : tN (l.map f) k = some (f (l.getD k.toNat z)) := by
 obtain ⟨j, rfl⟩ : ∃ j : Nat, k = j := ⟨k.toNat, by omega⟩
 refine aF ?_
 have hl : j < l.length := by omega
 rw [ai5, aiL hl]
 simp [List.getD, hl]
theorem dg {α : Type} {f : α -> D} (h : ∀ a, (f a).mG = true) : ∀ (l : List α), D.bV (l.map f) = true
 | [] => rfl
 | a :: l => by rw [ai1, D.bV, h a, dg h l]; rfl
section
variable {X : Cx} {CL : Str -> Addr} {b : Bx} {δ δ1 δ2 δ3 : List (Option T)} {e e1 e2 e3 : Expr} {es : List Expr} {d d1 d2 : D} {ds : List D} {pos p2 pp : Pos} {n m : Nat} {i : Nat} {x : Str} {t : T} {fG : List Stmt} {DD : c7}
theorem SK {k : Int} {u : Tok} (hm : X.mg x = some (.int k u)) (hg : Gl X x) (hd : (x == ("__debug__" : Str)) = false := by decide) : cC X CL b (.Name x pos) δ (.sh (.int k)) δ := fun H Z σ ts vs Q S kk =>
 c6 (RM (v := .int k) hg hm ⟨u, rfl⟩ hd) (kk _ H Z (.refl _) (.refl _) (S.push (.int k)))
theorem aX {k : Int} (hm : ∃ u, X.mg x = some (.int k u)) (hg : Gl X x) (hd : (x == ("__debug__" : Str)) = false := by decide) : cC X CL b (.Name x pos) δ (.sh (.int k)) δ := by
 obtain ⟨u, hm⟩ := hm
 exact SK hm hg hd
theorem Bv (x : Str) : ∀ l : List Str, WB (.str x) (l.map V.str) = decide (x ∈ l)
 | [] => by simp [WB]
 | y :: l => by
   have ih := Bv x l
   unfold WB at ih ⊢
   rw [ai1, aj0, ih]
   have e : ∀ a c : Str, NV (.str a) (.str c) = (a == c) := fun _ _ => rfl
   rw [e]
   by_cases h : y = x
   . subst h; simp
   . have h' : ¬ x = y := fun e => h e.symm
     simp [h, h']
theorem aK.strs {K : PySem.W.Frag} {Z : Hp} : ∀ {l : List Str} {vs : List V}, aK K CL Z (l.map D.str) vs -> vs = l.map V.str
 | [], _, r => by
   have r' : aK K CL Z [] _ := r
   cases r'; rfl
 | y :: l, _, r => by
   have r' : aK K CL Z (D.str y :: l.map D.str) _ := r
   cases r' with
   | cons r1 r2 => rw [r1.sc rfl, aK.strs r2]; rfl
theorem mO : ∀ l : List Str, (l.map V.str).all qE = true
 | [] => rfl
 | y :: l => by rw [ai1, List.all_cons, mO l]; rfl
theorem SM {p : Bool} (hm : X.mg "int" = none) (h : dz X CL b e δ (.bl p) δ1) (hg : Gl X "int") (hs : starEach [e] X.env = (false, eval e X.env) :: starEach [] X.env := by exact bN rfl) : cC X CL b (.Call (.Name "int" pp) [e] [] pos) δ (.sh (.int (if p then 1 else 0))) δ1 := fun H Z σ ts vs Q S k =>
 c6 (lE KZ hg hm Aw (cN eu fB hs) (he := hs)) (h H Z σ ts vs _ S fun v H1 Z1 z1 k1 S1 r => .inr ⟨p, by rw [r.sc rfl], k _ H1 Z1 z1 k1 (S1.push (.int _))⟩)
end
theorem Ox {α : Type} {l : List α} {k : Int} (z : α) (h0 : 0 <= k) (h1 : k < l.length) : tN l k = some (l.getD k.toNat z) := by
 obtain ⟨j, rfl⟩ : ∃ j : Nat, k = j := ⟨k.toNat, by omega⟩
 refine aF ?_
 have hl : j < l.length := by omega
 rw [aiL hl]
 simp [List.getD, hl]
theorem Yx {n : Nat} {k : Int} (h0 : 0 <= k) (h1 : k < n) : NS n k = some k.toNat := by
 unfold NS
 rw [aiI h0, aiI h1]
theorem str_len (x y : Str) : (x ++ y).length = x.length + y.length := by
 show (x.cps ++ y.cps).size = _
 rw [Array.size_append]; rfl
theorem t8 (x y : Str) (h1 : PyData.strOk x = true) (h2 : PyData.strOk y = true) : PyData.strOk (x ++ y) = true := by
 unfold PyData.strOk at *
 show (x.cps ++ y.cps).all _ = true
 rw [Array.all_append, h1, h2]; rfl
theorem Ez (l : List Int) : T.iA ((l.map D.int).map T.sh) = true := by
 rw [ajh]
 induction l with
 | nil => rfl
 | cons i r ih => rw [ai1, T.iA, ih]; rfl
section
variable {X : Cx} {tg : Expr}
end
section
variable {X : Cx} {CL : Str -> Addr} {b : Bx} {δ δ1 : List (Option T)} {e : Expr} {ds : List D} {tg : Expr} {pr pc : Pos}
end
section
variable {K : PySem.W.Frag} {CL : Str -> Addr} {b : Bx} {H Z : Hp} {δ : List (Option T)} {σ : L2.St} {ts tt : List T} {vs : List V} {t : T}
end
section
variable {X : Cx} {CL : Str -> Addr} {b : Bx} {δ : List (Option T)} {tt : List T} {t : T} {i : Nat} {x : Str} {pp pc ps : Pos} {kj : Nat}
end
section
variable {X : Cx} {CL : Str -> Addr} {b : Bx} {δ δ1 : List (Option T)} {e : Expr} {ds : List D} {t : T} {i : Nat} {x : Str} {pos pp p2 : Pos} {kj : Nat}
theorem vFL (n : Vn X i x) (h : δ[i]? = some (some (.lst (ds.map T.sh)))) : cC X CL b (.Name x pos) δ (.sh (.lst ds)) (δ.set i (some (.sh (.lst ds)))) := by
 have := vF (CL := CL) (b := b) (pos := pos) n h
 rwa [T.dQ, jo] at this
end
section
variable {K : PySem.W.Frag} {CL : Str -> Addr} {b : Bx} {H H' Z Z' : Hp} {δ δ' : List (Option T)} {σ σ' : L2.St} {ts tl : List T} {vs us : List V} {t : T} {v : V}
theorem nY.get : ∀ {fs : List (Str × D)} {gs : List (Str × V)} {f : Str} {d : D}, nY K CL Z fs gs -> fs.lookup f = some d -> ∃ v, gs.lookup f = some v /\ bR K CL Z d v
 | _, _, _, _, .nil, e => by simp at e
 | _, _, f, d, .cons (x := x) r t, e => by
   rw [ajg] at e ⊢
   cases h : f == x with
   | true => rw [h] at e; cases e; exact ⟨_, rfl, r⟩
   | false => rw [h] at e; exact nY.get t e
noncomputable def zl (f : Str) (t : T) : List (Str × T) -> List (Str × T)
 | [] => [(f, t)]
 | (g, x) :: r => if g = f then (g, t) :: r else (g, x) :: zl f t r
theorem dS.length {fs : List (Str × T)} {gs : List (Str × V)} {fp : List Addr} (h : dS K CL H Z fs gs fp) : fs.length = gs.length :=
 dS.ind (P := fun d v _ => d.length = v.length) rfl (fun _ _ i => congrArg (· + 1) i) h
theorem dS.put {f : Str} {g : List Addr} (q : cW K CL H Z t v g) : ∀ {fs : List (Str × T)} {gs : List (Str × V)} {fp : List Addr}, dS K CL H Z fs gs fp →
   ∃ JN f', dS K CL H Z (zl f t fs) (jA f v gs) JN /\ f'.Sublist fp /\ JN.Perm (g ++ f')
 | _, _, _, .nil => ⟨g ++ [], [], .cons q .nil, aje _, akz _⟩
 | _, _, _, .cons (x := x) (fp := fp) (gp := gp) r rs => by
   rw [zl, jA]
   by_cases h : x = f
   . rw [aiI h, aiI h]
     exact ⟨g ++ gp, gp, .cons q rs, ajO _ _, akz _⟩
   . rw [aiG h, aiG h]
     obtain ⟨p, p', h1, h2, h3⟩ := dS.put (f := f) q rs
     refine ⟨fp ++ p, fp ++ p', .cons r h1, aji (aje _) h2, (ajd fp h3).trans ?_⟩
     rw [← aiM, ← aiM]
     exact ajl.append_right p'
theorem bX.Oz {a : Addr} {o : HO} {JN gp fp Yq : List Addr} {δ2 : List (Option T)} (hm : jW o = false) (S : bX K CL b H Z δ σ ts vs) (own : ∀ c ∈ fp ++ gp, Z c = none /\ b.B c = none) (ha : a ∈ fp ++ gp)
   (e' : fX K CL (upd H a o) Z δ2 σ JN) (r' : aZ K CL (upd H a o) Z tl us Yq) (pm : (JN ++ Yq).Nodup) (sub : ∀ c ∈ JN ++ Yq, c ∈ fp ++ gp) :
   bX K CL b (upd H a o) Z δ2 σ tl us := by
 have oa := own a ha
 refine ⟨⟨_, _, e', r', pm, fun c hc => own c (sub c hc)⟩, fun c u q => ?_, S.zz, fun c u q => ?_, S.new, fun c u q i => ?_, S.tab⟩
 . rw [aA (aL q oa.2)]; exact S.bh c u q
 . rw [aA (aL q oa.1)]; exact S.zh c u q
 . by_cases hc : c = a
   . subst hc; rw [aP] at q; cases q; rw [hm] at i; cases i
   . rw [aA hc] at q; exact S.tp c u q i
theorem bX.setField {i : Nat} {x : Addr} {c f : Str} {fs : List (Str × T)} (S : bX K CL b H Z δ σ (t :: ts) (v :: vs)) (hi : δ[i]? = some (some (.pin x (.ins c fs)))) :
   ∃ dx gs, σ[i]? = some (some (.ref x)) /\ H x = some (.ins (CL c) dx gs) /\ gs.length = fs.length /\ bX K CL b (upd H x (.ins (CL c) dx (jA f v gs))) Z (δ.set i (some (.pin x (.ins c (zl f t fs))))) σ ts vs := by
 obtain ⟨fp, gp, e, r, nd, k⟩ := S.rep
 obtain ⟨v0, f1, f2, f3, hv, rR, rt, put, _⟩ := e.get hi
 subst rR
 cases rt with
 | pin rt =>
 cases rt with
 | @ins a dx _ gs _ g ha rs =>
   cases r with
   | @cons _ _ _ _ ft gr q1 q2 =>
     have ne : ∀ c ∈ (f1 ++ (g ++ f3)) ++ (ft ++ gr), c ≠ x := fun c hc e => by
       subst e
       have hp : ((f1 ++ ((c :: g) ++ f3)) ++ (ft ++ gr)).Perm (c :: ((f1 ++ (g ++ f3)) ++ (ft ++ gr))) := by
         rw [ai0, ← ai0]
         exact (ajG.append_right _)
       exact (ajA.mp (hp.nodup_iff.mp nd)).1 hc
     refine ⟨dx, gs, hv, ha, rs.length.symm, ?_⟩
     have q1' := q1.mono (H' := upd H x (.ins (CL c) dx (jA f v gs))) (.refl _) fun c hc => aA (ne c (by simp [hc]))
     have rs' := rs.mono (H' := upd H x (.ins (CL c) dx (jA f v gs))) (.refl _) fun c hc => aA (ne c (by simp [hc]))
     obtain ⟨p, p', h1, h2, h3⟩ := dS.put (f := f) q1' rs'
     have r1 : cW K CL (upd H x (.ins (CL c) dx (jA f v gs))) Z (.pin x (.ins c (zl f t fs))) (.ref x) (x :: p) := .pin (.ins aP h1)
     have e2 := put (H' := upd H x (.ins (CL c) dx (jA f v gs))) (.refl _) (fun c hc => aA (ne c (by
       rcases aiO.mp hc with h | h
       . simp [h]
       . simp [h]))) r1
     rw [lI hv] at e2
     have hp : ((f1 ++ ((x :: p) ++ f3)) ++ gr).Perm ((f1 ++ ((x :: p') ++ f3)) ++ (ft ++ gr)) := by
       have h4 : ((f1 ++ ((x :: p) ++ f3)) ++ gr).Perm ((f1 ++ ((x :: (ft ++ p')) ++ f3)) ++ gr) := ((h3.cons x).append_right f3).append_left f1 |>.append_right gr
       refine h4.trans ?_
       simp only [ai0, aiM]
       refine ajd f1 (List.Perm.cons x ?_)
       have := (ajl (l₁ := ft) (l₂ := p' ++ f3)).append_right gr
       simp only [aiM] at this
       exact this
     have sb : ((f1 ++ ((x :: p') ++ f3)) ++ (ft ++ gr)).Sublist ((f1 ++ ((x :: g) ++ f3)) ++ (ft ++ gr)) :=
       aji (aji (aje _) (aji (List.Sublist.cons₂ x h2) (aje _))) (aje _)
     exact S.Oz rfl k (by simp) e2 (q2.mono (.refl _) fun c hc => aA (ne c (by simp [hc]))) (hp.nodup_iff.mpr (nd.sublist sb)) fun c hc => sb.subset (hp.mem_iff.mp hc)
end
section
variable {X : Cx} {CL : Str -> Addr} {b : Bx} {δ δ1 δ2 : List (Option T)} {e : Expr} {es : List Expr} {t : T} {d : D} {c f x : Str} {fs : List (Str × D)} {pos pp : Pos} {DD : c7} {i : Nat}
theorem t9 (hc : Aj X.K (CL c)) (n : bY X.K (CL c) f) (h : dz X CL b e δ (.ins c fs) δ1) (hl : fs.lookup f = some d) (hb : attributeBase e f X.env (eval e X.env) = eval e X.env := by rfl) :
   dz X CL b (.Attribute e f pos) δ d δ1 := fun H Z σ ts vs Q S k =>
 c6 (NB eu hb) (h H Z σ ts vs _ S fun v H' Z' z s S' r => by
   cases r with
   | @ins a dx _ gs _ ha rf =>
     obtain ⟨w, hw, K5⟩ := rf.get hl
     exact ⟨a, CL c, dx, gs, w, rfl, ha, hc, n, hw, k w H' Z' z s S' K5⟩)
theorem OB (hc : Aj X.K (CL c)) (n : bY X.K (CL c) f) (h : cC X CL b e δ (.sh (.ins c fs)) δ1) (hl : fs.lookup f = some d) (hb : attributeBase e f X.env (eval e X.env) = eval e X.env := by rfl) :
   cC X CL b (.Attribute e f pos) δ (.sh d) δ1 := fun H Z σ ts vs Q S k =>
 c6 (NB eu hb) (h H Z σ ts vs _ S fun v H' Z' z s S' => by
   obtain ⟨fp, gp, _, r, _, _⟩ := S'.rep
   cases r with
   | cons r _ =>
     cases r with
     | sh r =>
       cases r with
       | @ins a dx _ gs _ ha rf =>
         obtain ⟨w, hw, K5⟩ := rf.get hl
         exact ⟨a, CL c, dx, gs, w, rfl, S'.zh _ _ ha, hc, n, hw, k w H' Z' z s (S'.pop.push K5)⟩)
theorem r9 {fG : List Stmt} {a : Addr} {gs : List (Str × T)} {pa pb pc : Pos} (hc : Aj X.K (CL c)) (n : bY X.K (CL c) f) (nm : Vn X i x) (h : cC X CL b e δ t δ1) (h1 : δ1[i]? = some (some (.pin a (.ins c gs)))) (hl : gs.length < 1000)
   (k : fq X CL b fG (δ1.set i (some (.pin a (.ins c (zl f t gs))))) DD) (hs : swapsWith e (some (.Attribute (.Name x pa) f pb)) pc.line X.env = pure false := by rfl) :
   fq X CL b (.Assign [.Attribute (.Name x pa) f pb] e pc :: fG) δ DD := dG fun H Z σ ts vs E S M =>
 tW (XQ (kI nm.hi nm.hv nm.hd nm.jy) eu hs) (h H Z σ ts vs _ S fun v H' Z' z s S' => by
   obtain ⟨dx, ws, hv, hx, hlen, S2⟩ := S'.setField (f := f) h1
   exact ⟨.ref a, hv, a, CL c, dx, ws, rfl, hx, hc, n, by rw [hlen]; exact hl, M.nx _ σ _ Z' z S2 k⟩)
end
noncomputable def spI (K : PySem.W.Frag) (CL : Str -> Addr) {A : Type} (c : Str) (n : Nat) (arg : A -> List D) (Pre : A -> Prop) (res : A -> List (Str × T)) : Sp := fun vs H Q _ =>
 ∃ (W H0 : Hp) (a : A) (x dx : Addr) (us : List V), vs = .ref x :: us /\ H0 x = none /\ H0 dx = none /\ dx ≠ x /\ H = upd (upd H0 dx (.own x)) x (.ins (CL c) dx []) ∧
   aH W H0 /\ (∀ c o, H0 c = some o -> jW o = true -> W c = some o) /\ aK K CL W (arg a) us /\ (arg a).length + 1 = n /\ Pre a /\ n5 CL W ∧
   ∀ H' W' fp, aH H0 H' -> aH W W' -> aH W' H' -> (∀ c o, W' c = some o -> W c = none -> H0 c = none) -> (∀ c o, H' c = some o -> jW o = true -> W' c = some o) →
     cW K CL H' W' (.ins c (res a)) (.ref x) fp -> fp.Nodup -> (∀ c ∈ fp, W' c = none /\ H0 c = none) -> Q .non H'
section
variable {X : Cx} {CL : Str -> Addr} {b : Bx} {δ δ1 δ2 : List (Option T)} {e o : Expr} {es : List Expr} {pos pp apos : Pos}
variable {A : Type} {k n : Nat} {f : Addr} {fd : FuncData} {ps : List Str} {arg : A -> List D} {Pre : A -> Prop} {x c m : Str}
theorem SN {res : A -> List (Str × T)} (a : A) (M : Mk X.K (CL c) f) (F : ck X.prog X.w X.K X.mg X.base gO k f fd ps (spI X.K CL c n arg Pre res)) (hr : fF (k + 1) X.A) (hm : X.mg x = some (.ref (CL c))) (hb : Binds X.K fd ps [])
   (h : Rx X CL b (e :: es) δ (arg a) δ1) (hn : (arg a).length + 1 = n) (hp : Pre a) (hc : T.bS (res a) = true) (hg : Gl X x)
   (vD : (x == ("__debug__" : Str)) = false := by decide) (he : starEach (e :: es) X.env = (false, eval e X.env) :: starEach es X.env := by exact bN rfl) (hpl : (backTo pos (starEach es X.env)).any (·.1) = false := by rfl) :
   cC X CL b (.Call (.Name x pp) (e :: es) [] pos) δ (.ins c (res a)) δ1 := fun H Z σ ts vs Q S kk =>
 c6 (JB M F hr hg hm hb .nil En M6 vD he hpl) (h H Z σ ts vs _ S fun us H1 Z1 z1 k1 S1 r x dx hx hdx ne => by
   rw [ai6]
   refine ⟨H1, H1, a, x, dx, us, rfl, hx, hdx, ne, rfl, .refl _, fun _ _ q _ => q, r, hn, hp, S1.Le, fun H' W' fp hh ww wh nw tp rt nd own => ⟨rfl, ?_⟩⟩
   obtain ⟨Z', z', S'⟩ := S1.back hh S1.zh ww wh nw tp rt nd own (.inr (by rw [T.clean]; exact hc))
   exact kk _ H' Z' (z1.trans z') (k1.trans hh) S')
end
theorem JQ {P : Program} {w : World} {K : PySem.W.Frag} {mg : Str -> Option Value} {base : Heap} {CL : Str -> Addr} {x qual c : Str} {st : Stmt} {f : Addr} {fd : FuncData} {N ps : List Str} {k : Nat} {A : Type} {arg : A -> List D} {Pre : A -> Prop} {res : A -> List (Str × T)} (F : jB K x qual st f fd) (S : aU N ps (ao st))
   (hb : ∀ (dY : Value) (Ar : Around) (outer : List Env) (s : Shared) (H : Hp) (E : XK) (b : Bx) (a : A) (y : Addr), fF k (Ar.deeper (envOfC qual (ao st) s.heap.objs.size f dY)) -> Pre a →
     fq (wJ gO P w K mg base N qual (ao st) f dY Ar outer s H E).Rt CL b (gk st) (some (.pin y (.ins c [])) :: ((arg a).map (fun d => some (T.sh d)) ++ List.replicate (N.length - ((arg a).length + 1)) none))
       { nx := fun δ => δ[0]? = some (some (.pin y (.ins c (res a)))), rt := fun _ _ => False }) :
   ck P w K mg base gO (k + 1) f fd ps (spI K CL c ps.length arg Pre res) := by
 refine F.ok S (fun vs H Q E h => ?_) (fun dY Ar outer s H vs Q E hr h => ?_)
 . obtain ⟨W, H0, a, y, dx, us, rfl, _, _, _, _, _, _, r, hl, _⟩ := h
   rw [ai2, ← r.length]; exact hl
 . obtain ⟨W, H0, a, y, dx, us, rfl, hy, hdx, ne, rfl, wh, tp, r, hl, hp, tb, kk⟩ := h
   have old : ∀ {d : Addr} {o : HO}, H0 d = some o -> upd (upd H0 dx (.own y)) y (.ins (CL c) dx []) d = some o := fun {d o} q => by
     rw [aA (aL q hy), aA (aL q hdx)]; exact q
   refine ⟨_, Sj, hb dY Ar outer s _ E ⟨H0, W⟩ a y hr hp _ W _ [] [] _ ⟨⟨[y] ++ [], [], ?_, .nil, by simp, fun d hd => ?_⟩, fun d o q => old q, .refl _, fun d o q => old (wh d o q), fun d o q z => ?_, fun d o q i => ?_, tb⟩ ⟨fun δ' σ' H' Z' s' S' e => ?_, fun t v H' Z' δ' σ' s' S' e => e.elim, fun _ _ _ _ _ _ e => e.elim, fun _ _ _ _ _ _ e => e.elim⟩⟩
   . unfold L2.start
     rw [ai1, ai2, ai0, ← r.length]
     exact .cons (.pin (.ins aP .nil)) (jE _ r)
   . have : d = y := by simpa using hd
     subst this
     exact ⟨Yg wh hy, hy⟩
   . have q' : W d = some o := q
     have z' : W d = none := z
     rw [q'] at z'; cases z'
   . by_cases h1 : d = y
     . subst h1; rw [aP] at q; cases q; cases i
     . rw [aA h1] at q
       by_cases h2 : d = dx
       . subst h2; rw [aP] at q; cases q; cases i
       . rw [aA h2] at q; exact tp d o q i
   . obtain ⟨fp, gp, eE, _, nd, own⟩ := S'.rep
     obtain ⟨v, f1, f2, f3, hv, rR, rt, _, _⟩ := eE.get e
     subst rR
     cases rt with
     | pin rt =>
       refine kk H' Z' f2 S'.bh S'.zz S'.zh S'.new S'.tp rt ?_ fun d hd => own d (by simp [hd])
       have h1 := (ajt.mp nd).1
       exact (ajt.mp (ajt.mp h1).2.1).1
section
variable {X : Cx} {CL : Str -> Addr} {b : Bx} {δ δ1 δ2 : List (Option T)} {e e1 e2 : Expr} {es : List Expr} {t : T} {d : D} {ds zm : List D} {x : Str} {pos pp : Pos} {DD : c7} {i : Nat} {fG body : List Stmt}
theorem Bw (g : Gx X) (P : Nat -> List (Option T) -> Prop) (m : Nat) (h0 : P m δ)
   (hs : ∀ m δ, P m δ -> ∃ p δ1, tO X CL b e δ p δ1 ∧
     (p = true -> fq X CL b body δ1 { nx := fun δ2 => ∃ m', m' < m /\ P m' δ2, rt := DD.rt, bk := fun δ2 => fq X CL b fG δ2 DD, ct := fun δ2 => ∃ m', m' < m /\ P m' δ2 }) /\ (p = false -> fq X CL b fG δ1 DD)) :
   fq X CL b (.While e body [] pos :: fG) δ DD := dG fun H Z σ ts vs E S M =>
 tW (Nt (by rw [g.xe]; exact PassesOwn.never) Yd Sj) (by
   refine ⟨fun m σ H => ∃ Z2 δ2, aH Z Z2 /\ bX X.K CL b H Z2 δ2 σ ts vs /\ P m δ2, ⟨m, Z, δ, .refl _, S, h0⟩, ?_⟩
   rintro m σ H ⟨Z2, δ2, z2, S2, p2⟩
   obtain ⟨p, δ3, ht, h1, h2⟩ := hs m δ2 p2
   refine ht H Z2 σ ts vs _ S2 fun H3 Z3 z3 k3 S3 => ?_
   cases p with
   | true =>
     rw [aiI rfl]
     refine ⟨fun σ' H' => ∃ m', m' < m /\ ∃ Z2 δ2, aH Z Z2 /\ bX X.K CL b H' Z2 δ2 σ' ts vs /\ P m' δ2, fun σ' H' q => q, ?_⟩
     refine h1 rfl H3 Z3 σ ts vs _ S3 ⟨fun δ' σ' H' Z' s' S' ⟨m', l, q⟩ => ⟨m', l, Z', δ', z2.trans (z3.trans s'), S', q⟩, fun t v H' Z' δ' σ' s' S' q => M.rt t v H' Z' δ' σ' (z2.trans (z3.trans s')) S' q,
       fun δ' σ' H' Z' s' S' q => M.nx δ' σ' H' Z' (z2.trans (z3.trans s')) S' q, fun δ' σ' H' Z' s' S' ⟨m', l, q⟩ => ⟨m', l, Z', δ', z2.trans (z3.trans s'), S', q⟩⟩
   | false =>
     rw [aiG (by decide)]
     exact M.nx δ3 σ H3 Z3 (z2.trans z3) S3 (h2 rfl))
noncomputable def ab6 (K : PySem.W.Frag) : R2 := fun x y H Q => ∃ l b xs zs, x = .ref l /\ y = .ref b /\ nS K H l xs /\ nS K H b zs /\ xs.length + zs.length <= sizeLine /\ ∀ p, H p = none -> Q (.ref p) (upd H p (.lst (xs ++ zs)))
theorem SQ : vC X (binaryOp .Add) (ab6 X.K) := by
 intro pins s σ H x y v u Q I rx ry h
 obtain ⟨l, b, xs, zs, rfl, rfl, hH, hB, hz, q⟩ := h
 cases rx
 cases ry
 obtain ⟨its, r, pl, _⟩ := I.list hH
 obtain ⟨wL, r2, pl2, _⟩ := I.list hB
 have e1 := r.length
 have e2 := r2.length
 obtain ⟨⟨c1, dd, da1, sl⟩, ho, hc, n, hd⟩ := pl.isList
 obtain ⟨⟨c2, dd2, da2, sl2⟩, Rw, Ej, n2, hd2⟩ := pl2.isList
 cases hc; cases Ej; cases hd; cases hd2
 refine concat_meets ⟨_, ho, rfl⟩ ⟨_, Rw, rfl⟩ noFill_list_add seq_list_add PySem.F.slot_list_add PySem.F.entry_list_add (PySem.F.args_list_add_2 (Value.ref l) (Value.ref b))
   (list_addW l b its.toArray wL.toArray n n2 dd dd2 sl sl2 (by rw [aiW, aiW]; omega)) ⟨ho, Rw, ?_⟩
 have ea : its.toArray ++ wL.toArray = (its ++ wL).toArray := by simp
 rw [ea]
 exact ⟨.ref _, _, I.aem (t' := s.toks) (r.append r2) (by rw [aiT]; omega), rfl, q _ I.fresh⟩
theorem aK.app {K : PySem.W.Frag} {Z : Hp} {ds zm : List L3.D} {vs vs2 : List V} (h : aK K CL Z ds vs) (r2 : aK K CL Z zm vs2) : aK K CL Z (ds ++ zm) (vs ++ vs2) :=
 aK.ind (P := fun ds vs => aK K CL Z (ds ++ zm) (vs ++ vs2)) r2 (fun r _ i => .cons r i) h
theorem JR (h1 : dz X CL b e1 δ (.lst ds) δ1) (h2 : dz X CL b e2 δ1 (.lst zm) δ2) (i1 : D.bV ds = true) (i2 : D.bV zm = true) (hz : ds.length + zm.length <= sizeLine) :
   cC X CL b (.BinOp e1 .Add e2 pos) δ (.lst ((ds ++ zm).map T.sh)) δ2 := fun H Z σ ts vs Q S k =>
 c6 (Ju SQ eu eu) (h1 H Z σ ts vs _ S fun v1 H1 Z1 z1 k1 S1 r1 => h2 H1 Z1 σ ts vs _ S1 fun v2 H2 Z2 z2 k2 S2 r2 => by
   have r1' := r1.mono k2
   cases r1' with
   | lst Rz WL =>
     cases r2 with
     | lst hq2 Yy =>
       refine ⟨_, _, _, _, rfl, rfl, Rz, hq2, by rw [← WL.length, ← Yy.length]; exact hz, fun p hp => ?_⟩
       have rc := aK.app (aK.mG S2.tp i1 WL) (aK.mG S2.tp i2 Yy)
       obtain ⟨c, S4⟩ := (bX.uW rc S2).tZ (g0 := []) (by simp [rc.length, WL.length, Yy.length]) hp
       exact k _ _ _ (z1.trans z2) (k1.trans (k2.trans c)) S4)
theorem boot_min : bootBuiltins "min" = some (.builtin "min") := by decide +kernel
theorem boot_max : bootBuiltins "max" = some (.builtin "max") := by decide +kernel
theorem boot_str : bootBuiltins "str" = some (.type "str") := by decide +kernel
theorem SR {i j : Int} (g : Gx X) (hm : X.mg "min" = none) (hg : Gl X "min") (h : Rx X CL b [e1, e2] δ [.int i, .int j] δ1) (hs : starEach [e1, e2] X.env = (false, eval e1 X.env) :: starEach [e2] X.env := by exact bN rfl) (hpl : (backTo pos (starEach [e2] X.env)).any (·.1) = false := by rfl) :
   cC X CL b (.Call (.Name "min" pp) [e1, e2] [] pos) δ (.sh (.int (if j < i then j else i))) δ1 := fun H Z σ ts vs Q S k =>
 c6 (lD (KY g.calm) hg hm boot_min M6 (he := hs) (hpl := hpl)) (h H Z σ ts vs _ S fun us H1 Z1 z1 k1 S1 r => by
   cases r with
   | cons r1 r =>
     cases r with
     | cons r2 r =>
       cases r
       rw [r1.sc rfl, r2.sc rfl]
       exact ⟨i, j, rfl, k _ H1 Z1 z1 k1 (S1.push (.int _))⟩)
theorem SV {i j : Int} (g : Gx X) (hm : X.mg "max" = none) (hg : Gl X "max") (h : Rx X CL b [e1, e2] δ [.int i, .int j] δ1) (hs : starEach [e1, e2] X.env = (false, eval e1 X.env) :: starEach [e2] X.env := by exact bN rfl) (hpl : (backTo pos (starEach [e2] X.env)).any (·.1) = false := by rfl) :
   cC X CL b (.Call (.Name "max" pp) [e1, e2] [] pos) δ (.sh (.int (if j > i then j else i))) δ1 := fun H Z σ ts vs Q S k =>
 c6 (lD (KW g.calm) hg hm boot_max M6 (he := hs) (hpl := hpl)) (h H Z σ ts vs _ S fun us H1 Z1 z1 k1 S1 r => by
   cases r with
   | cons r1 r =>
     cases r with
     | cons r2 r =>
       cases r
       rw [r1.sc rfl, r2.sc rfl]
       exact ⟨i, j, rfl, k _ H1 Z1 z1 k1 (S1.push (.int _))⟩)
theorem sd {i : Int} (hm : X.mg "str" = none) (hg : Gl X "str") (h : dz X CL b e δ (.int i) δ1) (hi : i.natAbs.log2 < 1920) (hs : starEach [e] X.env = (false, eval e X.env) :: starEach [] X.env := by exact bN rfl) :
   cC X CL b (.Call (.Name "str" pp) [e] [] pos) δ (.sh (.str (toString i))) δ1 := fun H Z σ ts vs Q S k =>
 c6 (lE Bf hg hm boot_str (cN eu fB hs) (he := hs)) (h H Z σ ts vs _ S fun v H1 Z1 z1 k1 S1 r => by
   rw [r.sc rfl]
   exact ⟨i, rfl, hi, k _ H1 Z1 z1 k1 (S1.push (.str _))⟩)
end
structure Fm (X : Cx) (CL : Str -> Addr) (x : Str) (k n : Nat) {A : Type} (arg : A -> List D) (Pre : A -> Prop) (res : A -> List (Str × T)) : Prop where
 ex : ∃ f fd ps, Mk X.K (CL x) f /\ ck X.prog X.w X.K X.mg X.base gO k f fd ps (spI X.K CL x n arg Pre res) /\ X.mg x = some (.ref (CL x)) /\ Binds X.K fd ps []
 room : fF (k + 1) X.A
noncomputable def OD (N : List Str) (y : Addr) (c : Str) (ds : List D) : List (Option T) := some (.pin y (.ins c [])) :: (ds.map (fun d => some (T.sh d)) ++ List.replicate (N.length - (ds.length + 1)) none)
section
variable {X : Cx} {CL : Str -> Addr} {b : Bx} {δ δ1 δ2 : List (Option T)} {e e1 e2 o : Expr} {es : List Expr} {d : L3.D} {t : T} {i : Nat} {x c m : Str} {pos pp apos : Pos} {D : c7} {fG : List Stmt} {ds : List L3.D}
theorem mk_ {k n : Nat} {A : Type} {arg : A -> List L3.D} {Pre : A -> Prop} {res : A -> List (Str × T)} (a : A) (F : Fm X CL x k n arg Pre res) (hg : Gl X x) (h : Rx X CL b (e :: es) δ (arg a) δ1) (hp : Pre a) (hc : T.bS (res a) = true) (hn : (arg a).length + 1 = n := by rfl)
   (vD : (x == ("__debug__" : Str)) = false := by decide) (he : starEach (e :: es) X.env = (false, eval e X.env) :: starEach es X.env := by exact bN rfl) (hpl : (backTo pos (starEach es X.env)).any (·.1) = false := by rfl) :
   cC X CL b (.Call (.Name x pp) (e :: es) [] pos) δ (.ins x (res a)) δ1 := by
 obtain ⟨f, fd, ps, M, F1, m, b⟩ := F.ex
 exact SN a M F1 F.room m b h hn hp hc hg vD he hpl
end
theorem vV {α : Type} {f : Str} {d : α} {fs : List (Str × α)} : ((f, d) :: fs).lookup f = some d := by
 rw [ajg, akh]
theorem j3 {α : Type} {f g : Str} {d : α} {fs : List (Str × α)} (h : (f == g) = false) : ((g, d) :: fs).lookup f = fs.lookup f := by
 rw [ajg, h]
theorem gS {f : Str} {t : T} : zl f t [] = [(f, t)] := rfl
theorem cg {f g : Str} {t u : T} {fs : List (Str × T)} (h : ¬ g = f) : zl f t ((g, u) :: fs) = (g, u) :: zl f t fs := by
 rw [zl, aiG h]
section
variable {X : Cx} {CL : Str -> Addr} {b : Bx} {δ δ1 δ2 : List (Option T)} {e1 e2 : Expr} {x : Str} {pos : Pos} {d : L3.D}
theorem se (x : Int) : ∀ l : List Int, WB (.int x) (l.map V.int) = decide (x ∈ l)
 | [] => by simp [WB]
 | y :: l => by
   have ih := se x l
   unfold WB at ih ⊢
   rw [ai1, aj0, ih]
   by_cases h : y = x
   . subst h; simp [NV]
   . have h' : ¬ x = y := fun e => h e.symm
     simp [NV, h, h']
theorem aK.ints {K : PySem.W.Frag} {Z : Hp} : ∀ {l : List Int} {vs : List V}, aK K CL Z (l.map D.int) vs -> vs = l.map V.int
 | [], _, r => by
   have r' : aK K CL Z [] _ := r
   cases r'; rfl
 | y :: l, _, r => by
   have r' : aK K CL Z (D.int y :: l.map D.int) _ := r
   cases r' with
   | cons r1 r2 => rw [r1.sc rfl, aK.ints r2]; rfl
theorem gT : ∀ l : List Int, (l.map V.int).all qE = true
 | [] => rfl
 | y :: l => by rw [ai1, List.all_cons, gT l]; rfl
noncomputable def wV (d : L3.D) : Option (List L3.D) := match d with
 | .lst ds => some ds
 | .tup ds => some ds
 | _ => none
theorem bR.wV {K : PySem.W.Frag} {Z : Hp} {v : V} {ds : List L3.D} (r : bR K CL Z d v) (h : L3.wV d = some ds) : ∃ p us, v = .ref p /\ (nS K Z p us \/ rS K Z p us) /\ aK K CL Z ds us := by
 cases r with
 | tup hq rr => cases h; exact ⟨_, _, rfl, .inr hq, rr⟩
 | lst hq rr => cases h; exact ⟨_, _, rfl, .inl hq, rr⟩
 | non => cases h
 | bl => cases h
 | int => cases h
 | str => cases h
 | any => cases h
 | val => cases h
 | jC => cases h
 | dct => cases h
 | ins => cases h
theorem vW {l : List Int} {i : Int} (h1 : dz X CL b e1 δ (.int i) δ1) (h2 : dz X CL b e2 δ1 d δ2) (hd : L3.wV d = some (l.map .int)) (hm : behindInMarks .In e2 = false) :
   tO X CL b (.Compare e1 [.In] [e2] pos) δ (decide (i ∈ l)) δ2 /\ cC X CL b (.Compare e1 [.In] [e2] pos) δ (.sh (.bl (decide (i ∈ l)))) δ2 := by
 constructor
 . intro H Z σ ts vs Q S k
   refine Bq (vO Ao eu eu hm) (h1 H Z σ ts vs _ S fun v1 H1 Z1 z1 k1 S1 r1 => h2 H1 Z1 σ ts vs _ S1 fun v2 H2 Z2 z2 k2 S2 r2 => ?_)
   obtain ⟨p, us, rfl, hq, rr⟩ := bR.wV r2 hd
   have e := rr.ints
   subst e
   refine ⟨_, _, rfl, hq, by rw [r1.sc rfl]; rfl, gT l, _, rfl, ?_⟩
   rw [aiG aiY, r1.sc rfl, se]
   exact k H2 Z2 (z1.trans z2) (k1.trans k2) S2
 . intro H Z σ ts vs Q S k
   refine c6 (vN Ao eu eu hm) (h1 H Z σ ts vs _ S fun v1 H1 Z1 z1 k1 S1 r1 => h2 H1 Z1 σ ts vs _ S1 fun v2 H2 Z2 z2 k2 S2 r2 => ?_)
   obtain ⟨p, us, rfl, hq, rr⟩ := bR.wV r2 hd
   have e := rr.ints
   subst e
   refine ⟨_, _, rfl, hq, by rw [r1.sc rfl]; rfl, gT l, ?_⟩
   rw [aiG aiY, r1.sc rfl, se]
   exact k _ H2 Z2 (z1.trans z2) (k1.trans k2) (S2.push (.bl _))
theorem sf {l : List Int} {i : Int} (h1 : dz X CL b e1 δ (.int i) δ1) (h2 : dz X CL b e2 δ1 d δ2) (hd : L3.wV d = some (l.map .int)) (hm : behindInMarks .NotIn e2 = false) :
   tO X CL b (.Compare e1 [.NotIn] [e2] pos) δ (!decide (i ∈ l)) δ2 /\ cC X CL b (.Compare e1 [.NotIn] [e2] pos) δ (.sh (.bl (!decide (i ∈ l)))) δ2 := by
 constructor
 . intro H Z σ ts vs Q S k
   refine Bq (vO jn eu eu hm) (h1 H Z σ ts vs _ S fun v1 H1 Z1 z1 k1 S1 r1 => h2 H1 Z1 σ ts vs _ S1 fun v2 H2 Z2 z2 k2 S2 r2 => ?_)
   obtain ⟨p, us, rfl, hq, rr⟩ := bR.wV r2 hd
   have e := rr.ints
   subst e
   refine ⟨_, _, rfl, hq, by rw [r1.sc rfl]; rfl, gT l, _, rfl, ?_⟩
   rw [aiI rfl, r1.sc rfl, se]
   exact k H2 Z2 (z1.trans z2) (k1.trans k2) S2
 . intro H Z σ ts vs Q S k
   refine c6 (vN jn eu eu hm) (h1 H Z σ ts vs _ S fun v1 H1 Z1 z1 k1 S1 r1 => h2 H1 Z1 σ ts vs _ S1 fun v2 H2 Z2 z2 k2 S2 r2 => ?_)
   obtain ⟨p, us, rfl, hq, rr⟩ := bR.wV r2 hd
   have e := rr.ints
   subst e
   refine ⟨_, _, rfl, hq, by rw [r1.sc rfl]; rfl, gT l, ?_⟩
   rw [aiI rfl, r1.sc rfl, se]
   exact k _ H2 Z2 (z1.trans z2) (k1.trans k2) (S2.push (.bl _))
theorem SW {l : List Str} (h1 : dz X CL b e1 δ (.str x) δ1) (h2 : dz X CL b e2 δ1 d δ2) (hd : L3.wV d = some (l.map .str)) (hm : behindInMarks .NotIn e2 = false) :
   tO X CL b (.Compare e1 [.NotIn] [e2] pos) δ (!decide (x ∈ l)) δ2 /\ cC X CL b (.Compare e1 [.NotIn] [e2] pos) δ (.sh (.bl (!decide (x ∈ l)))) δ2 := by
 constructor
 . intro H Z σ ts vs Q S k
   refine Bq (vO jn eu eu hm) (h1 H Z σ ts vs _ S fun v1 H1 Z1 z1 k1 S1 r1 => h2 H1 Z1 σ ts vs _ S1 fun v2 H2 Z2 z2 k2 S2 r2 => ?_)
   obtain ⟨p, us, rfl, hq, rr⟩ := bR.wV r2 hd
   have e := rr.strs
   subst e
   refine ⟨_, _, rfl, hq, by rw [r1.sc rfl]; rfl, mO l, _, rfl, ?_⟩
   rw [aiI rfl, r1.sc rfl, Bv]
   exact k H2 Z2 (z1.trans z2) (k1.trans k2) S2
 . intro H Z σ ts vs Q S k
   refine c6 (vN jn eu eu hm) (h1 H Z σ ts vs _ S fun v1 H1 Z1 z1 k1 S1 r1 => h2 H1 Z1 σ ts vs _ S1 fun v2 H2 Z2 z2 k2 S2 r2 => ?_)
   obtain ⟨p, us, rfl, hq, rr⟩ := bR.wV r2 hd
   have e := rr.strs
   subst e
   refine ⟨_, _, rfl, hq, by rw [r1.sc rfl]; rfl, mO l, ?_⟩
   rw [aiI rfl, r1.sc rfl, Bv]
   exact k _ H2 Z2 (z1.trans z2) (k1.trans k2) (S2.push (.bl _))
end
section
variable {X : Cx} {CL : Str -> Addr} {b : Bx} {δ δ1 δ2 : List (Option T)} {e : Expr} {es : List Expr} {d : L3.D} {ds : List L3.D} {t : T} {i : Nat} {x : Str} {pos pp : Pos} {DD : c7} {fG : List Stmt}
theorem bT : Lf X CL b [] δ (([] : List L3.D).map T.sh) δ := cO
theorem aB (h1 : cC X CL b e δ (.sh d) δ1) (h2 : Lf X CL b es δ1 (ds.map T.sh) δ2) (hs : starEach (e :: es) X.env = (false, eval e X.env) :: starEach es X.env := by exact bN rfl) : Lf X CL b (e :: es) δ ((d :: ds).map T.sh) δ2 := bu h1 h2 hs
theorem jq (h : Lf X CL b es δ (ds.map T.sh) δ1) (hl : ds.length <= sizeLine) : cC X CL b (.List es pos) δ (.lst (ds.map T.sh)) δ1 := dF h (by simpa using hl)
theorem sj (l : List Str) : D.bV (l.map L3.D.str) = true := dg (fun _ => rfl) _
theorem By (h : cC X CL b e δ (.lst (ds.map T.sh)) δ1) : cC X CL b e δ (.sh (.lst ds)) δ1 := by
 have := G6 h
 rwa [T.dQ, jo] at this
theorem pP (h : cC X CL b e δ t δ1) (q : t.dQ = d) : cC X CL b e δ (.sh d) δ1 := q ▸ G6 h
theorem JS (h : DD.bk δ) : fq X CL b (.Break pos :: fG) δ DD := dG (Oj h)
theorem uZ {d2 : L3.D} (h : dz X CL b e δ d δ1) (q : d = d2) : dz X CL b e δ d2 δ1 := q ▸ h
theorem aW {t2 : T} (h : cC X CL b e δ t δ1) (q : t = t2) : cC X CL b e δ t2 δ1 := q ▸ h
end
structure BD (Z H Z' H' : Hp) : Prop where
 z : aH Z Z'
 h : aH H H'
 zh : aH Z' H'
 new : ∀ a o, Z' a = some o -> Z a = none -> H a = none
 tp : ∀ a o, H' a = some o -> jW o = true -> Z' a = some o
theorem BD.refl {Z H : Hp} (zh : aH Z H) (tp : ∀ a o, H a = some o -> jW o = true -> Z a = some o) : BD Z H Z H := ⟨.refl _, .refl _, zh, fun a o q z => (by rw [q] at z; cases z), tp⟩
theorem BD.tup {Z H : Hp} {p : Addr} {xs : List V} (zh : aH Z H) (tp : ∀ a o, H a = some o -> jW o = true -> Z a = some o) (hp : H p = none) : BD Z H (upd Z p (.tup xs)) (upd H p (.tup xs)) := by
 have zp : Z p = none := zh.free hp
 refine ⟨aH.upd zp, aH.upd hp, fun a o q => ?_, fun a o q z => ?_, fun a o q i => ?_⟩
 . by_cases e : a = p
   . subst e; rw [aP] at q ⊢; exact q
   . rw [aA e] at q ⊢; exact zh a o q
 . by_cases e : a = p
   . subst e; exact hp
   . rw [aA e, z] at q; cases q
 . by_cases e : a = p
   . subst e; rw [aP] at q ⊢; exact q
   . rw [aA e] at q ⊢; exact tp a o q i
section
variable {K : PySem.W.Frag} {CL : Str -> Addr} {b : Bx} {H H' Z Z' : Hp} {δ : List (Option T)} {σ : L2.St} {ts : List T} {vs : List V}
theorem bX.grow (S : bX K CL b H Z δ σ ts vs) (g : BD Z H Z' H') : bX K CL b H' Z' δ σ ts vs := by
 obtain ⟨fp, gp, e, r, nd, k⟩ := S.rep
 have old : ∀ a ∈ fp ++ gp, ∃ o, H a = some o := fun a ha => (aiO.mp ha).elim (e.there a) (r.there a)
 have keep : ∀ a ∈ fp ++ gp, H' a = H a := fun a ha => by
   obtain ⟨o, q⟩ := old a ha
   rw [q]; exact g.h a o q
 refine ⟨⟨fp, gp, e.mono g.z (fun a ha => keep a (aiP _ ha)), r.mono g.z (fun a ha => keep a (aiD _ ha)), nd, fun a ha => ⟨?_, (k a ha).2⟩⟩, S.bh.trans g.h, S.zz.trans g.z, g.zh, fun a o q z => ?_, g.tp, S.tab⟩
 . cases q : Z' a with
   | none => rfl
   | some o =>
     obtain ⟨u, hu⟩ := old a ha
     rw [g.new a o q (k a ha).1] at hu; cases hu
 . cases e2 : Z a with
   | none => exact S.bh.free (g.new a o q e2)
   | some u =>
     have := g.z a u e2
     rw [q] at this; cases this
     exact S.new a o e2 z
noncomputable def JT (δ : List (Option T)) : List Nat -> List D -> List (Option T)
 | i :: is, d :: ds => JT (δ.set i (some (.sh d))) is ds
 | _, _ => δ
noncomputable def wW (σ : L2.St) : List Nat -> List V -> L2.St
 | i :: is, v :: vs => wW (σ.set i (some v)) is vs
 | _, _ => σ
theorem bX.sets {ps : List D} {ys : List V} : ∀ {is : List Nat} {δ : List (Option T)} {σ : L2.St}, bX K CL b H Z δ σ ts vs -> aK K CL Z ps ys -> (∀ i ∈ is, i < δ.length) -> bX K CL b H Z (JT δ is ps) (wW σ is ys) ts vs := by
 intro is
 induction is generalizing ps ys with
 | nil =>
   intro δ σ S r _
   cases ps <;> cases ys <;> exact S
 | cons i is ih =>
   intro δ σ S r hl
   cases r with
   | nil => exact S
   | cons r rr => exact ih ((S.push r).set (hl i aiF)) rr (fun j hj => by rw [List.length_set]; exact hl j (aiE _ hj))
end
section
variable {X : Cx} {CL : Str -> Addr} {b : Bx} {δ δ1 : List (Option T)} {ds : List D} {iter tg : Expr} {pos : Pos}
structure BE (X : Cx) (CL : Str -> Addr) (b : Bx) (δ1 : List (Option T)) (σ : L2.St) (ts : List T) (vs : List V) (Z H : Hp) (ds : List D) (J : It) (H1 : Hp) : Prop where
 ex : ∃ Z1, aH Z Z1 /\ aH H H1 /\ bX X.K CL b H1 Z1 δ1 σ ts vs /\ (∀ i H2, aH Z1 H2 -> i < ds.length -> J.go i H2) ∧
   (∀ i Z2 H2 x H', aH Z1 Z2 -> aH Z2 H2 -> (∀ a o, H2 a = some o -> jW o = true -> Z2 a = some o) -> i < ds.length -> J.Wv i H2 x H' -> ∃ Z3 d, ds[i]? = some d /\ BD Z2 H2 Z3 H' /\ bR X.K CL Z3 d x) /\ (∀ H2, aH Z1 H2 -> J.stop ds.length H2)
noncomputable def WM (X : Cx) (CL : Str -> Addr) (b : Bx) (tg e : Expr) (δ : List (Option T)) (ds : List D) (δ1 : List (Option T)) : Prop :=
 ∃ wi, PI X tg e wi /\ ∀ (H Z : Hp) (σ : L2.St) (ts : List T) (vs : List V) (R : It -> Hp -> Prop), bX X.K CL b H Z δ σ ts vs -> (∀ J H1, BE X CL b δ1 σ ts vs Z H ds J H1 -> R J H1) -> wi σ H R
theorem WN (h : Sx X CL b tg iter δ ds δ1) : WM X CL b tg iter δ ds δ1 := by
 obtain ⟨wi, pi, hw⟩ := h
 refine ⟨wi, pi, fun H Z σ ts vs R S k => hw H Z σ ts vs R S fun J H1 zz => ?_⟩
 obtain ⟨Z1, us, z1, k1, S1, rr, go, yl, st⟩ := zz
 refine k J H1 ⟨Z1, z1, k1, S1, go, fun i Z2 H2 x H' s1 s2 tp hi hy => ?_, st⟩
 obtain ⟨e, hu⟩ := yl i H2 x H' (s1.trans s2) hi hy
 subst e
 obtain ⟨d, hd, rd⟩ := rr.Oa hu
 exact ⟨Z2, d, hd, .refl s2 tp, rd.mono s1⟩
noncomputable def Tgt (X : Cx) (CL : Str -> Addr) (tg : Expr) (is : List Nat) (parts : D -> Option (List D)) : Prop :=
 ∃ t : TG, PG X tg t /\ ∀ (Z H : Hp) (d : D) (ps : List D) (x : V) (σ : L2.St) (Q : L2.St -> Hp -> Prop), aH Z H -> bR X.K CL Z d x -> parts d = some ps -> (∀ ys, aK X.K CL Z ps ys -> Q (wW σ is ys) H) -> t x σ H Q
noncomputable def part1 (d : D) : Option (List D) := some [d]
noncomputable def part2 : D -> Option (List D)
 | .tup [a, c] => some [a, c]
 | _ => none
theorem Lj {d : D} {ps : List D} (h : part2 d = some ps) : ∃ d1 d2, d = .tup [d1, d2] /\ ps = [d1, d2] := by
 unfold part2 at h
 split at h
 . cases h; exact ⟨_, _, rfl, rfl⟩
 . cases h
theorem Hi {K : PySem.W.Frag} {i j : Nat} {Z H : Hp} {d : D} {ps : List D} {x : V} {σ : L2.St} {Q : L2.St -> Hp -> Prop} (zh : aH Z H) (r : bR K CL Z d x) (e : part2 d = some ps) (k : ∀ ys, aK K CL Z ps ys -> Q (wW σ [i, j] ys) H) : Xv K 2 (Ec (uQ i) (Ec (uQ j) Xu)) x σ H Q := by
 obtain ⟨d1, d2, rfl, rfl⟩ := Lj e
 cases r with
 | tup hq rr =>
   cases rr with
   | cons r1 rr =>
     cases rr with
     | cons r2 rr =>
       cases rr
       exact ⟨_, _, rfl, aH.Lb zh hq, rfl, _, _, rfl, _, _, rfl, rfl, k _ (.cons r1 (.cons r2 .nil))⟩
theorem OG {i : Nat} {x : Str} {px : Pos} (hN : X.N.Nodup) (n : Ln X i x) : Tgt X CL (.Name x px) [i] part1 :=
 ⟨uQ i, rT hN n.hi n.loc n.hf, fun Z H d ps x σ Q zh r e k => by
   cases e
   exact k [x] (.cons r .nil)⟩
theorem SX {i j k : Nat} {x y : Str} {px py pt : Pos} (hN : X.N.Nodup) (hc : X.calm = true) (n : Ln X i x) (m : Ln X j y) (hs : (assignEach [.Name x px, .Name y py] X.env).map (·.2) = assign (.Name x px) X.env :: (assignEach [.Name y py] X.env).map (·.2) := by rfl) (KR : (assignEach [.Name y py] X.env).map (·.2) = assign (.Name y py) X.env :: (assignEach [] X.env).map (·.2) := by rfl)
   (hn : (assignEach [.Name x px, .Name y py] X.env).length = 2 := by rfl) (Nq : (assignEach [.Name x px, .Name y py] X.env).findIdx? (·.1) = none := by rfl) : Tgt X CL (.Tuple [.Name x px, .Name y py] k pt) [i, j] part2 :=
 ⟨Xv X.K 2 (Ec (uQ i) (Ec (uQ j) Xu)), Xw hc (Ed (rT hN n.hi n.loc n.hf) (Ed (rT hN m.hi m.loc m.hf) RT KR) hs) hn Nq, fun Z H d ps x σ Q zh r e k => Hi zh r e k⟩
theorem SY {D : c7} {fG : List Stmt} (is : List Nat) (parts : L3.D -> Option (List L3.D)) (P : Nat -> List (Option T) -> Prop) (h : WM X CL b tg iter δ ds δ1) (ht : Tgt X CL tg is parts) (h0 : P 0 δ1) (hl : ∀ j δ, P j δ -> ∀ i ∈ is, i < δ.length)
   (hs : ∀ j d δ, ds[j]? = some d -> P j δ -> ∃ ps, parts d = some ps /\ fq X CL b fG (JT δ is ps) { nx := P (j + 1), rt := D.rt, bk := D.nx, ct := P (j + 1) }) (hd : ∀ δ, P ds.length δ -> D.nx δ)
   (hp : PassesOwn (model X.prog X.w) X.A X.env X.xe) (hc : X.calm = true) (hq : ∀ x, foldedSetIterable iter X.env x = pure x := by intro _; rfl) :
   Ry X CL b (.For tg iter fG [] pos) δ D := fun H Z σ ts vs E S M => by
 obtain ⟨wi, pi, hw⟩ := h
 obtain ⟨t, pg, ht⟩ := ht
 refine tW (Nv hp hc pi pg Sj hq) (hw H Z σ ts vs _ S fun J H1 zz => ?_)
 obtain ⟨Z1, z1, k1, S1, go, yl, st⟩ := zz
 refine ⟨fun j m σ H2 => m = ds.length - j /\ j <= ds.length /\ ∃ Z2 δ2, aH Z1 Z2 /\ bX X.K CL b H2 Z2 δ2 σ ts vs /\ P j δ2, ⟨_, rfl, ai9 _, Z1, δ1, .refl _, S1, h0⟩, ?_⟩
 rintro j m σ H2 ⟨rfl, hj, Z2, δ2, s, S2, p2⟩
 by_cases rY : j < ds.length
 . refine .inr ⟨go j H2 (s.trans S2.zh) rY, fun σ' H' => ∃ Z2 δ2, aH Z1 Z2 /\ bX X.K CL b H' Z2 δ2 σ' ts vs /\ P (j + 1) δ2, fun σ' H' h => ⟨ds.length - (j + 1), by omega, rfl, rY, h⟩, fun y H' hy => ?_⟩
   obtain ⟨Z3, d, RL, gr, rd⟩ := yl j Z2 H2 y H' s S2.zh S2.tp rY hy
   obtain ⟨ps, hps, hb⟩ := hs j d δ2 RL p2
   have S3 := S2.grow gr
   refine ht Z3 H' d ps y σ _ S3.zh rd hps fun ys rys => ?_
   have S4 := S3.sets (is := is) rys (hl j δ2 p2)
   have s3 := s.trans gr.z
   exact hb _ Z3 _ ts vs _ S4 ⟨fun δ' σ' H' Z' s' S' k => ⟨Z', δ', s3.trans s', S', k⟩, fun t v H' Z' δ' σ' s' S' k => M.rt t v H' Z' δ' σ' (z1.trans (s3.trans s')) S' k, fun δ' σ' H' Z' s' S' k => M.nx δ' σ' H' Z' (z1.trans (s3.trans s')) S' k, fun δ' σ' H' Z' s' S' k => ⟨Z', δ', s3.trans s', S', k⟩⟩
 . have e : j = ds.length := by omega
   subst e
   exact .inl ⟨st H2 (s.trans S2.zh), M.nx δ2 σ H2 Z2 (z1.trans s) S2 (hd δ2 p2)⟩
theorem Yz {D : c7} {body fG : List Stmt} {is : List Nat} {parts : L3.D -> Option (List L3.D)} (g : Gx X) (ht : Tgt X CL tg is parts) (P : Nat -> List (Option T) -> Prop) (h : WM X CL b tg iter δ ds δ1) (h0 : P 0 δ1) (hl : ∀ j δ, P j δ -> ∀ i ∈ is, i < δ.length)
   (hs : ∀ j d δ, ds[j]? = some d -> P j δ -> ∃ ps, parts d = some ps /\ fq X CL b body (JT δ is ps) { nx := P (j + 1), rt := D.rt, bk := fun δ2 => fq X CL b fG δ2 D, ct := P (j + 1) }) (hd : ∀ δ, P ds.length δ -> fq X CL b fG δ D) (hq : ∀ x, foldedSetIterable iter X.env x = pure x := by intro _; rfl) :
   fq X CL b (.For tg iter body [] pos :: fG) δ D :=
 dG (SY (D := { D with nx := fun δ1 => fq X CL b fG δ1 D }) is parts P h ht h0 hl hs hd (by rw [g.xe]; exact PassesOwn.never) g.calm hq)
end
structure n8 (X : Cx) (scope : Scope) (xs : List Str) (Nc : List Str) (ix : List Nat) : Prop where
 kind : scope.kind = .function
 t6 : ∀ y ∈ scope.names, y.2 ≠ .cell
 nd : Nc.Nodup
 names : ∀ y ∈ scope.names, y.2 = .local -> scope.names.lookup y.1 = some .local
 own : ∀ x ∈ xs, scope.names.lookup x = some .local
 frees : ∀ y ∈ scope.names, y.2 = .free -> scope.names.lookup y.1 = some .free /\ (X.env.kindOf y.1 = some .cell \/ X.env.kindOf y.1 = some .free)
 hd : Nc = xs ++ ix.filterMap (X.N[·]?)
 WK : ∀ i ∈ ix, ∃ y, X.N[i]? = some y /\ scope.names.lookup y = some .free
noncomputable def Lk (σ : L2.St) (ix : List Nat) (os : List (Option V)) : L2.St := os ++ ix.map fun i => (σ[i]?).getD none
section
variable {X : Cx} {scope : Scope} {xs : List Str} {Nc : List Str} {ix : List Nat} {pins : List (Addr × Obj)} {σ : L2.St} {H : Hp} {s : Shared}
theorem EA {fp : List Addr} (sc : n8 X scope xs Nc ix) (I : Inv X pins σ H s) (rR : ∀ b ∈ fp, jm X pins H b /\ b < s.heap.objs.size) {h' : Heap} {m : Str -> Option Value} {tk : Nat}
   (hn : h'.Ns s.heap.objs.size m) (hk : ∀ b o, s.heap.get? b = some o -> h'.get? b = some o) :
   Inv (dO X scope Nc s.heap.objs.size s H fp) [] (Lk σ ix (List.replicate xs.length none)) H { s with heap := h', toks := tk } := by
 have frees : ∀ y ∈ scope.names, y.2 = .free -> ∃ c, X.env.cells.lookup y.1 = some c := fun y hy e => I.ok.has y.1 (sc.frees y hy e).2
 have sub : ∀ {y : Str} {c : Addr}, (cR X.env scope.names []).lookup y = some c -> X.env.cells.lookup y = some c := fun {y c} e => mK frees (fun _ _ z => by cases z) e
 have hlen : (Lk σ ix (List.replicate xs.length none)).length = Nc.length := by
   have all : ∀ l : List Nat, (∀ i ∈ l, ∃ y, X.N[i]? = some y /\ scope.names.lookup y = some .free) -> (l.filterMap (X.N[·]?)).length = l.length := by
     intro l
     induction l with
     | nil => intro _; rfl
     | cons i r ih =>
       intro h
       obtain ⟨y, e, _⟩ := h i aiF
       rw [ajM, e]
       show _ + 1 = _ + 1
       rw [ih fun j hj => h j (aiE _ hj)]
   unfold Lk
   rw [sc.hd, aiT, aiT, aiC, ajV, all ix sc.WK]
 have C0 : s.heap.get? s.heap.objs.size = none := Heap.get?_none_of_le (aiH _)
 refine ⟨⟨I.ok.mod, sc.kind, I.ok.glob, I.ok.blt, aiH _, fun y z c h1 h2 => I.ok.inj y z c (sub h1) (sub h2), fun y hy => ?_, fun y c hf _ => (by cases (show false = true from hf)), I.ok.hd, I.ok.frames, .inl rfl, fun b hb => ⟨aja (rR b hb).2, fun y c e => (rR b hb).1.2.2.2.2.1 y c (sub e)⟩, I.bs, ajL I.ok.Rr I.sz, fun b o e hb => ?_, fun b hb hf => ?_, I.stack, I.Bd⟩,
   rfl, I.bare, Un.kept hk, ⟨m, hn, fun i y v h1 h2 h3 => ?_⟩, fun y c e => ?_, I.dw.fresh (aiH _), fun y c e => I.nT y c (sub e), fun p hp => absurd (show p ∈ ([] : List (Addr × Obj)) from hp) (by simp), I.dw.kept hk, hlen⟩
 . 
   have hy' : (relabel scope X.env).names.lookup y = some .cell \/ (relabel scope X.env).names.lookup y = some .free := hy
   cases e : scope.names.lookup y with
   | none => 
     have := jk (env := X.env) e
     rcases hy' with q | q <;> (rw [show (relabel scope X.env).names.lookup y = none from this] at q; cases q)
   | some k =>
     have q := fH (env := X.env) e
     have hk : k = .free := by
       by_cases hk : k = .free
       . exact hk
       . have hb : (k == NameKind.free) = false := by simpa using hk
         rw [aiG (by rw [hb]; simp)] at q
         have nc : k ≠ .cell := fun z => by
           subst z
           exact sc.t6 _ (ajH e) rfl
         rcases hy' with z | z
         . rw [show (relabel scope X.env).names.lookup y = some k from q] at z
           exact absurd (aiZ z) nc
         . rw [show (relabel scope X.env).names.lookup y = some k from q] at z
           exact absurd (aiZ z) hk
     subst hk
     exact jF e
 . 
   rcases (rR b hb).1.2.2.2.1 with z | z
   . exact I.ok.Ng b o e z
   . exact absurd (ajf (aiX e) (ajL I.ok.Rr z)) (akq _)
 . rcases aiN.mp (I.Bc b hf) with z | z
   . exact (rR b hb).1.2.1 z
   . exact (rR b hb).1.2.2.1 z
 . 
   unfold Lk at h2
   by_cases hi : i < xs.length
   . rw [aks (by rw [ajV]; exact hi), List.getElem?_replicate, aiI hi] at h2
     cases h2
   . obtain ⟨n, rfl⟩ : ∃ n, i = xs.length + n := ⟨i - xs.length, by omega⟩
     rw [ajS (by rw [ajV]; omega), ajV, Nat.add_sub_cancel_left, ai5] at h2
     cases ei : ix[n]? with
     | none => rw [ei] at h2; cases h2
     | some j =>
       rw [ei] at h2
       have OI : (σ[j]?).getD none = some v := aiZ h2
       have hj : σ[j]? = some (some v) := by
         cases q : σ[j]? with
         | none => rw [q] at OI; cases OI
         | some o => rw [q] at OI; exact congrArg some OI
       obtain ⟨y', hy1, YB⟩ := sc.WK j (ajj ei)
       have hNc : Nc[xs.length + n]? = some y' := by
         have all : ∀ (l : List Nat) (i : Nat), (∀ j ∈ l, ∃ y, X.N[j]? = some y /\ scope.names.lookup y = some .free) -> l[i]? = some j -> (l.filterMap (X.N[·]?))[i]? = some y' := by
           intro l
           induction l with
           | nil => intro i _ h; simp at h
           | cons a r ih =>
             intro i h hi
             obtain ⟨ya, ea, _⟩ := h a aiF
             rw [ajM, ea]
             cases i with
             | zero =>
               simp at hi
               subst hi
               rw [hy1] at ea
               cases ea
               rfl
             | succ i => exact ih i (fun j hj => h j (List.mem_cons_of_mem _ hj)) (by simpa using hi)
         rw [sc.hd, ajS (by omega), Nat.add_sub_cancel_left]
         exact all ix n sc.WK ei
       have ey : y' = y := by
         have WO : Nc[xs.length + n]? = some y := h1
         rw [hNc] at WO
         exact aiZ WO
       subst ey
       have wK := (sc.frees (y', .free) (ajH YB) rfl).2
       have YC : Xc X.env.scope y' := wK.elim (fun z => .inr (.inl z)) (fun z => .inr (.inr z))
       obtain ⟨m0, hn0, hl0⟩ := I.loc
       obtain ⟨u, ru, lk⟩ := hl0 j y' v hy1 hj YC
       refine ⟨u, ru, ?_⟩
       rcases lk with ⟨kk, _⟩ | ⟨_, c, hc, uP⟩
       . rcases wK with z | z
         . rw [kk] at z; cases z
         . rw [kk] at z; cases z
       . obtain ⟨c', Ni⟩ := jF (env := X.env) (cs := []) YB
         have : c' = c := by
           have := sub Ni
           rw [hc] at this
           exact (aiZ this).symm
         subst this
         obtain ⟨o, ho, hd⟩ := uP
         refine .inr ⟨?_, c', Ni, o, hk _ _ ho, hd⟩
         have q := fH (env := X.env) YB
         show (relabel scope X.env).names.lookup y' = some .cell \/ (relabel scope X.env).names.lookup y' = some .free
         rw [show (relabel scope X.env).names.lookup y' = _ from q]
         split
         . exact .inl rfl
         . exact .inr rfl
 . obtain ⟨v, o, ho, hd⟩ := I.cell y c (sub e)
   exact ⟨v, o, hk _ _ ho, hd⟩
noncomputable def OJ (X : Cx) (tg elt : Expr) (ifs : List Expr) (n : Nat) (σ : L2.St) (ix : List Nat) (D : Addr) (N : Hp -> Prop) (xv : V) (os : List (Option V)) (H3 : Hp) : Prop :=
 ∃ t : TG, PG X tg t /\ t xv (Lk σ ix os) H3 fun σ8 H4 => ∃ os', os'.length = n /\ σ8 = Lk σ ix os' /\ Yp X ifs σ8 H4 fun ok H5 =>
   if ok = true then Bp X elt σ8 H5 fun y H6 => ∃ acc, H6 D = some (.lst acc) /\ acc.length < sizeLine /\ N (upd H6 D (.lst (acc ++ [y]))) else N H5
theorem Hj {elt iter tg : Expr} {pos : Pos} {ifs : List Expr} {J : It} {fp : List Addr} {it : Addr} {tn : Nat -> Heap -> Prop} {G : Addr -> Hp -> Prop} {RR : Value -> Addr -> Result -> Shared -> Prop} {E : Value -> Shared -> Prop}
   (sc : n8 X scope xs Nc ix) (hc : X.calm = true) (I : Inv X pins σ H s) (Tn : Turn X.prog X.w X.K tg J fp it tn) (st : tn 0 s.heap) (hf : ∀ b ∈ fp, jm X pins H b)
   (loop : ∀ D, H D = none -> ∃ W : Nat -> Nat -> Hp -> Prop, (∃ m, W 0 m (upd H D (.lst []))) /\ ∀ i m H2, W i m H2 -> (J.stop i H2 /\ G D H2) ∨
     (J.go i H2 /\ ∃ N : Hp -> Prop, (∀ H', N H' -> ∃ m', m' < m /\ W (i + 1) m' H') /\ ∀ xv H3, J.Wv i H2 xv H3 -> ∀ C s0 H0 f0 os, os.length = xs.length -> OJ (dO X scope Nc C s0 H0 f0) tg elt ifs xs.length σ ix D N xv os H3))
   (hRR : ∀ D C s' H', (∃ m, s'.heap.Ns C m) -> (∃ o, s'.heap.get? C = some o /\ ∀ v, o.data ≠ .cell v) -> H' C = none -> (C ≠ X.env.locals /\ C ∉ X.fs /\ X.s₀.heap.objs.size <= C /\ (∀ y c, X.env.cells.lookup y = some c -> c ≠ C) /\ ∀ q ∈ X.pn ++ pins, q.1 ≠ C) -> (∀ h', Heap.SameBut C s'.heap h' -> Inv X pins σ H' { s' with heap := h' }) -> G D H' -> RR (.ref D) C (.ok .next) s') :
   wpAny (model X.prog X.w) X.A (newList []) (fun acc s₃ => wpAny (model X.prog X.w) X.A (newFunctionEnv scope X.env.globals (cR X.env scope.names []) [] X.env.qual none .none (some X.env)) (fun OL s₄ =>
     codeAny (model X.prog X.w) X.A (.compStart (.ListComp elt [⟨tg, iter, ifs, 0⟩] scope pos) 0 (.ref it) acc { OL with scope := relabel scope X.env }) (RR acc OL.locals) s₄) E s₃) E s := by
 refine wpAny_newObj_type ?_
 have I3 : Inv X pins σ (upd H s.heap.objs.size (.lst [])) { s with heap := s.heap.push { cls := .type "list", dict := none, data := .seq ([] : List Value).toArray } } :=
   I.laid (t' := s.toks) (fun b u e => aiR _ e) (aiH _) ⟨by show 0 <= sizeLine; exact ai9 _, [], 0, .nil, ajc _ rfl⟩
 have hD : H s.heap.objs.size = none := I.dw.fresh (aiH _)
 obtain ⟨W, ⟨m0, w0⟩, turn⟩ := loop _ hD
 have OO : ∀ b ∈ fp, jm X pins (upd H s.heap.objs.size (.lst [])) b /\ b < (s.heap.push { cls := .type "list", dict := none, data := .seq ([] : List Value).toArray }).objs.size := fun b hb => by
   obtain ⟨f0, f1⟩ := hf b hb
   obtain ⟨o, ho, _⟩ := Tn.obj 0 _ st b hb
   have rY := aiX ho
   refine ⟨⟨by rw [aA (aja rY)]; exact f0, f1⟩, ?_⟩
   rw [Heap.size_push]; exact Nat.lt_succ_of_lt rY
 have st3 : tn 0 (s.heap.push { cls := .type "list", dict := none, data := .seq ([] : List Value).toArray }) := Tn.keep 0 _ _ st fun b _ o e => aiR _ e
 generalize hs3 : ({ s with heap := s.heap.push { cls := .type "list", dict := none, data := .seq ([] : List Value).toArray } } : Shared) = s3 at I3 ⊢
 have YD : s3.heap = s.heap.push { cls := .type "list", dict := none, data := .seq ([] : List Value).toArray } := by rw [← hs3]
 rw [← YD] at OO st3
 refine wpAny_newFunctionEnv sc.t6 (by intro y hy; simp at hy) (fun h₁ YF YG => ?_) sc.kind
 have old : ∀ b o, s3.heap.get? b = some o -> h₁.get? b = some o := fun b o e => (YG.2 b (aja (aiX e))).trans (aiR _ e)
 have J0 := EA (tk := s3.toks + ([] : List (Str × Value)).length) sc I3 OO YF old
 have st4 : tn 0 h₁ := Tn.keep 0 _ _ st3 fun b _ o e => old b o e
 have WQ : ∀ s4 : Shared, s4 = { s3 with heap := h₁, toks := s3.toks + ([] : List (Str × Value)).length } -> codeAny (model X.prog X.w) X.A (.compLoop (.ListComp elt [⟨tg, iter, ifs, 0⟩] scope pos) 0 (.ref it) (.ref s.heap.objs.size) (compEnvC scope (cR X.env scope.names []) s3.heap.objs.size X.env)) (RR (.ref s.heap.objs.size) s3.heap.objs.size) s4 := by
   rintro s4 rfl
   have stat : ∀ {H' : Hp}, (∀ b ∈ fp, H' b = none) -> ∀ b ∈ fp, jm (dO X scope Nc s3.heap.objs.size s3 (upd H s.heap.objs.size (.lst [])) fp) [] H' b := fun {H'} hn b hb => by
     obtain ⟨⟨f0, f1, f2, f3, f4, f5⟩, rY⟩ := OO b hb
     refine ⟨hn b hb, aja rY, fun z => ?_, .inl hb, fun y c e => f4 y c (mK (fun y hy e => I.ok.has y.1 (sc.frees y hy e).2) (fun _ _ z => by cases z) e), fun p hp => absurd (show p ∈ ([] : List (Addr × Obj)) from hp) (by simp)⟩
     rcases aiN.mp (I3.Bc b z) with q | q
     . exact f1 q
     . exact f2 q
   refine Bt (fun n s' => ∃ i o H', o.length = xs.length /\ Inv (dO X scope Nc s3.heap.objs.size s3 (upd H s.heap.objs.size (.lst [])) fp) [] (Lk σ ix o) H' s' /\ tn i s'.heap /\ (∀ b ∈ fp, H' b = none) /\ W i n H') ?_ m0 ⟨0, _, _, ajV, J0, st4, fun b hb => (OO b hb).1.1, w0⟩
   rintro n s5 ⟨i, o5, H5, ol5, I5, st5, fr5, w5⟩
   rcases turn i n H5 w5 with ⟨stop, g⟩ | ⟨go, N, hN, step⟩
   . refine d8 (Tn.done (dO X scope Nc s3.heap.objs.size s3 (upd H s.heap.objs.size (.lst [])) fp) rfl rfl rfl hc i [] s5 _ H5 _ I5 (stat fr5) st5 stop) fun r s6 zz => ?_
     obtain ⟨hr, I6⟩ := zz
     subst hr
     obtain ⟨m6, hn6, _⟩ := I6.loc
     obtain ⟨oc, esc, epc, hoc, hdc, _⟩ := id hn6
     have fpC := I3.Be (aiH s3.heap.objs.size) (H' := fun _ => none) rfl
     refine hRR _ _ s6 H5 ⟨m6, hn6⟩ ⟨oc, hoc, fun v z => by rw [hdc] at z; cases z⟩ I6.free ⟨fpC.2.1, fpC.2.2.1, ?_, fpC.2.2.2.2.1, fpC.2.2.2.2.2⟩ (fun h' hs' => Lg I3 (fun b hb => (OO b hb).1) I6 hs') g
     exact I3.sz
   . refine d8 (Tn.item (dO X scope Nc s3.heap.objs.size s3 (upd H s.heap.objs.size (.lst [])) fp) rfl rfl rfl hc i [] s5 _ H5 _ I5 (stat fr5) st5 go) fun r s6 zz => ?_
     obtain ⟨u, hr, h6⟩ := zz
     subst hr
     refine d8 h6 fun _ s7 zz => ?_
     obtain ⟨xv, H7, I7, r7, y7, st7, fr7⟩ := zz
     have I7' := I7.pinned (stat fr7) (Tn.obj _ _ st7)
     obtain ⟨t, hg, ht⟩ := step xv _ y7 s3.heap.objs.size s3 (upd H s.heap.objs.size (.lst [])) fp o5 ol5
     refine d8 (hg _ s7 _ H7 xv u _ I7' r7 ht) fun _ s8 zz => ?_
     obtain ⟨σ8, H8, I8, os8, ol8, e8, h8⟩ := zz
     subst e8
     refine d8 (Om I8 h8 rfl) fun ok s9 zz => ?_
     obtain ⟨H9, I9, q9⟩ := zz
     have again : ∀ {Ha : Hp} {sa : Shared}, Inv (dO X scope Nc s3.heap.objs.size s3 (upd H s.heap.objs.size (.lst [])) fp) ([] ++ wH fp s7.heap) (Lk σ ix os8) Ha sa -> N Ha -> ∃ m, m < n /\ ∃ i o H', o.length = xs.length /\ Inv (dO X scope Nc s3.heap.objs.size s3 (upd H s.heap.objs.size (.lst [])) fp) [] (Lk σ ix o) H' sa /\ tn i sa.heap /\ (∀ b ∈ fp, H' b = none) /\ W i m H' := fun {Ha sa} Ia na => by
       obtain ⟨m', hm, wa⟩ := hN Ha na
       refine ⟨m', hm, i + 1, os8, Ha, ol8, Ia.nV, Tn.keep _ _ _ st7 fun b hb o e => (Ia.pin (b, o) (aiD _ (aiD _ (iz hb e)))).1, fun b hb => ?_, wa⟩
       obtain ⟨o, e, d⟩ := Tn.obj _ _ st7 b hb
       exact (Ia.pin (b, o) (aiD _ (aiD _ (iz hb e)))).2.1
     cases ok with
     | false =>
       rw [aiG aiY] at q9 ⊢
       exact again I9 q9
     | true =>
       rw [aiI rfl] at q9 ⊢
       refine d8 (q9 _ s9 I9) fun v sa zz => ?_
       obtain ⟨y, Ha, Ia, ra, acc, aeE, hlen, na⟩ := zz
       refine d8 (Aq (X := dO X scope Nc s3.heap.objs.size s3 (upd H s.heap.objs.size (.lst [])) fp) _ sa _ Ha (.ref s.heap.objs.size) [y] (.ref s.heap.objs.size) [v] (fun _ Hb => Hb = upd Ha s.heap.objs.size (.lst (acc ++ [y]))) Ia rfl (.cons ra .nil) ⟨_, acc, y, rfl, rfl, aeE, hlen, rfl⟩) fun _ sb zz => ?_
       obtain ⟨_, Hb, Ib, _, eb⟩ := zz
       subst eb
       exact again Ib na
 exact codeAny_compStart_list (WQ _ rfl) (Tn.self _ 0 _ _ _ st4 (WQ _ rfl))
end
noncomputable def Lp (ps : List D) : List (Option T) := ps.map fun p => some (.sh p)
theorem Ax : ∀ {ys : List V} {os : List (Option V)} {pre r : L2.St}, os.length = ys.length -> wW (pre ++ (os ++ r)) (List.range' pre.length ys.length) ys = pre ++ (ys.map some ++ r)
 | [], os, pre, r, h => by
   have : os = [] := List.length_eq_zero_iff.mp h
   subst this
   rfl
 | y :: ys, os, pre, r, h => by
   match os, h with
   | o :: os, h =>
     show wW ((pre ++ (o :: (os ++ r))).set pre.length (some y)) (List.range' (pre.length + 1) ys.length) ys = _
     rw [List.set_append_right _ _ (aiH _), Nat.sub_self, List.set_cons_zero]
     have := Ax (ys := ys) (os := os) (pre := pre ++ [some y]) (r := r) (by simpa using h)
     simp only [aiT, ai2, ajQ, aiM, List.singleton_append] at this
     rw [this]
     simp
theorem S6 {K : PySem.W.Frag} {CL : Str -> Addr} {H Z : Hp} : ∀ {ps : List D} {ys : List V} {δc : List (Option T)} {σc : L2.St}, aK K CL Z ps ys -> fX K CL H Z δc σc [] -> fX K CL H Z (Lp ps ++ δc) (ys.map some ++ σc) [] := fun {ps ys δc σc} h e =>
 aK.ind (P := fun ps ys => fX K CL H Z (Lp ps ++ δc) (ys.map some ++ σc) []) e (fun r _ i => .cons (fp := []) (gp := []) (.sh r) i) h
section
variable {X : Cx} {CL : Str -> Addr} {b : Bx} {H Z W1 : Hp} {δ δc : List (Option T)} {σ : L2.St} {ts : List T} {vs : List V} {ds : List D} {scope : Scope} {Nc : List Str} {n : Nat} {ix : List Nat} {elt tg : Expr} {ifs : List Expr} {p : D -> Bool} {g : D -> T} {J : It} {parts : D -> Option (List D)}
noncomputable def ua (X : Cx) (CL : Str -> Addr) (scope : Scope) (Nc : List Str) (n : Nat) (tg : Expr) (parts : D -> Option (List D)) (ifs : List Expr) (elt : Expr) (δc : List (Option T)) (ds : List D) (p : D -> Bool) (g : D -> T) : Prop :=
 ∀ C s0 H0 f0 b', Tgt (dO X scope Nc C s0 H0 f0) CL tg (List.range' 0 n) parts /\ ∀ d, d ∈ ds -> ∃ ps, parts d = some ps /\ ps.length = n /\ TIv (dO X scope Nc C s0 H0 f0) CL b' ifs (Lp ps ++ δc) (p d) /\ (p d = true -> cC (dO X scope Nc C s0 H0 f0) CL b' elt (Lp ps ++ δc) (g d) (Lp ps ++ δc))
structure GW (K : PySem.W.Frag) (CL : Str -> Addr) (H W1 : Hp) (D : Addr) (l : List T) (k : Nat) (H2 Z2 : Hp) (GD : List V) (fp : List Addr) : Prop where
 a1 : aH H H2
 a2 : aH W1 Z2
 a3 : aH Z2 H2
 a4 : Z2 D = none
 a5 : ∀ a o, Z2 a = some o -> W1 a = none -> H a = none
 a6 : ∀ a o, H2 a = some o -> jW o = true -> Z2 a = some o
 a7 : H2 D = some (.lst GD)
 a8 : aZ K CL H2 Z2 l GD fp
 a9 : fp.Nodup
 b1 : D ∉ fp
 b2 : ∀ a ∈ fp, Z2 a = none /\ H a = none
 b3 : GD.length <= k
theorem wX (S : bX X.K CL b H Z δ σ ts vs) (zw : aH Z W1) (wh : aH W1 H) (tp : ∀ a o, H a = some o -> jW o = true -> W1 a = some o)
   (cap : ∀ H', fX X.K CL H' W1 δc (ix.map fun i => (σ[i]?).getD none) []) (inner : ua X CL scope Nc n tg parts ifs elt δc ds p g)
   (hgo : ∀ i H2, aH W1 H2 -> i < ds.length -> J.go i H2)
   (hy : ∀ i Z2 H2 x H', aH W1 Z2 -> aH Z2 H2 -> (∀ a o, H2 a = some o -> jW o = true -> Z2 a = some o) -> i < ds.length -> J.Wv i H2 x H' -> ∃ Z3 d, ds[i]? = some d /\ BD Z2 H2 Z3 H' /\ bR X.K CL Z3 d x)
   (Nq : ∀ H2, aH W1 H2 -> J.stop ds.length H2) (hlen : ds.length <= sizeLine) (c : W1 = Z \/ ∀ d ∈ ds, (g d).clean = true) :
   ∀ D, H D = none -> ∃ W : Nat -> Nat -> Hp -> Prop, (∃ m, W 0 m (upd H D (.lst []))) /\ ∀ i m H2, W i m H2 -> (J.stop i H2 /\ ∃ Z2, aH Z Z2 /\ aH H H2 /\ bX X.K CL b H2 Z2 δ σ (.lst ((ds.filter p).map g) :: ts) (.ref D :: vs)) ∨
     (J.go i H2 /\ ∃ N : Hp -> Prop, (∀ H', N H' -> ∃ m', m' < m /\ W (i + 1) m' H') /\ ∀ xv H3, J.Wv i H2 xv H3 -> ∀ C s0 H0 f0 os, os.length = n -> OJ (dO X scope Nc C s0 H0 f0) tg elt ifs n σ ix D N xv os H3) := by
 intro D hD
 have wD : W1 D = none := wh.free hD
 refine ⟨fun i m H2 => m = ds.length - i /\ i <= ds.length /\ ∃ Z2 GD fp, GW X.K CL H W1 D (((ds.take i).filter p).map g) i H2 Z2 GD fp, ⟨ds.length, rfl, ai9 _, W1, [], [], aH.upd hD, .refl _, wh.trans (aH.upd hD), wD, fun a o q z => ?_, fun a o q i => ?_, aP, .nil, aj4, by simp, by simp, by simp⟩, ?_⟩
 . rw [q] at z; cases z
 . by_cases ha : a = D
   . subst ha; rw [aP] at q; cases q; cases i
   . rw [aA ha] at q; exact tp a o q i
 . rintro i m H2 ⟨rfl, hi, Z2, GD, fp, hh, wz, zh, zD, nw, tp2, hD2, ra, nd, nD, own, hav⟩
   by_cases rY : i < ds.length
   . refine .inr ⟨hgo i H2 (wz.trans zh) rY, fun H' => ∃ Z2 GD fp, GW X.K CL H W1 D (((ds.take (i + 1)).filter p).map g) (i + 1) H' Z2 GD fp, fun H' h => ⟨ds.length - (i + 1), by omega, rfl, rY, h⟩, fun xv H3 y C s0 H0 f0 os hos => ?_⟩
     obtain ⟨Z3, d, hd, gr, rd⟩ := hy i Z2 H2 xv H3 wz zh tp2 rY y
     have YH : ∀ a, Z2 a = none -> (∃ o, H2 a = some o) -> Z3 a = none := fun a e ⟨o, e2⟩ => by
       cases q : Z3 a with
       | none => rfl
       | some u => rw [gr.new a u q e] at e2; cases e2
     have nw3 : ∀ a o, Z3 a = some o -> W1 a = none -> H a = none := fun a o q z => by
       cases e : Z2 a with
       | none => exact hh.free (gr.new a o q e)
       | some u =>
         have := gr.z a u e
         rw [q] at this; cases this
         exact nw a o e z
     have YJ : aZ X.K CL H3 Z3 (((ds.take i).filter p).map g) GD fp := ra.mono gr.z fun a ha => by
       obtain ⟨o, e⟩ := ra.there a ha
       rw [e]; exact gr.h a o e
     have ow3 : ∀ a ∈ fp, Z3 a = none /\ H a = none := fun a ha => ⟨YH a (own a ha).1 (ra.there a ha), (own a ha).2⟩
     have zD3 : Z3 D = none := YH D zD ⟨_, hD2⟩
     have WR : H3 D = some (.lst GD) := gr.h D _ hD2
     have YD := hh.trans gr.h
     have wz3 := wz.trans gr.z
     have zh3 := gr.zh
     have tp3 := gr.tp
     clear own nw ra zD hD2 hh wz zh tp2 gr YH
     have OQ : d ∈ ds := ajj hd
     have JV : ds.take (i + 1) = ds.take i ++ [d] := by rw [ake, hd]; rfl
     obtain ⟨tgt, inn⟩ := inner C s0 H0 f0 ⟨H3, Z3⟩
     obtain ⟨ps, hps, hpl, it, ie⟩ := inn d OQ
     obtain ⟨t, pg, ht⟩ := tgt
     refine ⟨t, pg, ht Z3 H3 d ps xv _ _ zh3 rd hps fun ys rys => ?_⟩
     have hyl : ys.length = n := by rw [← rys.length]; exact hpl
     have es : wW (Lk σ ix os) (List.range' 0 n) ys = Lk σ ix (ys.map some) := by
       have := Ax (ys := ys) (os := os) (pre := []) (r := ix.map fun i => (σ[i]?).getD none) (by rw [hos, hyl])
       rw [hyl] at this
       exact this
     refine ⟨ys.map some, by rw [aiC]; exact hyl, es, ?_⟩
     rw [es]
     have S0 : bX X.K CL ⟨H3, Z3⟩ H3 Z3 (Lp ps ++ δc) (Lk σ ix (ys.map some)) [] [] :=
       ⟨⟨[], [], S6 rys ((cap H3).mono wz3 fun a ha => by cases ha), .nil, aj4, fun a ha => by cases ha⟩, .refl _, .refl _, zh3, fun a o q z => (by have z' : Z3 a = none := z; rw [show Z3 a = some o from q] at z'; cases z'), tp3, (S.Ye.mono zw).mono wz3⟩
     refine it.sem S0 fun H4 Z4 z4 k4 S4 => ?_
     have aeI : ∀ a ∈ fp, H4 a = H3 a := fun a ha => by
       obtain ⟨o, e⟩ := YJ.there a ha
       rw [e]; exact k4 a o e
     have OS : ∀ a, Z3 a = none -> (∃ o, H3 a = some o) -> Z4 a = none := fun a e ⟨o, e2⟩ => by
       cases q : Z4 a with
       | none => rfl
       | some u =>
         have := S4.new a u q e
         rw [show H3 a = none from this] at e2; cases e2
     cases hp : p d with
     | false =>
       refine N2 ⟨Z4, GD, fp, YD.trans k4, wz3.trans z4, S4.zh, OS D zD3 ⟨_, WR⟩, fun a o q z => ?_, S4.tp, k4 D _ WR, ?_, nd, nD, fun a ha => ⟨OS a (ow3 a ha).1 (YJ.there a ha), (ow3 a ha).2⟩, by omega⟩
       . cases e : Z3 a with
         | none => exact YD.free (S4.new a o q e)
         | some u => 
           have := z4 a u e
           rw [q] at this; cases this
           exact nw3 a o e z
       . rw [JV, aj7, aj1 (by simp [hp]), akt, ai6]
         exact YJ.mono z4 aeI
     | true =>
       refine N3 ((ie hp) H4 Z4 (Lk σ ix (ys.map some)) [] [] _ S4 fun yv H5 Z5 z5 k5 S5 => ⟨GD, k5 D _ (k4 D _ WR), by omega, ?_⟩)
       obtain ⟨f1, g1, e1, r1, nd1, ace⟩ := S5.rep
       cases r1 with
       | @cons _ _ _ _ fy fn ry rn =>
         cases rn
         rw [ai6] at nd1 ace
         have ndy : fy.Nodup := (ajt.mp nd1).2.1
         have S7 : ∀ a ∈ fy, Z5 a = none /\ H3 a = none := fun a ha => ace a (aiD _ ha)
         have Hl : ∀ a, Z3 a = none -> (∃ o, H3 a = some o) -> Z5 a = none := fun a e ⟨o, e2⟩ => by
           cases q : Z5 a with
           | none => rfl
           | some u =>
             have := S5.new a u q e
             rw [show H3 a = none from this] at e2; cases e2
         have yD : ∀ a ∈ fy, a ≠ D := fun a ha e => by
           subst e
           rw [(S7 a ha).2] at WR; cases WR
         have h5D : H5 D = some (.lst GD) := k5 D _ (k4 D _ WR)
         have sD : aH H (upd H5 D (.lst (GD ++ [yv]))) := fun a o q => by
           rw [aA (aL q hD)]
           exact k5 a o (k4 a o (YD a o q))
         refine ⟨Z5, GD ++ [yv], fp ++ fy, sD, wz3.trans (z4.trans z5), fun a o q => ?_, Hl D zD3 ⟨_, WR⟩, fun a o q z => ?_, fun a o q im => ?_, aP, ?_, ?_, ?_, fun a ha => ?_, ?_⟩
         . rw [aA (aL q (Hl D zD3 ⟨_, WR⟩))]; exact S5.zh a o q
         . cases e : Z3 a with
           | none => exact YD.free (S5.new a o q e)
           | some u =>
             have := z5 a u (z4 a u e)
             rw [q] at this; cases this
             exact nw3 a o e z
         . by_cases ha : a = D
           . subst ha; rw [aP] at q; cases q; cases im
           . rw [aA ha] at q; exact S5.tp a o q im
         . rw [JV, aj7, aj2 hp, akt, ajq]
           refine aZ.app (YJ.mono (z4.trans z5) fun a ha => ?_) (by
             have := aZ.cons (fp := fy) (gp := []) (ry.mono (.refl _) fun a ha => aA (yD a ha)) (aZ.nil (H := upd H5 D (.lst (GD ++ [yv]))) (Z := Z5))
             rwa [ai6] at this)
           have : a ≠ D := fun e => nD (e ▸ ha)
           rw [aA this]
           obtain ⟨o, e⟩ := YJ.there a ha
           rw [e]; exact k5 a o (k4 a o e)
         . refine ajt.mpr ⟨nd, ndy, fun a ha a' Oc e => ?_⟩
           subst e
           obtain ⟨o, e⟩ := YJ.there a ha
           rw [(S7 a Oc).2] at e; cases e
         . intro h
           rcases aiO.mp h with h | h
           . exact nD h
           . exact yD D h rfl
         . rcases aiO.mp ha with h | h
           . exact ⟨Hl a (ow3 a h).1 (YJ.there a h), (ow3 a h).2⟩
           . exact ⟨(S7 a h).1, YD.free (S7 a h).2⟩
         . rw [aiT, akn]; omega
   . have e : i = ds.length := by omega
     subst e
     refine .inl ⟨Nq H2 (wz.trans zh), ?_⟩
     rw [ajT] at ra
     obtain ⟨Z', z', S'⟩ := S.back (H' := H2) (W := W1) (W' := Z2) (t := .lst ((ds.filter p).map g)) (v := .ref D) (fp := D :: fp) hh zw wz zh nw tp2 (.lst hD2 ra) (ajA.mpr ⟨nD, nd⟩) (fun a ha => by
       rcases aiN.mp ha with h | h
       . subst h; exact ⟨zD, hD⟩
       . exact own a h) (c.imp id fun c => by
         rw [lH]
         exact wO fun d hd => c d (ajD.mp hd).1)
     exact ⟨Z', z', hh, S'⟩
end
section
variable {X : Cx} {CL : Str -> Addr} {b : Bx} {δ δ1 : List (Option T)} {scope : Scope} {xs : List Str} {Nc : List Str} {ix : List Nat} {elt iter tg : Expr} {ifs : List Expr} {pos : Pos} {ds : List D} {p : D -> Bool} {g : D -> T} {δc : List (Option T)} {parts : D -> Option (List D)}
theorem Ay {J : It} {fp : List Addr} {it : Addr} {tn : Nat -> Heap -> Prop} {pins : List (Addr × Obj)} {σ : L2.St} {H H1 Z : Hp} {s : Shared} {ts : List T} {vs : List V} {RR : Value -> Addr -> Result -> Shared -> Prop} {E : Value -> Shared -> Prop}
   (sc : n8 X scope xs Nc ix) (hc : X.calm = true) (C : BE X CL b δ1 σ ts vs Z H ds J H1) (I : L2.Inv X pins σ H1 s) (Tn : Turn X.prog X.w X.K tg J fp it tn) (st : tn 0 s.heap) (hf : ∀ b ∈ fp, jm X pins H1 b)
   (hb : (δc = zk δ1 ix /\ ∀ d ∈ ds, (g d).clean = true) \/ δc = Et δ1 ix) (inner : ua X CL scope Nc xs.length tg parts ifs elt δc ds p g) (hlen : ds.length <= sizeLine)
   (hRR : ∀ D C s' H' Z', (∃ m, s'.heap.Ns C m) -> (∃ o, s'.heap.get? C = some o /\ ∀ v, o.data ≠ .cell v) -> H' C = none -> (C ≠ X.env.locals /\ C ∉ X.fs /\ X.s₀.heap.objs.size <= C /\ (∀ y c, X.env.cells.lookup y = some c -> c ≠ C) /\ ∀ q ∈ X.pn ++ pins, q.1 ≠ C) -> (∀ h', Heap.SameBut C s'.heap h' -> L2.Inv X pins σ H' { s' with heap := h' }) -> aH Z Z' -> aH H H' -> bX X.K CL b H' Z' δ1 σ (.lst ((ds.filter p).map g) :: ts) (.ref D :: vs) -> RR (.ref D) C (.ok .next) s') :
   wpAny (model X.prog X.w) X.A (newList []) (fun acc s₃ => wpAny (model X.prog X.w) X.A (newFunctionEnv scope X.env.globals (cR X.env scope.names []) [] X.env.qual none .none (some X.env)) (fun OL s₄ =>
     codeAny (model X.prog X.w) X.A (.compStart (.ListComp elt [⟨tg, iter, ifs, 0⟩] scope pos) 0 (.ref it) acc { OL with scope := relabel scope X.env }) (RR acc OL.locals) s₄) E s₃) E s := by
 obtain ⟨Z1, z1, k1, S1, go, yl, stp⟩ := C.ex
 have lp : ∀ D, H1 D = none -> ∃ W : Nat -> Nat -> Hp -> Prop, (∃ m, W 0 m (upd H1 D (.lst []))) /\ ∀ i m H2, W i m H2 -> (J.stop i H2 /\ ∃ Z2, aH Z1 Z2 /\ aH H1 H2 /\ bX X.K CL b H2 Z2 δ1 σ (.lst ((ds.filter p).map g) :: ts) (.ref D :: vs)) ∨
     (J.go i H2 /\ ∃ N : Hp -> Prop, (∀ H', N H' -> ∃ m', m' < m /\ W (i + 1) m' H') /\ ∀ xv H3, J.Wv i H2 xv H3 -> ∀ C s0 H0 f0 os, os.length = xs.length -> OJ (dO X scope Nc C s0 H0 f0) tg elt ifs xs.length σ ix D N xv os H3) := by
   rcases hb with ⟨e, cl⟩ | e
   . subst e
     exact wX (W1 := H1) S1 S1.zh (.refl _) (fun _ _ q _ => q) (wQ S1 ix) inner (fun i H2 s => go i H2 (S1.zh.trans s)) (fun i Z2 H2 y H' s => yl i Z2 H2 y H' (S1.zh.trans s)) (fun H2 s => stp H2 (S1.zh.trans s)) hlen (.inr cl)
   . subst e
     exact wX (W1 := Z1) S1 (.refl _) S1.zh S1.tp (Eu S1 ix) inner go yl stp hlen (.inl rfl)
 exact Hj sc hc I Tn st hf lp fun D C s' H' m io nC ch ci ⟨Z', z', k', S'⟩ => hRR D C s' H' Z' m io nC ch ci (z1.trans z') (k1.trans k') S'
theorem u0 (sc : n8 X scope xs Nc ix) {pins : List (Addr × Obj)} {σ : L2.St} {H : Hp} {s : Shared} (I : L2.Inv X pins σ H s) : closureFor scope X.env = pure (cR X.env scope.names []) :=
 kL fun y hy e => I.ok.has y.1 (sc.frees y hy e).2
theorem EB (sc : n8 X scope xs Nc ix) (hc : X.calm = true) (h : WM X CL b tg iter δ ds δ1) (hb : (δc = zk δ1 ix /\ ∀ d ∈ ds, (g d).clean = true) \/ δc = Et δ1 ix) (inner : ua X CL scope Nc xs.length tg parts ifs elt δc ds p g) (hlen : ds.length <= sizeLine)
   (hs : ∀ x, foldedSetIterable iter X.env x = pure x := by intro _; rfl) : cC X CL b (.ListComp elt [⟨tg, iter, ifs, 0⟩] scope pos) δ (.lst ((ds.filter p).map g)) δ1 := fun H Z σ ts vs Q S k pins s I => by
 obtain ⟨wi, pi, hw⟩ := h
 rw [eval_ListComp]
 refine wpAny_comprehension_free (use := none) rfl hs (u0 sc I) sc.kind sc.names ?_
 refine d8 (pi pins s σ H _ I (hw H Z σ ts vs (fun J H1 => BE X CL b δ1 σ ts vs Z H ds J H1) S fun J H1 C => C)) fun v s1 h1 => d8 h1 fun itv s2 zz => ?_
 obtain ⟨it, fp, tn, J, H1, e, I1, Tn, st, hf, C⟩ := zz
 subst e
 refine Ay (RR := fun acc C => compPost (model X.prog X.w) X.A X.xe none (EP X pins σ Q) acc C) sc hc C I1 Tn st hf hb inner hlen fun D C' s' H' Z' m io nC ch ci z' k' S' => ?_
 obtain ⟨m, hn⟩ := m
 exact ⟨m, hn, fun h' hs' => ⟨.ref D, H', ci h' hs', rfl, k _ H' Z' z' k' S'⟩⟩
theorem S8 {D : c7} {y : Str} {py acf : Pos} (i : Nat) (sc : n8 X scope xs Nc ix) (hc : X.calm = true) (h : WM X CL b tg iter δ ds δ1) (hb : (δc = zk δ1 ix /\ ∀ d ∈ ds, (g d).clean = true) \/ δc = Et δ1 ix) (inner : ua X CL scope Nc xs.length tg parts ifs elt δc ds p g) (hlen : ds.length <= sizeLine)
   (k : D.nx (δ1.set i (some (.lst ((ds.filter p).map g))))) (hl : i < δ1.length) (hN : X.N.Nodup) (hi : X.N[i]? = some y) (hx : Loc X.env.scope y) (hf' : X.fn y = true \/ X.env.scope.names.lookup y = some .local)
   (Hf : swapsWith (.ListComp elt [⟨tg, iter, ifs, 0⟩] scope pos) (some (.Name y py)) acf.line X.env = pure true)
   (hs : ∀ x, foldedSetIterable iter X.env x = pure x := by intro _; rfl) : Ry X CL b (.Assign [.Name y py] (.ListComp elt [⟨tg, iter, ifs, 0⟩] scope pos) acf) δ D := fun H Z σ ts vs E S M pins s I => by
 obtain ⟨wi, pi, hw⟩ := h
 rw [exec_Assign_Name_used _ _ _ _ Hf]
 refine aiS (wpAny_standAt (aiS ?_))
 show wpAny _ X.A (do let _ ← comprehension (.ListComp elt [⟨tg, iter, ifs, 0⟩] scope pos) scope X.env _ (newList []) false (eval iter X.env) (some (assign (.Name y py) X.env))) _ _ s
 refine aiS (ajK (wpAny_comprehension_free (use := some (assign (.Name y py) X.env)) (Q := fun _ s' => SP X pins E .next s') rfl hs (u0 sc I) sc.kind sc.names ?_) (fun _ s' hq => ajo (ajo hq)) fun _ _ e => e)
 refine d8 (pi pins s σ H _ I (hw H Z σ ts vs (fun J H1 => BE X CL b δ1 σ ts vs Z H ds J H1) S fun J H1 C => C)) fun v s1 h1 => d8 h1 fun itv s2 zz => ?_
 obtain ⟨it, fp, tn, J, H1, e, I1, Tn, st, hf, C⟩ := zz
 subst e
 refine Ay (RR := fun acc C => compPost (model X.prog X.w) X.A X.xe (some (assign (.Name y py) X.env)) (fun _ s' => SP X pins E .next s') acc C) sc hc C I1 Tn st hf hb inner hlen fun D' C' s' H' Z' m io nC ch ci z' k' S' => ?_
 obtain ⟨m, hn⟩ := m
 obtain ⟨o, ho, uP⟩ := io
 have I' : L2.Inv X pins σ H' s' := ci s'.heap (.refl ..)
 have I2 : L2.Inv X (pins ++ [(C', o)]) σ H' s' := I'.vJ fun q hq => by
   rcases aiO.mp hq with z | z
   . exact I'.pin q (aiD _ z)
   . have e : q = (C', o) := by simpa using z
     subst e
     exact ⟨ho, nC, ch.1, ch.2.1, uP⟩
 show wpAny _ X.A (assign (.Name y py) X.env (.ref D')) _ _ s'
 have hg : PG X (.Name y py) (uQ i) := rT hN hi hx hf'
 refine d8 (hg _ s' σ H' (.ref D') (.ref D') (fun σ8 H8 => σ8 = σ.set i (some (.ref D')) /\ H8 = H') I2 rfl ⟨rfl, rfl⟩) fun _ s8 zz => ?_
 obtain ⟨σ8, H8, I8, e8, e8'⟩ := zz
 subst e8
 subst e8'
 obtain ⟨hC8, nC8, _⟩ := I8.pin (C', o) (aiD _ (aiD _ (by simp)))
 refine ⟨m, hn.at' fun o' e' => by rw [ho] at e'; cases e'; exact hC8, fun h' hs' => ?_⟩
 have I9 : L2.Inv X pins (σ.set i (some (.ref D'))) _ s8 := I8.vJ fun q hq => I8.pin q (aiD _ (aiP _ hq))
 have I10 := I9.turned (it := C') (h' := h') (t' := s8.toks) (fun b o hb e => (hs'.2 b hb).trans e) nC8 ch.1.symm.symm (.inr ch.2.2.1) ch.2.2.2.1 ch.2.2.2.2
 exact ⟨_, _, I10, M.nx _ _ _ Z' z' (S'.set hl) k⟩
theorem YK {D : c7} {fG : List Stmt} {i : Nat} {x : Str} {pos' pc : Pos} (gx : Gx X) (n : Ln X i x) (sc : n8 X scope xs Nc ix) (h : WM X CL b tg iter δ ds δ1)
   (hb : (δc = zk δ1 ix /\ ∀ d ∈ ds, (g d).clean = true) \/ δc = Et δ1 ix) (inner : ua X CL scope Nc xs.length tg parts ifs elt δc ds p g) (hlen : ds.length <= sizeLine) (k : fq X CL b fG (δ1.set i (some (.lst ((ds.filter p).map g)))) D) (hl : i < δ1.length)
   (Hf : swapsWith (.ListComp elt [⟨tg, iter, ifs, 0⟩] scope pc) (some (.Name x pos')) pos.line X.env = pure true \/ swapsWith (.ListComp elt [⟨tg, iter, ifs, 0⟩] scope pc) (some (.Name x pos')) pos.line X.env = pure false) (hs : ∀ x, foldedSetIterable iter X.env x = pure x := by intro _; rfl) :
   fq X CL b (.Assign [.Name x pos'] (.ListComp elt [⟨tg, iter, ifs, 0⟩] scope pc) pos :: fG) δ D := by
 rcases Hf with Hf | Hf
 . exact dG (S8 i sc gx.calm h hb inner hlen k hl gx.nd n.hi n.loc n.hf Hf hs)
 . exact dG (Ol i (EB sc gx.calm h hb inner hlen hs) k hl gx.nd n.hi n.loc Hf n.hf)
theorem YL {i : Nat} {x : Str} {C : Addr} {s : Shared} {H : Hp} {fp : List Addr} (h1 : Nc[i]? = some x) (h2 : scope.names.lookup x = some .local) (hd : (x == ("__debug__" : Str)) = false := by decide) (jy : (x == ("__classdict__" : Str)) = false := by decide) : Ln (dO X scope Nc C s H fp) i x :=
 ⟨eF h1 h2 hd jy, .inl (lookup_relabel_local h2), .inr (lookup_relabel_local h2)⟩
end
noncomputable def Ite (K : PySem.W.Frag) (a : Addr) : It :=
 ⟨fun i H => ∃ xs x, nS K H a xs /\ xs[i]? = some x, fun i H x H' => ∃ T y, H T = none /\ x = .ref T /\ (∀ xs, nS K H a xs -> xs[i]? = some y) /\ H' = upd H T (.tup [.int i, y]), fun i H => ∃ xs, nS K H a xs /\ xs.length <= i⟩
theorem Lq {P : Program} {w : World} {K : PySem.W.Frag} {elts : List Expr} {kk : Nat} {pt : Pos} (a e it : Addr) (tP : e ≠ it) : Turn P w K (.Tuple elts kk pt) (Ite K a) [e, it] e (fun i h => (∃ old, PySem.IsEnum h e it i old) /\ h.IsListIter it a i) where
 mem := by simp
 obj := fun i h st b hb => by
   obtain ⟨⟨old, he⟩, hit⟩ := st
   rcases aiN.mp hb with z | z
   . subst z
     exact ⟨_, he, fun v z => by
       have z' : Data.fields _ = Data.cell v := z
       cases z'⟩
   . have z : b = it := by simpa using z
     subst z
     obtain ⟨o, e, c, d⟩ := hit
     exact ⟨o, e, fun v z => by rw [d] at z; cases z⟩
 keep := fun i h h' st k => by
   obtain ⟨⟨old, he⟩, hit⟩ := st
   exact ⟨⟨old, k e (by simp) _ he⟩, hit.at fun o q => k it (by simp) o q⟩
 item := by
   intro X hP hw hK hc i pins s σ H E I hf st hg
   subst hP hw hK
   obtain ⟨xs, x, hq, hx⟩ := hg
   obtain ⟨its, rv, p, hz⟩ := I.list hq
   obtain ⟨u, hu, ru⟩ := rv.get hx
   obtain ⟨⟨old, he⟩, hit⟩ := st
   have fe := hf e (by simp)
   have fi := hf it (by simp)
   have hT0 : H s.heap.objs.size = none := I.dw.fresh (aiH _)
   have fT := I.Be (aiH s.heap.objs.size) hT0
   refine PySem.wpAny_pyNext_enum_item he hit p.isList (x := u) (by simpa using hu) tP fun h' ho aeK hT hsz hk => ⟨_, rfl, ?_⟩
   refine PySem.wpAny_letOwnedTupleGo_enum ho fun h2 he2 KR => ?_
   replace KR : Heap.SameBut e h' h2 := KR
   have eT : e < s.heap.objs.size := aiX he
   have keep : ∀ b o, b ≠ e -> b ≠ it -> s.heap.get? b = some o -> h2.get? b = some o := fun b o h1 h3 q => (KR.2 b h1).trans (hk b o h1 h3 q)
   have hT2 : h2.get? s.heap.objs.size = some { cls := .type "tuple", data := .seq #[.int i s.toks, u] } := (KR.2 _ (Nat.ne_of_gt eT)).trans hT
   have nH : ∀ b o, H b = some o -> b ≠ e /\ b ≠ it /\ b ≠ s.heap.objs.size := fun b o q => ⟨fun z => (by rw [z, fe.1] at q; cases q), fun z => (by rw [z, fi.1] at q; cases q), fun z => (by rw [z, hT0] at q; cases q)⟩
   have I' : L2.Inv X pins σ (upd H s.heap.objs.size (.tup [.int i, x])) { s with heap := h2, toks := s.toks + 1 } := by
     refine I.step (g' := s.gens) (d' := s.drawn) (ch := [e, it, s.heap.objs.size]) (fun b hb => ?_) (fun b o _ _ hc q _ => ?_) (fun b o _ _ hc q _ => ⟨o.slots, ?_⟩) (fun b o hc q n => ?_) (fun b o hc q => ⟨o, ?_⟩) (fun b ys q => ?_) (fun b o u q => ?_) (fun b ps q => ⟨#[], ?_⟩) (fun m hm => ?_) (fun b o q => ?_) I.bare
     . rcases aiN.mp hb with z | hb
       . subst z; exact ⟨fe.2.2.2.1, fe.2.1, fe.2.2.2.2.1, fe.2.2.2.2.2⟩
       . rcases aiN.mp hb with z | hb
         . subst z; exact ⟨fi.2.2.2.1, fi.2.1, fi.2.2.2.2.1, fi.2.2.2.2.2⟩
         . have z : b = s.heap.objs.size := by simpa using hb
           subst z; exact ⟨fT.2.2.2.1, fT.2.1, fT.2.2.2.2.1, fT.2.2.2.2.2⟩
     . exact keep b o (fun z => hc (by simp [z])) (fun z => hc (by simp [z])) q
     . exact keep b o (fun z => hc (by simp [z])) (fun z => hc (by simp [z])) q
     . rw [aA (fun z => hc (by simp [z]))]; exact n
     . exact keep b o (fun z => hc (by simp [z])) (fun z => hc (by simp [z])) q
     . rw [aA (nH b _ q).2.2]; exact q
     . rw [aA (nH b _ q).2.2]; exact q
     . rw [aA (nH b _ q).2.2, q]; simp
     . obtain ⟨o, es, ep, ho, r⟩ := hm
       exact ⟨o, es, ep, keep _ o (akr fe.2.1) (akr fi.2.1) ho, r⟩
     . by_cases hb : b = s.heap.objs.size
       . subst hb
         rw [aP] at q
         cases q
         exact ⟨ajy (cJ (aiJ rfl)), [.int i s.toks, u], .cons ⟨s.toks, rfl⟩ (.cons ru .nil), ⟨_, hT2, rfl, _, rfl⟩⟩
       . rw [aA hb] at q
         refine (I.dw b o q).A9 (fun c v hc z => keep c v ?_ ?_ z) (fun c z => by rw [aA (nH c _ z).2.2]; exact z) (fun c ys z => by rw [aA (nH c _ z).2.2]; exact z) fun c ys z => by rw [aA (nH c _ z).2.2]; exact z
         . rcases hc with z | z
           . rw [z]; exact (nH b _ q).1
           . exact (nH c _ z).1
         . rcases hc with z | z
           . rw [z]; exact (nH b _ q).2.1
           . exact (nH c _ z).2.1
   have ei : ((i + 1 : Nat) : Int) = (i : Int) + 1 := by omega
   refine ⟨.ref s.heap.objs.size, _, I', rfl, ⟨_, x, hT0, rfl, fun ys hy => by rw [I.Eb hy hq]; exact hx, rfl⟩, ⟨⟨u, by rw [ei]; exact he2⟩, aeK.at fun o q => (KR.2 it (akr tP)).trans q⟩, fun b hb => ?_⟩
   have hb' := hf b hb
   obtain ⟨o, RK, _⟩ : ∃ o, s.heap.get? b = some o /\ True := by
     rcases aiN.mp hb with z | z
     . subst z; exact ⟨_, he, trivial⟩
     . have z : b = it := by simpa using z
       subst z
       obtain ⟨o, q, _⟩ := hit
       exact ⟨o, q, trivial⟩
   rw [aA (aja (aiX RK))]
   exact hb'.1
 done := by
   intro X hP hw hK hc i pins s σ H E I hf st hg
   subst hP hw hK
   obtain ⟨xs, hq, hx⟩ := hg
   obtain ⟨its, rv, p, hz⟩ := I.list hq
   obtain ⟨⟨old, he⟩, hit⟩ := st
   obtain ⟨f0, f1, f2, f3, f4, f5⟩ := hf it (by simp)
   have hl := rv.length
   exact PySem.wpAny_pyNext_enum_end (I.ok.hd hc) he hit p.isList (by simp; omega) fun h' eb => ⟨rfl, I.turned (t' := s.toks) (fun b o hb e => eb b o hb e) f0 f1 f3 f4 f5⟩
 self := fun _ _ _ _ _ st h => by
   obtain ⟨⟨old, he⟩, _⟩ := st
   exact PySem.wpAny_pyIter_enum he h
section
variable {X : Cx} {elts : List Expr} {kk : Nat} {pt : Pos}
noncomputable def acg (K : PySem.W.Frag) (ta : TA) : TI := fun σ H R => ta σ H fun vs H1 => ∃ a xs, vs = [.ref a] /\ nS K H1 a xs /\ R (Ite K a) H1
theorem S9 {a : Expr} {ta : TA} {p pos : Pos} (hg : Gl X "enumerate") (hm : X.mg "enumerate" = none) (ha : PA X [a] ta) (hs : starEach [a] X.env = (false, eval a X.env) :: starEach [] X.env) : PI X (.Tuple elts kk pt) (.Call (.Name "enumerate" p) [a] [] pos) (acg X.K ta) := by
 intro pins s σ H R I h
 refine Call_ (qR I hg hm boot_enumerate (aj5 (d8 (ha pos pins s σ H _ I h) fun us s1 zz => ?_) hs rfl))
 obtain ⟨vs, H1, I1, r1, q1⟩ := zz
 obtain ⟨l, xs, e, hq, q⟩ := q1
 subst e
 cases r1 with
 | cons r rr =>
   cases rr
   cases r
   obtain ⟨its, rv, p, hz⟩ := I1.list hq
   refine PySem.call_enumerate_list p.isList fun h' he hit hsz hk => ?_
   have I2 : L2.Inv X pins σ H1 { s1 with heap := h' } := I1.kept (t' := s1.toks) fun b o e => hk b o e
   refine PySem.wpAny_pyIter_enum he ?_
   refine ⟨s1.heap.objs.size + 1, [s1.heap.objs.size + 1, s1.heap.objs.size], _, _, H1, rfl, I2, Lq l _ _ (Nat.succ_ne_self _), ⟨⟨_, he⟩, hit⟩, fun b hb => ?_, q⟩
   rcases aiN.mp hb with z | z
   . subst z
     exact I1.Be (akf _) (I1.dw.fresh (akf _))
   . have z : b = s1.heap.objs.size := by simpa using z
     subst z
     exact I1.Be (aiH _) (I1.dw.fresh (aiH _))
end
noncomputable def wY (ds : List D) : List D := (List.range ds.length).map fun (i : Nat) => .tup [.int i, ds.getD i .non]
theorem uc (ds : List D) : (wY ds).length = ds.length := by simp [wY]
theorem Lr {ds : List D} {i : Nat} {d : D} (h : ds[i]? = some d) : (wY ds)[i]? = some (.tup [.int i, d]) := by
 have hi : i < ds.length := (ai3.mp h).1
 unfold wY
 rw [ai5, ajI hi]
 show some (D.tup [.int i, ds.getD i .non]) = _
 rw [aiK, h]
 rfl
section
variable {X : Cx} {CL : Str -> Addr} {b : Bx} {δ δ1 : List (Option T)} {e : Expr} {ds : List D} {elts : List Expr} {kk : Nat} {pt pr pc : Pos}
theorem Tc (hm : X.mg "enumerate" = none) (h : cC X CL b e δ (.sh (.lst ds)) δ1) (hg : Gl X "enumerate") (hs : starEach [e] X.env = (false, eval e X.env) :: starEach [] X.env := by exact bN rfl) : WM X CL b (.Tuple elts kk pt) (.Call (.Name "enumerate" pr) [e] [] pc) δ (wY ds) δ1 := by
 refine ⟨_, S9 hg hm (cN eu fB hs) hs, fun H Z σ ts vs R S k => h H Z σ ts vs _ S fun v H1 Z1 z1 k1 S1 => ?_⟩
 obtain ⟨fp, gp, _, r, _, _⟩ := S1.rep
 cases r with
 | cons r _ =>
   cases r with
   | sh r =>
     cases r with
     | @lst a us _ hq rr =>
       have hl := rr.length
       refine ⟨a, us, rfl, S1.zh.seq hq, k _ _ ⟨Z1, z1, k1, S1.pop, fun i H2 s hi => ?_, fun i Z2 H2 x H' s1 s2 tp hi hy => ?_, fun H2 s => ?_⟩⟩
       . rw [uc] at hi
         have Hg : i < us.length := by rw [← hl]; exact hi
         exact ⟨us, us[i], s.seq hq, aiL Hg⟩
       . rw [uc] at hi
         obtain ⟨T, y, hT, rfl, hx, rfl⟩ := hy
         obtain ⟨d, hd, rd⟩ := rr.Oa (hx us ((s1.trans s2).seq hq))
         have gr : BD Z2 H2 _ _ := BD.tup (xs := [.int i, y]) s2 tp hT
         exact ⟨_, _, Lr hd, gr, .tup (rS.of aP) (.cons (.int _) (.cons ((rd.mono s1).mono gr.z) .nil))⟩
       . rw [uc]
         exact ⟨us, s.seq hq, by rw [← hl]; exact aiH _⟩
end
noncomputable def insI (x : Int) : List Int -> List Int
 | [] => [x]
 | y :: l => if x <= y then x :: y :: l else y :: insI x l
noncomputable def sortI : List Int -> List Int
 | [] => []
 | x :: l => insI x (sortI l)
theorem insI_perm (x : Int) : ∀ l, (insI x l).Perm (x :: l)
 | [] => .refl _
 | y :: l => by
   rw [insI]
   split
   . exact .refl _
   . exact ((insI_perm x l).cons y).trans (.swap x y l)
theorem sortI_perm : ∀ l, (sortI l).Perm l
 | [] => .refl _
 | x :: l => (insI_perm x (sortI l)).trans ((sortI_perm l).cons x)
theorem Ls {l : List Int} {x : Int} : x ∈ sortI l ↔ x ∈ l := (sortI_perm l).mem_iff
theorem Az (l : List Int) : (sortI l).length = l.length := (sortI_perm l).length_eq
theorem u5 (x : Int) : ∀ {l : List Int}, l.Pairwise (· <= ·) -> (insI x l).Pairwise (· <= ·)
 | [], _ => List.pairwise_singleton _ _
 | y :: l, h => by
   rw [insI]
   obtain ⟨h1, h2⟩ := aju.mp h
   split
   . rename_i e
     refine aju.mpr ⟨fun z hz => ?_, h⟩
     rcases aiN.mp hz with rfl | hz
     . exact e
     . exact Int.le_trans e (h1 z hz)
   . rename_i e
     refine aju.mpr ⟨fun z hz => ?_, u5 x h2⟩
     rcases aiN.mp ((insI_perm x l).mem_iff.mp hz) with rfl | hz
     . omega
     . exact h1 z hz
theorem sq : ∀ l, (sortI l).Pairwise (· <= ·)
 | [] => .nil
 | x :: l => u5 x (sq l)
theorem u6 : ∀ {a b : List Int}, a.Perm b -> a.Pairwise (· <= ·) -> b.Pairwise (· <= ·) -> a = b
 | [], b, p, _, _ => (List.nil_perm.mp p).symm
 | x :: a, [], p, _, _ => absurd p.length_eq (by simp)
 | x :: a, y :: b, p, ha, hb => by
   obtain ⟨a1, a2⟩ := aju.mp ha
   obtain ⟨b1, b2⟩ := aju.mp hb
   have e : x = y := by
     have h1 : x ∈ y :: b := p.mem_iff.mp aiF
     have h2 : y ∈ x :: a := p.mem_iff.mpr aiF
     rcases aiN.mp h1 with e | h1
     . exact e
     . rcases aiN.mp h2 with e | h2
       . exact e.symm
       . exact Int.le_antisymm (a1 y h2) (b1 x h1)
   subst e
   rw [u6 (List.Perm.cons_inv p) a2 b2]
theorem OU {l z : List Int} (p : z.Perm l) (s : z.Pairwise (· <= ·)) : z = sortI l := u6 (p.trans (sortI_perm l).symm) s (sq l)
theorem sr : ∀ {us : List Value} {ns : List Int}, IntsAre us ns -> Vals (ns.map V.int) us
 | _, _, .nil => .nil
 | _, _, .cons n t r => .cons ⟨t, rfl⟩ (sr r)
section
variable {X : Cx}
theorem BF : nP X (.builtin "sorted") (fun xs H Q => ∃ p ns, xs = [.ref p] /\ nS X.K H p (ns.map .int) /\ ns.length < 64 /\ ∀ l, H l = none -> Q (.ref l) (upd H l (.lst ((sortI ns).map .int)))) := by
 intro pins s σ H xs us Q I r h
 obtain ⟨p, ns, rfl, hq, hl, q⟩ := h
 obtain ⟨u, rfl, rx⟩ := vals1 r
 cases rx
 obtain ⟨its, r', pl, hz⟩ := I.list hq
 have hlen := r'.length
 rw [aiC] at hlen
 refine sorted_ints pl.isList (intsAre_of r') (by omega) fun out ns' a1 a2 a3 => ?_
 obtain ⟨e, he⟩ := sortedAll_at s.heap its out
 have e2 : ns' = sortI ns := OU a2 a3
 subst e2
 refine ⟨.ref (s.heap.objs.size + 1), _, I.laid (t' := s.toks) (fun _ _ => sortedAll_old) (akf _) (show eY X.prog X.w _ _ _ (.lst ((sortI ns).map .int)) from ⟨?_, out.toList, e, sr a1, ?_⟩), rfl, q _ (I.dw.fresh (akf _))⟩
 . rw [aiC, Az]
   rw [aiC] at hz
   exact hz
 . simpa using he
theorem su : bootBuiltins "sorted" = some (.builtin "sorted") := by decide +kernel
end
section
variable {X : Cx} {CL : Str -> Addr} {b : Bx} {δ δ1 : List (Option T)} {e : Expr} {pos pp : Pos}
theorem AA {K : PySem.W.Frag} {Z : Hp} {l : List Int} {us : List V} (h : aK K CL Z (l.map D.int) us) : us = l.map V.int := by
 refine aK.ind (P := fun ds us => ∀ l : List Int, ds = l.map D.int -> us = l.map V.int) ?_ ?_ h l rfl
 . intro l e
   cases l with
   | nil => rfl
   | cons => cases e
 . intro d v ds vs r _ i l e
   cases l with
   | nil => cases e
   | cons a l =>
     injection e with e1 e2
     subst e1
     rw [i l e2]
     cases r
     rfl
theorem ints_rep {K : PySem.W.Frag} {Z : Hp} : ∀ (l : List Int), aK K CL Z (l.map D.int) (l.map V.int)
 | [] => .nil
 | _ :: l => .cons (.int _) (ints_rep l)
theorem Ho {l : List Int} (hm : X.mg "sorted" = none) (h : dz X CL b e δ (.lst (l.map .int)) δ1) (hl : l.length < 64) (hg : Gl X "sorted") (hs : starEach [e] X.env = (false, eval e X.env) :: starEach [] X.env := by exact bN rfl) : cC X CL b (.Call (.Name "sorted" pp) [e] [] pos) δ (.lst (((sortI l).map D.int).map T.sh)) δ1 := fun H Z σ ts vs Q S k =>
 c6 (lD BF hg hm su (cN eu fB hs) (he := hs)) (h H Z σ ts vs _ S fun v H1 Z1 z1 k1 S1 r => by
   cases r with
   | @lst a us _ hq rr =>
     have := AA rr
     subst this
     refine ⟨a, l, rfl, hq, hl, fun p hp => ?_⟩
     obtain ⟨c, S2⟩ := (bX.uW (ints_rep (sortI l)) S1).tZ (g0 := []) (by simp) hp
     exact k _ _ _ z1 (k1.trans c) S2)
end
section
variable {X : Cx}
end
section
variable {X : Cx} {CL : Str -> Addr} {b : Bx} {δ δ1 : List (Option T)} {e : Expr} {pos pp : Pos}
end
section
variable {prog : Program} {w : World} {A : Around} {s : Shared}
end
section
variable {prog : Program} {w : World} {A : Around} {s : Shared}
end
section
variable {X : Cx}
end
section
variable {X : Cx} {CL : Str -> Addr} {b : Bx} {δ δ1 : List (Option T)} {e : Expr} {ds : List D} {pos pp pq pr : Pos}
end
theorem qX {α β : Type} {f : α -> β} {l : List α} {j : Nat} {d : β} (h : (l.map f)[j]? = some d) : ∃ x, d = f x /\ l[j]? = some x /\ x ∈ l /\ j < l.length /\ l.drop j = x :: l.drop (j + 1) /\ l.take (j + 1) = l.take j ++ [x] := by
 rw [ai5] at h
 cases hx : l[j]? with
 | none => rw [hx] at h; cases h
 | some x =>
   rw [hx] at h
   cases h
   have hj : j < l.length := (ai3.mp hx).1
   have e : l[j] = x := (ai3.mp hx).2
   exact ⟨x, rfl, rfl, ajj hx, hj, by rw [ajX hj, e], by rw [ake, hx]; rfl⟩
noncomputable def D.at1 : L3.D -> L3.D
 | .tup (a :: _) => a
 | d => d
section
variable {X : Cx} {CL : Str -> Addr} {b : Bx} {δ δ1 : List (Option T)} {e : Expr} {elts : List Expr} {kk : Nat} {pt pr pc : Pos}
theorem Lv {α : Type} (f : α -> L3.D) (z : α) (l : List α) : wY (l.map f) = (List.range l.length).map fun (i : Nat) => L3.D.tup [.int i, f (l.getD i z)] := by
 unfold wY
 rw [aiC]
 apply ajx
 intro i hi
 have hi : i < l.length := ajr.mp hi
 have : (l.map f).getD i .non = f (l.getD i z) := by
   rw [aiK, aiK, ai5, aiL hi]
   rfl
 rw [this]
theorem OV {α : Type} {f : α -> L3.D} {l : List α} (z : α) (hm : X.mg "enumerate" = none) (h : cC X CL b e δ (.sh (.lst (l.map f))) δ1) (hg : Gl X "enumerate") (hs : starEach [e] X.env = (false, eval e X.env) :: starEach [] X.env := by exact bN rfl) :
   WM X CL b (.Tuple elts kk pt) (.Call (.Name "enumerate" pr) [e] [] pc) δ ((List.range l.length).map fun (i : Nat) => L3.D.tup [.int i, f (l.getD i z)]) δ1 := by
 have := Tc (elts := elts) (kk := kk) (pt := pt) (pr := pr) (pc := pc) hm h hg hs
 rwa [Lv f z l] at this
end
section
variable {K : PySem.W.Frag} {CL : Str -> Addr} {b : Bx} {H H' Z Z' : Hp} {δ δ' : List (Option T)} {σ σ' : L2.St} {ts tl : List T} {vs us : List V} {t : T} {v : V}
end
section
variable {X : Cx} {CL : Str -> Addr} {b : Bx} {δ δ1 δ2 : List (Option T)} {e e2 : Expr} {t : T} {tl Oo tt tt0 : List T} {D : c7} {pos pp pa pb : Pos}
end
section
variable {X : Cx} {CL : Str -> Addr} {b : Bx} {δ δ1 : List (Option T)} {e : Expr} {t : T} {i : Nat} {x : Str} {pos pp : Pos} {DD : c7} {fG : List Stmt}
end
section
variable {X : Cx}
end
section
variable {K : PySem.W.Frag} {CL : Str -> Addr} {b : Bx} {H Z : Hp} {δ : List (Option T)} {σ : L2.St} {ts tl : List T} {vs : List V} {t : T} {v : V}
end
section
variable {X : Cx} {CL : Str -> Addr} {b : Bx} {δ δ1 : List (Option T)} {e : Expr} {t : T} {tl Oo : List T} {D : c7} {pos pp pa pb pc : Pos} {kj i : Nat} {x : Str} {fG : List Stmt}
end
section
variable {X : Cx} {CL : Str -> Addr} {b : Bx} {δ δ1 : List (Option T)} {e : Expr} {pos pp : Pos}
end
section
variable {K : PySem.W.Frag} {CL : Str -> Addr} {b : Bx} {H Z : Hp} {δ : List (Option T)} {σ : L2.St} {ts tl Td : List T} {vs : List V} {v : V}
theorem bX.extend {i : Nat} (S : bX K CL b H Z δ σ (.lst Td :: ts) (v :: vs)) (hi : δ[i]? = some (some (.lst tl))) :
   ∃ a us a2 Te, σ[i]? = some (some (.ref a)) /\ H a = some (.lst us) /\ us.length = tl.length /\ v = .ref a2 /\ H a2 = some (.lst Te) /\ Te.length = Td.length /\ bX K CL b (upd H a (.lst (us ++ Te))) Z (δ.set i (some (.lst (tl ++ Td)))) σ ts vs := by
 obtain ⟨fp, gp, e, r, nd, k⟩ := S.rep
 obtain ⟨v0, f1, f2, f3, hv, rR, rt, put, _⟩ := e.get hi
 subst rR
 cases rt with
 | @lst a us _ g ha rs =>
   cases r with
   | @cons _ _ _ _ ft gr q1 q2 =>
     cases q1 with
     | @lst a2 Te _ g2 ha2 rs2 =>
       have ne : ∀ c ∈ (f1 ++ (g ++ f3)) ++ (g2 ++ gr), c ≠ a := fun c hc e => by
         subst e
         have hp : ((f1 ++ ((c :: g) ++ f3)) ++ ((a2 :: g2) ++ gr)).Perm (c :: ((f1 ++ (g ++ f3)) ++ ((a2 :: g2) ++ gr))) := by
           rw [ai0, ← ai0]
           exact (ajG.append_right _)
         refine (ajA.mp (hp.nodup_iff.mp nd)).1 ?_
         rcases aiO.mp hc with z | z
         . exact aiP _ z
         . exact aiD _ (aiE _ z)
       refine ⟨a, us, a2, Te, hv, ha, rs.length.symm, rfl, ha2, rs2.length.symm, ?_⟩
       have r1 : cW K CL (upd H a (.lst (us ++ Te))) Z (.lst (tl ++ Td)) (.ref a) (a :: (g ++ g2)) :=
         .lst aP (aZ.app (rs.mono (.refl _) fun c hc => aA (ne c (by simp [hc]))) (rs2.mono (.refl _) fun c hc => aA (ne c (by simp [hc]))))
       have e2 := put (H' := upd H a (.lst (us ++ Te))) (.refl _) (fun c hc => aA (ne c (by
         rcases aiO.mp hc with h | h
         . simp [h]
         . simp [h]))) r1
       rw [lI hv] at e2
       have hp : ((f1 ++ ((a :: (g ++ g2)) ++ f3)) ++ gr).Perm ((f1 ++ ((a :: g) ++ f3)) ++ (g2 ++ gr)) := by
         simp only [ai0, aiM]
         refine ajd f1 (List.Perm.cons a (ajd g ?_))
         rw [← aiM, ← aiM]
         exact ajl.append_right gr
       have sb : ((f1 ++ ((a :: g) ++ f3)) ++ (g2 ++ gr)).Sublist ((f1 ++ ((a :: g) ++ f3)) ++ ((a2 :: g2) ++ gr)) :=
         aji (aje _) (by rw [ai0]; exact List.sublist_cons_self _ _)
       exact S.write nd k (aiF) ⟨_, ha⟩ e2 (q2.mono (.refl _) fun c hc => aA (ne c (by simp [hc]))) (hp.nodup_iff.mpr (nd.sublist sb)) fun c hc => sb.subset (hp.mem_iff.mp hc)
end
section
variable {X : Cx} {CL : Str -> Addr} {b : Bx} {δ δ1 : List (Option T)} {e : Expr} {tl Oo Td : List T} {D : c7} {pos pp pa pb : Pos} {i : Nat} {x : Str} {fG : List Stmt}
theorem ach (n : Vn X i x) (h0 : δ[i]? = some (some (.lst Oo))) (h : cC X CL b e δ (.lst Td) δ1) (h1 : δ1[i]? = some (some (.lst tl))) (hl : tl.length + Td.length <= 1000000) (k : fq X CL b fG (δ1.set i (some (.lst (tl ++ Td)))) D)
   (lF : attributeBase (.Name x pp) "extend" X.env (eval (.Name x pp) X.env) = eval (.Name x pp) X.env := by rfl)
   (Bl : ((backTo pb (starEach [e] X.env)).all (fun x => !x.1) && (backToKw pb (keywordEach [] X.env)).all (fun x => x.1.isSome) && decide ([e].length + ([] : List Keyword).length + (if ([] : List Keyword).isEmpty then 0 else 1) < 30)) = true := by rfl)
   (hline : (pa.endLine == pb.line) = true := by rfl) (hs : starEach [e] X.env = (false, eval e X.env) :: starEach [] X.env := by exact bN rfl)
   (Hf : swapsWith (.Call (.Attribute (.Name x pp) "extend" pa) [e] [] pb) none pos.line X.env = pure false := by rfl) :
   fq X CL b (.Expr (.Call (.Attribute (.Name x pp) "extend" pa) [e] [] pb) pos :: fG) δ D := dG fun H Z σ ts vs E S M =>
 tW (Jt (NZ akB PySem.F.slot_list_extend PySem.F.type_list_extend K6 (kI n.hi n.hv n.hd n.jy) (cN eu fB hs) lF Bl hline hs rfl) Hf) (by
   obtain ⟨v0, e0, r0⟩ := S.look h0
   refine ⟨v0, e0, ?_, ?_⟩
   . rw [T.dQ] at r0
     cases r0 with
     | lst hq _ => exact .inl ⟨rfl, _, hq⟩
   . refine h H Z σ ts vs _ S fun v H1 Z1 z1 k1 S1 => ?_
     obtain ⟨a, us, a2, Te, ea, ha, hu, rfl, ha2, hu2, S2⟩ := S1.extend h1
     rw [e0] at ea
     cases ea
     exact ⟨a, a2, us, Te, rfl, rfl, ha, ha2, by rw [hu, hu2]; exact ajy (akv hl (by rw [ajk]; decide)), M.nx _ σ _ Z1 z1 S2 k⟩)
end
section
variable {X : Cx} {CL : Str -> Addr} {b : Bx} {e1 e2 : Expr} {δ δ1 δ2 : List (Option T)} {ds : List L3.D} {pos : Pos}
end
section
variable {X : Cx} {CL : Str -> Addr} {b : Bx} {δ : List (Option T)} {x : Str} {pos : Pos}
end
section
variable {X : Cx} {CL : Str -> Addr} {b : Bx} {e1 e2 e iter : Expr} {δ δ1 δ2 : List (Option T)} {pos : Pos}
end
section
variable {X : Cx} {CL : Str -> Addr} {b : Bx} {e : Expr} {δ δ1 δ2 δ3 : List (Option T)} {pos p2 : Pos}
end
end L3
namespace L3
open PySem PySem.Spec PyProof.Rows L2 PySem.Builtin PySem.Builtin.Str
section
variable {X : Cx} {CL : Str -> Addr} {b : Bx} {e o : Expr} {δ δ1 δ2 : List (Option T)} {pos apos : Pos}
end
end L3
namespace L3
open PySem PySem.Spec PyProof.Rows L2
section
variable {X : Cx} {CL : Str -> Addr} {b : Bx} {δ : List (Option T)} {pos pp : Pos} {x : Str}
theorem c0 {k n : Nat} {A : Type} {arg : A -> List L3.D} {Pre : A -> Prop} {res : A -> T} (a : A) (F : Fc X CL x k n arg Pre res) (hg : Gl X x) (ha : arg a = []) (hp : Pre a) (hc : (res a).clean = true) (hn : (arg a).length = n := by rfl)
   (vD : (x == ("__debug__" : Str)) = false := by decide) : cC X CL b (.Call (.Name x pp) [] [] pos) δ (res a) δ := by
 obtain ⟨f, fd, ps, F1, m, kk, bb⟩ := F.ex
 intro H Z σ ts vs Q S k
 refine c6 (NP F1 F.room hg m kk bb .nil En vD) ?_
 refine ⟨H, a, .refl _, fun _ _ q _ => q, by rw [ha]; exact .nil, hn, hp, S.Le, fun v H' W' fp hh ww wh nw tp rt nd own => ?_⟩
 obtain ⟨Z', z', S'⟩ := S.back hh S.zh ww wh nw tp rt nd own (.inr hc)
 exact k v H' Z' z' hh S'
end
noncomputable def Tf : Key -> D
 | .inl i => .int i
 | .inr x => .str x
noncomputable def vH (aY : List (Key × D)) (k : Key) : Option D := (aY.find? fun kv => decide (kv.1 = k)).map (·.2)
noncomputable def wZ (aY : List (Key × D)) (k : Key) (d : D) : List (Key × D) :=
 if (aY.any fun kv => decide (kv.1 = k)) = true then aY.map (fun kv => if kv.1 = k then (kv.1, d) else kv) else aY ++ [(k, d)]
section
variable {K : PySem.W.Frag} {CL : Str -> Addr} {b : Bx} {H Z : Hp} {δ : List (Option T)} {σ : L2.St} {ts tl : List T} {vs : List V} {t : T} {v : V} {d : D} {aY : List (Key × D)} {gs : List (Key × V)}
theorem bU.length {aY : List (Key × D)} {gs : List (Key × V)} (h : bU K CL Z aY gs) : aY.length = gs.length :=
 bU.ind (P := fun aY gs => aY.length = gs.length) rfl (fun _ _ i => congrArg (· + 1) i) h
theorem bU.val {k : Key} : ∀ {aY : List (Key × D)} {gs : List (Key × V)}, bU K CL Z aY gs -> (vH aY k = none /\ qT gs k = none) \/ ∃ d v, vH aY k = some d /\ qT gs k = some v /\ bR K CL Z d v
 | _, _, .nil => .inl ⟨rfl, rfl⟩
 | _, _, .cons (x := x) (d := d) (v := v) h r => by
   by_cases e : x = k
   . exact .inr ⟨d, v, by simp [vH, e], rX e, h⟩
   . rcases bU.val (k := k) r with ⟨h1, h2⟩ | ⟨d', v', h1, h2, h3⟩
     . exact .inl ⟨by simpa [vH, e] using h1, by rw [nX e]; exact h2⟩
     . exact .inr ⟨d', v', by simpa [vH, e] using h1, by rw [nX e]; exact h2, h3⟩
theorem bU.any {k : Key} : ∀ {aY : List (Key × D)} {gs : List (Key × V)}, bU K CL Z aY gs -> (aY.any fun kv => decide (kv.1 = k)) = (gs.any fun kv => decide (kv.1 = k))
 | _, _, .nil => rfl
 | _, _, .cons _ r => by rw [aj0, aj0, bU.any r]
theorem bU.repl {k : Key} (q : bR K CL Z d v) : ∀ {aY : List (Key × D)} {gs : List (Key × V)}, bU K CL Z aY gs -> bU K CL Z (aY.map (fun kv => if kv.1 = k then (kv.1, d) else kv)) (gs.map (fun kv => if kv.1 = k then (kv.1, v) else kv))
 | _, _, .nil => .nil
 | _, _, .cons (x := x) h r => by
   rw [ai1, ai1]
   by_cases e : x = k
   . rw [aiI e, aiI e]; exact .cons q (bU.repl q r)
   . rw [aiG e, aiG e]; exact .cons h (bU.repl q r)
theorem bU.snoc {k : Key} (q : bR K CL Z d v) : ∀ {aY : List (Key × D)} {gs : List (Key × V)}, bU K CL Z aY gs -> bU K CL Z (aY ++ [(k, d)]) (gs ++ [(k, v)])
 | _, _, .nil => .cons q .nil
 | _, _, .cons h r => .cons h (bU.snoc q r)
theorem bU.put {k : Key} (q : bR K CL Z d v) (r : bU K CL Z aY gs) : bU K CL Z (wZ aY k d) (putK gs k v) := by
 unfold wZ putK
 rw [r.any]
 split
 . exact r.repl q
 . exact r.snoc q
theorem bR.key {k : Key} (r : bR K CL Z (Tf k) v) : v = kV k := by
 cases k with
 | inl i => exact r.sc rfl
 | inr x => exact r.sc rfl
theorem bX.YM {p : Addr} (S : bX K CL b H Z δ σ ts vs) (hp : H p = none) : aH H (upd H p (.dK [])) /\ bX K CL b (upd H p (.dK [])) Z δ σ (.jC [] :: ts) (.ref p :: vs) := by
 obtain ⟨fp, gp, e, r, nd, k⟩ := S.rep
 have zp : Z p = none := S.zh.free hp
 have sh : aH H (upd H p (.dK [])) := aH.upd hp
 have keep : ∀ a ∈ fp ++ gp, a ≠ p := fun a ha => by
   have : ∃ o, H a = some o := by
     rcases aiO.mp ha with h | h
     . exact e.there a h
     . exact r.there a h
   obtain ⟨o, q⟩ := this
   exact aL q hp
 refine ⟨sh, ⟨⟨fp, [p] ++ gp, e.mono (.refl _) (fun a ha => aA (keep a (aiP _ ha))), .cons (.jC aP .nil) (r.mono (.refl _) fun a ha => aA (keep a (by simp [ha]))), ?_, fun a ha => ?_⟩, S.bh.trans sh, S.zz, S.zh.trans sh, S.new, fun a o q i => ?_, S.tab⟩⟩
 . refine (ajG (l₁ := fp) (l₂ := gp) (a := p)).nodup_iff.mpr (ajA.mpr ⟨fun h => keep p h rfl, nd⟩)
 . rcases aiN.mp ((ajG (l₁ := fp) (l₂ := gp) (a := p)).mem_iff.mp ha) with h | h
   . subst h; exact ⟨zp, S.bh.free hp⟩
   . exact k a h
 . by_cases ha : a = p
   . subst ha; rw [aP] at q; cases q; cases i
   . rw [aA ha] at q; exact S.tp a o q i
theorem bX.YN {i : Nat} (k : Key) (S : bX K CL b H Z δ σ (.sh d :: ts) (v :: vs)) (hi : δ[i]? = some (some (.jC aY))) :
   ∃ a gs, σ[i]? = some (some (.ref a)) /\ H a = some (.dK gs) /\ gs.length = aY.length /\ bX K CL b (upd H a (.dK (putK gs k v))) Z (δ.set i (some (.jC (wZ aY k d)))) σ ts vs := by
 obtain ⟨fp, gp, e, r, nd, kk⟩ := S.rep
 obtain ⟨v0, f1, f2, f3, hv, rR, rt, put, _⟩ := e.get hi
 subst rR
 cases rt with
 | @jC a gs _ ha rs =>
   cases r with
   | @cons _ _ _ _ ft gr q1 q2 =>
     cases q1 with
     | sh q1 =>
       have ne : ∀ c ∈ (f1 ++ f3) ++ gr, c ≠ a := fun c hc e => by
         subst e
         have hp : ((f1 ++ ([c] ++ f3)) ++ ([] ++ gr)).Perm (c :: ((f1 ++ f3) ++ gr)) := by
           rw [akk, List.singleton_append]
           exact (ajG.append_right _)
         exact (ajA.mp (hp.nodup_iff.mp nd)).1 hc
       refine ⟨a, gs, hv, ha, rs.length.symm, ?_⟩
       have r1 : cW K CL (upd H a (.dK (putK gs k v))) Z (.jC (wZ aY k d)) (.ref a) [a] := .jC aP (rs.put q1)
       have e2 := put (H' := upd H a (.dK (putK gs k v))) (.refl _) (fun c hc => aA (ne c (by
         rcases aiO.mp hc with h | h
         . simp [h]
         . simp [h]))) r1
       rw [lI hv] at e2
       exact S.Oz rfl kk (by simp) e2 (q2.mono (.refl _) fun c hc => aA (ne c (by simp [hc]))) nd fun c hc => hc
end
section
variable {X : Cx} {CL : Str -> Addr} {b : Bx} {δ δ1 δ2 : List (Option T)} {e e1 e2 : Expr} {t : T} {d : L3.D} {D : c7} {pos pp ps : Pos} {i : Nat} {x : Str} {fG : List Stmt} {aY : List (Key × L3.D)} {k : Key}
theorem Tg : cC X CL b (.Dict [] [] pos) δ (.jC []) δ := fun H Z σ ts vs Q S kk => c6 N7 fun p hp => by
 obtain ⟨c, S1⟩ := S.YM hp
 exact kk _ _ Z (.refl _) c S1
theorem YQ (k : Key) (hu : X.A.units + 64 < cLine) (n : Vn X i x) (h : cC X CL b e δ (.sh d) δ1) (h2 : dz X CL b e2 δ1 (Tf k) δ1) (h1 : δ1[i]? = some (some (.jC aY))) (hl : aY.length <= 1000000) (kk : fq X CL b fG (δ1.set i (some (.jC (wZ aY k d)))) D)
   (hs : swapsWith e (some (.Subscript (.Name x pp) e2 ps)) pos.line X.env = pure false := by rfl) :
   fq X CL b (.Assign [.Subscript (.Name x pp) e2 ps] e pos :: fG) δ D := dG fun H Z σ ts vs E S M =>
 tW (Sh (by omega) (kI n.hi n.hv n.hd n.jy) eu eu hs) (h H Z σ ts vs _ S fun v H1 Z1 z1 k1 S1 => by
   obtain ⟨v0, e0, _⟩ := S1.look h1
   refine ⟨v0, e0, h2 H1 Z1 σ _ _ _ S1 fun v2 H2 Z2 z2 k2 S2 r2 => ?_⟩
   obtain ⟨a, gs, ea, ha, hg, S3⟩ := S2.YN k h1
   rw [e0] at ea
   cases ea
   exact ⟨a, _, rfl, by rw [r2.key]; exact N4.k ha (by rw [hg]; exact akv hl (by rw [ajk]; decide)), M.nx _ σ _ Z2 (z1.trans z2) S3 kk⟩)
theorem Ti (k : Key) (hu : X.A.units + 64 < cLine) (h1 : dz X CL b e1 δ (.jC aY) δ1) (h2 : dz X CL b e2 δ1 (Tf k) δ2) (hk : vH aY k = some d) (hs : X7 e2 := by exact fun _ _ => rfl) : dz X CL b (.Subscript e1 e2 pos) δ d δ2 := fun H Z σ ts vs Q S kk =>
 c6 (Sg (by omega) eu eu hs) (h1 H Z σ ts vs _ S fun v H1 Z1 z1 k1 S1 r1 => h2 H1 Z1 σ ts vs _ S1 fun v2 H2 Z2 z2 k2 S2 r2 => by
   cases r1 with
   | @jC a gs _ ha rr =>
     have rr' := rr.mono k2
     rcases rr'.val (k := k) with ⟨h0, _⟩ | ⟨d', v', h0, hv, rd⟩
     . rw [hk] at h0; cases h0
     . rw [hk] at h0; cases h0
       refine ⟨a, v', rfl, ?_, kk v' H2 Z2 (z1.trans z2) (k1.trans k2) S2 rd⟩
       rw [r2.key, ← hv]
       exact Bo.k (k2 _ _ ha))
theorem OW {Z : Hp} {gs : List (Key × V)} {K : PySem.W.Frag} (rr : bU K CL Z aY gs) : (qT gs k).isSome = (vH aY k).isSome := by
 rcases rr.val (k := k) with ⟨h0, h1⟩ | ⟨d', v', h0, h1, _⟩
 . rw [h0, h1]; rfl
 . rw [h0, h1]; rfl
theorem BG (k : Key) (hu : X.A.units + 64 < cLine) (h1 : dz X CL b e1 δ (Tf k) δ1) (h2 : dz X CL b e2 δ1 (.jC aY) δ2) (hm : behindInMarks .In e2 = false) :
   tO X CL b (.Compare e1 [.In] [e2] pos) δ (vH aY k).isSome δ2 := fun H Z σ ts vs Q S kk =>
 Bq (Nm (X8 (by omega) eu eu) hm) (h1 H Z σ ts vs _ S fun v H1 Z1 z1 k1 S1 r1 => h2 H1 Z1 σ ts vs _ S1 fun v2 H2 Z2 z2 k2 S2 r2 => by
   cases r2 with
   | @jC a gs _ ha rr =>
     refine ⟨a, qT gs k, rfl, by rw [r1.key]; exact Bo.k ha, _, rfl, ?_⟩
     rw [OW rr]
     exact kk H2 Z2 (z1.trans z2) (k1.trans k2) S2)
end
section
variable {K : PySem.W.Frag} {CL : Str -> Addr} {b : Bx} {H Z : Hp} {δ : List (Option T)} {σ : L2.St} {ts : List T} {vs : List V} {t : T} {v w : V} {f c : Str} {M7 : List (Str × T)}
theorem dS.Tj {ft : List Addr} (rt : cW K CL H Z t v ft) : ∀ {EC : List (Str × T)} {gs : List (Str × V)} {fp : List Addr}, dS K CL H Z (EC ++ (f, .sh (.val v)) :: M7) gs fp -> ∃ JN, dS K CL H Z (EC ++ (f, t) :: M7) gs JN /\ JN.Perm (fp ++ ft)
 | [], _, _, r => by
   cases r with
   | @cons _ _ v' _ _ f1 gp h r =>
     cases h with
     | sh h =>
       cases h
       exact ⟨ft ++ gp, .cons rt r, ajl⟩
 | (y, u) :: EC, _, _, r => by
   cases r with
   | @cons _ _ v' _ _ f1 gp h r =>
     obtain ⟨JN, r', p⟩ := dS.Tj rt (EC := EC) r
     refine ⟨f1 ++ JN, .cons h r', ?_⟩
     rw [aiM]
     exact p.append_left f1
theorem bX.Tj {EC : List (Str × T)} (S : bX K CL b H Z δ σ (.ins c (EC ++ (f, .sh (.val v)) :: M7) :: t :: ts) (w :: v :: vs)) : bX K CL b H Z δ σ (.ins c (EC ++ (f, t) :: M7) :: ts) (w :: vs) := by
 obtain ⟨fp, gp, e, r, nd, k⟩ := S.rep
 cases r with
 | @cons _ _ _ _ g1 g2 r1 r2 =>
   cases r2 with
   | @cons _ _ _ _ g3 g4 r3 r4 =>
     cases r1 with
     | @ins a dx _ gs _ fp1 ha rf =>
       obtain ⟨JN, rf', p⟩ := dS.Tj r3 rf
       have pm : (fp ++ ((a :: JN) ++ g4)).Perm (fp ++ ((a :: fp1) ++ (g3 ++ g4))) := by
         refine ajd fp ?_
         rw [← aiM]
         refine List.Perm.append_right g4 ?_
         rw [ai0]
         exact List.Perm.cons a p
       exact ⟨⟨fp, (a :: JN) ++ g4, e, .cons (.ins ha rf') r4, pm.nodup_iff.mpr nd, fun c hc => k c (pm.mem_iff.mp hc)⟩, S.bh, S.zz, S.zh, S.new, S.tp, S.tab⟩
end
noncomputable def PAv (X : Cx) (CL : Str -> Addr) (b : Bx) (es : List Expr) (δ : List (Option T)) (dv : V -> List D) (t : T) (δ' : List (Option T)) : Prop :=
 ∀ (H Z : Hp) (σ : L2.St) (ts : List T) (vs : List V) (Q : List V -> Hp -> Prop), bX X.K CL b H Z δ σ ts vs →
   (∀ us H' Z' v, aH Z Z' -> aH H H' -> bX X.K CL b H' Z' δ' σ (t :: ts) (v :: vs) -> aK X.K CL H' (dv v) us -> Q us H') -> Ob X es σ H Q
theorem T.w4 {f : Str} {v : V} {M7 : List (Str × T)} (h2 : T.bS M7 = true) : ∀ {EC : List (Str × T)}, T.bS EC = true -> T.bS (EC ++ (f, .sh (.val v)) :: M7) = true
 | [], _ => by rw [akk, T.bS, h2]; rfl
 | (x, t) :: EC, h => by
   rw [T.bS, ajm] at h
   rw [ai0, T.bS, h.1, T.w4 h2 h.2]; rfl
section
variable {X : Cx} {CL : Str -> Addr} {b : Bx} {δ δ1 δ2 : List (Option T)} {e o : Expr} {es : List Expr} {pos pp apos : Pos} {t : T} {ds : List D} {d : D} {dv : V -> List D}
theorem OX (h : cC X CL b e δ t δ1) (r : Rx X CL b es δ1 ds δ2) (hs : notStar e = true := by rfl) : PAv X CL b (e :: es) δ (fun v => .val v :: ds) t δ2 := fun H Z σ ts vs Q S k =>
 Lc (cN eu M6 (bN hs)) (h H Z σ ts vs _ S fun v H1 Z1 z1 k1 S1 => r H1 Z1 σ _ _ _ S1 fun us H2 Z2 z2 k2 S2 r2 => k (v :: us) H2 Z2 v (z1.trans z2) (k1.trans k2) S2 (.cons (.val v) r2))
theorem ED (h : dz X CL b e δ d δ1) (r : PAv X CL b es δ1 dv t δ2) (hs : notStar e = true := by rfl) : PAv X CL b (e :: es) δ (fun v => d :: dv v) t δ2 := fun H Z σ ts vs Q S k =>
 Lc (cN eu M6 (bN hs)) (h H Z σ ts vs _ S fun v H1 Z1 z1 k1 S1 r1 => r H1 Z1 σ ts vs _ S1 fun us H2 Z2 v2 z2 k2 S2 r2 => k (v :: us) H2 Z2 v2 (z1.trans z2) (k1.trans k2) S2 (.cons (r1.mono k2) r2))
variable {A : Type} {k n : Nat} {arg : A -> List D} {Pre : A -> Prop} {x c m f : Str}
theorem mkP {res : A -> List (Str × T)} (a : V -> A) {EC M7 : List (Str × T)} (F : Fm X CL x k n arg Pre res) (hg : Gl X x) (h : PAv X CL b (e :: es) δ dv t δ1) (ha : ∀ v, arg (a v) = dv v) (hp : ∀ v, Pre (a v)) (hr : ∀ v, res (a v) = EC ++ (f, .sh (.val v)) :: M7) (hc : T.bS EC = true) (Ej : T.bS M7 = true) (hn : ∀ v, (arg (a v)).length + 1 = n := by exact fun _ => rfl)
   (vD : (x == ("__debug__" : Str)) = false := by decide) (he : starEach (e :: es) X.env = (false, eval e X.env) :: starEach es X.env := by exact bN rfl) (hpl : (backTo pos (starEach es X.env)).any (·.1) = false := by rfl) :
   cC X CL b (.Call (.Name x pp) (e :: es) [] pos) δ (.ins x (EC ++ (f, t) :: M7)) δ1 := fun H Z σ ts vs Q S kk => by
 obtain ⟨f', fd, ps, M, F1, hm, hb⟩ := F.ex
 exact c6 (JB M F1 F.room hg hm hb .nil En M6 vD he hpl) (h H Z σ ts vs _ S fun us H1 Z1 v z1 k1 S1 r y dx hx hdx ne => by
   rw [ai6]
   refine ⟨H1, H1, a v, y, dx, us, rfl, hx, hdx, ne, rfl, .refl _, fun _ _ q _ => q, by rw [ha]; exact r, hn v, hp v, S1.Le, fun H' W' fp hh ww wh nw tp rt nd own => ⟨rfl, ?_⟩⟩
   obtain ⟨Z', z', S'⟩ := S1.back hh S1.zh ww wh nw tp rt nd own (.inr (by rw [T.clean, hr]; exact T.w4 Ej hc))
   rw [hr] at S'
   exact kk _ H' Z' (z1.trans z') (k1.trans hh) S'.Tj)
end
section
variable {X : Cx}
end
section
variable {X : Cx} {CL : Str -> Addr} {b : Bx} {δ δ1 : List (Option T)} {e : Expr} {pos pp : Pos} {l : List Bool}
end
namespace Rv
theorem Lw : PySem.Slot "reversed" "__init__" "object.__init__" :=
 .of (owner := "object") (n := "__init__") (by rw [typeLookup_type, builtinLookup_eq_fast]; kernel_rfl) (by decide +kernel) (by decide +kernel) (by decide +kernel)
   (by first | exact .inl (by decide +kernel) | exact .inr (by decide +kernel)) (by rw [isSubtype_type]; kernel_rfl)
theorem called : TypeCalled "reversed" "reversed.__new__" "object.__init__" :=
 ⟨by decide +kernel, by decide +kernel, ⟨_, _, PySem.F.mro_reversed⟩, PySem.F.made_reversed, by decide +kernel, PySem.F.sub_reversed_self, Lw⟩
noncomputable def obj (t : Addr) (i : Int) : Obj := { cls := .type "reversed", data := .fields #[.ref t, rawInt i] }
noncomputable def Is (h : Heap) (a t : Addr) (i : Int) : Prop := ∃ o, h.get? a = some o /\ o.cls = .type "reversed" /\ o.data = .fields #[.ref t, rawInt i]
section
variable {prog : Program} {w : World} {A : Around} {E : Value -> Shared -> Prop} {s : Shared}
end
end Rv
namespace Rv
section
variable {prog : Program} {w : World} {A : Around} {E : Value -> Shared -> Prop} {s : Shared}
end
end Rv
section
variable {X : Cx} {tg : Expr}
end
section
variable {X : Cx} {CL : Str -> Addr} {b : Bx} {δ δ1 : List (Option T)} {e : Expr} {ds : List D} {tg : Expr} {pr pc : Pos}
end
section
variable {X : Cx} {CL : Str -> Addr} {b : Bx} {δ δ1 : List (Option T)} {e : Expr} {t : T} {tl Oo tt tt0 : List T} {D : c7} {pos pp pa pb : Pos}
variable {fG : List Stmt} {i i2 : Nat} {x y : Str} {DD : c7}
end
section
variable {X : Cx} {CL : Str -> Addr} {b : Bx} {δ δ1 : List (Option T)} {e : Expr} {ds : List D} {tg : Expr} {pr pc : Pos} {l : Bool}
end
section
variable {X : Cx} {CL : Str -> Addr} {b : Bx} {δ : List (Option T)}
noncomputable def constInt : Expr -> Option Int
 | .Constant (.int i) _ _ => some i
 | .UnaryOp .USub (.Constant (.int i) _ _) _ => some (-i)
 | _ => none
noncomputable def ud : List Expr -> Option (List Int)
 | [] => some []
 | e :: es => (constInt e).bind fun x => (ud es).map (x :: ·)
theorem Lx {e : Expr} {x : Int} (h : constInt e = some x) : cC X CL b e δ (.sh (.int x)) δ := by
 unfold constInt at h
 split at h
 . cases h; exact aj
 . cases h; exact qW (ah aj)
 . cases h
theorem EF {e : Expr} {x : Int} (h : constInt e = some x) : notStar e = true := by
 unfold constInt at h
 split at h
 . rfl
 . rfl
 . cases h
theorem BH : ∀ {es : List Expr} {l : List Int}, ud es = some l -> Lf X CL b es δ ((l.map D.int).map T.sh) δ
 | [], l, h => by
   have e : l = [] := (aiZ h).symm
   subst e
   exact cO
 | e :: es, l, h => by
   rw [ud] at h
   obtain ⟨x, hx, h⟩ := Option.bind_eq_some_iff.mp h
   obtain ⟨l', hl, rfl⟩ := Option.map_eq_some_iff.mp h
   exact bu (Lx hx) (BH hl) (bN (EF hx))
end
section
variable {K : PySem.W.Frag} {CL : Str -> Addr} {b : Bx} {H Z : Hp} {δ : List (Option T)} {σ : L2.St} {ts tl : List T} {vs : List V} {ds : List D} {us : List V}
end
section
variable {X : Cx} {CL : Str -> Addr} {b : Bx} {δ δ1 : List (Option T)} {e : Expr} {tl Oo : List T} {ds : List L3.D} {D : c7} {pos pp pa pb : Pos} {i : Nat} {x : Str} {fG : List Stmt}
end
section
variable {X : Cx} {CL : Str -> Addr} {b : Bx} {δ δ1 δ2 δ3 : List (Option T)} {e e1 e2 : Expr} {ds zm : List L3.D} {pos p2 : Pos}
theorem bX.OY {K : PySem.W.Frag} {H Z : Hp} {σ : L2.St} {ts : List T} {v : V} {vs : List V} {d : L3.D} (S : bX K CL b H Z δ σ (.sh d :: ts) (v :: vs)) : bR K CL Z d v := by
 obtain ⟨fp, gp, e0, r0, nd, ow⟩ := S.rep
 cases r0 with
 | cons q1 q2 =>
   cases q1 with
   | sh r => exact r
theorem OZ (h1 : cC X CL b e1 δ (.sh (.tup ds)) δ1) (h2 : cC X CL b e2 δ1 (.sh (.tup zm)) δ2) (n1 : ds ≠ []) (n2 : zm ≠ []) (hz : ds.length + zm.length <= sizeLine) :
   cC X CL b (.BinOp e1 .Add e2 pos) δ (.sh (.tup (ds ++ zm))) δ2 := fun H Z σ ts vs Q S k =>
 c6 (Ju R8 eu eu) (h1 H Z σ ts vs _ S fun v1 H1 Z1 z1 k1 S1 => h2 H1 Z1 σ _ _ _ S1 fun v2 H2 Z2 z2 k2 S2 => by
   have r2 := S2.OY
   have r1 := S2.pop.OY
   cases r1 with
   | tup Rz WL =>
     cases r2 with
     | tup hq2 Yy =>
       have e1 := WL.length
       have e2 := Yy.length
       refine ⟨_, _, _, _, rfl, rfl, aH.Lb S2.zh Rz, aH.Lb S2.zh hq2, fun z => n1 (akl (by rw [e1, z]; rfl)), by omega, fun z => absurd (akl (by rw [e2, z]; rfl)) n2, fun _ p hp => ?_⟩
       have rc := aK.app WL Yy
       obtain ⟨a, c, S4⟩ := (bX.uW rc S2.pop.pop).G7 (by simp [rc.length, e1, e2]) hp
       obtain ⟨Z5, z5, S5⟩ := S4.G5
       rw [T.dQ, jo] at S5
       exact k _ _ Z5 (z1.trans (z2.trans (a.trans z5))) (k1.trans (k2.trans c)) S5)
end
section
variable {a₀ xs : Array Keyed} {ι : Nat -> Nat} {n : Nat}
structure Tag (a₀ xs : Array Keyed) (ι : Nat -> Nat) (n : Nat) : Prop where
 pl : ∀ k, k < a₀.size -> xs[k]? = a₀[ι k]?
 lo : ∀ k, k < n -> ι k < n
 hi : ∀ k, n <= k -> ι k = k
noncomputable def n9 (xs : Array Keyed) (ι : Nat -> Nat) (n : Nat) : Prop := ∀ i j, i < j -> j < n -> PyProof.Rows.K xs i < PyProof.Rows.K xs j \/ (PyProof.Rows.K xs i = PyProof.Rows.K xs j /\ ι i < ι j)
noncomputable def zo (xs : Array Keyed) (ι : Nat -> Nat) (n : Nat) : Prop := ∀ i j, i < j -> j < n -> PyProof.Rows.K xs j < PyProof.Rows.K xs i \/ (PyProof.Rows.K xs j = PyProof.Rows.K xs i /\ ι j < ι i)
theorem Tag.grow (h : Tag a₀ xs ι n) : Tag a₀ xs ι (n + 1) := ⟨h.pl, fun k hk => by
   by_cases e : k < n
   . have := h.lo k e
     omega
   . have := h.hi k (by omega)
     omega, fun k hk => h.hi k (by omega)⟩
theorem Tag.aeM (h : Tag a₀ xs ι n) {m : Nat} (hm : n <= m) : Tag a₀ xs ι m := ⟨h.pl, fun k hk => by
   by_cases e : k < n
   . have := h.lo k e
     omega
   . have := h.hi k (by omega)
     omega, fun k hk => h.hi k (by omega)⟩
noncomputable def turned (ι : Nat -> Nat) (i j : Nat) : Nat -> Nat := fun k => if i <= k /\ k < j then ι (i + j - 1 - k) else ι k
theorem Tag.turn (h : Tag a₀ xs ι n) {i j : Nat} (hj : j <= n) (hn : n <= a₀.size) (hs : xs.size = a₀.size) : Tag a₀ (mirror xs i j ((j - i) / 2)) (turned ι i j) n := by
 refine ⟨fun k hk => ?_, fun k hk => ?_, fun k hk => ?_⟩
 . rw [getElem?_mirror_all (by omega)]
   unfold turned
   split
   . exact h.pl _ (by omega)
   . exact h.pl _ hk
 . unfold turned
   split
   . exact h.lo _ (by omega)
   . exact h.lo _ hk
 . unfold turned
   rw [aiG (by omega)]
   exact h.hi k hk
noncomputable def Ly (ι : Nat -> Nat) (k l : Nat) : Nat -> Nat := fun p => if p = l then ι k else if l < p /\ p <= k then ι (p - 1) else ι p
theorem Tag.sink (h : Tag a₀ xs ι n) {l : Nat} (hl : l <= n) (hn : n < a₀.size) (hs : xs.size = a₀.size) : Tag a₀ (bubble xs n (n - l)) (Ly ι n l) (n + 1) := by
 have hg := h.grow
 refine ⟨fun k hk => ?_, fun k hk => ?_, fun k hk => ?_⟩
 . rw [getElem?_bubble (by omega) (n - l) (by omega), show n - (n - l) = l by omega]
   unfold Ly
   split
   . exact h.pl _ (by omega)
   . split
     . exact h.pl _ (by omega)
     . exact h.pl _ hk
 . unfold Ly
   split
   . exact hg.lo _ (by omega)
   . split
     . exact hg.lo _ (by omega)
     . exact hg.lo _ hk
 . unfold Ly
   rw [aiG (by omega), aiG (by omega)]
   exact hg.hi k hk
theorem n9.le (h : n9 xs ι n) {i j : Nat} (EG : i <= j) (hj : j < n) : PyProof.Rows.K xs i <= PyProof.Rows.K xs j := by
 by_cases e : i = j
 . subst e; exact Int.le_refl _
 . rcases h i j (by omega) hj with z | z <;> omega
end
section
variable {prog : Program} {w : World} {A : Around} {E : Value -> Shared -> Prop} {s : Shared} {a₀ : Array Keyed}
theorem EH {st : SortSt} {ι : Nat -> Nat} {a f7 : Nat} {Q : AscSt -> SortSt -> Prop} (h0 : IntKeys a₀) (hn : f7 <= a₀.size) (ha : 1 <= a) (han : a <= f7) (hB : SBase a₀ st)
   (ht : Tag a₀ (arrOf st) ι a) (hs : n9 (arrOf st) ι a)
   (h : ∀ n, a <= n -> n <= f7 -> Tag a₀ (arrOf st) ι n -> n9 (arrOf st) ι n -> (n = f7 \/ PyProof.Rows.K (arrOf st) n < PyProof.Rows.K (arrOf st) (n - 1)) -> Q (none, n) st) :
   wpS (model prog w) A E s (ascLoop a f7) Q st := by
 unfold ascLoop
 refine akw (I := fun x c z => z = st /\ c = (none, x) /\ Tag a₀ (arrOf st) ι x /\ n9 (arrOf st) ι x) ?one ?all ⟨rfl, rfl, ht, hs⟩
 case all =>
   rintro c z ⟨rfl, rfl, t, o⟩
   have e : max a f7 = f7 := by omega
   rw [e] at t o ⊢
   exact h f7 han (aiH _) t o (.inl rfl)
 case one =>
   rintro x c z hax hxn ⟨rfl, rfl, t, o⟩
   dsimp only
   refine ajv (wpS_ltK hB h0 (by omega) (by omega) ?_)
   by_cases hl : PyProof.Rows.K (arrOf z) x < PyProof.Rows.K (arrOf z) (x - 1)
   . simp only [hl, decide_true, akm]
     exact ajN (h x hax (by omega) t o (.inr hl))
   . simp only [hl, decide_false, ajz, aka]
     refine ajN ⟨rfl, rfl, t.grow, fun i j EG hj => ?_⟩
     by_cases hjx : j < x
     . exact o i j EG hjx
     . have e : j = x := by omega
       subst e
       have q := o.le (i := i) (j := j - 1) (by omega) (by omega)
       have l1 := t.lo i EG
       have l2 := t.hi j (aiH _)
       omega
theorem EI {st : SortSt} {ι : Nat -> Nat} {n f7 : Nat} {Q : Option Nat -> SortSt -> Prop} (h0 : IntKeys a₀) (hn : f7 <= a₀.size) (h1 : 1 <= n) (Tp : n <= f7) (hB : SBase a₀ st)
   (ht : Tag a₀ (arrOf st) ι n) (hs : zo (arrOf st) ι n)
   (h : ∀ m z κ, SBase a₀ z -> 1 <= m -> m <= f7 -> Tag a₀ (arrOf z) κ m -> n9 (arrOf z) κ m -> Q (some m) z) :
   wpS (model prog w) A E s (tail3 n f7) Q st := by
 unfold tail3
 have hz : n <= (arrOf st).size := by rw [hB.size]; omega
 have hB2 : SBase a₀ (setArr st (mirror (arrOf st) 0 n ((n - 0) / 2))) := hB.setArr (mirror_perm _ _ _ _)
 refine ajv (wpS_reverse ?_)
 refine ajv (EH (ι := turned ι 0 n) h0 hn h1 Tp hB2 (ht.turn (aiH _) (by omega) hB.size) ?_ fun m m1 m2 t o _ => ajN (h m _ _ hB2 (by omega) m2 t o))
 intro i j EG hj
 show PyProof.Rows.K (mirror (arrOf st) 0 n ((n - 0) / 2)) i < PyProof.Rows.K (mirror (arrOf st) 0 n ((n - 0) / 2)) j \/ _
 rw [K_mirror hz, K_mirror hz, aiI (by omega), aiI (by omega)]
 unfold turned
 rw [aiI (by omega), aiI (by omega)]
 exact hs _ _ (by omega) (by omega)
structure vI (xs : Array Keyed) (ι : Nat -> Nat) (p x : Nat) : Prop where
 f : zo xs ι p
 l : ∀ i j, i < p -> p <= j -> j < x -> PyProof.Rows.K xs j < PyProof.Rows.K xs i
 e : ∀ i j, p <= i -> i < j -> j < x -> PyProof.Rows.K xs i = PyProof.Rows.K xs j /\ ι i < ι j
theorem vI.one {xs : Array Keyed} {ι : Nat -> Nat} {p : Nat} (h : vI xs ι p (p + 1)) : zo xs ι (p + 1) := fun i j EG hj => by
 by_cases e : j < p
 . exact h.f i j EG e
 . exact .inl (h.l i j (by omega) (by omega) hj)
theorem vI.turn {xs : Array Keyed} {ι : Nat -> Nat} {p x : Nat} (h : vI xs ι p x) (hx : x <= xs.size) : zo (mirror xs p x ((x - p) / 2)) (turned ι p x) x := by
 intro i j EG hj
 rw [K_mirror hx, K_mirror hx]
 unfold turned
 by_cases hi : p <= i
 . rw [aiI (by omega), aiI (by omega), aiI (by omega), aiI (by omega)]
   have q := h.e (p + x - 1 - j) (p + x - 1 - i) (by omega) (by omega) (by omega)
   exact .inr ⟨q.1, q.2⟩
 . rw [aiG (show ¬ (p <= i /\ i < x) by omega), aiG (show ¬ (p <= i /\ i < x) by omega)]
   by_cases hjp : p <= j
   . rw [aiI (by omega), aiI (by omega)]
     exact .inl (h.l _ _ (by omega) (by omega) (by omega))
   . rw [aiG (by omega), aiG (by omega)]
     exact h.f i j EG (by omega)
theorem zo.le {xs : Array Keyed} {ι : Nat -> Nat} {n : Nat} (h : zo xs ι n) {i j : Nat} (EG : i <= j) (hj : j < n) : PyProof.Rows.K xs j <= PyProof.Rows.K xs i := by
 by_cases e : i = j
 . subst e; exact Int.le_refl _
 . rcases h i j (by omega) hj with z | z <;> omega
theorem zo.half {xs : Array Keyed} {ι : Nat -> Nat} {x : Nat} (h : zo xs ι x) (hx : 0 < x) (hl : PyProof.Rows.K xs x < PyProof.Rows.K xs (x - 1)) : vI xs ι x (x + 1) :=
 ⟨h, fun i j hi h1 h2 => by
   have e : j = x := by omega
   subst e
   have := h.le (i := i) (j := j - 1) (by omega) (by omega)
   omega, fun i j h1 h2 h3 => by omega⟩
theorem Lz {st : SortSt} {ι : Nat -> Nat} {n f7 : Nat} {Q : DescSt -> SortSt -> Prop} (h0 : IntKeys a₀) (hn : f7 <= a₀.size) (Tp : n + 1 <= f7) (hB : SBase a₀ st)
   (ht : Tag a₀ (arrOf st) ι (n + 1)) (hs : vI (arrOf st) ι n (n + 1))
   (h : ∀ m y9 z κ, SBase a₀ z -> n + 1 <= m -> m <= f7 -> y9 + 1 <= m -> Tag a₀ (arrOf z) κ m -> vI (arrOf z) κ (m - (y9 + 1)) m -> Q (none, m, y9) z) :
   wpS (model prog w) A E s (descLoop (n + 1) f7) Q st := by
 unfold descLoop
 refine akw (I := fun x c z => ∃ y9 κ, c = (none, x, y9) /\ SBase a₀ z /\ y9 + 1 <= x /\ Tag a₀ (arrOf z) κ x /\ vI (arrOf z) κ (x - (y9 + 1)) x) ?one ?all ⟨0, ι, rfl, hB, by omega, ht, hs⟩
 case all =>
   rintro c z ⟨y9, κ, rfl, b2, q, t, o⟩
   have e : max (n + 1) f7 = f7 := by omega
   rw [e] at q t o ⊢
   exact h f7 y9 z κ b2 Tp (aiH _) q t o
 case one =>
   rintro x c z hax hxn ⟨y9, κ, rfl, b2, q, t, o⟩
   dsimp only
   have hz : x <= (arrOf z).size := by rw [b2.size]; omega
   refine ajv (wpS_ltK b2 h0 (by omega) (by omega) ?_)
   by_cases hl : PyProof.Rows.K (arrOf z) x < PyProof.Rows.K (arrOf z) (x - 1)
   . simp only [hl, decide_true, akm]
     by_cases hq : y9 > 0
     . rw [aiI hq]
       have hm : ∀ k, PyProof.Rows.K (mirror (arrOf z) (x - (y9 + 1)) x ((x - (x - (y9 + 1))) / 2)) k = PyProof.Rows.K (arrOf z) k := K_mirror_equal hz fun k k1 k2 => by
         by_cases e : k = x - 1
         . rw [e]
         . exact (o.e k (x - 1) k1 (by omega) (by omega)).1
       refine ajv (wpS_reverse (ajN ⟨0, turned κ (x - (y9 + 1)) x, rfl, b2.setArr (mirror_perm _ _ _ _), by omega, (t.turn (aiH _) (by omega) b2.size).grow, ?_⟩))
       have hf := o.turn hz
       refine hf.half (by omega) ?_
       rw [hm, hm]
       exact hl
     . rw [aiG hq]
       have e0 : y9 = 0 := by omega
       subst e0
       obtain ⟨y, rfl⟩ : ∃ y, x = y + 1 := ⟨x - 1, by omega⟩
       have hf : zo (arrOf z) κ (y + 1) := vI.one o
       exact ajN ⟨0, κ, rfl, b2, by omega, t.grow, hf.half (by omega) hl⟩
   . simp only [hl, decide_false, ajz, aka]
     refine ajv (wpS_ltK b2 h0 (by omega) (by omega) ?_)
     by_cases hg : PyProof.Rows.K (arrOf z) (x - 1) < PyProof.Rows.K (arrOf z) x
     . simp only [hg, decide_true, akm]
       exact ajN (h x y9 z κ b2 hax (by omega) q t o)
     . simp only [hg, decide_false, ajz, aka]
       have he : PyProof.Rows.K (arrOf z) x = PyProof.Rows.K (arrOf z) (x - 1) := Int.le_antisymm (Int.not_lt.mp hg) (Int.not_lt.mp hl)
       refine ajN ⟨y9 + 1, κ, rfl, b2, by omega, t.grow, ?_⟩
       rw [show x + 1 - (y9 + 1 + 1) = x - (y9 + 1) by omega]
       refine ⟨o.f, fun i j hi h1 h2 => ?_, fun i j h1 h2 h3 => ?_⟩
       . by_cases e : j = x
         . rw [e, he]
           exact o.l i (x - 1) hi (by omega) (by omega)
         . exact o.l i j hi h1 (by omega)
       . by_cases e : j = x
         . subst e
           have l1 := t.lo i h2
           have l2 := t.hi j (aiH _)
           refine ⟨?_, by omega⟩
           rw [he]
           by_cases e2 : i = j - 1
           . rw [e2]
           . exact (o.e i (j - 1) h1 (by omega) (by omega)).1
         . exact o.e i j h1 h2 (by omega)
theorem AF {st : SortSt} {ι : Nat -> Nat} {n f7 : Nat} {Q : Option Nat -> SortSt -> Prop} (h0 : IntKeys a₀) (hn : f7 <= a₀.size) (Tp : n + 1 <= f7) (hB : SBase a₀ st)
   (ht : Tag a₀ (arrOf st) ι (n + 1)) (hs : vI (arrOf st) ι n (n + 1))
   (h : ∀ m z κ, SBase a₀ z -> 1 <= m -> m <= f7 -> Tag a₀ (arrOf z) κ m -> n9 (arrOf z) κ m -> Q (some m) z) :
   wpS (model prog w) A E s (descPart n f7) Q st := by
 unfold descPart
 refine ajv (wpS_lift (wpAny_rule ⟨rfl, ?_⟩))
 refine ajv (Lz h0 hn Tp hB ht hs fun m y9 z κ b2 m1 m2 q t o => ?_)
 dsimp only
 have hz : m <= (arrOf z).size := by rw [b2.size]; omega
 by_cases hq : y9 > 0
 . rw [aiI hq]
   exact ajv (wpS_reverse (EI h0 hn (by omega) m2 (b2.setArr (mirror_perm _ _ _ _)) (t.turn (aiH _) (by omega) b2.size) (o.turn hz) h))
 . rw [aiG hq]
   have e0 : y9 = 0 := by omega
   subst e0
   obtain ⟨y, rfl⟩ : ∃ y, m = y + 1 := ⟨m - 1, by omega⟩
   exact EI h0 hn (by omega) m2 b2 t (vI.one o) h
theorem O1 {st : SortSt} {f7 : Nat} {Q : Option Nat -> SortSt -> Prop} (h0 : IntKeys a₀) (hn : f7 <= a₀.size) (h1 : 1 <= f7) (hB : SBase a₀ st) (ht : Tag a₀ (arrOf st) id 0)
   (h : ∀ m z κ, SBase a₀ z -> 1 <= m -> m <= f7 -> Tag a₀ (arrOf z) κ m -> n9 (arrOf z) κ m -> Q (some m) z) :
   wpS (model prog w) A E s (countRun' 0 f7) Q st := by
 rw [countRun0_eq]
 refine ajv (EH (ι := id) h0 hn (aiH 1) h1 hB (ht.aeM (by omega)) (fun i j EG hj => by omega) fun n n1 n2 t o hor => ?_)
 dsimp only
 by_cases Tp : n = f7
 . rw [if_pos (by simpa using Tp)]
   exact ajN (h n st id hB n1 n2 t o)
 . rw [if_neg (by simpa using Tp)]
   have rY := hor.resolve_left Tp
   have hz : n <= (arrOf st).size := by rw [hB.size]; omega
   by_cases hgt : n > 1
   . rw [aiI hgt]
     refine ajv (wpS_ltK hB h0 (by omega) (by omega) ?_)
     by_cases hr : PyProof.Rows.K (arrOf st) 0 < PyProof.Rows.K (arrOf st) (n - 1)
     . simp only [hr, decide_true, akm]
       exact ajN (h n st id hB n1 n2 t o)
     . simp only [hr, decide_false, ajz, aka]
       have RA : ∀ k, 0 <= k -> k < n -> PyProof.Rows.K (arrOf st) k = PyProof.Rows.K (arrOf st) (n - 1) := fun k _ hk => by
         have a1 := o.le (i := 0) (j := k) (by omega) hk
         have a2 := o.le (i := k) (j := n - 1) (by omega) (by omega)
         omega
       have hm := K_mirror_equal (i := 0) hz RA
       refine ajv (wpS_reverse (AF (ι := turned id 0 n) h0 hn (by omega) (hB.setArr (mirror_perm _ _ _ _)) (t.turn (aiH _) (by omega) hB.size).grow ?_ h))
       have hh : vI (arrOf st) id 0 n := ⟨fun i j _ hj => by omega, fun i j hi => by omega, fun i j i1 i2 i3 => ⟨by rw [RA i (by omega) (by omega), RA j (by omega) i3], i2⟩⟩
       refine (hh.turn hz).half (by omega) ?_
       rw [hm, hm]
       exact rY
   . rw [aiG hgt]
     have e1 : n = 1 := by omega
     subst e1
     exact AF h0 hn (by omega) hB t.grow ((show zo (arrOf st) id 1 from fun i j EG hj => by omega).half (by omega) rY) h
theorem YR {l r k x : Nat} (h1 : l <= r) (h2 : r <= k) (h3 : r - l <= k - x) (h4 : ¬ l ≥ r) : l <= (l + r) / 2 /\ (l + r) / 2 <= k /\ (l + r) / 2 - l <= k - (x + 1) /\ (l + r) / 2 + 1 <= r /\ r - ((l + r) / 2 + 1) <= k - (x + 1) /\ (l + r) / 2 < k := by
 have a : l <= (l + r) / 2 := by omega
 have b : (l + r) / 2 < r := by omega
 generalize (l + r) / 2 = m at a b
 clear h1
 refine ⟨a, ?_, ?_, b, ?_, ?_⟩ <;> omega
theorem O2 {st : SortSt} {ι : Nat -> Nat} {n ok : Nat} {Q : Bool -> SortSt -> Prop} (h0 : IntKeys a₀) (hn : n <= a₀.size) (dw : ok <= n) (ho1 : 1 <= ok) (hB : SBase a₀ st) (ht : Tag a₀ (arrOf st) ι ok) (hs : n9 (arrOf st) ι ok)
   (h : ∀ z κ, SBase a₀ z -> Tag a₀ (arrOf z) κ n -> n9 (arrOf z) κ n -> Q true z) : wpS (model prog w) A E s (binarySort' 0 n ok) Q st := by
 rw [binarySort'_eq]
 simp only [Nat.zero_add]
 refine ajv (wpS_mono (akw (I := fun k c z => c = (none, ()) /\ SBase a₀ z /\ ∃ κ, Tag a₀ (arrOf z) κ k /\ n9 (arrOf z) κ k)
   (Q := fun c z => c = (none, ()) /\ SBase a₀ z /\ ∃ κ, Tag a₀ (arrOf z) κ n /\ n9 (arrOf z) κ n) ?one ?all ?new) ?post)
 case post =>
   rintro c z ⟨rfl, b2, κ, t, o⟩
   exact ajN (h z κ b2 t o)
 case new =>
   rw [show max ok 1 = ok by omega]
   exact ⟨rfl, hB, ι, ht, hs⟩
 case all =>
   rintro c z ⟨hc, b2, κ, t, o⟩
   rw [show max (max ok 1) n = n by omega] at t o
   exact ⟨hc, b2, κ, t, o⟩
 case one =>
   rintro k c z RB hkn ⟨rfl, b2, κ, t, o⟩
   have hk : k < a₀.size := by omega
   refine ajv (wpS_mono (akw (I := fun x c y => y = z /\ ∃ l r, c = (none, l, r) /\ l <= r /\ r <= k /\ r - l <= k - x /\ (∀ i, i < l -> PyProof.Rows.K (arrOf z) i <= PyProof.Rows.K (arrOf z) k) /\ (∀ i, r <= i -> i < k -> PyProof.Rows.K (arrOf z) k < PyProof.Rows.K (arrOf z) i))
     (Q := fun c y => y = z /\ ∃ l r, c = (none, l, r) /\ l <= k /\ (∀ i, i < l -> PyProof.Rows.K (arrOf z) i <= PyProof.Rows.K (arrOf z) k) /\ (∀ i, l <= i -> i < k -> PyProof.Rows.K (arrOf z) k < PyProof.Rows.K (arrOf z) i)) ?two ?fin ?beg) ?aft)
   case beg => exact ⟨rfl, 0, k, rfl, by omega, by omega, by omega, fun i hi => by omega, fun i g1 g2 => by omega⟩
   case fin =>
     rintro c y ⟨rfl, l, r, rfl, g1, g2, g3, g4, g5⟩
     have e : l = r := by omega
     subst e
     exact ⟨rfl, l, l, rfl, g2, g4, g5⟩
   case two =>
     rintro x c y _ hxk ⟨rfl, l, r, rfl, g1, g2, g3, g4, g5⟩
     dsimp only
     by_cases hge : l ≥ r
     . rw [aiI hge]
       have e : l = r := by omega
       subst e
       exact ajN ⟨rfl, l, l, rfl, g2, g4, g5⟩
     . rw [aiG hge]
       have M := YR g1 g2 g3 hge
       refine ajv (wpS_ltK b2 h0 hk (Nat.lt_trans M.2.2.2.2.2 hk) ?_)
       by_cases hl : PyProof.Rows.K (arrOf y) k < PyProof.Rows.K (arrOf y) ((l + r) / 2)
       . simp only [hl, decide_true, akm]
         exact ajN ⟨rfl, l, (l + r) / 2, rfl, M.1, M.2.1, M.2.2.1, g4, fun i i1 i2 => Int.lt_of_lt_of_le hl (o.le i1 i2)⟩
       . simp only [hl, decide_false, ajz, aka]
         exact ajN ⟨rfl, (l + r) / 2 + 1, r, rfl, M.2.2.2.1, g2, M.2.2.2.2.1, fun i i1 => Int.le_trans (o.le (i := i) (j := (l + r) / 2) (Nat.lt_succ_iff.mp i1) M.2.2.2.2.2) (Int.not_lt.mp hl), g5⟩
   case aft =>
     rintro c y ⟨rfl, l, r, rfl, g2, g4, g5⟩
     show wpS _ _ _ _ (do moveDown' k l; pure (ForInStep.yield (none, ()))) _ _
     rw [moveDown'_eq]
     have hks : k < (arrOf y).size := by rw [b2.size]; exact hk
     refine ajv (wpS_modify (ajN ⟨rfl, b2.setArr (bubble_perm _ _ _), Ly κ k l, t.sink g2 hk b2.size, ?_⟩))
     intro i j EG hj
     show PyProof.Rows.K (bubble (arrOf y) k (k - l)) i < PyProof.Rows.K (bubble (arrOf y) k (k - l)) j \/ (PyProof.Rows.K (bubble (arrOf y) k (k - l)) i = PyProof.Rows.K (bubble (arrOf y) k (k - l)) j /\ _)
     rw [K_bubble hks (by omega), K_bubble hks (by omega), show k - (k - l) = l by omega]
     unfold Ly
     have tk := t.hi k (aiH _)
     by_cases ei : i = l
     . rw [aiI ei, aiI ei, aiG (show ¬ j = l by omega), aiG (show ¬ j = l by omega), aiI (by omega), aiI (by omega)]
       exact .inl (g5 _ (by omega) (by omega))
     . rw [aiG ei, aiG ei]
       by_cases ej : j = l
       . rw [aiI ej, aiI ej, aiG (by omega), aiG (by omega)]
         have := g4 i (by omega)
         have := t.lo i (by omega)
         omega
       . rw [aiG ej, aiG ej]
         by_cases hi : l < i /\ i <= k
         . rw [aiI hi, aiI hi, aiI (by omega), aiI (by omega)]
           exact o _ _ (by omega) (by omega)
         . rw [aiG hi, aiG hi]
           by_cases hj2 : l < j /\ j <= k
           . rw [aiI hj2, aiI hj2]
             exact o _ _ (by omega) (by omega)
           . rw [aiG hj2, aiG hj2]
             exact o _ _ (by omega) (by omega)
noncomputable def O4 (a₀ : Array Keyed) (st : SortSt) : Prop := failedOf st = none /\ pendingOf st = #[(0, a₀.size, 0)] /\ ∃ κ, Tag a₀ (arrOf st) κ a₀.size /\ n9 (arrOf st) κ a₀.size /\ (arrOf st).size = a₀.size
theorem WT {st : SortSt} {κ : Nat -> Nat} (hB : SBase a₀ st) (t : Tag a₀ (arrOf st) κ a₀.size) (o : n9 (arrOf st) κ a₀.size) : O4 a₀ (setPending st ((pendingOf st).push (0, a₀.size, 0))) :=
 ⟨hB.failed, by show (pendingOf st).push _ = _; rw [hB.pend]; rfl, κ, t, o, hB.size⟩
theorem LC {st : SortSt} {Q : Unit -> SortSt -> Prop} (h0 : IntKeys a₀) (hB : SBase a₀ st) (ht : Tag a₀ (arrOf st) id 0) (h2 : 2 <= a₀.size) (WU : a₀.size < 64)
   (h : ∀ z κ, failedOf z = none -> Tag a₀ (arrOf z) κ a₀.size -> n9 (arrOf z) κ a₀.size -> (arrOf z).size = a₀.size -> Q () z) : wpS (model prog w) A E s sortRuns' Q st := by
 rw [sortRuns'_eq]
 refine ajv (wpS_get ?_)
 dsimp only
 have hmr : minRun' a₀.size a₀.size 0 = a₀.size := by
   obtain ⟨f, hf⟩ : ∃ f, a₀.size = f + 1 := ⟨a₀.size - 1, by omega⟩
   have q : minRun' (f + 1) a₀.size 0 = a₀.size := by
     rw [minRun'_succ, aiI WU]
     rfl
   rwa [← hf] at q
 rw [hB.size, hmr]
 refine ajv (wpS_mono (akw (I := fun x c z => (x = 0 /\ c = (none, 0) /\ SBase a₀ z /\ Tag a₀ (arrOf z) id 0) \/ (1 <= x /\ c = (none, a₀.size) /\ O4 a₀ z))
   (Q := fun c z => c = (none, a₀.size) /\ O4 a₀ z) ?one ?all (.inl ⟨rfl, rfl, hB, ht⟩)) ?aft)
 case all =>
   rintro c z (⟨hx, _⟩ | ⟨_, hc, hD⟩)
   . omega
   . exact ⟨hc, hD⟩
 case one =>
   rintro x c z _ hx (⟨rfl, rfl, b2, t0⟩ | ⟨hx1, rfl, hD⟩)
   . dsimp only
     rw [aiG (by omega)]
     rw [Nat.sub_zero, Nat.min_self, Nat.zero_add]
     refine ajv (O1 h0 (aiH _) (by omega) b2 t0 fun m z2 κ b3 m1 m2 t o => ?_)
     dsimp only
     by_cases hl : m < a₀.size
     . rw [aiI hl]
       refine ajv (wpS_lift (wpAny_rule ⟨rfl, ?_⟩))
       refine ajv (O2 h0 (aiH _) m2 m1 b3 t o fun z3 κ3 b4 t4 o4 => ?_)
       simp only [Bool.not_true, ajz, aka]
       refine ajv (wpS_get ?_)
       have hb : (pendingOf z3).back? = none := by rw [b4.pend]; rfl
       rw [hb]
       dsimp only
       exact ajv (wpS_modify (ajN (.inr ⟨by omega, by first | rfl | rw [Nat.zero_add], WT b4 t4 o4⟩)))
     . rw [aiG hl]
       have hm : m = a₀.size := by omega
       subst hm
       refine ajv (wpS_get ?_)
       have hb : (pendingOf z2).back? = none := by rw [b3.pend]; rfl
       rw [hb]
       dsimp only
       exact ajv (wpS_modify (ajN (.inr ⟨by omega, by first | rfl | rw [Nat.zero_add], WT b3 t o⟩)))
   . dsimp only
     rw [aiI (aiH _)]
     exact ajN ⟨rfl, hD⟩
 case aft =>
   rintro c z ⟨rfl, hD⟩
   dsimp only
   refine ajv (wpS_mono (akw (I := fun _ c y => y = z /\ c = (none, ())) (Q := fun c y => y = z /\ c = (none, ())) ?_ (fun _ _ q => q) ⟨rfl, rfl⟩) ?_)
   . rintro x c y _ _ ⟨rfl, rfl⟩
     refine ajv (wpS_get ?_)
     rw [aiI (by rw [hD.2.1]; exact aiH 1)]
     exact ajN ⟨rfl, rfl⟩
   . rintro c y ⟨rfl, rfl⟩
     obtain ⟨κ, t, o, z1⟩ := hD.2.2
     exact ajN (h _ κ hD.1 t o z1)
end
section
variable {X : Cx}
end
section
variable {X : Cx} {CL : Str -> Addr} {b : Bx} {δ δ1 : List (Option T)} {e : Expr} {pos pp p1 p2 : Pos} {kj : Nat}
end
section
variable {X : Cx} {i : Nat} {x : Str}
theorem mkL (hi : X.N[i]? = some x) (h : X.env.scope.names.lookup x = some .local) (hf : X.fn x = true) (hd : (x == ("__debug__" : Str)) = false := by decide) (hc : (x == ("__classdict__" : Str)) = false := by decide) : Ln X i x := ⟨⟨hi, .inl h, hd, hc⟩, .inl h, .inl hf⟩
theorem mkC (hi : X.N[i]? = some x) (h : X.env.scope.names.lookup x = some .cell) (hf : X.fn x = true) (hd : (x == ("__debug__" : Str)) = false := by decide) (hc : (x == ("__classdict__" : Str)) = false := by decide) : Ln X i x := ⟨⟨hi, .inr (.inl h), hd, hc⟩, .inr h, .inl hf⟩
end
theorem cT {P : Program} {w : World} {K : PySem.W.Frag} {mg : Str -> Option Value} {base : Heap} {k : Nat} {f : Addr} {fd : FuncData} {ps : List Str} {sp : Sp} {x : Str} (G : ck P w K mg base gO k f fd ps sp) (m : mg x = some (.ref f)) (q : PySem.W.keepIn K (.ref f) = true) (b : Binds K fd ps []) :
   ∃ f fd ps, ck P w K mg base gO k f fd ps sp /\ mg x = some (.ref f) /\ PySem.W.keepIn K (.ref f) = true /\ Binds K fd ps [] := ⟨_, _, _, G, m, q, b⟩
section
variable {X : Cx} {CL : Str -> Addr} {b : Bx} {δ δ1 δc : List (Option T)} {scope : Scope} {y : Str} {Nc : List Str} {ix : List Nat} {elt iter : Expr} {ifs : List Expr} {px pc pos : Pos} {p : L3.D -> Bool} {g : L3.D -> T} {ds : List L3.D}
theorem aci (sc : gI X scope y Nc ix) : n8 X scope [y] Nc ix := ⟨sc.kind, sc.t6, sc.nd, sc.names, (fun x hx => by rw [ajb] at hx; subst hx; exact sc.own), sc.frees, sc.hd, sc.WK⟩
theorem acj (sc : gI X scope y Nc ix) (h : Block X CL scope Nc ifs elt δc ds p g) (h1 : (y == ("__debug__" : Str)) = false) (h2 : (y == ("__classdict__" : Str)) = false) : ua X CL scope Nc [y].length (.Name y px) part1 ifs elt δc ds p g := fun C s0 H0 f0 b' =>
 ⟨OG (i := 0) sc.nd (YL (by rw [sc.hd]; rfl) sc.own h1 h2), fun d hd => ⟨[d], rfl, rfl, (h C s0 H0 f0 b' d hd).1, (h C s0 H0 f0 b' d hd).2⟩⟩
theorem sy (sc : gI X scope y Nc ix) (hc : X.calm = true) (h : Sx X CL b (.Name y px) iter δ ds δ1) (hb : (δc = zk δ1 ix /\ ∀ d ∈ ds, (g d).clean = true) \/ δc = Et δ1 ix) (inner : Block X CL scope Nc ifs elt δc ds p g) (hlen : ds.length <= sizeLine)
   (hs : ∀ x, foldedSetIterable iter X.env x = pure x := by intro _; rfl) (h1 : (y == ("__debug__" : Str)) = false := by decide) (h2 : (y == ("__classdict__" : Str)) = false := by decide) : cC X CL b (.ListComp elt [⟨.Name y px, iter, ifs, 0⟩] scope pos) δ (.lst ((ds.filter p).map g)) δ1 :=
 EB (xs := [y]) (aci sc) hc (WN h) hb (acj sc inner h1 h2) hlen hs
theorem qY {D : c7} {fG : List Stmt} {i : Nat} {x : Str} {pos' : Pos} {gg : L3.D -> T} (g : Gx X) (n : Ln X i x) (sc : gI X scope y Nc ix) (h : Sx X CL b (.Name y px) iter δ ds δ1) (hb : (δc = zk δ1 ix /\ ∀ d ∈ ds, (gg d).clean = true) \/ δc = Et δ1 ix) (inner : Block X CL scope Nc ifs elt δc ds p gg)
   (hlen : ds.length <= sizeLine) (k : fq X CL b fG (δ1.set i (some (.lst ((ds.filter p).map gg)))) D) (hl : i < δ1.length)
   (Hf : swapsWith (.ListComp elt [⟨.Name y px, iter, ifs, 0⟩] scope pc) (some (.Name x pos')) pos.line X.env = pure true \/ swapsWith (.ListComp elt [⟨.Name y px, iter, ifs, 0⟩] scope pc) (some (.Name x pos')) pos.line X.env = pure false) (hs : ∀ x, foldedSetIterable iter X.env x = pure x := by intro _; rfl)
   (h1 : (y == ("__debug__" : Str)) = false := by decide) (h2 : (y == ("__classdict__" : Str)) = false := by decide) : fq X CL b (.Assign [.Name x pos'] (.ListComp elt [⟨.Name y px, iter, ifs, 0⟩] scope pc) pos :: fG) δ D :=
 YK (xs := [y]) g n (aci sc) (WN h) hb (acj sc inner h1 h2) hlen k hl Hf hs
end
section
variable {X : Cx} {CL : Str -> Addr} {b : Bx} {δ : List (Option T)} {i : Nat} {x : Str} {d : L3.D} {pos : Pos}
theorem aE (n : Ln X i x) (h : δ[i]? = some (some (.sh d)) := by rfl) : dz X CL b (.Name x pos) δ d δ := ah (v_ n.1 h)
end
structure cK (X : Cx) : Prop where
 g : Gx X
 u : X.A.units + 64 < cLine
noncomputable abbrev aD (X : Cx) (CL : Str -> Addr) (b : Bx) (st : Stmt) (N : List Str) (l : List L3.D) (r : T) : Prop := fq X CL b (gk st) (entry N l) { nx := fun _ => r = .sh .non, rt := fun Hq _ => Hq = r }
noncomputable abbrev av : NameKind := .globalImplicit
noncomputable abbrev au : NameKind := .local
theorem bq {N P : List Str} {sc : Scope} (h1 : sc.kind = .function := by rfl) (h2 : sc.isCoroutine = false := by rfl) (h3 : sc.isGenerator = false := by rfl) (h4 : N.Nodup := by decide +kernel) (h5 : N.take P.length = P := by rfl) (h6 : ∀ x ∈ P, sc.names.lookup x = some .local \/ sc.names.lookup x = some .cell := by decide +kernel) (h7 : ∀ y ∈ sc.names, y.2 ≠ .free := by decide +kernel) : aU N P sc := ⟨h1, h2, h3, h4, h5, h6, h7⟩
section
variable {X : Cx} {i : Nat} {x : Str} {tb : List (Str × NameKind)}
theorem bz (c : kM X.env.scope tb = true) (j : Nat) (hj : tb[j]? = some (x, .local) := by rfl) (hi : X.N[i]? = some x := by rfl) (hf : X.fn x = true := by rfl) (hd : (x == ("__debug__" : Str)) = false := by decide) (hc : (x == ("__classdict__" : Str)) = false := by decide) : Ln X i x := mkL hi (ef c j hj) hf hd hc
theorem LD (c : kM X.env.scope tb = true) (j : Nat) (hj : tb[j]? = some (x, .cell) := by rfl) (hi : X.N[i]? = some x := by rfl) (hf : X.fn x = true := by rfl) (hd : (x == ("__debug__" : Str)) = false := by decide) (hc : (x == ("__classdict__" : Str)) = false := by decide) : Ln X i x := mkC hi (ef c j hj) hf hd hc
theorem cj (c : kM X.env.scope tb = true) (j : Nat) (hj : tb[j]? = some (x, .globalImplicit) := by rfl) : Gl X x := ef c j hj
theorem cX {CL : Str -> Addr} {k n m : Nat} {A : Type} {arg : A -> List D} {Pre : A -> Prop} {res : A -> T} (F : ∃ f fd ps, ck X.prog X.w X.K X.mg X.base gO k f fd ps (kK X.K CL n arg Pre res) /\ X.mg x = some (.ref f) /\ PySem.W.keepIn X.K (.ref f) = true /\ Binds X.K fd ps []) (r : fF m X.A) (h : k <= m := by decide) : Fc X CL x k n arg Pre res := ⟨F, r.mono h⟩
end
section
variable {K : PySem.W.Frag} {CL : Str -> Addr} {b : Bx} {H H' Z Z' : Hp} {δ δ' : List (Option T)} {σ σ' : L2.St} {ts tl : List T} {vs us : List V} {t : T} {v : V} {y : Addr} {i : Nat}
end
section
variable {K : PySem.W.Frag} {CL : Str -> Addr} {b : Bx} {H Z : Hp} {σ : L2.St} {ts : List T} {vs : List V}
end
section
variable {X : Cx} {CL : Str -> Addr} {b : Bx} {δ δ1 δ2 : List (Option T)} {e : Expr} {es : List Expr} {t : T} {d : L3.D} {pos pp : Pos} {D : c7} {i : Nat} {x : Str} {is : List Nat} {fx : List Addr -> Prop} {al : List Addr -> List T} {y : Addr}
noncomputable def TEm (X : Cx) (CL : Str -> Addr) (b : Bx) (e : Expr) (δ : List (Option T)) (t : T) (δ' : List (Option T)) : Prop :=
 ∀ (H Z : Hp) (σ : L2.St) (ts : List T) (vs : List V) (Q : VK), bX X.K CL b H Z δ σ ts vs -> (∀ v H' Z', aH Z Z' -> bX X.K CL b H' Z' δ' σ (t :: ts) (v :: vs) -> Q v H') -> Bp X e σ H Q
theorem Tq (i : Nat) {x : Str} {pos' : Pos} (h : TEm X CL b e δ t δ1) (k : D.nx (δ1.set i (some t))) (hl : i < δ1.length := by decide) (hN : X.N.Nodup := by assumption) (hi : X.N[i]? = some x := by rfl) (hx : Loc X.env.scope x := by first | exact .inl rfl | exact .inr rfl)
   (hs : swapsWith e (some (.Name x pos')) pos.line X.env = pure false := by rfl) (hf : X.fn x = true \/ X.env.scope.names.lookup x = some .local := by first | exact .inl rfl | exact .inr rfl | assumption) : Ry X CL b (.Assign [.Name x pos'] e pos) δ D := fun H Z σ ts vs E S M =>
 tW (Nr hN hi hx eu hs hf) (h H Z σ ts vs _ S fun v H1 Z1 z1 S1 => M.nx _ _ H1 Z1 z1 (S1.set hl) k)
variable {fG : List Stmt}
theorem YS {pos' : Pos} (g : Gx X) (n : Ln X i x) (h : TEm X CL b e δ t δ1) (k : fq X CL b fG (δ1.set i (some t)) D) (hl : i < δ1.length := by exact aiJ rfl) (hs : swapsWith e (some (.Name x pos')) pos.line X.env = pure false := by rfl) :
   fq X CL b (.Assign [.Name x pos'] e pos :: fG) δ D := dG (Tq i h k hl g.nd n.hi n.loc hs n.hf)
end
section
variable {X : Cx} {CL : Str -> Addr} {b : Bx} {δ δ1 δ2 : List (Option T)} {e e2 : Expr} {t : T} {tl Oo Td : List T} {D : c7} {pos pp pa pb : Pos} {y : Addr} {fG : List Stmt}
section
variable {i : Nat} {x : Str}
end
end
noncomputable def mP {α : Type} (g : α -> Int) (x : α) : List α -> List α
 | [] => [x]
 | y :: l => if g x <= g y then x :: y :: l else y :: mP g x l
noncomputable def f9 {α : Type} (g : α -> Int) : List α -> List α
 | [] => []
 | x :: l => mP g x (f9 g l)
section
variable {α β : Type} {g : α -> Int}
theorem uf (x : α) : ∀ l, (mP g x l).Perm (x :: l)
 | [] => .refl _
 | y :: l => by
   rw [mP]
   split
   . exact .refl _
   . exact ((uf x l).cons y).trans (.swap x y l)
theorem qZ : ∀ l : List α, (f9 g l).Perm l
 | [] => .refl _
 | x :: l => (uf x (f9 g l)).trans ((qZ l).cons x)
theorem ug {l : List α} {x : α} : x ∈ f9 g l ↔ x ∈ l := (qZ l).mem_iff
theorem pQ (l : List α) : (f9 g l).length = l.length := (qZ l).length_eq
theorem EJ (f : β -> α) (x : β) : ∀ l, mP g (f x) (l.map f) = (mP (fun y => g (f y)) x l).map f
 | [] => rfl
 | y :: l => by
   rw [ai1, mP, mP]
   split
   . rfl
   . rw [ai1, EJ f x l]
theorem pR (f : β -> α) : ∀ l : List β, f9 g (l.map f) = (f9 (fun y => g (f y)) l).map f
 | [] => rfl
 | x :: l => by rw [ai1, f9, f9, pR f l, EJ]
noncomputable def Hr (g : Nat -> Int) (i j : Nat) : Prop := g i < g j \/ (g i = g j /\ i < j)
theorem Hr.trans {g : Nat -> Int} {i j k : Nat} (a : Hr g i j) (b : Hr g j k) : Hr g i k := by
 unfold Hr at *; omega
theorem Hr.irr {g : Nat -> Int} {i : Nat} (a : Hr g i i) : False := by unfold Hr at a; omega
theorem EK {g : Nat -> Int} {x : Nat} : ∀ {l : List Nat}, l.Pairwise (Hr g) -> (∀ y ∈ l, x < y) -> (mP g x l).Pairwise (Hr g)
 | [], _, _ => List.pairwise_singleton _ _
 | y :: l, h, hx => by
   obtain ⟨h1, h2⟩ := aju.mp h
   rw [mP]
   split
   . rename_i e
     refine aju.mpr ⟨fun z hz => ?_, h⟩
     have a1 : Hr g x y := by have := hx y aiF; unfold Hr; omega
     rcases aiN.mp hz with rfl | hz
     . exact a1
     . exact a1.trans (h1 z hz)
   . rename_i e
     refine aju.mpr ⟨fun z hz => ?_, EK h2 fun z hz => hx z (aiE _ hz)⟩
     rcases aiN.mp ((uf x l).mem_iff.mp hz) with rfl | hz
     . left; omega
     . exact h1 z hz
theorem AG {g : Nat -> Int} : ∀ {l : List Nat}, l.Pairwise (· < ·) -> (f9 g l).Pairwise (Hr g)
 | [], _ => .nil
 | x :: l, h => by
   obtain ⟨h1, h2⟩ := aju.mp h
   exact EK (AG h2) fun y hy => h1 y (ug.mp hy)
theorem BI {g : Nat -> Int} : ∀ {S A : List Nat}, S.Pairwise (Hr g) -> A.Pairwise (Hr g) -> (∀ a ∈ A, a ∈ S) -> A.length <= S.length /\ (A.length = S.length -> A = S)
 | [], A, _, _, h => by
   cases A with
   | nil => exact ⟨aiH _, fun _ => rfl⟩
   | cons a A => exact absurd (h a aiF) (by simp)
 | s :: S, [], _, _, _ => ⟨ai9 _, fun e => by simp at e⟩
 | s :: S, a :: A, hS, hA, h => by
   obtain ⟨s1, s2⟩ := aju.mp hS
   obtain ⟨a1, a2⟩ := aju.mp hA
   by_cases e : a = s
   . subst e
     have q := BI s2 a2 fun z hz => (aiN.mp (h z (aiE _ hz))).resolve_left fun e => by subst e; exact (a1 _ hz).irr
     refine ⟨by simpa using q.1, fun e => by rw [q.2 (by simpa using e)]⟩
   . have ha : a ∈ S := (aiN.mp (h a aiF)).resolve_left e
     have q := BI (A := a :: A) s2 hA fun z hz => by
       rcases aiN.mp hz with rfl | hz
       . exact ha
       . refine (aiN.mp (h z (aiE _ hz))).resolve_left fun e2 => ?_
         subst e2
         exact ((s1 a ha).trans (a1 _ hz)).irr
     exact ⟨by have := q.1; simp at this ⊢; omega, fun e3 => by have := q.1; simp at this e3; omega⟩
theorem O5 {l r : List α} {κ : Nat -> Nat} (hn : r.length = l.length) (pl : ∀ k, k < l.length -> r[k]? = l[κ k]?) (lo : ∀ k, k < l.length -> κ k < l.length)
   (st : ∀ i j x y, i < j -> r[i]? = some x -> r[j]? = some y -> g x < g y \/ (g x = g y /\ κ i < κ j)) : r = f9 g l := by
 cases l with
 | nil => cases r with
   | nil => rfl
   | cons a r => simp at hn
 | cons d l0 =>
   generalize hl : d :: l0 = l at *
   let f : Nat -> α := fun i => (l[i]?).getD d
   have hf : ∀ i, i < l.length -> l[i]? = some (f i) := fun i hi => by
     show _ = some ((l[i]?).getD d)
     rw [aiL hi]; rfl
   have el : l = (List.range l.length).map f := akc fun i => by
     rw [ai5]
     by_cases hi : i < l.length
     . rw [hf i hi, ajI hi]; rfl
     . rw [List.getElem?_eq_none (by omega), List.getElem?_eq_none (by simpa using hi)]; rfl
   have er : r = ((List.range l.length).map κ).map f := akc fun i => by
     rw [ai5, ai5]
     by_cases hi : i < l.length
     . rw [pl i hi, hf _ (lo i hi), ajI hi]; rfl
     . rw [List.getElem?_eq_none (by omega), List.getElem?_eq_none (by simpa using hi)]; rfl
   have gr : ∀ k, k < l.length -> r[k]? = some (f (κ k)) := fun k hk => (pl k hk).trans (hf _ (lo k hk))
   have eA : (List.range l.length).map κ = f9 (fun i => g (f i)) (List.range l.length) := by
     refine (BI (AG (List.pairwise_lt_range)) (List.pairwise_map.mpr ?_) fun a ha => ?_).2 ?_
     . refine List.Pairwise.imp_of_mem (R := (· < ·)) (fun {i j} hi hj EG => ?_) List.pairwise_lt_range
       exact st i j _ _ EG (gr i (ajr.mp hi)) (gr j (ajr.mp hj))
     . obtain ⟨k, hk, rfl⟩ := ai8.mp ha
       exact ug.mpr (ajr.mpr (lo k (ajr.mp hk)))
     . rw [aiC, pQ]
   rw [er, eA, ← pR, ← el]
end
theorem AH {α : Type} {g : α -> Int} {x : α} : ∀ {A B : List α}, (∀ y ∈ A, g y < g x) -> mP g x (A ++ B) = A ++ mP g x B
 | [], _, _ => rfl
 | a :: A, B, h => by
   have ha := h a aiF
   rw [ai0, mP, aiG (by omega), AH fun y hy => h y (aiE _ hy), ai0]
theorem Hs {α : Type} {g : α -> Int} {x : α} {B : List α} (h : ∀ y ∈ B, g x <= g y) : mP g x B = x :: B := by
 cases B with
 | nil => rfl
 | cons b B => rw [mP, aiI (h b aiF)]
theorem u9 {α : Type} (g : α -> Nat) (n : Nat) : ∀ (l : List α), (∀ x ∈ l, g x < n) -> f9 (fun x => (g x : Int)) l = (List.range n).flatMap (fun i => l.filter (fun x => decide (g x = i)))
 | [], _ => by
   show [] = _
   induction (List.range n) with
   | nil => rfl
   | cons a l ih => rw [ajZ, ← ih]; rfl
 | x :: l, h => by
   have hx := h x aiF
   have ih := u9 g n l fun y hy => h y (aiE _ hy)
   rw [f9, ih]
   have hr : List.range n = List.range (g x) ++ (g x) :: List.range' (g x + 1) (n - g x - 1) := by
     rw [List.range_eq_range', List.range_eq_range', show n = g x + (1 + (n - g x - 1)) by omega, ← List.range'_append_1, show 1 + (n - g x - 1) = (n - g x - 1) + 1 by omega, List.range'_succ]
     simp
   have A : (List.range (g x)).flatMap (fun i => (x :: l).filter (fun y => decide (g y = i))) = (List.range (g x)).flatMap (fun i => l.filter (fun y => decide (g y = i))) := by
     rw [aki, aki]
     congr 1
     refine ajx fun i hi => ?_
     have := ajr.mp hi
     rw [aj1 (by simp; omega)]
   have R : (List.range' (g x + 1) (n - g x - 1)).flatMap (fun i => (x :: l).filter (fun y => decide (g y = i))) = (List.range' (g x + 1) (n - g x - 1)).flatMap (fun i => l.filter (fun y => decide (g y = i))) := by
     rw [aki, aki]
     congr 1
     refine ajx fun i hi => ?_
     have := (List.mem_range'_1.mp hi).1
     rw [aj1 (by simp; omega)]
   rw [hr, List.flatMap_append, List.flatMap_append, ajZ, ajZ, A, R, aj2 (by simp)]
   rw [AH, Hs]
   . rfl
   . intro y hy
     rcases aiO.mp hy with hy | hy
     . have := aiU (ajD.mp hy).2
       omega
     . obtain ⟨i, hi, hy⟩ := List.mem_flatMap.mp hy
       have := aiU (ajD.mp hy).2
       have := (List.mem_range'_1.mp hi).1
       omega
   . intro y hy
     obtain ⟨i, hi, hy⟩ := List.mem_flatMap.mp hy
     have := aiU (ajD.mp hy).2
     have := ajr.mp hi
     omega
theorem Ht {pos pos' : Pos} {c cv : Value} (l : List Value) (h : TriplesOk l) (e : codeAmong pos (l ++ [rawInt pos'.line, rawInt pos'.col, c]) = some cv) : codeAmong pos l = some cv \/ cv = c := by
 fun_induction TriplesOk l with
 | case1 =>
   simp only [akk, codeAmong, rawInt] at e
   split at e
   . exact .inr (aiZ e).symm
   . cases e
 | case2 a t b u x rest ih =>
   simp only [ai0, codeAmong] at e ⊢
   split at e
   . rename_i hc; rw [aiI hc]; exact .inl e
   . rename_i hc; rw [aiG hc]; exact ih h e
 | case3 l h1 h2 => exact h.elim
noncomputable def O6 (f : Addr) (q : Str) (ps : Arguments) (body : Expr) (sc : Scope) (cl : List (Str × Addr)) (c : Addr) : Heap -> Prop := fun h =>
 ∃ pm ctv, h.get? f = some (PySem.W.kla_obj "<lambda>" q ps body sc cl pm c ctv)
structure Tr (X : Cx) (CL : Str -> Addr) (x q : Str) : Prop where
 code : ∃ c, X.env.code = .ref c /\ PySem.W.CodeHd X.base c (CL x)
 blt : ∃ bm o, X.mg "__builtins__" = some (.ref bm) /\ bm ≠ builtinsNs /\ bm ≠ mainGlobals /\ X.base.get? bm = some o /\ o.cls = .type "module" /\ o.dict = some builtinsNs /\ o.data = .plain
 qual : X.env.qual ++ "<lambda>" = q
 tab : Es x = true /\ CL x ≠ 0 /\ Ld x = q
section
variable {X : Cx} {CL : Str -> Addr} {pins : List (Addr × Obj)} {σ : L2.St} {H : Hp} {s : Shared} {x q : Str} {params : Arguments} {body : Expr} {scope : Scope} {pos : Pos}
theorem YT {Q : Value -> Shared -> Prop} (L : Tr X CL x q) (I : L2.Inv X pins σ H s) (ht : H (CL x) = some (.tabs q)) (D9 : ∀ y ∈ scope.names, y.2 = .free -> ∃ c, X.env.cells.lookup y.1 = some c)
   (YV : defaultsOf params X.env = ([], []))
   (k : ∀ f c H' s', L2.Inv X pins σ H' s' -> aH H H' -> H' f = some (.ext (O6 f q params body scope (cR X.env scope.names []) c)) -> H' c = some (.KG q) -> (∀ b o, H' b = some o -> jW o = true -> H b = some o) -> Q (.ref f) s') :
   wpAny (model X.prog X.w) X.A (eval (.Lambda params body scope pos) X.env) Q X.xe s := by
 obtain ⟨c, hc, hd⟩ := L.code
 obtain ⟨bm, ob, b1, b2, b3, b4, b5, b6, b7⟩ := L.blt
 obtain ⟨ps, hP, tr, cs⟩ := I.dw _ _ ht
 have tP : ∀ {b : Addr} {o : Obj}, X.base.get? b = some o -> b ≠ CL x := fun {b o} e z => by
   have := (I.bs _ _ e).2
   rw [z, ht] at this; cases this
 have hg : s.heap.Ns mainGlobals X.mg := by
   obtain ⟨o, es, ep, e, r⟩ := I.mod.glob
   exact ⟨o, es, ep, I.bk _ _ e, r⟩
 have hgP : mainGlobals ≠ CL x := by
   obtain ⟨o, _, _, e, _⟩ := I.mod.glob
   exact tP e
 have hb : s.heap.BuiltinsAt X.mg (CL x) := ⟨bm, ob, b1, b2, b3, tP b4, I.bk _ _ b4, b5, b6, b7⟩
 refine PySem.W.kla_eval YV ?_
 rw [L.qual]
 cases hf : codeAmong pos ps.toList with
 | none =>
   refine PySem.W.kla_makeFunction (kL D9) I.ok.glob hg hc (hd.keeps I.bk) hP tr hf hgP hb fun c' ctv h' tk hx hge rY aeS htb => ?_
   obtain ⟨c₂, oc, vs, t, e2, hoc, hdc, hv⟩ := aeS
   cases e2
   have hn : H c' = none := I.dw.fresh hge
   have neP : ∀ {b : Addr}, H b = none -> b ≠ CL x := fun {b} e z => by rw [z, ht] at e; cases e
   have ne' : ∀ {b : Addr} {o : Obj}, s.heap.get? b = some o -> b ≠ c' := fun {b o} e => aja (ajf (aiX e) hge)
   have cP : CL x ≠ c' := ne' hP
   have un : Un X.fs [] H (upd H c' (.KG q)) s.heap h' := by
     refine ⟨fun b o e n _ _ => hx b o (neP n) e, fun b o e n _ _ => ⟨o.slots, hx b o (neP n) e⟩, fun b o e n _ => by rw [aA (ne' e)]; exact n, fun b o e _ => ?_, fun b xs e => by rw [aA (aL e hn)]; exact e, fun b o u e => by rw [aA (aL e hn)]; exact e, fun b ps e => ⟨#[], by rw [aA (aL e hn), e]; simp⟩⟩
     by_cases z : b = CL x
     . exact ⟨_, z ▸ htb⟩
     . exact ⟨o, hx b o z e⟩
   have dw : qQ X.prog X.w (upd H c' (.KG q)) h' := fun b u e => by
     by_cases z : b = c'
     . subst z
       rw [aP] at e
       cases e
       exact ⟨oc, vs, t, hoc, hdc, hv⟩
     . rw [aA z] at e
       by_cases z2 : b = CL x
       . subst z2
         rw [ht] at e
         cases e
         refine ⟨_, htb, ?_, fun pos' cv ec => ?_⟩
         . rw [Array.toList_append]
           exact TriplesOk_snoc _ _ _ _ tr
         . rw [Array.toList_append] at ec
           rcases Ht _ tr ec with q1 | q1
           . obtain ⟨c3, e3, e4⟩ := cs pos' cv q1
             exact ⟨c3, e3, by rw [aA (aL e4 hn)]; exact e4⟩
           . exact ⟨c', q1, aP⟩
       . refine (I.dw b u e).A9 (fun d v RL r => hx d v ?_ r) (fun d r => by rw [aA (aL r hn)]; exact r) (fun d xs r => by rw [aA (aL r hn)]; exact r) fun d z r => by rw [aA (aL r hn)]; exact r
         rintro rfl
         rcases RL with w | w
         . exact z2 w.symm
         . rw [ht] at w; cases w
   have I1 := I.un (t' := tk) un dw
   have f1 : (upd H c' (.KG q)) h'.objs.size = none := dw.fresh (aiH _)
   have I2 := I1.laid (t' := tk) (a := h'.objs.size) (o := .ext (O6 h'.objs.size q params body scope (cR X.env scope.names []) c')) (h' := h'.push (PySem.W.kla_obj "<lambda>" q params body scope (cR X.env scope.names []) ((X.mg "__name__").getD .none) c' ctv))
     (fun b u e => aiR _ e) (aiH _) ⟨⟨_, _, ajc _ rfl⟩, ⟨_, ajc _ rfl⟩, fun h1 h2 ⟨pm, ct, e⟩ kk => ⟨pm, ct, kk _ e⟩⟩
   refine k _ c' _ _ I2 (fun b o e => ?_) aP ?_ fun b o e im => ?_
   . have z1 := aL e hn
     have z2 : b ≠ h'.objs.size := fun z => by
       rw [← z, aA z1, e] at f1; cases f1
     rw [aA z2, aA z1]; exact e
   . rw [aA (aja rY), aP]
   . by_cases z2 : b = h'.objs.size
     . subst z2; rw [aP] at e; cases e; cases im
     . rw [aA z2] at e
       by_cases z1 : b = c'
       . subst z1; rw [aP] at e; cases e; cases im
       . rw [aA z1] at e; exact e
 | some cv =>
   obtain ⟨c', rfl, Ni⟩ := cs pos cv hf
   refine PySem.W.kla_makeFunctionHit (kL D9) I.ok.glob hg hc (hd.keeps I.bk) hP tr hf hb fun ctv h' tk hk hsz => ?_
   have I2 := I.laid (t' := tk) (a := h'.objs.size) (o := .ext (O6 h'.objs.size q params body scope (cR X.env scope.names []) c')) (h' := h'.push (PySem.W.kla_obj "<lambda>" q params body scope (cR X.env scope.names []) ((X.mg "__name__").getD .none) c' ctv))
     (fun b u e => aiR _ (hk _ _ e)) hsz ⟨⟨_, _, ajc _ rfl⟩, ⟨_, ajc _ rfl⟩, fun h1 h2 ⟨pm, ct, e⟩ kk => ⟨pm, ct, kk _ e⟩⟩
   have f1 : H h'.objs.size = none := I.dw.fresh hsz
   refine k _ c' _ _ I2 (fun b o e => by rw [aA (aL e f1)]; exact e) aP (by rw [aA (aL Ni f1)]; exact Ni) fun b o e im => ?_
   by_cases z2 : b = h'.objs.size
   . subst z2; rw [aP] at e; cases e; cases im
   . rw [aA z2] at e; exact e
end
noncomputable def w9 (X : Cx) (A : Around) (q : Str) (scope : Scope) (Nc : List Str) (f c : Addr) (s : Shared) (H : Hp) : Cx where
 prog := X.prog
 w := X.w
 K := X.K
 mg := X.mg
 base := X.base
 A := A.deeper (PySem.W.envX q scope s.heap.objs.size f (.ref c) (cR X.env scope.names []))
 N := Nc
 s₀ := s
 H₀ := H
 env := PySem.W.envX q scope s.heap.objs.size f (.ref c) (cR X.env scope.names [])
 outer := X.stack
 stack := PySem.W.envX q scope s.heap.objs.size f (.ref c) (cR X.env scope.names []) :: X.stack
 ex := []
 fn := fun _ => false
 calm := true
 pn := []
 xe := fun _ _ => False
section
variable {X : Cx} {scope : Scope} {x q : Str} {Nc : List Str} {ix : List Nat} {pins : List (Addr × Obj)} {σ : L2.St} {H : Hp} {s : Shared} {A : Around} {f c : Addr}
theorem LJ (sc : gI X scope x Nc ix) (I : L2.Inv X pins σ H s) (hA : A.frames = some X.stack) (hh : A.handled = none) {h' : Heap} {tk : Nat} {u : Value} {v : V} (r : RelV v u)
   (hn : h'.Ns s.heap.objs.size (fun y => ([(x, u)] : List (Str × Value)).reverse.lookup y)) (hk : ∀ b o, s.heap.get? b = some o -> h'.get? b = some o) :
   L2.Inv (w9 X A q scope Nc f c s H) [] (t7 σ ix (some v)) H { s with heap := h', toks := tk } := by
 have frees : ∀ y ∈ scope.names, y.2 = .free -> ∃ c, X.env.cells.lookup y.1 = some c := fun y hy e => I.ok.has y.1 (sc.frees y hy e).2
 have sub : ∀ {y : Str} {c : Addr}, (cR X.env scope.names []).lookup y = some c -> X.env.cells.lookup y = some c := fun {y c} e => mK frees (fun _ _ z => by cases z) e
 have hlen : (t7 σ ix (some v)).length = Nc.length := by
   have all : ∀ l : List Nat, (∀ i ∈ l, ∃ y, X.N[i]? = some y /\ scope.names.lookup y = some .free) -> (l.filterMap (X.N[·]?)).length = l.length := by
     intro l
     induction l with
     | nil => intro _; rfl
     | cons i r ih =>
       intro h
       obtain ⟨y, e, _⟩ := h i aiF
       rw [ajM, e]
       show _ + 1 = _ + 1
       rw [ih fun j hj => h j (aiE _ hj)]
   unfold t7
   rw [sc.hd, ai2, ai2, aiC, all ix sc.WK]
 have nil : ∀ b : Addr, b ∉ (w9 X A q scope Nc f c s H).ex := fun b z => absurd (show b ∈ ([] : List Addr) from z) (by simp)
 refine ⟨⟨I.ok.mod, sc.kind, rfl, rfl, aiH _, fun y z c h1 h2 => I.ok.inj y z c (sub h1) (sub h2), fun y hy => ?_, fun y c hf _ => (by cases (show false = true from hf)), fun _ => hh, Around.frames_deeper hA, .inr ⟨rfl, rfl⟩, fun b hb => absurd hb (nil b), I.bs, ajL I.ok.Rr I.sz, fun b o _ => nil b, fun b hb => absurd hb (nil b), I.stack, I.Bd⟩,
   rfl, I.bare, Un.kept hk, ⟨_, hn, fun i y w h1 h2 h3 => ?_⟩, fun y c e => ?_, I.dw.fresh (aiH _), fun y c e => I.nT y c (sub e), fun p hp => absurd (show p ∈ ([] : List (Addr × Obj)) from hp) (by simp), I.dw.kept hk, hlen⟩
 . have hy' : scope.names.lookup y = some .cell \/ scope.names.lookup y = some .free := hy
   rcases hy' with z | z
   . exact absurd rfl (sc.t6 _ (ajH z))
   . exact jF z
 . unfold t7 at h2
   cases i with
   | zero =>
     have OI : some (some v) = some (some w) := h2
     cases OI
     have e : y = x := by
       have WO : Nc[0]? = some y := h1
       rw [sc.hd] at WO
       exact (aiZ WO).symm
     subst e
     refine ⟨u, r, .inl ⟨sc.own, ?_⟩⟩
     simp
   | succ i =>
     rw [List.getElem?_cons_succ, ai5] at h2
     cases ei : ix[i]? with
     | none => rw [ei] at h2; cases h2
     | some j =>
       rw [ei] at h2
       have OI : (σ[j]?).getD none = some w := aiZ h2
       have hj : σ[j]? = some (some w) := by
         cases q : σ[j]? with
         | none => rw [q] at OI; cases OI
         | some o => rw [q] at OI; exact congrArg some OI
       obtain ⟨y', hy1, YB⟩ := sc.WK j (ajj ei)
       have hNc : Nc[i + 1]? = some y' := by
         have all : ∀ (l : List Nat) (i : Nat), (∀ j ∈ l, ∃ y, X.N[j]? = some y /\ scope.names.lookup y = some .free) -> l[i]? = some j -> (l.filterMap (X.N[·]?))[i]? = some y' := by
           intro l
           induction l with
           | nil => intro i _ h; simp at h
           | cons a r ih =>
             intro i h hi
             obtain ⟨ya, ea, _⟩ := h a aiF
             rw [ajM, ea]
             cases i with
             | zero =>
               simp at hi
               subst hi
               rw [hy1] at ea
               cases ea
               rfl
             | succ i => exact ih i (fun j hj => h j (List.mem_cons_of_mem _ hj)) (by simpa using hi)
         rw [sc.hd, List.getElem?_cons_succ]
         exact all ix i sc.WK ei
       have ey : y' = y := by
         have WO : Nc[i + 1]? = some y := h1
         rw [hNc] at WO
         exact aiZ WO
       subst ey
       have wK := (sc.frees (y', .free) (ajH YB) rfl).2
       have YC : Xc X.env.scope y' := wK.elim (fun z => .inr (.inl z)) (fun z => .inr (.inr z))
       obtain ⟨m0, hn0, hl0⟩ := I.loc
       obtain ⟨u', ru, lk⟩ := hl0 j y' w hy1 hj YC
       refine ⟨u', ru, ?_⟩
       rcases lk with ⟨kk, _⟩ | ⟨_, c', hc, uP⟩
       . rcases wK with z | z
         . rw [kk] at z; cases z
         . rw [kk] at z; cases z
       . obtain ⟨c2, Ni⟩ := jF (env := X.env) (cs := []) YB
         have : c2 = c' := by
           have := sub Ni
           rw [hc] at this
           exact (aiZ this).symm
         subst this
         obtain ⟨o, ho, hd⟩ := uP
         exact .inr ⟨.inr YB, c2, Ni, o, hk _ _ ho, hd⟩
 . obtain ⟨v, o, ho, hd⟩ := I.cell y c (sub e)
   exact ⟨v, o, hk _ _ ho, hd⟩
theorem O7 {params : Arguments} {body : Expr} {u : Value} {v : V} {Q : VK} (sc : gI X scope x Nc ix) (I : L2.Inv X pins σ H s) (hA : A.frames = some X.stack) (hh : A.handled = none) (ack : A.depth < recursionLimit)
   (hf : H f = some (.ext (O6 f q params body scope (cR X.env scope.names []) c))) (hc : H c = some (.KG q)) (r : RelV v u)
   (EL : ∀ cl pm cd ct u, bindArgs (PySem.W.kla_fn "<lambda>" q params body scope cl pm cd ct) ⟨[u], []⟩ = pure [(x, u)]) (hco : scope.isCoroutine = false) (YW : scope.isGenerator = false)
   (h : Bp (w9 X A q scope Nc f c s H) body (t7 σ ix (some v)) H Q) : wpAny (model X.prog X.w) A (call (.ref f) [u]) (EP X pins σ Q) (fun _ _ => False) s := by
 obtain ⟨⟨pm, ctv, ho⟩, _⟩ := I.dw _ _ hf
 obtain ⟨oc, vs, t, e1, e2, e3⟩ := I.dw _ _ hc
 refine wpAny_call (PySem.W.kla_callFunE ack ho rfl hco YW rfl ⟨c, oc, vs, t, rfl, e1, e2, e3⟩ ?_)
 rw [EL]
 refine ajo (wpAny_newFunctionEnv sc.t6 (fun y hy => ?_) (fun h₁ hns hsb => ?_) sc.kind)
 . rw [ajb.mp hy]
   exact sc.own
 . have hk : ∀ b o, s.heap.get? b = some o -> h₁.get? b = some o := fun b o e => (hsb.2 b (aja (aiX e))).trans (aiR _ e)
   refine ⟨I.nolimit.keeps hk, ?_⟩
   show codeAny _ _ (.expr body (PySem.W.envX q scope s.heap.objs.size f (.ref c) (cR X.env scope.names []))) _ _
   have J := LJ (q := q) (f := f) (c := c) (tk := s.toks + ([(x, u)] : List (Str × Value)).length) sc I hA hh r hns hk
   refine PySem.W.kla_codeExpr (ajK (h [] _ J) (fun w s' hl => ?_) fun e s' hx => False.elim hx)
   obtain ⟨v', H', J', rv, hq⟩ := hl
   exact I.after ⟨v', H', J'.os, J'.bare, J'.base, J'.dw, rv, hq⟩
end
section
variable {X : Cx} {pins : List (Addr × Obj)} {σ : L2.St} {H : Hp} {s : Shared}
theorem LK {a : Addr} {o : HO} (I : L2.Inv X pins σ H s) (fp : jm X pins H a) (new : eY X.prog X.w (upd H a o) s.heap a o) : L2.Inv X pins σ (upd H a o) s := by
 have hn := fp.1
 refine I.step (H' := upd H a o) (h' := s.heap) (g' := s.gens) (d' := s.drawn) (t' := s.toks) (ch := [a]) (fun b hb => ?_) (fun b o _ _ _ e _ => e) (fun b o _ _ _ e _ => ⟨o.slots, e⟩) (fun b o hc _ n => by rw [aA fun z => hc (by simp [z])]; exact n)
   (fun b o _ e => ⟨o, e⟩) (fun b xs e => by rw [aA (aL e hn)]; exact e) (fun b o u e => by rw [aA (aL e hn)]; exact e) (fun b ps e => ⟨#[], by rw [aA (aL e hn), e]; simp⟩) (fun m hm => hm) (fun b u e => ?_) I.bare
 . have e : b = a := by simpa using hb
   subst e
   exact ⟨fp.2.2.2.1, fp.2.1, fp.2.2.2.2.1, fp.2.2.2.2.2⟩
 . by_cases z : b = a
   . subst z; rw [aP] at e; cases e; exact new
   . rw [aA z] at e
     exact (I.dw b u e).A9 (fun _ _ _ q => q) (fun c q => by rw [aA (aL q hn)]; exact q) (fun c xs q => by rw [aA (aL q hn)]; exact q) fun c z q => by rw [aA (aL q hn)]; exact q
end
noncomputable def qG (kz : List Int) (xs : List V) : List V := (f9 Prod.fst (kz.zip xs)).map Prod.snd
section
variable {α β : Type} {F : α -> β -> Prop} {g1 : α -> Int} {g2 : β -> Int}
theorem ER (hg : ∀ p q, F p q -> g1 p = g2 q) {x : α} {y : β} (hx : F x y) {l1 : List α} {l2 : List β} (h : Paired F l1 l2) : Paired F (mP g1 x l1) (mP g2 y l2) := by
 induction h with
 | nil => exact .cons hx .nil
 | @cons p q l1 l2 r t i =>
   rw [mP, mP, hg x y hx, hg p q r]
   split
   . exact .cons hx (.cons r t)
   . exact .cons r i
theorem sA (hg : ∀ p q, F p q -> g1 p = g2 q) {l1 : List α} {l2 : List β} (h : Paired F l1 l2) : Paired F (f9 g1 l1) (f9 g2 l2) := by
 induction h with
 | nil => exact .nil
 | cons r _ i => exact ER hg r i
end
theorem xg : ∀ {ks us : List Value} {kz : List Int} {xs : List V}, IntsAre ks kz -> Vals xs us -> Paired (fun (p : Int × V) (q : Value × Value) => p.1 = numOf q.1 /\ RelV p.2 q.2) (kz.zip xs) (ks.zip us)
 | _, _, _, _, .nil, _ => by simp only [List.zip_nil_left]; exact .nil
 | _, _, _, _, .cons n t h, .nil => by simp only [List.zip_nil_right]; exact .nil
 | _, _, _, _, .cons n t h, .cons r rr => .cons ⟨rfl, r⟩ (xg h rr)
theorem O8 {ps : List (Int × V)} {qs : List (Value × Value)} (h : Paired (fun (p : Int × V) (q : Value × Value) => p.1 = numOf q.1 /\ RelV p.2 q.2) ps qs) : Vals (ps.map Prod.snd) (qs.map Prod.snd) := by
 induction h with
 | nil => exact .nil
 | cons r _ i => exact .cons r.2 i
theorem EV {keys : Array Value} {us : List Value} {xs : List V} {kz : List Int} (hk : IntsAre keys.toList kz) (r : Vals xs us) {arr : Array Keyed} {κ : Nat -> Nat}
   (t : Tag (keys.zip us.toArray) arr κ (keys.zip us.toArray).size) (o : n9 arr κ (keys.zip us.toArray).size) (hz : arr.size = (keys.zip us.toArray).size) : Vals (qG kz xs) (arr.map (·.2)).toList := by
 have ez := ksk_zip keys us
 have el : (keys.toList.zip us).length = (keys.zip us.toArray).size := by rw [← ez, aj3]
 have e : arr.toList = f9 (fun p : Keyed => numOf p.1) (keys.toList.zip us) := by
   refine O5 (κ := κ) (by rw [el, aj3, hz]) (fun k hk => ?_) (fun k hk => ?_) fun i j x y EG hx hy => ?_
   . rw [el] at hk
     rw [aj9, t.pl k hk, ← ez, aj9]
   . rw [el] at hk ⊢
     exact t.lo k hk
   . rw [aj9] at hx hy
     have hj : j < arr.size := (Array.getElem?_eq_some_iff.mp hy).1
     have q := o i j EG (by rw [← hz]; exact hj)
     unfold PyProof.Rows.K at q
     rw [hx, hy] at q
     exact q
 rw [Array.toList_map, e]
 exact O8 (sA (fun p q h => h.1) (xg hk r))
section
variable {X : Cx} {pins : List (Addr × Obj)} {σ : L2.St} {H : Hp} {s : Shared} {a kS f l : Addr} {us : List Value} {xs : List V} {kz : List Int} {J : Hp -> Prop} {e1 : Nat} {A : Around} {E : Value -> Shared -> Prop} {P : PySem.Fin -> Shared -> Prop}
theorem vX {it : Addr} (I : L2.Inv X pins σ H s) (fp : jm X pins H it) (g : Obj -> Obj) : L2.Inv X pins σ H { s with heap := s.heap.update it g } := by
 have s1 := Heap.SameBut.update s.heap it g
 exact I.turned (t' := s.toks) (fun b o n q => (s1.2 b n).trans q) fp.1 fp.2.1 fp.2.2.2.1 fp.2.2.2.2.1 fp.2.2.2.2.2
theorem JW {st : SortSt} {keys : Array Value} {e : Nat} (I : L2.Inv X pins σ H s) (fk : jm X pins H kS) (fa : jm X pins H a) (YX : kS ≠ a) (ok : s.heap.get? kS = some (seqObj "list" keys e)) (oa : s.heap.get? a = some (seqObj "list" #[] e1))
   (hks : keys.size < 64) (hsz : (arrOf st).size < 64) (hfl : failedOf st = none)
   (h : ∀ s' c, L2.Inv X pins σ H s' -> s'.heap.get? a = some (seqObj "list" ((arrOf st).map (·.2)) c) -> P (.done (.ret .none)) s') :
   wpAny (model X.prog X.w) A (ksk_tail a false e1 (.ref kS) st) P E s := by
 have s1 := Heap.SameBut.update s.heap kS (Obj.mapSeq fun _ => (#[] : Array Value))
 have I1 := vX I fk (Obj.mapSeq fun _ => (#[] : Array Value))
 have na1 : (s.heap.update kS (Obj.mapSeq fun _ => (#[] : Array Value))).get? a = some (seqObj "list" #[] e1) := (s1.2 a YX.symm).trans oa
 have I2 := vX I1 fa (Obj.mapSeq fun _ => (arrOf st).map (·.2))
 obtain ⟨c2, Ej⟩ : ∃ c2, ((s.heap.update kS (Obj.mapSeq fun _ => (#[] : Array Value))).update a (Obj.mapSeq fun _ => (arrOf st).map (·.2))).get? a = some (seqObj "list" ((arrOf st).map (·.2)) c2) :=
   ⟨_, get?_update_seq na1 fun _ => (arrOf st).map (·.2)⟩
 unfold ksk_tail
 try dsimp only
 refine aiS (listUpdate_at ok rfl ?_ (by rw [ajk]; omega) (ai9 _))
 refine aiS (wpAny_letGo ?_)
 refine aiS (seqEpoch_at na1 rfl ?_)
 refine aiS (listUpdate_at na1 rfl ?_ (ai9 _) (by simp only [ajz, aka, Array.size_map]; rw [ajk]; omega))
 rw [hfl]
 simp only [bne_self_eq_false, ajz, aka]
 exact ajo (h _ c2 I2 Ej)
theorem YY {keys : Array Value} {e : Nat} (I : L2.Inv X pins σ H s) (fk : jm X pins H kS) (fa : jm X pins H a) (YX : kS ≠ a) (ok : s.heap.get? kS = some (seqObj "list" keys e)) (oa : s.heap.get? a = some (seqObj "list" #[] e1))
   (hk : IntsAre keys.toList kz) (hlen : kz.length = us.length) (WU : us.length < 64) (r : Vals xs us)
   (h : ∀ s' out c, L2.Inv X pins σ H s' -> s'.heap.get? a = some (seqObj "list" out c) -> Vals (qG kz xs) out.toList -> P (.done (.ret .none)) s') :
   wpAny (model X.prog X.w) A (ksk_end a false us.toArray e1 (.ref kS) keys) P E s := by
 have hsz : keys.size = us.length := by
   have h1 := hk.length
   rw [aj3] at h1
   omega
 have hzs : (keys.zip us.toArray).size = us.length := by rw [Array.size_zip, hsz, aiW, Nat.min_self]
 have t0 : ∀ n, Tag (keys.zip us.toArray) (keys.zip us.toArray) id n := fun n => ⟨fun _ _ => rfl, fun _ q => q, fun _ _ => rfl⟩
 unfold ksk_end
 try dsimp only
 simp only [ajz, aka]
 by_cases h2 : us.toArray.size < 2
 . rw [aiI h2, aiI h2]
   refine aiS (ajo ?_)
   rw [StateT.run_pure]
   refine aiS (ajo ?_)
   try dsimp only
   rw [aiW] at h2
   refine JW (st := SortSt.mk' general' (keys.zip us.toArray) #[] 7 none) I fk fa YX ok oa (by omega) (by show (keys.zip us.toArray).size < 64; omega) rfl fun s' c I' o' => h s' _ c I' o' ?_
   exact EV hk r (arr := keys.zip us.toArray) (κ := id) (t0 _) (fun i j EG hj => by omega) rfl
 . rw [aiG h2, aiG h2]
   rw [aiW] at h2
   rw [ksk_kind hk (by rw [hsz]; omega)]
   refine aiS (ajo ?_)
   refine aiS (ajK (LC (a₀ := keys.zip us.toArray) (st := SortSt.mk' oneType' (keys.zip us.toArray) #[] 7 none)
     (Q := fun _ GL => failedOf GL = none /\ ∃ κ, Tag (keys.zip us.toArray) (arrOf GL) κ (keys.zip us.toArray).size /\ n9 (arrOf GL) κ (keys.zip us.toArray).size /\ (arrOf GL).size = (keys.zip us.toArray).size)
     (ksk_intKeys hk) ⟨Array.Perm.refl _, rfl, rfl, rfl⟩ (t0 _) (by rw [hzs]; omega) (by rw [hzs]; exact WU) fun z κ a1 a2 a3 a4 => ⟨a1, κ, a2, a3, a4⟩) ?_ fun _ _ e => e)
   rintro ⟨⟨⟩, GL⟩ s' ⟨rfl, hf, κ, t, o, hz⟩
   try dsimp only
   have hz' : (arrOf GL).size = (keys.zip us.toArray).size := hz
   exact JW I fk fa YX ok oa (by omega) (by omega) hf fun s' c I' o' => h s' _ c I' o' (EV hk r t o hz)
theorem fpk {b : Addr} {H' : Hp} (fp : jm X pins H b) (h : H' b = none) : jm X pins H' b := ⟨h, fp.2⟩
theorem Tt (I : L2.Inv X pins σ H s) (fk : jm X pins H kS) (fa : jm X pins H a) (YX : kS ≠ a) (ok : s.heap.get? kS = some (seqObj "list" #[] 0)) (oa : s.heap.get? a = some (seqObj "list" #[] e1)) (j0 : J H)
   (hlen : kz.length = us.length) (WU : us.length < 64) (r : Vals xs us)
   (turn : ∀ (i : Nat) (x : V) (k : Int), xs[i]? = some x -> kz[i]? = some k -> ∀ (jz : List (Addr × Obj)) (s' : Shared) (u : Value) (H' : Hp), L2.Inv X jz σ H' s' -> J H' -> RelV x u →
     wpAny (model X.prog X.w) A (call (.ref f) [u]) (EP X jz σ fun v H'' => v = .int k /\ J H'') (fun _ _ => False) s')
   (h : ∀ s' H' out c, L2.Inv X pins σ H' s' -> J H' -> H' a = none -> s'.heap.get? a = some (seqObj "list" out c) -> Vals (qG kz xs) out.toList -> P (.done (.ret .none)) s') :
   wpAny (model X.prog X.w) A (ksk_rest a (.ref f) false us.toArray e1 (.ref kS)) P E s := by
 unfold ksk_rest
 refine aiS (wpAny_rule ?_)
 first
   | rw [List.forIn_toArray]
   | (rw [← Array.forIn_toList]; simp only [List.toList_toArray])
   | rw [← Array.forIn_toList]
 refine aiS (ksk_fold (fun i s' => ∃ H' kA e, L2.Inv X pins σ H' s' /\ J H' /\ H' kS = none /\ H' a = none /\ s'.heap.get? kS = some (seqObj "list" kA e) /\ s'.heap.get? a = some (seqObj "list" #[] e1) /\ IntsAre kA.toList (kz.take i)) us 0 s
   ⟨H, #[], 0, I, j0, fk.1, fa.1, ok, oa, by simpa using IntsAre.nil⟩ ?step ?done)
 case step =>
   rintro j u s' hx ⟨H', kA, e, I', jj, nk, na, ok', oa', hk⟩
   simp only [Nat.zero_add] at hk ⊢
   have hj : j < us.length := (ai3.mp hx).1
   obtain ⟨k, hkj⟩ : ∃ k, kz[j]? = some k := ⟨_, aiL (by omega)⟩
   obtain ⟨x, hxx⟩ : ∃ x, xs[j]? = some x := ⟨_, aiL (by rw [r.length]; exact hj)⟩
   have rx : RelV x u := by
     obtain ⟨u', e1, e2⟩ := r.get hxx
     rw [hx] at e1; cases e1; exact e2
   have hz : kA.size <= us.length := by
     have h1 := hk.length
     rw [aj3, List.length_take] at h1
     omega
   have Ip := I'.pinned (fp := [kS, a]) (fun b hb => by
     rcases aiN.mp hb with rfl | hb
     . exact fpk fk nk
     . rw [ajb.mp hb]; exact fpk fa na) (fun b hb => by
     rcases aiN.mp hb with rfl | hb
     . exact ⟨_, ok', fun v z => by cases z⟩
     . rw [ajb.mp hb]; exact ⟨_, oa', fun v z => by cases z⟩)
   refine aiS (wpAny_attempt (ajK (turn j x k hxx hkj _ _ u H' Ip jj rx) (fun v s'' he => ?_) fun _ _ hF => hF.elim))
   obtain ⟨w, H2, I2, rw2, rfl, j2⟩ := he
   obtain ⟨t2, rfl⟩ := rw2
   try dsimp only
   have pk := I2.pin (kS, seqObj "list" kA e) (aiD _ (aiD _ (iz (by simp) ok')))
   have pa := I2.pin (a, seqObj "list" #[] e1) (aiD _ (aiD _ (iz (by simp) oa')))
   have I3 := vX I2.nV (fpk fk pk.2.1) (Obj.mapSeq (·.push (.int k t2)))
   have s1 := Heap.SameBut.update s''.heap kS (Obj.mapSeq (·.push (.int k t2)))
   obtain ⟨c2, Ej⟩ : ∃ c2, (s''.heap.update kS (Obj.mapSeq (·.push (.int k t2)))).get? kS = some (seqObj "list" (kA.push (.int k t2)) c2) := ⟨_, get?_update_seq pk.1 (·.push (.int k t2))⟩
   have ek : kz.take (j + 1) = kz.take j ++ [k] := by rw [ake, hkj]; simp
   have ea : (kA.push (Value.int k t2)).toList = kA.toList ++ [Value.int k t2] := by simp
   refine aiS (listUpdate_at pk.1 rfl ?_ (by rw [ajk]; omega) (ajL (Nat.le_of_eq (Array.size_push ..)) (by rw [ajk]; omega)))
   exact ajo ⟨rfl, H2, kA.push (.int k t2), c2, I3, j2, pk.2.1, pa.2.1, Ej, (s1.2 a YX.symm).trans pa.1, by rw [ea, ek]; exact ksk_snoc hk⟩
 case done =>
   rintro s' ⟨H', kA, e, I', jj, nk, na, ok', oa', hk⟩
   have hk' : IntsAre kA.toList kz := by
     have e3 : kz.take (0 + us.length) = kz := List.take_of_length_le (by omega)
     rw [e3] at hk
     exact hk
   try dsimp only
   refine aiS (listItems_at ok' rfl ?_)
   exact YY I' (fpk fk nk) (fpk fa na) YX ok' oa' hk' hlen WU r fun s2 out c I2 o2 v2 => h s2 H' out c I2 jj na o2 v2
theorem Tv {n : Nat} (I : L2.Inv X pins σ H s) (fa : jm X pins H a) (oa : s.heap.get? a = some (seqObj "list" us.toArray n)) (j0 : J H)
   (hlen : kz.length = us.length) (WU : us.length < 64) (r : Vals xs us)
   (turn : ∀ (i : Nat) (x : V) (k : Int), xs[i]? = some x -> kz[i]? = some k -> ∀ (jz : List (Addr × Obj)) (s' : Shared) (u : Value) (H' : Hp), L2.Inv X jz σ H' s' -> J H' -> RelV x u →
     wpAny (model X.prog X.w) A (call (.ref f) [u]) (EP X jz σ fun v H'' => v = .int k /\ J H'') (fun _ _ => False) s')
   (h : ∀ s' H' out c, L2.Inv X pins σ H' s' -> J H' -> H' a = none -> s'.heap.get? a = some (seqObj "list" out c) -> Vals (qG kz xs) out.toList -> P (.done (.ret .none)) s') :
   wpAny (model X.prog X.w) A (ksk_tree a (.ref f) false) P E s := by
 have ha : a < s.heap.objs.size := aiX oa
 obtain ⟨e1, ho1⟩ : ∃ e1, (s.heap.update a (Obj.mapSeq fun _ => (#[] : Array Value))).get? a = some (seqObj "list" #[] e1) := ⟨_, get?_update_seq oa fun _ => #[]⟩
 have I1 := vX I fa (Obj.mapSeq fun _ => (#[] : Array Value))
 have hkS : ((s.heap.update a (Obj.mapSeq fun _ => (#[] : Array Value))).push (seqObj "tuple" us.toArray 0)).objs.size = s.heap.objs.size + 1 := by rw [size_push', Heap.size_update]
 have I2 : L2.Inv X pins σ H { s with heap := ((s.heap.update a (Obj.mapSeq fun _ => (#[] : Array Value))).push (seqObj "tuple" us.toArray 0)).push (seqObj "list" #[] 0) } :=
   I1.kept (t' := s.toks) fun b o e => aiR _ (aiR _ e)
 unfold ksk_tree
 refine aiS (listItems_at oa rfl ?_)
 refine aiS (listUpdate_at oa rfl ?_ (by rw [aiW, ajk]; omega) (ai9 _))
 refine aiS (seqEpoch_at ho1 rfl ?_)
 refine aiS (wpAny_newTuple ?_ (by show us.length <= _; rw [ajk]; omega))
 refine aiS (wpAny_newList ?_ (ai9 _))
 refine akD ?_
 refine Tt (s := { s with heap := ((s.heap.update a (Obj.mapSeq fun _ => (#[] : Array Value))).push (seqObj "tuple" us.toArray 0)).push (seqObj "list" #[] 0) }) (kS := ((s.heap.update a (Obj.mapSeq fun _ => (#[] : Array Value))).push (seqObj "tuple" us.toArray 0)).objs.size)
   I2 (I.Be (by rw [hkS]; exact akf _) (I.dw.fresh (by rw [hkS]; exact akf _))) fa (by rw [hkS]; exact Nat.ne_of_gt (Nat.lt_succ_of_lt ha)) (ajc _ rfl) (aiR _ (aiR _ ho1)) j0 hlen WU r turn h
theorem LN {Q : VK} (I : L2.Inv X pins σ H s) (hq : nS X.K H l xs) (hlen : kz.length = xs.length) (WU : xs.length < 64) (j0 : J H)
   (turn : ∀ (i : Nat) (x : V) (k : Int), xs[i]? = some x -> kz[i]? = some k -> ∀ (jz : List (Addr × Obj)) (s' : Shared) (u : Value) (H' : Hp), L2.Inv X jz σ H' s' -> J H' -> RelV x u →
     wpAny (model X.prog X.w) X.A.in1.in1 (call (.ref f) [u]) (EP X jz σ fun v H'' => v = .int k /\ J H'') (fun _ _ => False) s')
   (h : ∀ D H', J H' -> H' D = none -> Q (.ref D) (upd H' D (.lst (qG kz xs)))) :
   wpAny (model X.prog X.w) X.A (call (.builtin "sorted") [.ref l] [(Str.ofString "key", .ref f)]) (EP X pins σ Q) E s := by
 obtain ⟨us, r, pl, hz⟩ := I.list hq
 have el := r.length
 have hl : s.heap.IsList l us.toArray := pl.isList
 refine call_function_entry_kw kind_sorted plain_sorted entry_sorted (ksk_s1 _ _) ?_
 unfold Builtin.«sorted»
 refine aiS (m := checkCount "sorted" 1 1 _) (ajo ?_)
 refine aiS (collect_list hl ?_ (by rw [ajk]; omega))
 refine aiS (wpAny_newList ?_ (by rw [ajk]; omega))
 have hsz : ((s.heap.push (seqObj "list" #[] 0)).update s.heap.objs.size (Obj.mapSeq (· ++ us.toArray))).objs.size = s.heap.objs.size + 1 := by
   rw [Heap.size_update, size_push']
 have hoL : (((s.heap.push (seqObj "list" #[] 0)).update s.heap.objs.size (Obj.mapSeq (· ++ us.toArray))).push (seqObj "list" us.toArray 0)).get? (s.heap.objs.size + 1) = some (seqObj "list" us.toArray 0) := by
   rw [← hsz]; exact ajc _ rfl
 have keep : ∀ b o, s.heap.get? b = some o -> (((s.heap.push (seqObj "list" #[] 0)).update s.heap.objs.size (Obj.mapSeq (· ++ us.toArray))).push (seqObj "list" us.toArray 0)).get? b = some o := fun b o q => by
   have rY : b < s.heap.objs.size := aiX q
   rw [Heap.get?_push_ne _ _ _ (by rw [hsz]; exact aja (Nat.lt_succ_of_lt rY)), Heap.get?_update_ne _ _ _ _ (aja rY), Heap.get?_push_ne _ _ _ (aja rY)]
   exact q
 show wpAny _ _ _ _ _ { s with heap := ((s.heap.push (seqObj "list" #[] 0)).update s.heap.objs.size (Obj.mapSeq (· ++ us.toArray))).push (seqObj "list" us.toArray 0) }
 rw [hsz]
 have I2 : L2.Inv X pins σ H { s with heap := ((s.heap.push (seqObj "list" #[] 0)).update s.heap.objs.size (Obj.mapSeq (· ++ us.toArray))).push (seqObj "list" us.toArray 0) } := I.kept (t' := s.toks) keep
 have fa : ∀ {H' : Hp}, H' (s.heap.objs.size + 1) = none -> jm X pins H' (s.heap.objs.size + 1) := fun {H'} e => I.Be (akf _) e
 refine aiS (akD (wpAny_call_entry_kw slot_list_sort ⟨_, hoL, rfl⟩ entry_list_sort ?body (ksk_l1 _ _)))
 case body =>
   have ht' := ksk_t1 f (s.heap.objs.size + 1)
   show wpAny (model X.prog X.w) X.A.in1.in1 (Builtin.«list.sort» ⟨[.ref (s.heap.objs.size + 1)], [(Str.ofString "key", .ref f)]⟩) _ _ _
   rw [ht']
   refine Tv I2 (fa (I.dw.fresh (akf _))) hoL j0 (by omega) (by omega) r turn fun s' H' out c I' jj na o' v' => ⟨_, rfl, ?_⟩
   refine ajo ⟨_, rfl, .ref (s.heap.objs.size + 1), _, LK I' (fa na) (o := .lst (qG kz xs)) ⟨?_, out.toList, c, v', ?_⟩, rfl, h _ H' jj na⟩
   . have : (qG kz xs).length = xs.length := by
       unfold qG
       rw [aiC, pQ, List.length_zip, hlen, Nat.min_self]
     rw [this]; exact hz
   . simpa using o'
end
section
variable {K : PySem.W.Frag} {CL : Str -> Addr} {Z : Hp} {g : D -> Int}
theorem LQ {ds : List D} {us : List V} (h : aK K CL Z ds us) : Paired (fun (d : D) (p : Int × V) => g d = p.1 /\ bR K CL Z d p.2) ds ((ds.map g).zip us) :=
 aK.ind (P := fun ds us => Paired (fun (d : D) (p : Int × V) => g d = p.1 /\ bR K CL Z d p.2) ds ((ds.map g).zip us)) .nil (fun r _ i => .cons ⟨rfl, r⟩ i) h
theorem LR {ds : List D} {ps : List (Int × V)} (h : Paired (fun (d : D) (p : Int × V) => g d = p.1 /\ bR K CL Z d p.2) ds ps) : aK K CL Z ds (ps.map Prod.snd) := by
 induction h with
 | nil => exact .nil
 | cons r _ i => exact .cons r.2 i
theorem LV {ds : List D} {us : List V} (r : aK K CL Z ds us) : aK K CL Z (f9 g ds) (qG (ds.map g) us) := LR (sA (fun p q h => h.1) (LQ (g := g) r))
end
noncomputable def acp (X : Cx) (CL : Str -> Addr) (q : Str) (scope : Scope) (Nc : List Str) (body : Expr) (δc : List (Option T)) (ds : List D) (g : D -> Int) : Prop :=
 ∀ f c s0 H0 b' d, d ∈ ds -> dz (w9 X X.A.in1.in1 q scope Nc f c s0 H0) CL b' body (some (.sh d) :: δc) (.int (g d)) (some (.sh d) :: δc)
section
variable {X : Cx} {CL : Str -> Addr} {b : Bx} {δ δ1 : List (Option T)} {e body : Expr} {ds : List L3.D} {g : L3.D -> Int} {scope : Scope} {y q tx : Str} {Nc : List Str} {ix : List Nat} {params : Arguments} {pos pp lp p2 : Pos}
theorem Hu (L : Tr X CL tx q) (g0 : Gx X) (dp : X.A.depth < recursionLimit) (hm : X.mg "sorted" = none) (hg : Gl X "sorted") (sc : gI X scope y Nc ix) (h : dz X CL b e δ (.lst ds) δ1) (hi : D.bV ds = true) (hl : ds.length < 64)
   (inner : acp X CL q scope Nc body (zk δ1 ix) ds g) (YV : defaultsOf params X.env = ([], []) := by rfl)
   (EL : ∀ cl pm cd ct u, bindArgs (PySem.W.kla_fn "<lambda>" q params body scope cl pm cd ct) ⟨[u], []⟩ = pure [(y, u)] := by intros; rfl) (hco : scope.isCoroutine = false := by rfl) (YW : scope.isGenerator = false := by rfl)
   (hs : starEach [e] X.env = (false, eval e X.env) :: starEach [] X.env := by exact bN rfl) :
   cC X CL b (.Call (.Name "sorted" pp) [e] [⟨some "key", .Lambda params body scope lp, p2⟩] pos) δ (.lst ((f9 g ds).map T.sh)) δ1 := by
 intro H Z σ ts vs Q S k pins s I
 have ha : PA X [e] (Jz (Bp X e) NC) := cN eu fB hs
 have hk : PK X [⟨some "key", .Lambda params body scope lp, p2⟩] (Jz (Bp X (.Lambda params body scope lp)) NC) := R3 eu XT
 refine aj6 (qR I hg hm su ?_)
 refine callWith_kw (d8 (ha pos pins s σ H (fun vs' H1 => ∃ v Z1, vs' = [v] /\ aH Z Z1 /\ aH H H1 /\ bX X.K CL b H1 Z1 δ1 σ ts vs /\ bR X.K CL H1 (.lst ds) v) I (h H Z σ ts vs _ S fun v H1 Z1 z1 k1 S1 r => ⟨v, Z1, rfl, z1, k1, S1, r⟩)) fun us s1 zz => ?_) (by rw [hs]; rfl) (by rw [hs]; rfl) rfl rfl
 obtain ⟨vs1, H1, I1, r1, v1, Z1, e1, z1, k1, S1, rep1⟩ := zz
 subst e1
 have aeW : H1 (CL tx) = some (.tabs q) := by
   have := S1.Le tx L.tab.1 L.tab.2.1
   rw [L.tab.2.2] at this
   exact this
 refine d8 (hk pos pins s1 σ H1 (fun zs H2 => ∃ f c, zs = [.ref f] /\ aH H1 H2 /\ H2 f = some (.ext (O6 f q params body scope (cR X.env scope.names []) c)) /\ H2 c = some (.KG q)) I1
   (fun jz s' I' => YT L I' aeW (fun y hy e => I'.ok.has y.1 (sc.frees y hy e).2) YV fun f c H2 s2 I2 k2 hf hc _ => ⟨.ref f, H2, I2, rfl, f, c, rfl, k2, hf, hc⟩)) fun ws s2 zz => ?_
 obtain ⟨zs, H2, I2, rz, f, c, e2, k2, hf, hc⟩ := zz
 subst e2
 obtain ⟨u, rfl, ru⟩ := rz.one
 cases ru
 obtain ⟨v, rfl, rv⟩ := r1.one
 cases rep1 with
 | @lst p Tw _ hq rr =>
   cases rv
   show wpAny _ _ (call (.builtin "sorted") [.ref p] [(Str.ofString "key", .ref f)]) _ _ s2
   have hlen := rr.length
   refine LN (J := fun H3 => ∃ Z3, aH H2 H3 /\ aH H2 Z3 /\ aH Z3 H3 /\ ∀ a o, H3 a = some o -> jW o = true -> Z3 a = some o) (kz := ds.map g) I2 (k2.seq hq) (by rw [aiC, hlen]) (by omega)
     ⟨H2, .refl _, .refl _, .refl _, fun _ _ q _ => q⟩ (fun i x kk hx YZ jz s' u H3 I3 zz rx => ?_) fun D H3 zz hD => ?_
   . obtain ⟨Z3, a1, a2, a3, a4⟩ := zz
     obtain ⟨d, hd, rd⟩ := rr.Oa hx
     have ek : kk = g d := by
       rw [ai5, hd] at YZ
       exact (aiZ YZ).symm
     subst ek
     refine O7 sc I3 I3.ok.frames (I3.ok.hd g0.calm) dp (a1 _ _ hf) (a1 _ _ hc) rx EL hco YW ?_
     have S0 : bX X.K CL ⟨H3, Z3⟩ H3 Z3 (some (.sh d) :: zk δ1 ix) (t7 σ ix (some x)) [] [] :=
       ⟨⟨[] ++ [], [], .cons (.sh (rd.mono (k2.trans a2))) ((wQ S1 ix H3).mono (k2.trans a2) fun a ha => by cases ha), .nil, aj4, fun a ha => by cases ha⟩, .refl _, .refl _, a3, fun a o q z => (by have z' : Z3 a = none := z; rw [show Z3 a = some o from q] at z'; cases z'), a4, S1.Le.mono (k2.trans a2)⟩
     refine inner f c s' H3 ⟨H3, Z3⟩ d (ajj hd) H3 Z3 _ [] [] _ S0 fun v H5 Z5 z5 k5 S5 r5 => ⟨?_, Z5, a1.trans k5, a2.trans z5, S5.zh, S5.tp⟩
     cases r5
     rfl
   . obtain ⟨Z3, a1, a2, a3, a4⟩ := zz
     obtain ⟨Z', z', S4⟩ := S1.back (t := .sh (.int 0)) (v := .int 0) (fp := []) (k2.trans a1) S1.zh (k2.trans a2) a3 (fun a o q z => z) a4 (.sh (.int 0)) aj4 (fun a ha => by cases ha) (.inr rfl)
     obtain ⟨c5, S5⟩ := (bX.uW (LV (g := g) ((aK.mG S1.tp hi rr).mono z')) S4.pop).tZ (g0 := []) (by simp [qG, pQ, hlen]) hD
     exact k _ _ _ (z1.trans z') ((k1.trans (k2.trans a1)).trans c5) S5
variable {A : Around} {f c : Addr} {s : Shared} {H : Hp} {i : Nat} {x : Str}
theorem Y0 (h1 : Nc[i]? = some x) (h2 : scope.names.lookup x = some .local) (hd : (x == ("__debug__" : Str)) = false := by decide) (jy : (x == ("__classdict__" : Str)) = false := by decide) : Vn (w9 X A q scope Nc f c s H) i x := ⟨h1, .inl h2, hd, jy⟩
theorem O9 (h1 : Nc[i]? = some x) (h2 : scope.names.lookup x = some .free) (hd : (x == ("__debug__" : Str)) = false := by decide) (jy : (x == ("__classdict__" : Str)) = false := by decide) : Vn (w9 X A q scope Nc f c s H) i x := ⟨h1, .inr (.inr h2), hd, jy⟩
theorem Y3 (h2 : scope.names.lookup x = some .globalImplicit) : Gl (w9 X A q scope Nc f c s H) x := h2
end
theorem Tz {P : Program} {w : World} {K : PySem.W.Frag} {mg : Str -> Option Value} {base : Heap} {x qual : Str} {st : Stmt} {f : Addr} {fd : FuncData} {N ps : List Str} {k : Nat} {sp : Sp} (F : jB K x qual st f fd) (S : aU N ps (ao st)) (len : ∀ vs H Q E, sp vs H Q E -> vs.length = ps.length)
   (Ei : ∀ (dY : Value) (A : Around) (outer : List Env) (s : Shared) (H : Hp) (vs : List V) (Q : VK) (E : XK), fd.code = dY -> fF k (A.deeper (envOfC qual (ao st) s.heap.objs.size f dY)) -> sp vs H Q E →
     ∃ t, GK (wJ gO P w K mg base N qual (ao st) f dY A outer s H E).Rt (gk st) t /\ t { nx := fun _ H' => Q .non H', rt := Q } (L2.start N vs) H) : ck P w K mg base gO (k + 1) f fd ps sp := by
 obtain ⟨oc, od, kV, doc, pm, an, dY, ct, M5, rfl, lk, jy⟩ := F.ex
 refine Wz lk jy S len fun A outer s H vs Q E hr Ru => ?_
 obtain ⟨t, h, q⟩ := Ei dY A outer s H vs Q E rfl hr Ru
 exact ⟨t, h.Rt, q⟩
theorem Pa {P : Program} {w : World} {K : PySem.W.Frag} {mg : Str -> Option Value} {base : Heap} {CL : Str -> Addr} {x qual : Str} {st : Stmt} {f : Addr} {fd : FuncData} {N ps : List Str} {k : Nat} {A : Type} {arg : A -> List D} {Pre : A -> Prop} {res : A -> T} (F : jB K x qual st f fd) (S : aU N ps (ao st))
   (hb : ∀ (dY : Value) (Ar : Around) (outer : List Env) (s : Shared) (H : Hp) (E : XK) (b : Bx) (a : A), fd.code = dY -> fF k (Ar.deeper (envOfC qual (ao st) s.heap.objs.size f dY)) -> Pre a →
     fq (wJ gO P w K mg base N qual (ao st) f dY Ar outer s H E).Rt CL b (gk st) (entry N (arg a)) { nx := fun _ => res a = .sh .non, rt := fun t _ => t = res a }) :
   ck P w K mg base gO (k + 1) f fd ps (kK K CL ps.length arg Pre res) := by
 refine Tz F S (fun vs H Q E h => ?_) (fun dY Ar outer s H vs Q E jy hr h => ?_)
 . obtain ⟨W, a, _, _, r, hl, _⟩ := h
   rw [← r.length]; exact hl
 . obtain ⟨W, a, wh, tp, r, hl, hp, tb, kk⟩ := h
   refine ⟨_, Sj, hb dY Ar outer s H E ⟨H, W⟩ a jy hr hp H W _ [] [] _ ⟨⟨[], [], ?_, .nil, aj4, fun a ha => by cases ha⟩, .refl _, .refl _, wh, fun a o q z => ?_, tp, tb⟩ ⟨fun δ' σ' H' Z' s' S' e => ?_, fun t v H' Z' δ' σ' s' S' e => ?_, fun _ _ _ _ _ _ e => e.elim, fun _ _ _ _ _ _ e => e.elim⟩⟩
   . unfold entry L2.start
     rw [← r.length]
     exact jE _ r
   . have q' : W a = some o := q
     have z' : W a = none := z
     rw [q'] at z'; cases z'
   . exact kk .non H' Z' [] S'.bh S'.zz S'.zh S'.new S'.tp (by rw [show res a = .sh .non from e]; exact .sh .non) aj4 fun a ha => by cases ha
   . have e' : t = res a := e
     subst e'
     obtain ⟨fp, gp, _, r', nd, own⟩ := S'.rep
     cases r' with
     | @cons _ _ _ _ f1 f2 r1 r2 =>
       have h1 := (ajt.mp nd).2.1
       exact kk v H' Z' f1 S'.bh S'.zz S'.zh S'.new S'.tp r1 (ajt.mp h1).1 fun a ha => own a (aiD _ (aiP _ ha))
noncomputable def xh (mg : Str -> Option Value) (base : Heap) : Prop := ∃ bm o, mg "__builtins__" = some (.ref bm) /\ bm ≠ builtinsNs /\ bm ≠ mainGlobals /\ base.get? bm = some o /\ o.cls = .type "module" /\ o.dict = some builtinsNs /\ o.data = .plain
theorem aeX {CX : NF} {P : Program} {w : World} {K : PySem.W.Frag} {mg : Str -> Option Value} {base : Heap} {N : List Str} {qual : Str} {scope : Scope} {f c : Addr} {dY : Value} {A : Around} {outer : List Env} {s : Shared} {H : Hp} {E : XK} {CL : Str -> Addr} {tx q : Str} {fd : FuncData}
   (bl : xh mg base) (kb : K.In base) (hc : fd.code = dY) (hf : fd.code = .ref c) (hd : PySem.W.codeHdIn K c (CL tx) = true) (h0 : CL tx ≠ 0) (hq : Ld tx = q := by decide +kernel) (ht : Es tx = true := by decide +kernel) (hn : qual ++ ".<locals>." ++ "<lambda>" = q := by decide +kernel) :
   Tr (wJ CX P w K mg base N qual scope f dY A outer s H E).Rt CL tx q :=
 ⟨⟨c, hc.symm.trans hf, PySem.W.codeHd_of_K kb hd⟩, bl, hn, ht, h0, hq⟩
noncomputable def spT (K : PySem.W.Frag) (ts : List (Addr × Str)) {A : Type} (n : Nat) (arg : A -> List D) (Pre : A -> Prop) (res : A -> T) : Sp := fun vs H Q _ =>
 ∃ (W : Hp) (a : A), aH W H /\ (∀ c o, H c = some o -> jW o = true -> W c = some o) /\ aK K (fun _ => 0) W (arg a) vs /\ (arg a).length = n /\ Pre a /\ (∀ p ∈ ts, W p.1 = some (.tabs p.2)) ∧
   ∀ v H' W' fp, aH H H' -> aH W W' -> aH W' H' -> (∀ c o, W' c = some o -> W c = none -> H c = none) -> (∀ c o, H' c = some o -> jW o = true -> W' c = some o) →
     cW K (fun _ => 0) H' W' (res a) v fp -> fp.Nodup -> (∀ c ∈ fp, W' c = none /\ H c = none) -> Q v H'
theorem TF {K : PySem.W.Frag} {CL : Str -> Addr} {ts : List (Addr × Str)} {arg : List Int -> List D} {pre : List Int -> Prop} {res : List Int -> T} (ha : ∀ a, arg a = [.lst (a.map .int)]) (hr : ∀ a, res a = .sh (.bl true)) (h0 : ∀ x, Es x = true -> CL x ≠ 0 -> (CL x, Ld x) ∈ ts) :
   ∀ (vs : List V) (H : Hp) (Q : VK) (E : XK), spT K ts 1 arg pre res vs H Q E -> kK K CL 1 arg pre res vs H Q E := by
 rintro vs H Q E ⟨W, a, h1, h2, h3, h4, h5, h6, k⟩
 have Y4 : ∀ {l : List Int} {us : List V}, aK K (fun _ => 0) W (l.map .int) us -> aK K CL W (l.map .int) us := by
   intro l
   induction l with
   | nil => intro us r; cases r; exact .nil
   | cons i l ih =>
     intro us r
     cases r with
     | cons r t => cases r; exact .cons (.int i) (ih t)
 refine ⟨W, a, h1, h2, ?_, h4, h5, fun x hx e => h6 _ (h0 x hx e), fun v H' W' fp a1 a2 a3 a4 a5 r nd own => k v H' W' fp a1 a2 a3 a4 a5 ?_ nd own⟩
 . rw [ha] at h3 ⊢
   cases h3 with
   | cons r t =>
     cases t
     cases r with
     | lst q rr => exact .cons (.lst q (Y4 rr)) .nil
 . rw [hr] at r ⊢
   cases r with
   | sh r => cases r; exact .sh (.bl _)
theorem TH {K : PySem.W.Frag} {H : Hp} {a : Addr} {ts : List (Addr × Str)} {arg : List Int -> List D} {pre : List Int -> Prop} {res : List Int -> T} {ns : List Int} (ha : arg ns = [.lst (ns.map D.int)]) (hp : pre ns) (hr : res ns = .sh (.bl true)) (hS : nS K H a (ns.map V.int)) (ht : ∀ p ∈ ts, H p.1 = some (.tabs p.2)) :
   spT K ts 1 arg pre res [.ref a] H (fun v H' => v = .bl true /\ ∀ p ∈ ts, H' p.1 = some (.tabs p.2)) fun _ _ _ => False :=
 ⟨H, ns, .refl _, fun _ _ q _ => q, by rw [ha]; exact .cons (.lst hS (Ey ns)) .nil, by rw [ha]; rfl, hp, ht, fun v H' W' fp hh _ _ _ _ r _ _ => by
   refine ⟨?_, fun p hp => hh _ _ (ht p hp)⟩
   rw [hr] at r
   cases r with
   | sh r => exact r.sc rfl⟩
theorem lM : ∀ {ts : List (Addr × Str)} {b : Addr} {q : Str}, ts.lookup b = some q -> (b, q) ∈ ts
 | [], _, _, e => by cases e
 | (c, x) :: r, b, q, e => by
   rw [ajg] at e
   cases hb : b == c with
   | true => rw [hb] at e; cases e; rw [eq_of_beq hb]; exact .head _
   | false => rw [hb] at e; exact .tail _ (lM e)
theorem LW {P : Program} {w : World} {K : PySem.W.Frag} {mg mb : Str -> Option Value} {k : Nat} {fa a : Addr} {fd : FuncData} {x : Str} {sp : Sp} {s₁ : Shared} {vs : List Value} {ns : List Int} {ts : List (Addr × Str)}
   (KX : K.In s₁.heap) (hns : s₁.heap.Ns mainGlobals mg) (hb : s₁.heap.Ns builtinsNs mb) (hbb : ∀ x : Str, x ≠ "__name__" -> mb x = bootBuiltins x) (aeY : s₁.heap.NoLimit) (hg : s₁.gens = #[]) (hbl : xh mg s₁.heap)
   (ha : s₁.heap.get? a = some { cls := .type "list", data := .seq vs.toArray }) (hi : IntsAre vs ns) (hl : ns.length <= sizeLine) (hr : fF k callerA)
   (hT : ∀ p ∈ ts, s₁.heap.get? p.1 = some (PySem.W.tabObj #[]) /\ ts.lookup p.1 = some p.2 /\ K.lookup p.1 = none /\ ∃ c, PySem.W.CodeHd s₁.heap c p.1)
   (F : ∀ base : Heap, K.In base -> base.Ns mainGlobals mg -> xh mg base -> ck P w K mg base gO k fa fd [x] sp) (EL : ∀ (s : Shared) (u : Value), BindsTo s fd ⟨[u], []⟩ [(x, u)])
   (Ru : ∀ H : Hp, nS K H a (ns.map V.int) -> (∀ p ∈ ts, H p.1 = some (.tabs p.2)) -> sp [.ref a] H (fun v H' => v = .bl true /\ ∀ p ∈ ts, H' p.1 = some (.tabs p.2)) fun _ _ _ => False) :
   codeAny (model P w) callerA (.call (.ref fa) ⟨[.ref a], []⟩) (fun r s' => r = .ok (.ret (.bool true)) /\ OldK s₁.heap s'.heap /\ s'.os = s₁.os /\ AllBare s'.gens) s₁ := by
 have rv := As hi
 have aeZ := hi.length
 have aT : ∀ p ∈ ts, p.1 ≠ a := fun p hp z => by
   have := (hT p hp).1
   rw [z, ha] at this; cases this
 have core : ∀ H : Hp, (∀ b, H b = none \/ (∃ o xs, b = a /\ H b = some (.dQ o (.lst xs))) \/ ∃ p ∈ ts, b = p.1 /\ H b = some (.tabs p.2)) -> nS K H a (ns.map V.int) -> (∀ p ∈ ts, H p.1 = some (.tabs p.2)) -> qQ P w H s₁.heap -> (H a ≠ none -> K.lookup a = none) →
     codeAny (model P w) callerA (.call (.ref fa) ⟨[.ref a], []⟩) (fun r s' => r = .ok (.ret (.bool true)) /\ OldK s₁.heap s'.heap /\ s'.os = s₁.os /\ AllBare s'.gens) s₁ := by
   intro H hO hS hH dw hK
   have noA : ∀ {b : Addr} {o : Obj}, s₁.heap.get? b = some o -> o ≠ { cls := .type "list", data := .seq vs.toArray } -> o ≠ PySem.W.tabObj #[] -> H b = none := fun {b o} e d1 d2 => by
     rcases hO b with q | ⟨_, _, z, _⟩ | ⟨p, hp, z, _⟩
     . exact q
     . rw [z, ha] at e; exact absurd (aiZ e).symm d1
     . rw [z, (hT p hp).1] at e; exact absurd (aiZ e).symm d2
   have BJ : ∀ {b : Addr} {o : Obj}, s₁.heap.get? b = some o -> H b = none -> (zb s₁.heap H).get? b = some o := fun e n => Nf e n
   have nsK : ∀ {b : Addr} {m : Str -> Option Value}, s₁.heap.Ns b m -> (zb s₁.heap H).Ns b m := fun {b m} ⟨o, es, ep, e, d, r⟩ => ⟨o, es, ep, BJ e (noA e (fun z => by rw [z] at d; cases d) fun z => by rw [z] at d; cases d), d, r⟩
   have hKb : K.In (zb s₁.heap H) := fun b o e => BJ (KX b o e) (by
     rcases hO b with q | ⟨_, _, z, q⟩ | ⟨p, hp, z, _⟩
     . exact q
     . subst z
       rw [hK (by rw [q]; simp)] at e; cases e
     . rw [z, (hT p hp).2.2.1] at e; cases e)
   have hM : Mod K mg (zb s₁.heap H) := ⟨hKb, nsK hns, ⟨mb, nsK hb, hbb⟩, let ⟨mc, h1, h2⟩ := aeY; ⟨mc, nsK h1, h2⟩⟩
   have hBb : xh mg (zb s₁.heap H) := by
     obtain ⟨bm, o, b1, b2, b3, b4, b5, b6, b7⟩ := hbl
     exact ⟨bm, o, b1, b2, b3, BJ b4 (noA b4 (fun z => by rw [z] at b7; cases b7) fun z => by rw [z] at b7; cases b7), b5, b6, b7⟩
   have e0 : GY P w K mg (zb s₁.heap H) callerA [] s₁ H := ⟨rfl, hM, fun b o e => RG e, Nat.le_of_eq (KH _ _), trivial, fun b hb => absurd (show b ∈ ([] : List Addr) from hb) (by simp), dw, .of_eq hg⟩
   refine codeAny_mono ((F _ hKb (nsK hns) hBb).run callerA [] s₁ H ⟨[.ref a], []⟩ [.ref a] [.ref a] _ _ hr e0 (EL s₁ (.ref a)) (.cons rfl .nil) (Ru H hS hH)) fun r s' h => ?_
   cases r with
   | error e => exact h.elim
   | ok fl =>
     cases fl with
     | next => exact False.elim h
     | brk => exact False.elim h
     | cont => exact False.elim h
     | ret u =>
       obtain ⟨v, H', os, bare, un, acr, r', q, qt⟩ := h
       subst q
       obtain rfl : u = Value.bool true := r'
       have tabAt : ∀ p ∈ ts, ∃ ps : Array Value, s'.heap.get? p.1 = some (PySem.W.tabObj ps) := fun p hp => by
         obtain ⟨ps, e, _⟩ := acr _ _ (qt p hp)
         exact ⟨ps, e⟩
       have keep : ∀ b o, s₁.heap.get? b = some o -> (∀ p ∈ ts, b ≠ p.1) -> s'.heap.get? b = some o := fun b o e nt => by
         rcases hO b with q | ⟨ob, xs, z, q⟩ | ⟨p, hp, z, _⟩
         . exact un.keep b o e q (by intro z; exact absurd (show b ∈ ([] : List Addr) from z) (by simp)) (by simp)
         . have z2 := un.dD b ob _ q
           obtain ⟨e1, _⟩ := dw b _ q
           obtain ⟨e2, _⟩ := acr b _ z2
           rw [e] at e1; cases e1
           exact e2
         . exact absurd z (nt p hp)
       refine ⟨rfl, ⟨fun b o e => ?_, fun b o e => ?_⟩, os, bare⟩
       . by_cases nt : ∀ p ∈ ts, b ≠ p.1
         . exact .inl (keep b o e nt)
         . obtain ⟨p, hp, rfl⟩ : ∃ p ∈ ts, b = p.1 := Classical.byContradiction fun q => nt fun p hp z => q ⟨p, hp, z⟩
           obtain ⟨h1, _, _, c, hc⟩ := hT p hp
           obtain ⟨ps, e2⟩ := tabAt p hp
           rw [h1] at e; cases e
           exact .inr (.inl ⟨(hc.tab h1).isCodeTable, rfl, #[], ps, rfl, by rw [Array.empty_append]; exact e2⟩)
       . by_cases nt : ∀ p ∈ ts, b ≠ p.1
         . exact ⟨o, keep b o e nt⟩
         . obtain ⟨p, hp, rfl⟩ : ∃ p ∈ ts, b = p.1 := Classical.byContradiction fun q => nt fun p hp z => q ⟨p, hp, z⟩
           obtain ⟨ps, e2⟩ := tabAt p hp
           exact ⟨_, e2⟩
 have tok : ∀ {H : Hp} {b : Addr} {q : Str}, ts.lookup b = some q -> eY P w H s₁.heap b (.tabs q) := fun {H b q} e => by
   obtain ⟨h1, _⟩ := hT (b, q) (lM e)
   exact ⟨#[], h1, trivial, fun pos cv z => by simp [codeAmong] at z⟩
 cases hk : K.lookup a with
 | some o =>
   have e := KX a o hk
   rw [ha] at e
   cases e
   refine core (fun b => (ts.lookup b).map HO.tabs) (fun b => ?_) (.inr ⟨_, vs.toArray, _, hk, rfl, rfl, rfl, by rw [List.size_toArray, aeZ]; exact hl, by simpa using rv⟩) (fun p hp => ?_) (fun b u z => ?_) fun z => ?_
   . cases q : List.lookup b ts with
     | none => left; rfl
     | some t => right; right; exact ⟨(b, t), lM q, rfl, rfl⟩
   . show (ts.lookup p.1).map HO.tabs = _
     rw [(hT p hp).2.1]; rfl
   . have z' : (ts.lookup b).map HO.tabs = some u := z
     cases q : List.lookup b ts with
     | none => rw [q] at z'; cases z'
     | some t => rw [q] at z'; cases z'; exact tok q
   . exfalso
     apply z
     show (ts.lookup a).map HO.tabs = none
     cases q : ts.lookup a with
     | none => rfl
     | some t => exact absurd rfl (aT (a, t) (lM q))
 | none =>
   refine core (fun b => if b = a then some (.dQ { cls := .type "list", data := .seq vs.toArray } (.lst (ns.map V.int))) else (ts.lookup b).map HO.tabs) (fun b => ?_) (.inl (.inr ⟨{ cls := .type "list", data := .seq vs.toArray }, aiI rfl⟩)) (fun p hp => ?_) (fun b u z => ?_) fun _ => hk
   . by_cases hb : b = a
     . exact .inr (.inl ⟨_, _, hb, aiI hb⟩)
     . cases q : List.lookup b ts with
       | none => left; rw [aiG hb]; rfl
       | some t => right; right; exact ⟨(b, t), lM q, rfl, by rw [aiG hb]; rfl⟩
   . show (if p.1 = a then _ else (ts.lookup p.1).map HO.tabs) = _
     rw [aiG (aT p hp), (hT p hp).2.1]; rfl
   . by_cases hb : b = a
     . have z' := (aiI hb).symm.trans z
       cases z'
       subst hb
       exact ⟨ha, by rw [aiC]; exact hl, vs, _, rv, ha⟩
     . have z' : (ts.lookup b).map HO.tabs = some u := (aiG hb).symm.trans z
       cases q : List.lookup b ts with
       | none => rw [q] at z'; cases z'
       | some t => rw [q] at z'; cases z'; exact tok q
theorem Pb {l : PySem.W.OpenLaw} {n k : Nat} {q : Program} {loose : List Str} {XP : (Str -> Option Value) -> Heap -> Prop} {YP : World -> Heap -> Prop} {d : DefRec} {K : Params -> PySem.W.Frag} {sp : World -> List (Addr × Str) -> Sp} {x : Str} {T0 : List Addr}
   (hn : l.most = some n) (hn2 : n <= sizeLine) (hdf : d.params.defaults = []) (hr : fF k callerA)
   (hY : ∀ (w : World) (h : Heap), YP w h -> (K w.params).In h) (hT : ∀ (w : World) (h : Heap), YP w h -> ∀ P ∈ T0, h.get? P = some (PySem.W.tabObj #[]))
   (F : ∀ (w : World) (mg : Str -> Option Value) (fa : Addr) (h : Heap), (K w.params).In h -> h.Ns mainGlobals mg -> mg d.name = some (.ref fa) →
     ∃ (fd : FuncData) (ts : List (Addr × Str)), (∀ p ∈ ts, p.1 ∈ T0 /\ ts.lookup p.1 = some p.2 /\ (K w.params).lookup p.1 = none /\ ∃ c, PySem.W.CodeHd h c p.1) /\ (∀ (s : Shared) (u : Value), BindsTo s fd ⟨[u], []⟩ [(x, u)]) ∧
       ∀ base : Heap, (K w.params).In base -> base.Ns mainGlobals mg -> xh mg base -> ck l.prog w (K w.params) mg base gO k fa fd [x] (sp w ts))
   (Ru : ∀ (w : World) (ts : List (Addr × Str)) (H : Hp) (a : Addr) (ns : List Int), ns.length <= n -> nS (K w.params) H a (ns.map V.int) -> (∀ p ∈ ts, H p.1 = some (.tabs p.2)) -> sp w ts [.ref a] H (fun v H' => v = .bl true /\ ∀ p ∈ ts, H' p.1 = some (.tabs p.2)) fun _ _ _ => False) :
   PySem.W.WalkO q loose XP YP l.row.toRowW d [] (fun f vs => PySem.call f vs) := by
 refine Att.Em hn hdf fun w s₀ s₁ mg mb fa o pm cd doc a vs ns G Y ho hd jy hmg X6 hints hlen hg => ?_
 have KX := hY w _ Y
 obtain ⟨fd, ts, hts, hb, hF⟩ := F w mg fa _ KX G.T.g hmg
 obtain ⟨bm, ob, b1, b2, b3, b4, b5, b6⟩ := G.T.bmain
 have hbG : bm ≠ mainGlobals := fun q => by
   obtain ⟨o, es, ep, e, hd, _⟩ := G.T.g
   rw [q, e] at b3; cases b3; rw [hd] at b6; cases b6
 exact LW KX G.T.g G.T.b G.T.builtins G.T.nolimit hg ⟨bm, ob, b1, b2, hbG, b3, b4, b5, b6⟩ X6 hints (ajL hlen hn2) hr (fun p hp => ⟨hT w _ Y _ (hts p hp).1, (hts p hp).2⟩) hF hb fun H hS ht => Ru w ts H a ns hlen hS ht
noncomputable def ae0 (y : Int) : Value -> Bool
 | .int i _ => i == y
 | _ => false
section
variable {X : Cx}
theorem Pg : MtR X "list.index" (fun x xs H Q => ∃ (p : Addr) (l : List Int) (y : Int) (j : Nat), x = .ref p /\ xs = [.int y] /\ nS X.K H p (l.map .int) /\ l[j]? = some y /\ (∀ i, i < j -> l[i]? ≠ some y) /\ Q (.int (j : Int)) H) := by
 intro pins s σ H x xs v us Q I rx rs h
 obtain ⟨p, l, y, j, rfl, rfl, hq, hj, Hv, q⟩ := h
 cases rx
 obtain ⟨u, rfl, ru⟩ := rs.one
 obtain ⟨t, rfl⟩ := ru
 obtain ⟨its, r, ⟨⟨oc, od, oda, M5⟩, n, e, hc, hd, hs⟩, hz⟩ := I.list hq
 dsimp only at hc hd hs
 subst hc hd hs
 have hi := intsAre_of r
 have at' : ∀ {i : Nat} (hi : i < its.toArray.size), ∃ k t, its.toArray[i] = .int k t /\ l[i]? = some k := fun {i} rY => by
   have ae1 : i < its.length := by simpa using rY
   have hl : i < l.length := by have := r.length; rw [aiC] at this; omega
   obtain ⟨u, e1, e2⟩ := r.get (i := i) (x := .int l[i]) (by rw [ai5, aiL hl]; rfl)
   obtain ⟨t, rfl⟩ := e2
   refine ⟨l[i], t, ?_, aiL hl⟩
   rw [aiL ae1] at e1
   simpa using Option.some.inj e1
 have pS : j < its.toArray.size := by
   have h1 := (ai3.mp hj).1
   have := r.length
   rw [aiC] at this
   simp; omega
 have hsz : its.toArray.size <= sizeLine := by
   have := r.length
   rw [aiW, ← this]; exact hz
 refine call_meets F.slot_list_index ⟨_, e, rfl⟩ F.entry_list_index (F.args_list_index_2 _ _) (SeqAt.list_indexAt p its.toArray n none M5 (.int y t) (ae0 y) j pS (by rw [ajk] at hsz; omega) ?hit fun m hm hmj => ?no) ⟨e, fun w hw => ?eqs, ?_⟩
 case hit =>
   obtain ⟨k, t', e1, e2⟩ := at' pS
   rw [e1]
   rw [hj] at e2
   cases e2
   exact akh y
 case no =>
   obtain ⟨k, t', e1, e2⟩ := at' hm
   rw [e1]
   exact ajR.mpr fun z => Hv m hmj (by rw [e2, z])
 case eqs =>
   obtain ⟨i, rY, rfl⟩ := Array.mem_iff_getElem.mp hw
   obtain ⟨k, t', e1, e2⟩ := at' rY
   rw [e1]
   exact SeqAt.EqAt.int_int k t' y t
 exact ⟨.int (j : Int), H, I.tok _, ⟨_, rfl⟩, q⟩
end
section
variable {X : Cx} {CL : Str -> Addr} {b : Bx} {δ δ1 δ2 : List (Option T)} {o e : Expr} {apos pos : Pos}
theorem Ph {l : List Int} {y : Int} {j : Nat} (h1 : dz X CL b o δ (.lst (l.map .int)) δ1) (h2 : dz X CL b e δ1 (.int y) δ2) (hj : l[j]? = some y) (Hv : ∀ i, i < j -> l[i]? ≠ some y)
   (lF : attributeBase o "index" X.env (eval o X.env) = eval o X.env := by rfl) (Bl : ((backTo pos (starEach [e] X.env)).all (fun x => !x.1) && (backToKw pos (keywordEach [] X.env)).all (fun x => x.1.isSome)
     && decide (([e] : List Expr).length + ([] : List Keyword).length + (if ([] : List Keyword).isEmpty then 0 else 1) < 30)) = true := by rfl)
   (hline : (apos.endLine == pos.line) = true := by rfl) (hs : starEach [e] X.env = (false, eval e X.env) :: starEach [] X.env := by exact bN rfl) (G3 : (backTo pos (starEach [] X.env)).any (·.1) = false := by rfl) :
   cC X CL b (.Call (.Attribute o "index" apos) [e] [] pos) δ (.sh (.int (j : Int))) δ2 := fun H Z σ ts vs Q S k =>
 c6 (NZ (T := "list") (id := "list.index") F.plainAttrs_list F.slot_list_index F.type_list_index Pg eu (cN eu fB hs) lF Bl hline hs G3) (h1 H Z σ ts vs _ S fun v1 H1 Z1 z1 k1 S1 r1 => by
   cases r1 with
   | @lst a us _ hq rr =>
     have := AA rr
     subst this
     refine ⟨?_, h2 H1 Z1 σ ts vs _ S1 fun v2 H2 Z2 z2 k2 S2 r2 => ?_⟩
     . exact .inl ⟨rfl, _, hq⟩
     . cases r2
       exact ⟨a, l, y, j, rfl, rfl, k2.seq hq, hj, Hv, k _ H2 Z2 (z1.trans z2) (k1.trans k2) (S2.push (.int _))⟩)
end
section
variable {X : Cx} {CL : Str -> Addr} {b : Bx} {δ : List (Option T)} {e : Expr} {es : List Expr} {d : L3.D} {ds : List L3.D}
end
theorem TJ {k : Nat} {A : Around} (r : fF k A) : A.depth < recursionLimit := by
 have := r.dp
 omega
section
variable {X : Cx} {CL : Str -> Addr} {b : Bx} {δ δ1 : List (Option T)} {scope : Scope} {y : Str} {Nc : List Str} {ix : List Nat} {elt iter : Expr} {ifs : List Expr} {px pos : Pos} {p : L3.D -> Bool} {g : L3.D -> T} {ds : List L3.D}
end
section
variable {X : Cx}
end
section
variable {X : Cx} {CL : Str -> Addr} {b : Bx} {δ δ1 : List (Option T)} {e : Expr} {pos pp pq pr : Pos}
end
section
variable {X : Cx} {CL : Str -> Addr} {b : Bx} {δ δ1 : List (Option T)} {ds : List L3.D} {i q : Nat} {x y : Str} {pos pp pos' : Pos}
end
section
variable {X : Cx} {CL : Str -> Addr} {b : Bx} {e o : Expr} {δ δ1 δ2 : List (Option T)} {pos apos : Pos}
end
section
variable {X : Cx} {tg : Expr}
end
section
variable {X : Cx} {CL : Str -> Addr} {b : Bx} {δ δ1 δ2 δ3 : List (Option T)} {e e1 e2 e3 : Expr} {ds zm : List L3.D} {pos p2 pr pc : Pos} {tg : Expr}
end
section
variable {X : Cx} {elts : List Expr} {kk : Nat} {pt : Pos}
end
section
variable {X : Cx} {CL : Str -> Addr} {b : Bx} {δ δ1 δ2 : List (Option T)} {e e1 e2 : Expr} {ds es : List D} {elts : List Expr} {kk : Nat} {pt pr pc pos apos : Pos}
end
section
variable {X : Cx} {CL : Str -> Addr} {b : Bx} {δ δ1 δ2 : List (Option T)} {e e2 : Expr} {t : T} {tl Oo tt tt0 : List T} {DD : c7} {fG : List Stmt} {x : Str} {i : Nat} {pos pp pa pb ps : Pos}
theorem Y5 {ds : List L3.D} (h : dz X CL b e δ (.lst ds) δ1) (he : ∀ whole, isTrue e X.env whole = (do let v ← whole; standAt e.pos; holding [v] (truthy v)) := by intro _; rfl) : tO X CL b e δ (!ds.isEmpty) δ1 := fun H Z σ ts vs Q S k =>
 Bq (Ny eu he) (h H Z σ ts vs _ S fun v H1 Z1 z1 k1 S1 r => by
   cases r with
   | @lst a us _ hq rr =>
     refine ⟨_, .inl ⟨us, hq, rfl⟩, ?_⟩
     have e : us.isEmpty = ds.isEmpty := by
       have := rr.length
       cases us <;> cases ds <;> simp at this ⊢
     rw [e]
     exact k H1 Z1 z1 k1 S1)
end
section
variable {X : Cx}
end
section
variable {X : Cx} {CL : Str -> Addr} {b : Bx} {δ δ1 δ2 : List (Option T)} {o e : Expr} {apos pos : Pos}
end
section
variable {K : PySem.W.Frag} {CL : Str -> Addr} {b : Bx} {H Z : Hp} {δ : List (Option T)} {σ : L2.St} {ts tl : List T} {vs : List V} {t : T} {v : V} {d : D}
end
section
variable {X : Cx} {CL : Str -> Addr} {b : Bx} {δ δ1 δ2 : List (Option T)} {e e1 e2 : Expr} {t : T} {d : L3.D} {DD : c7} {pos pp ps : Pos} {i : Nat} {x : Str} {fG : List Stmt} {aY : List (List Key × L3.D)} {k : List Key}
end
section
variable {X : Cx}
end
section
variable {X : Cx} {CL : Str -> Addr} {b : Bx} {δ δ1 : List (Option T)} {e : Expr} {pos pp pq pr : Pos}
end
section
variable {X : Cx} {CL : Str -> Addr} {b : Bx} {δ δ1 δ2 : List (Option T)} {e1 e2 e3 : Expr} {pos : Pos}
end
section
variable {prog : Program} {w : World} {A : Around} {E : Value -> Shared -> Prop} {s : Shared}
end
section
variable {X : Cx}
end
section
variable {X : Cx} {CL : Str -> Addr} {b : Bx} {δ δ1 : List (Option T)} {e : Expr} {pos pp pq pr : Pos}
end
section
variable {X : Cx} {CL : Str -> Addr} {b : Bx} {δ δ1 δ2 : List (Option T)} {e1 e2 : Expr} {pos : Pos} {aY : List (Key × D)}
end
section
variable {X : Cx} {CL : Str -> Addr} {b : Bx} {δ δ1 δ2 : List (Option T)} {e1 e2 : Expr} {pos : Pos}
end
section
variable {X : Cx} {CL : Str -> Addr} {b : Bx} {δ δ1 : List (Option T)} {i q : Nat} {x y : Str} {pos pp pos' : Pos}
variable {K : PySem.W.Frag} {H Z : Hp} {σ : L2.St} {ts tl : List T} {vs us : List V} {t u : T} {v w : V} {a : Addr}
end
section
variable {K : PySem.W.Frag} {CL : Str -> Addr} {b : Bx} {H Z : Hp} {δ : List (Option T)} {σ : L2.St} {ts tl : List T} {vs : List V} {t : T} {i : Nat}
theorem xj {H Z : Hp} : ∀ {tl : List T} {us : List V} {g : List Addr}, aZ K CL H Z (tl ++ [t]) us g -> ∃ Tw u g1 g2, us = Tw ++ [u] /\ g = g1 ++ g2 /\ aZ K CL H Z tl Tw g1 /\ cW K CL H Z t u g2
 | [], _, _, .cons (v := v) (fp := fp) r .nil => ⟨[], v, [], fp, rfl, ai6 _, .nil, r⟩
 | _ :: _, _, _, .cons (v := v) (fp := fp) r rr => by
   obtain ⟨Tw, u, g1, g2, e1, e2, r1, r2⟩ := xj rr
   subst e1 e2
   exact ⟨v :: Tw, u, fp ++ g1, g2, rfl, (aiM ..).symm, .cons r r1, r2⟩
theorem bX.TL (S : bX K CL b H Z δ σ ts vs) (hi : δ[i]? = some (some (.lst (tl ++ [t])))) :
   ∃ a us u, σ[i]? = some (some (.ref a)) /\ H a = some (.lst (us ++ [u])) /\ bX K CL b (upd H a (.lst us)) Z (δ.set i (some (.lst tl))) σ (t :: ts) (u :: vs) := by
 obtain ⟨fp, gp, e, r, nd, k⟩ := S.rep
 obtain ⟨v0, f1, f2, f3, hv, rR, rt, put, _⟩ := e.get hi
 subst rR
 cases rt with
 | @lst a us _ g ha rs =>
   obtain ⟨Tw, u, g1, g2, e1, e2, r1, r2⟩ := xj rs
   subst e1 e2
   have ne : ∀ c ∈ (f1 ++ ((g1 ++ g2) ++ f3)) ++ gp, c ≠ a := fun c hc e => by
     subst e
     have hp : ((f1 ++ ((c :: (g1 ++ g2)) ++ f3)) ++ gp).Perm (c :: ((f1 ++ ((g1 ++ g2) ++ f3)) ++ gp)) := by
       rw [ai0, ← ai0]
       exact (ajG.append_right _)
     exact (ajA.mp (hp.nodup_iff.mp nd)).1 hc
   refine ⟨a, Tw, u, hv, ha, ?_⟩
   have q1 : cW K CL (upd H a (.lst Tw)) Z (.lst tl) (.ref a) (a :: g1) := .lst aP (r1.mono (.refl _) fun c hc => aA (ne c (by simp [hc])))
   have e2 := put (H' := upd H a (.lst Tw)) (.refl _) (fun c hc => aA (ne c (by
     rcases aiO.mp hc with h | h
     . simp [h]
     . simp [h]))) q1
   rw [lI hv] at e2
   have hp : ((f1 ++ ((a :: g1) ++ f3)) ++ (g2 ++ gp)).Perm ((f1 ++ ((a :: (g1 ++ g2)) ++ f3)) ++ gp) := by
     simp only [ai0, aiM]
     refine ajd f1 (List.Perm.cons a (ajd g1 ?_))
     rw [← aiM, ← aiM]
     exact ajl.append_right gp
   exact S.write nd k (aiF) ⟨_, ha⟩ e2 (.cons (r2.mono (.refl _) fun c hc => aA (ne c (by simp [hc]))) (r.mono (.refl _) fun c hc => aA (ne c (by simp [hc])))) (hp.nodup_iff.mpr nd) fun c hc => hp.mem_iff.mp hc
end
section
variable {X : Cx} {CL : Str -> Addr} {b : Bx} {δ δ1 δ2 : List (Option T)} {e e1 e2 : Expr} {t : T} {tl : List T} {ds zm : List L3.D} {D : c7} {pos pp pa : Pos} {fG : List Stmt} {i : Nat} {x : Str}
theorem Y6 (n : Vn X i x) (h : δ[i]? = some (some (.lst (tl ++ [t])))) (lF : attributeBase (.Name x pp) "pop" X.env (eval (.Name x pp) X.env) = eval (.Name x pp) X.env := by rfl) (hline : (pa.endLine == pos.line) = true := by rfl) :
   TEm X CL b (.Call (.Attribute (.Name x pp) "pop" pa) [] [] pos) δ t (δ.set i (some (.lst tl))) := fun H Z σ ts vs Q S k =>
 c6 (X3 akB PySem.F.slot_list_pop PySem.F.type_list_pop X5 (kI n.hi n.hv n.hd n.jy) lF hline) (by
   obtain ⟨a, us, u, hv, ha, S2⟩ := S.TL h
   refine ⟨_, hv, .inl ⟨rfl, _, .inl (.inl ha)⟩, ?_⟩
   refine ⟨a, us ++ [u], u, rfl, rfl, ha, by simp, ?_⟩
   rw [List.dropLast_concat]
   exact k u _ Z (.refl _) S2)
theorem acs {d : L3.D} (h : δ[i]? = some (some t)) (q : t.dQ = d) (k : fq X CL b fG (δ.set i (some (.sh d))) D) : fq X CL b fG δ D := fun H Z σ ts vs E S M => by
 subst q
 obtain ⟨v, Z', _, z, S'⟩ := S.JK h
 exact k H Z' σ ts vs E S'.pop (M.mono z)
theorem Pj : vC X (binaryOp .Add) (fun x y H Q => ∃ a b ys, x = .ref a /\ y = .ref b /\ rS X.K H a [] /\ rS X.K H b ys /\ Q (.ref b) H) := by
 intro pins s σ H x y v u Q I rx ry h
 obtain ⟨a, b, ys, rfl, rfl, ha, hb, q⟩ := h
 cases rx
 cases ry
 obtain ⟨its, r1, p1, _⟩ := I.tuple ha
 obtain ⟨wL, r2, p2, _⟩ := I.tuple hb
 have e1 := r1.vP.mpr rfl
 subst e1
 obtain ⟨⟨cls, dd, data, sl⟩, ho, hc, n, hd⟩ := id p1
 obtain ⟨⟨aec, dd2, data2, sl2⟩, Rw, Ej, n2, hd2⟩ := id p2
 simp only at hc hd Ej hd2
 subst hc hd Ej hd2
 exact concat_meets ⟨_, ho, rfl⟩ ⟨_, Rw, rfl⟩ noFill_tuple_add seq_tuple_add PySem.F.slot_tuple_add akA (aku _ _)
     (tuple_addW0 a b #[] wL.toArray n n2 dd dd2 sl sl2 rfl) ⟨ho, Rw, .ref b, H, I, rfl, q⟩
theorem EW (h1 : cC X CL b e1 δ (.sh (.tup ds)) δ1) (h2 : cC X CL b e2 δ1 (.sh (.tup zm)) δ2) (n2 : zm ≠ []) (hz : ds.length + zm.length <= sizeLine) :
   cC X CL b (.BinOp e1 .Add e2 pos) δ (.sh (.tup (ds ++ zm))) δ2 := by
 cases ds with
 | cons d ds => exact OZ h1 h2 (List.cons_ne_nil _ _) n2 hz
 | nil =>
     intro H Z σ ts vs Q S k
     exact c6 (Ju Pj eu eu) (h1 H Z σ ts vs _ S fun v1 H1 Z1 z1 k1 S1 => h2 H1 Z1 σ _ _ _ S1 fun v2 H2 Z2 z2 k2 S2 => by
       have r2 := S2.OY
       have r1 := S2.pop.OY
       cases r1 with
       | tup Rz WL =>
         cases WL
         have r2' := r2
         cases r2 with
         | tup hq2 Yy => exact ⟨_, _, _, rfl, rfl, aH.Lb S2.zh Rz, aH.Lb S2.zh hq2, k _ _ Z2 (z1.trans z2) (k1.trans k2) (S2.pop.pop.push r2')⟩)
theorem Hw : nP X (.type "dict") (fun xs H Q => ∃ a aY, xs = [.ref a] /\ Rd H a (.dK aY) /\ ∀ p, H p = none -> Q (.ref p) (upd H p (.dK aY))) := by
 intro pins s σ H xs us Q I r h
 obtain ⟨a, aY, rfl, ha, q⟩ := h
 obtain ⟨u, rfl, ru⟩ := vals1 r
 cases ru
 exact N8 I ha fun p s' hp I' => ⟨.ref p, _, I', rfl, q p hp⟩
theorem bX.TN {p : Addr} {gs : List (Key × V)} {aY : List (Key × L3.D)} {K : PySem.W.Frag} {H Z : Hp} {σ : L2.St} {ts : List T} {vs : List V} (S : bX K CL b H Z δ σ ts vs) (hr : bU K CL Z aY gs) (hp : H p = none) : aH H (upd H p (.dK gs)) /\ bX K CL b (upd H p (.dK gs)) Z δ σ (.jC aY :: ts) (.ref p :: vs) := by
 obtain ⟨fp, gp, e, r, nd, k⟩ := S.rep
 have zp : Z p = none := S.zh.free hp
 have sh : aH H (upd H p (.dK gs)) := aH.upd hp
 have keep : ∀ a ∈ fp ++ gp, a ≠ p := fun a ha => by
   have : ∃ o, H a = some o := by
     rcases aiO.mp ha with h | h
     . exact e.there a h
     . exact r.there a h
   obtain ⟨o, q⟩ := this
   exact aL q hp
 refine ⟨sh, ⟨⟨fp, [p] ++ gp, e.mono (.refl _) (fun a ha => aA (keep a (aiP _ ha))), .cons (.jC aP hr) (r.mono (.refl _) fun a ha => aA (keep a (by simp [ha]))), ?_, fun a ha => ?_⟩, S.bh.trans sh, S.zz, S.zh.trans sh, S.new, fun a o q i => ?_, S.tab⟩⟩
 . refine (ajG (l₁ := fp) (l₂ := gp) (a := p)).nodup_iff.mpr (ajA.mpr ⟨fun h => keep p h rfl, nd⟩)
 . rcases aiN.mp ((ajG (l₁ := fp) (l₂ := gp) (a := p)).mem_iff.mp ha) with h | h
   . subst h; exact ⟨zp, S.bh.free hp⟩
   . exact k a h
 . by_cases h : a = p
   . subst h
     rw [aP] at q
     cases q
     cases i
   . rw [aA h] at q
     exact S.tp a o q i
theorem Hx : bootBuiltins "dict" = some (.type "dict") := by decide +kernel
theorem Pk {aY : List (Key × L3.D)} (hm : X.mg "dict" = none) (h : cC X CL b e δ (.sh (.jC aY)) δ1) (hg : Gl X "dict") (hs : starEach [e] X.env = (false, eval e X.env) :: starEach [] X.env := by exact bN rfl) : cC X CL b (.Call (.Name "dict" pp) [e] [] pos) δ (.jC aY) δ1 := fun H Z σ ts vs Q S k =>
 c6 (lE Hw hg hm Hx (cN eu fB hs) (he := hs)) (h H Z σ ts vs _ S fun v H1 Z1 z1 k1 S1 => by
   have r := S1.OY
   cases r with
   | @jC a gs _ ha rr =>
     refine ⟨a, gs, rfl, .inl (S1.zh _ _ ha), fun p hp => ?_⟩
     obtain ⟨c, S2⟩ := S1.pop.TN rr hp
     exact k _ _ _ z1 (k1.trans c) S2)
theorem TQ {kj : Nat} {p2 : Pos} (h : dz X CL b e1 δ (.tup ds) δ1) : tO X CL b (.Compare e1 [.Is] [.Constant .none kj p2] pos) δ false δ1 := fun H Z σ ts vs Q S k =>
 Bq (Nm (Xh eu)) (h H Z σ ts vs _ S fun v H1 Z1 z1 k1 S1 r => by
     cases r with
     | tup hq rr => exact ⟨_, rfl, by simpa using k H1 Z1 z1 k1 S1⟩)
end
end L3
namespace Law
open PySem L2 L3
noncomputable def top (i : Nat) : Stmt := PySem.Challenge.pw_moodtree_k49_a_branch_is_what_is_picked.main.body.getD i (.Pass ⟨0, 0, 0, 0⟩)
noncomputable def vY : Nat -> List Int -> Int -> List Int
 | 0, _, _ => []
 | n + 1, es, k => if k = -1 then [] else k :: vY n es (es.getD k.toNat 0)
noncomputable def gP (es : List Int) (m : Int) : List Int := vY (es.length + 1) es (es.getD m.toNat 0)
noncomputable def jd (es : List Int) : Prop := ∀ k : Nat, k < es.length -> -1 <= es.getD k 0 /\ es.getD k 0 < k
theorem jd.at {es : List Int} (h : jd es) {k : Int} (h0 : 0 <= k) (h1 : k < es.length) : -1 <= es.getD k.toNat 0 /\ es.getD k.toNat 0 < k := by
 have := h k.toNat (by omega)
 omega
noncomputable def oh (ks : List Str) (es ss : List Int) : L3.D := .ins "Tree" [("kinds", .lst (ks.map .str)), ("elders", .lst (es.map .int)), ("starts", .lst (ss.map .int))]
theorem Hy {ks : List Str} {es ss : List Int} : List.lookup ("kinds" : Str) [(("kinds" : Str), L3.D.lst (ks.map .str)), ("elders", .lst (es.map .int)), ("starts", .lst (ss.map .int))] = some (.lst (ks.map .str)) := vV
theorem vd {ks : List Str} {es ss : List Int} : List.lookup ("elders" : Str) [(("kinds" : Str), L3.D.lst (ks.map .str)), ("elders", .lst (es.map .int)), ("starts", .lst (ss.map .int))] = some (.lst (es.map .int)) := by
 rw [j3 (by decide +kernel), vV]
theorem dI (ds : List L3.D) : T.dQ (.lst (ds.map T.sh)) = .lst ds := by rw [T.dQ, jo]
theorem cG (l : List Int) : (T.lst ((l.map L3.D.int).map T.sh)).clean = true := by rw [lH]; exact Ez _
theorem xm (l : List Str) : (T.lst ((l.map L3.D.str).map T.sh)).clean = true := by
 rw [lH]
 induction l with
 | nil => rfl
 | cons x l ih => exact ih
noncomputable def ve (ks : List Str) (es ss : List Int) : List (Str × T) := [("kinds", .lst ((ks.map .str).map T.sh)), ("elders", .lst ((es.map .int).map T.sh)), ("starts", .lst ((ss.map .int).map T.sh))]
theorem LX (ks : List Str) (es ss : List Int) : T.dQ (.ins "Tree" (ve ks es ss)) = oh ks es ss := by
 unfold ve
 rw [T.dQ, T.qD, T.qD, T.qD, T.qD, dI, dI, dI]
 rfl
theorem vf (ks : List Str) (es ss : List Int) : T.bS (ve ks es ss) = true := by
 unfold ve
 rw [T.bS, T.bS, T.bS, T.bS, xm, cG, cG]
 rfl
theorem JX {es : List Int} (h : jd es) : ∀ (n : Nat) {k x : Int}, -1 <= k -> k < es.length -> x ∈ vY n es k -> 0 <= x /\ x <= k
 | 0, k, x, _, _, hx => by rw [vY] at hx; cases hx
 | n + 1, k, x, h0, h1, hx => by
   rw [vY] at hx
   split at hx
   . cases hx
   . rename_i hk
     have ha := h.at (k := k) (by omega) h1
     rcases aiN.mp hx with rfl | hx
     . omega
     . have := JX h n (by omega) (by omega) hx
       omega
theorem xo {es : List Int} (h : jd es) : ∀ (a b : Nat) {k : Int}, -1 <= k -> k < es.length -> k < a -> k < b -> vY a es k = vY b es k
 | 0, 0, _, _, _, _, _ => rfl
 | 0, b + 1, k, h0, _, ha, _ => by
   rw [vY, vY, aiI (by omega)]
 | a + 1, 0, k, h0, _, _, hb => by
   rw [vY, vY, aiI (by omega)]
 | a + 1, b + 1, k, h0, h1, ha, hb => by
   rw [vY, vY]
   split
   . rfl
   . have hk := h.at (k := k) (by omega) h1
     rw [xo h a b hk.1 (by omega) (by omega) (by omega)]
theorem BK {es : List Int} (h : jd es) {m : Int} (h0 : 0 <= m) (h1 : m < es.length) : gP es m = if es.getD m.toNat 0 = -1 then [] else es.getD m.toNat 0 :: gP es (es.getD m.toNat 0) := by
 have hm := h.at h0 h1
 unfold gP
 rw [vY]
 split
 . rfl
 . rename_i hk
   have hk2 := h.at (k := es.getD m.toNat 0) (by omega) (by omega)
   rw [xo h es.length (es.length + 1) hk2.1 (by omega) (by omega) (by omega)]
theorem vZ {es : List Int} (h : jd es) {m x : Int} (h0 : 0 <= m) (h1 : m < es.length) (hx : x ∈ gP es m) : 0 <= x /\ x < m /\ x < es.length := by
 have hm := h.at h0 h1
 have := JX h _ hm.1 (by omega) hx
 omega
theorem xq {es : List Int} (h : jd es) : ∀ (n : Nat) {m : Int}, 0 <= m -> m < es.length -> m < n -> (gP es m).Pairwise (fun a b => b < a)
 | 0, m, h0, _, hn => by omega
 | n + 1, m, h0, h1, hn => by
   have hm := h.at h0 h1
   rw [BK h h0 h1]
   split
   . exact .nil
   . rename_i hk
     have hs := xq h n (m := es.getD m.toNat 0) (by omega) (by omega) (by omega)
     refine aju.mpr ⟨fun x hx => ?_, hs⟩
     have := vZ h (m := es.getD m.toNat 0) (by omega) (by omega) hx
     omega
noncomputable def vg (es : List Int) : Prop := jd es /\ ∀ k : Nat, k + 1 < es.length -> es.getD (k + 1) 0 = k \/ es.getD (k + 1) 0 ∈ gP es k
theorem JY {es : List Int} {x : Int} (h : jd es) : ∀ (n : Nat) {k : Int}, -1 <= k -> k < es.length -> vY n (es ++ [x]) k = vY n es k
 | 0, _, _, _ => rfl
 | n + 1, k, h0, h1 => by
   rw [vY, vY]
   split
   . rfl
   . have hk := h.at (k := k) (by omega) h1
     have e : (es ++ [x]).getD k.toNat 0 = es.getD k.toNat 0 := by
       rw [aiK, aks (by omega), ← aiK]
     rw [e, JY h n hk.1 (by omega)]
theorem xr {es : List Int} {x : Int} {k : Nat} (h : k < es.length) : (es ++ [x]).getD k 0 = es.getD k 0 := by
 rw [aiK, aks h, ← aiK]
theorem BL {es : List Int} {x : Int} (h : jd es) {m : Int} (h0 : 0 <= m) (h1 : m < es.length) : gP (es ++ [x]) m = gP es m := by
 have hm := h.at h0 h1
 unfold gP
 rw [xr (by omega), JY h _ hm.1 (by omega), xo h _ (es.length + 1) hm.1 (by omega) (by rw [aiT]; omega) (by omega)]
theorem jd.snoc {es : List Int} (h : jd es) {x : Int} (h0 : -1 <= x) (h1 : x < es.length) : jd (es ++ [x]) := fun k hk => by
 rw [aiT] at hk
 simp only [ai2, ajQ] at hk
 by_cases e : k < es.length
 . rw [xr e]
   exact h k e
 . have : k = es.length := by omega
   subst this
   rw [aiK, ajS (aiH _)]
   simp
   omega
theorem vg.snoc {es : List Int} (h : vg es) {x : Int} {k : Nat} (hk : k + 1 = es.length) (hx : x = k \/ x ∈ gP es k) : vg (es ++ [x]) := by
 have hx' : -1 <= x /\ x < es.length := by
   rcases hx with e | e
   . omega
   . have := vZ h.1 (m := (k : Int)) (by omega) (by omega) e
     omega
 refine ⟨h.1.snoc hx'.1 hx'.2, fun j hj => ?_⟩
 rw [aiT] at hj
 simp only [ai2, ajQ] at hj
 rw [BL h.1 (by omega) (by omega)]
 by_cases e : j + 1 < es.length
 . rw [xr e]
   exact h.2 j e
 . have : j = k := by omega
   subst this
   have e2 : (es ++ [x]).getD (j + 1) 0 = x := by
     rw [aiK, ajS (by omega), hk, Nat.sub_self]
     rfl
   rw [e2]
   exact hx
theorem BO : ∀ (n : Nat) (es : List Int) (k : Int), (vY n es k).length <= n
 | 0, _, _ => aiH _
 | n + 1, es, k => by
   rw [vY]
   split
   . exact ai9 _
   . exact Nat.succ_le_succ (BO n es _)
noncomputable def xu (es : List Int) (m : Int) : List Int := ((List.range es.length).filter (fun (i : Nat) => decide (es.getD i 0 = m))).map (fun (i : Nat) => (i : Int))
theorem JZ {es : List Int} {m x : Int} (h0 : 0 <= x) (h1 : x < es.length) (h2 : es.getD x.toNat 0 = m) : x ∈ xu es m := by
 unfold xu
 refine List.mem_map.mpr ⟨x.toNat, List.mem_filter.mpr ⟨List.mem_range.mpr (by omega), by simpa using h2⟩, by omega⟩
noncomputable def EX (s : List Int) (k : Int) : Int := if s.length = 0 then k else s.getD (k % (s.length : Nat)).toNat 0 % 1000000007 / (1 + k / (s.length : Nat)) + k / (s.length : Nat) * k
noncomputable def GF (es : List Int) (m : Int) (n : Nat) : Int := (m :: gP es m).getD n 0
theorem EY {es : List Int} (h : jd es) : ∀ (f : Nat) {m : Int} {n : Nat}, 0 <= m -> m < es.length -> m < f -> n < (gP es m).length -> (0 <= GF es m n /\ GF es m n < es.length) /\ es.getD (GF es m n).toNat 0 = GF es m (n + 1)
 | 0, m, n, h0, _, hf, _ => by omega
 | f + 1, m, n, h0, h1, hf, hn => by
   have hm := h.at h0 h1
   have e := BK h h0 h1
   generalize hq : es.getD m.toNat 0 = k at hm e
   by_cases hk : k = -1
   . rw [e, aiI hk] at hn; cases hn
   . rw [aiG hk] at e
     cases n with
     | zero =>
       unfold GF
       refine ⟨⟨h0, h1⟩, ?_⟩
       rw [e]
       exact hq
     | succ n =>
       rw [e, ai2] at hn
       have ih := EY h f (m := k) (n := n) (by omega) (by omega) (by omega) (by omega)
       unfold GF at ih ⊢
       rw [e]
       exact ih
theorem BP {es : List Int} {m : Int} {n : Nat} (hn : n <= (gP es m).length) : GF es m n = m \/ GF es m n ∈ gP es m := by
 cases n with
 | zero => exact .inl rfl
 | succ n =>
   refine .inr ?_
   unfold GF
   show (gP es m).getD n 0 ∈ _
   rw [aiK, aiL (by omega)]
   exact ajU _
noncomputable def xx (n : Int) (es : List Int) (j : Nat) : Int := if n % 3 = 0 then (if 2 < ((gP es j).length : Int) + 1 then 2 else ((gP es j).length : Int) + 1) else ((gP es j).length : Int) + 1
noncomputable def eUp (s : List Int) (n : Int) (es : List Int) (j : Nat) : Int := if ((gP es j).length : Int) = 12 then (if 1 > EX s (1 + (j : Int)) % xx n es j then 1 else EX s (1 + (j : Int)) % xx n es j) else EX s (1 + (j : Int)) % xx n es j
theorem Pn (n : Int) (es : List Int) (j : Nat) : 0 < xx n es j /\ xx n es j <= ((gP es j).length : Int) + 1 := by
 unfold xx
 split
 . split <;> omega
 . omega
theorem Y7 (s : List Int) (n : Int) (es : List Int) (j : Nat) : 0 <= eUp s n es j /\ eUp s n es j <= ((gP es j).length : Int) := by
 obtain ⟨h1, h2⟩ := Pn n es j
 have a := ai4 (EX s (1 + (j : Int))) (b := xx n es j) (by omega)
 have b := aiV (EX s (1 + (j : Int))) h1
 unfold eUp
 split
 . split <;> omega
 . omega
noncomputable def TR (s : List Int) (n : Int) : Nat -> List Int
 | 0 => [-1]
 | j + 1 => TR s n j ++ [GF (TR s n j) j (eUp s n (TR s n j) j).toNat]
theorem Y8 (s : List Int) (n : Int) : ∀ j, (TR s n j).length = j + 1 /\ vg (TR s n j)
 | 0 => ⟨rfl, ⟨fun k hk => by
     have : (TR s n 0).length = 1 := rfl
     have : k = 0 := by omega
     subst this
     exact ⟨Int.le_refl _, show (-1 : Int) < ((0 : Nat) : Int) by decide⟩, fun k hk => by
     have : (TR s n 0).length = 1 := rfl
     omega⟩⟩
 | j + 1 => by
   obtain ⟨h1, h2⟩ := Y8 s n j
   refine ⟨by show (TR s n j ++ _).length = _; rw [aiT, h1]; rfl, ?_⟩
   have hu := Y7 s n (TR s n j) j
   exact h2.snoc h1.symm (BP (by omega))
noncomputable def Hz (es : List Int) (n : Nat) : List Int := (List.range n).map fun (i : Nat) => ((gP es i).length : Int)
theorem Pp (es : List Int) {n i : Nat} (h : i < n) : (Hz es n).getD i 0 = ((gP es i).length : Int) := by
 unfold Hz
 rw [aiK, ai5, ajI h]
 rfl
theorem getD_snoc {es : List Int} {x : Int} : (es ++ [x]).getD es.length 0 = x := by
 rw [aiK, ajS (aiH _), Nat.sub_self]
 rfl
theorem Pq {es : List Int} (h : jd es) {x : Int} (h0 : 0 <= x) (h1 : x < es.length) : gP (es ++ [x]) es.length = x :: gP es x := by
 have h' := h.snoc (x := x) (by omega) h1
 rw [BK h' (m := (es.length : Int)) (by omega) (by rw [aiT]; simp; omega), ajn, getD_snoc, aiG (by omega), BL h h0 h1]
theorem Pr {es : List Int} (h : jd es) {x : Int} (h0 : 0 <= x) (h1 : x < es.length) : Hz (es ++ [x]) (es.length + 1) = Hz es es.length ++ [((gP es x).length : Int) + 1] := by
 unfold Hz
 rw [ajP, ajq]
 congr 1
 . apply ajx
   intro i hi
   have : i < es.length := ajr.mp hi
   rw [BL h (by omega) (by omega)]
 . show [((gP (es ++ [x]) (es.length : Nat)).length : Int)] = _
   rw [Pq h h0 h1, ai2]
   simp
noncomputable def BQ (isAll : Int -> Bool) (es ch : List Int) : Nat -> List Int
 | 0 => [0]
 | j + 1 => if es.getD (j + 1) 0 ∈ BQ isAll es ch j /\ (isAll (es.getD (j + 1) 0) = true \/ ch.getD (es.getD (j + 1) 0).toNat 0 = ((j + 1 : Nat) : Int)) then BQ isAll es ch j ++ [((j + 1 : Nat) : Int)] else BQ isAll es ch j
theorem v5 {isAll : Int -> Bool} {es ch : List Int} : ∀ (j : Nat) {x : Int}, x ∈ BQ isAll es ch j -> 0 <= x /\ x <= j
 | 0, x, h => by
   have : x = 0 := by simpa [BQ] using h
   omega
 | j + 1, x, h => by
   rw [BQ] at h
   split at h
   . rcases aiO.mp h with h | h
     . have := v5 j h
       omega
     . have : x = ((j + 1 : Nat) : Int) := by simpa using h
       omega
   . have := v5 j h
     omega
theorem BR {isAll : Int -> Bool} {es ch : List Int} : ∀ (j : Nat), (BQ isAll es ch j).length <= j + 1
 | 0 => aiH _
 | j + 1 => by
   have := BR (isAll := isAll) (es := es) (ch := ch) j
   rw [BQ]
   split
   . rw [aiT, akn]; omega
   . omega
noncomputable def je (ks : List Str) (x : Int) : Bool := decide (ks.getD x.toNat Str.empty = "all")
theorem Y9 {es : List Int} {k : Nat} (h : (k : Int) ∈ es) : xu es k ≠ [] := fun z => by
 obtain ⟨i, hi, e⟩ := List.getElem_of_mem h
 have : (i : Int) ∈ xu es k := JZ (by omega) (by omega) (by rw [ajn, aiK, aiL hi]; exact e)
 rw [z] at this
 cases this
noncomputable def WV (ks : List Str) (es : List Int) : Prop := ∀ k : Nat, k < es.length -> ks.getD k Str.empty = "one" -> xu es k ≠ []
noncomputable def kN (bs nm : List L3.D) (tr : L3.D) (is os ws : List L3.D) : L3.D := .ins "Chart" [("boxes", .lst bs), ("names", .lst nm), ("tree", tr), ("ins", .lst is), ("outs", .lst os), ("ways", .lst ws)]
section
variable {bs nm is os ws : List L3.D} {tr : L3.D}
theorem xA : List.lookup ("tree" : Str) [(("boxes" : Str), L3.D.lst bs), ("names", .lst nm), ("tree", tr), ("ins", .lst is), ("outs", .lst os), ("ways", .lst ws)] = some tr := by
 rw [j3 (by decide +kernel), j3 (by decide +kernel), vV]
theorem q8 : List.lookup ("ways" : Str) [(("boxes" : Str), L3.D.lst bs), ("names", .lst nm), ("tree", tr), ("ins", .lst is), ("outs", .lst os), ("ways", .lst ws)] = some (.lst ws) := by
 rw [j3 (by decide +kernel), j3 (by decide +kernel), j3 (by decide +kernel), j3 (by decide +kernel), j3 (by decide +kernel), vV]
end
noncomputable def uh (bs nm : List L3.D) : List (Str × T) := [("boxes", .lst (bs.map T.sh)), ("names", .lst (nm.map T.sh))]
noncomputable def um (is os ws : List L3.D) : List (Str × T) := [("ins", .lst (is.map T.sh)), ("outs", .lst (os.map T.sh)), ("ways", .lst (ws.map T.sh))]
noncomputable def mQ (bs nm : List L3.D) (t : T) (is os ws : List L3.D) : List (Str × T) := uh bs nm ++ (("tree" : Str), t) :: um is os ws
theorem HB (bs nm : List L3.D) (t : T) (is os ws : List L3.D) : T.dQ (.ins "Chart" (mQ bs nm t is os ws)) = kN bs nm t.dQ is os ws := by
 unfold mQ uh um
 rw [ai0, ai0, akk, T.dQ, T.qD, T.qD, T.qD, T.qD, T.qD, T.qD, T.qD, dI, dI, dI, dI, dI]
 rfl
theorem cY {ds : List L3.D} (h : D.bV ds = true) : (T.lst (ds.map T.sh)).clean = true := by
 rw [lH]
 induction ds with
 | nil => rfl
 | cons d ds ih =>
   rw [D.bV, ajm] at h
   rw [ai1, T.iA, ih h.2, T.clean, h.1]; rfl
theorem BU {bs nm : List L3.D} (h1 : D.bV bs = true) (h2 : D.bV nm = true) : T.bS (uh bs nm) = true := by
 unfold uh
 rw [T.bS, T.bS, T.bS, cY h1, cY h2]; rfl
theorem BV {is os ws : List L3.D} (h1 : D.bV is = true) (h2 : D.bV os = true) (h3 : D.bV ws = true) : T.bS (um is os ws) = true := by
 unfold um
 rw [T.bS, T.bS, T.bS, T.bS, cY h1, cY h2, cY h3]; rfl
noncomputable def xB (p : Str × Int) : L3.D := .tup [.str p.1, .int p.2]
structure cE where
 src : Int
 sign : Str
 asks : List L3.D
 AI : List L3.D
 tgt : Int
 mode : Str
noncomputable def dP (w : cE) : L3.D := .tup [.int w.src, .str w.sign, .tup w.asks, .tup w.AI, .int w.tgt, .str w.mode]
noncomputable def J1 (ns : List Int) (k : Int) : Int := if k < ns.length then ns.getD k.toNat 0 else 0
noncomputable def TV : List Nat := (List.range 26).map (· + 97) ++ (List.range 10).map (· + 48)
noncomputable def TX (k : Int) : Str := ⟨#[TV.getD k.toNat 0]⟩
theorem Za : ∀ n ∈ TV, n < 1114112 := by decide +kernel
theorem Pu (k : Int) : PyData.strOk (TX k) = true := by
 unfold PyData.strOk TX
 have : TV.getD k.toNat 0 < 1114112 := by
   rw [aiK]
   cases e : TV[k.toNat]? with
   | none => decide
   | some n => exact Za n (ajj e)
 simpa [List.getD_eq_getElem?_getD] using this
noncomputable def acu (m : Int) : Int := (m * 48271 + 11) % 2147483647
noncomputable def xC (p : Int × Str) : Nat -> Int × Str
 | 0 => p
 | n + 1 => (acu (xC p n).1, (xC p n).2 ++ TX (acu (xC p n).1 % 36))
noncomputable def nm0 (c : Int) : Int × Str := (c / 12 % 10 ^ (9 : Int).toNat, TX (c / 12 % 10 ^ (9 : Int).toNat % 26))
theorem acv (p : Int × Str) (h : PyData.strOk p.2 = true) (n : Nat) : PyData.strOk (xC p n).2 = true := by
 induction n with
 | zero => exact h
 | succ n ih => exact t8 _ _ ih (Pu _)
noncomputable def nmB (c : Int) : Str := (xC (nm0 c) (c % 12).toNat).2
noncomputable def w13 : List Str := ["all", "and", "box", "call", "do", "far", "if", "in", "leaf", "near", "on", "one", "open"]
noncomputable def w6 : List Str := ["out", "put", "say", "shut", "then", "to"]
noncomputable def EZ (c : Int) : Str := if nmB c ∈ w13 then nmB c ++ "0" else if nmB c ∈ w6 then nmB c ++ "0" else nmB c
theorem BW (c : Int) : PyData.strOk (EZ c) = true := by
 have hb : PyData.strOk (nmB c) = true := acv _ (Pu _) _
 have h0 : PyData.strOk ("0" : Str) = true := by decide +kernel
 unfold EZ
 split
 . exact t8 _ _ hb h0
 . split
   . exact t8 _ _ hb h0
   . exact hb
noncomputable def Pw (mk : Str) (i j : Int) : Bool := if mk = "<" then decide (i < j) else if mk = "<=" then decide (i <= j) else if mk = "=" then decide (i = j) else !decide (i = j)
noncomputable def gF (bx mo : Int) (bs : List Int) : Int := if bx = -1 then mo else bs.getD bx.toNat 0 + mo
theorem Px {x : Str} (h : PyData.strOk x = true) (l k : Option Int) : PyData.strOk (Txt.slice x l k) = true := by
 unfold Txt.slice
 split
 . exact h
 . unfold PyData.strOk at *
   rw [List.all_toArray, ajB]
   intro c hc
   obtain ⟨i, _, hi⟩ := List.mem_filterMap.mp hc
   rw [← Array.all_toList, ajB] at h
   exact h c (by rw [← aj9] at hi; exact ajj hi)
noncomputable def E1 (s : List Int) : Str := Txt.slice (EZ (J1 s 0 / 2)) none (some 10)
noncomputable def sgK (s : List Int) : List Str := if J1 s 0 % 2 = 0 then [E1 s ++ "1", E1 s ++ "12", E1 s ++ "2"] else [E1 s, EZ (J1 s 1 + 5), EZ (J1 s 2 + 10)]
theorem ae2 (s : List Int) : ∀ x ∈ sgK s, PyData.strOk x = true := by
 have hb : PyData.strOk (E1 s) = true := Px (BW _) _ _
 unfold sgK
 split
 . intro x hx
   simp only [aiN, ajp, or_false] at hx
   rcases hx with rfl | rfl | rfl
   . exact t8 _ _ hb (by decide +kernel)
   . exact t8 _ _ hb (by decide +kernel)
   . exact t8 _ _ hb (by decide +kernel)
 . intro x hx
   simp only [aiN, ajp, or_false] at hx
   rcases hx with rfl | rfl | rfl
   . exact hb
   . exact BW _
   . exact BW _
inductive lN where
 | rg (op : Bool) (m : Int)
 | num (mk : Str) (b1 m1 b2 m2 : Int)
noncomputable def fM : lN -> L3.D
 | .rg op m => .tup [.str (if op then "open" else "shut"), .int m]
 | .num mk b1 m1 b2 m2 => .tup [.str mk, .tup [.int b1, .int m1], .tup [.int b2, .int m2]]
noncomputable def BX : List Str := ["<", "<=", "=", "!="]
noncomputable def lN.Ok (n : Nat) (bs : List Int) : lN -> Prop
 | .rg _ m => 0 <= m /\ m < n
 | .num mk b1 _ b2 _ => mk ∈ BX /\ (b1 = -1 \/ (0 <= b1 /\ b1 < bs.length)) /\ (b2 = -1 \/ (0 <= b2 /\ b2 < bs.length))
theorem E2 (a : lN) : (fM a).mG = true := by cases a <;> rfl
noncomputable def w0 : cE := ⟨0, Str.empty, [], [], 0, Str.empty⟩
noncomputable def ahC : L3.D -> Int
 | .tup (_ :: _ :: _ :: _ :: .int t :: _) => t
 | _ => 0
noncomputable def uo (ln : List Int) (y : Int) : Nat := ln.findIdx (fun z => decide (z = y))
theorem HC {ln : List Int} {y : Int} (h : y ∈ ln) : uo ln y < ln.length := List.findIdx_lt_length_of_exists ⟨y, h, by simp⟩
theorem BZ {ln : List Int} {y : Int} (h : y ∈ ln) : ln[uo ln y]? = some y := by
 have hl := HC h
 have := List.findIdx_getElem (w := hl)
 rw [aiL hl]
 exact congrArg some (aiU this)
theorem Zb {ln : List Int} {y : Int} {i : Nat} (h : i < uo ln y) : ln[i]? ≠ some y := fun e => by
 have hl : i < ln.length := (ai3.mp e).1
 have := List.not_of_lt_findIdx h
 rw [(ai3.mp e).2] at this
 simp at this
theorem TY {ln : List Int} (nd : ln.Nodup) {y : Int} {i : Nat} (hy : y ∈ ln) : uo ln y = i ↔ ln[i]? = some y := by
 constructor
 . rintro rfl; exact BZ hy
 . intro e
   have h1 := BZ hy
   have hl := HC hy
   have hi : i < ln.length := (ai3.mp e).1
   rw [aiL hl] at h1
   rw [aiL hi] at e
   have e3 := (aiZ h1).trans (aiZ e).symm
   have np := List.pairwise_iff_getElem.mp nd
   rcases Nat.lt_trichotomy (uo ln y) i with z | z | z
   . exact absurd e3 (np _ _ hl hi z)
   . exact z
   . exact absurd e3.symm (np _ _ hi hl z)
noncomputable def zq (ops : List Int) : L3.D -> Bool
 | .tup [.str k, .int m] => if k = "open" then decide (m ∈ ops) else if k = "shut" then !decide (m ∈ ops) else true
 | _ => true
noncomputable def j4 (ops : List Int) (l : List L3.D) : Bool := l.all (zq ops)
noncomputable def lN.T3 : lN -> Prop
 | .rg _ _ => True
 | .num mk _ _ _ _ => mk ∈ BX
theorem lN.Ok.mk {n : Nat} {bs : List Int} {a : lN} (h : a.Ok n bs) : a.T3 := by
 cases a with
 | rg op m => trivial
 | num mk b1 m1 b2 m2 => exact h.1
theorem J2 {mk : Str} (h : mk ∈ BX) : mk ≠ "open" /\ mk ≠ "shut" := by
 have : ∀ x ∈ BX, x ≠ "open" /\ x ≠ "shut" := by decide +kernel
 exact this mk h
theorem E3 (ops : List Int) (op : Bool) (m : Int) : zq ops (fM (.rg op m)) = if op then decide (m ∈ ops) else !decide (m ∈ ops) := by
 cases op
 . show (if (if false = true then ("open" : Str) else "shut") = "open" then decide (m ∈ ops) else if (if false = true then ("open" : Str) else "shut") = "shut" then !decide (m ∈ ops) else true) = _
   rw [aiG (by decide +kernel), aiI (by decide +kernel)]
   rfl
 . show (if (if true = true then ("open" : Str) else "shut") = "open" then decide (m ∈ ops) else if (if true = true then ("open" : Str) else "shut") = "shut" then !decide (m ∈ ops) else true) = _
   rw [aiI (by decide +kernel)]
   rfl
noncomputable def T4 (ops : List Int) (sg : Str) (ln : List Int) (w : cE) : Bool := decide (w.sign = sg) && (decide (w.src ∈ ln) && j4 ops w.asks)
noncomputable def Py (ws : List cE) (ops : List Int) (sg : Str) (ln : List Int) (n : Nat) : List Nat := (List.range n).filter fun k => T4 ops sg ln (ws.getD k w0)
noncomputable def J3 (ws : List cE) (ops : List Int) (sg : Str) (ln : List Int) : List Int := f9 (fun k : Int => (uo ln (ws.getD k.toNat w0).src : Int)) ((Py ws ops sg ln ws.length).map fun (k : Nat) => (k : Int))
noncomputable def LY (ws : List cE) (ops : List Int) (sg : Str) (m : Int) (n : Nat) : List Int := ((List.range n).filter fun k => decide ((ws.getD k w0).src = m) && (decide ((ws.getD k w0).sign = sg) && j4 ops (ws.getD k w0).asks)).map fun (k : Nat) => (k : Int)
noncomputable def gsW (ws : List cE) (ops : List Int) (sg : Str) (ln : List Int) : List Int := ln.flatMap fun m => LY ws ops sg m ws.length
theorem go_eq {ws : List cE} {ops : List Int} {sg : Str} {ln : List Int} (nd : ln.Nodup) : J3 ws ops sg ln = gsW ws ops sg ln := by
 unfold J3
 rw [pR]
 have e0 : (fun y : Nat => ((uo ln (ws.getD ((y : Int).toNat) w0).src : Nat) : Int)) = fun y : Nat => ((uo ln (ws.getD y w0).src : Nat) : Int) := by
   funext y; rw [ajn]
 rw [e0]
 have hin : ∀ k ∈ Py ws ops sg ln ws.length, (ws.getD k w0).src ∈ ln := fun k hk => by
   have := (ajD.mp hk).2
   simp only [T4, ajm, ajY] at this
   exact this.2.1
 rw [u9 (fun k : Nat => uo ln (ws.getD k w0).src) ln.length _ fun k hk => HC (hin k hk), List.map_flatMap]
 have el : ln = (List.range ln.length).map fun i => ln.getD i 0 := akc fun i => by
   rw [ai5]
   by_cases hi : i < ln.length
   . rw [ajI hi, aiL hi]
     show _ = some (ln.getD i 0)
     rw [aiK, aiL hi]; rfl
   . rw [List.getElem?_eq_none (by omega), List.getElem?_eq_none (by simpa using hi)]; rfl
 unfold gsW
 conv => rhs; rw [el]
 rw [List.flatMap_map, aki, aki]
 congr 1
 refine ajx fun i hi => ?_
 have hi := ajr.mp hi
 unfold LY Py
 rw [List.filter_filter]
 congr 1
 refine List.filter_congr fun k _ => ?_
 have T5 : ln[i]? = some (ln.getD i 0) := by
   rw [aiK, aiL hi]; rfl
 by_cases hs : (ws.getD k w0).src ∈ ln
 . have := TY nd (i := i) hs
   have e2 : decide (uo ln (ws.getD k w0).src = i) = decide ((ws.getD k w0).src = ln.getD i 0) := by
     rw [decide_eq_decide, this, T5, Option.some.injEq]
     exact eq_comm
   rw [e2]
   unfold T4
   rw [ajW hs, Bool.true_and]
 . unfold T4
   rw [ajw hs]
   have : decide ((ws.getD k w0).src = ln.getD i 0) = false := ajw fun e => hs (e ▸ ajj T5)
   rw [this]
   simp
theorem B3 (ws : List cE) (ops : List Int) (sg : Str) (ln : List Int) (n : Nat) : (Py ws ops sg ln n).length <= n := by
 have := ajJ (fun k => T4 ops sg ln (ws.getD k w0)) (List.range n)
 rw [ajC] at this
 exact this
theorem Pz (ws : List cE) (ops : List Int) (sg : Str) (ln : List Int) (n : Nat) : Py ws ops sg ln (n + 1) = Py ws ops sg ln n ++ (if T4 ops sg ln (ws.getD n w0) = true then [n] else []) := by
 unfold Py
 rw [ajP, aj7, List.filter_cons, akt]
theorem J4 (ws : List cE) (ops : List Int) (sg : Str) (m : Int) (n : Nat) : (LY ws ops sg m n).length <= n := by
 unfold LY
 rw [aiC]
 have := ajJ (fun k => decide ((ws.getD k w0).src = m) && (decide ((ws.getD k w0).sign = sg) && j4 ops (ws.getD k w0).asks)) (List.range n)
 rw [ajC] at this
 exact this
theorem PB (ws : List cE) (ops : List Int) (sg : Str) (m : Int) (n : Nat) : LY ws ops sg m (n + 1) = LY ws ops sg m n ++ (if (decide ((ws.getD n w0).src = m) && (decide ((ws.getD n w0).sign = sg) && j4 ops (ws.getD n w0).asks)) = true then [(n : Int)] else []) := by
 unfold LY
 rw [ajP, aj7, List.filter_cons, akt, ajq]
 congr 1
 split <;> rfl
theorem T6 (ws : List cE) (ops : List Int) (sg : Str) (ln : List Int) : (J3 ws ops sg ln).length <= ws.length := by
 unfold J3
 rw [pQ, aiC]
 exact B3 _ _ _ _ _
theorem HD {es : List Int} (ht : jd es) {x : Int} (h0 : 0 <= x) (h1 : x < es.length) : (x :: gP es x).Nodup := by
 refine ajA.mpr ⟨fun h => ?_, ?_⟩
 . have := vZ ht h0 h1 h
   omega
 . exact (xq ht (es.length + 1) h0 h1 (by omega)).imp fun h e => by omega
noncomputable def xD (ws : List cE) : Prop := ∀ w ∈ ws, ∃ l : List lN, w.asks = l.map fM /\ ∀ a ∈ l, a.T3
noncomputable abbrev Ask := Str × Int × Int × Int × Int
noncomputable def jr (q : Ask) : L3.D := .tup [.str q.1, .tup [.int q.2.1, .int q.2.2.1], .tup [.int q.2.2.2.1, .int q.2.2.2.2]]
noncomputable def okQ (bs : List Int) (q : Ask) : Prop := (q.2.1 = -1 \/ (0 <= q.2.1 /\ q.2.1 < bs.length)) /\ (q.2.2.2.1 = -1 \/ (0 <= q.2.2.2.1 /\ q.2.2.2.1 < bs.length))
noncomputable def hQ (bs : List Int) (q : Ask) : Bool := Pw q.1 (gF q.2.1 q.2.2.1 bs) (gF q.2.2.2.1 q.2.2.2.2 bs)
noncomputable def xE (l : List L3.D) : List L3.D := l.filter fun d => !decide (d.at1.toS ∈ (["open", "shut"] : List Str))
noncomputable def Zc : lN -> List Ask
 | .rg _ _ => []
 | .num mk b1 m1 b2 m2 => [(mk, b1, m1, b2, m2)]
theorem J5 {n : Nat} {bs : List Int} {l : List lN} (h : ∀ a ∈ l, a.Ok n bs) : xE (l.map fM) = (l.flatMap Zc).map jr := by
 unfold xE
 induction l with
 | nil => rfl
 | cons a l ih =>
   have ih := ih fun q hq => h q (aiE _ hq)
   have ha := h a aiF
   rw [ai1, ajZ, ajq, ← ih]
   cases a with
   | rg op m =>
     rw [aj1]
     . rfl
     . show ¬ (!decide ((if op = true then ("open" : Str) else "shut") ∈ (["open", "shut"] : List Str))) = true
       cases op <;> decide +kernel
   | num mk b1 m1 b2 m2 =>
     rw [aj2]
     . rfl
     . show (!decide (mk ∈ (["open", "shut"] : List Str))) = true
       have : ∀ x ∈ BX, (!decide (x ∈ (["open", "shut"] : List Str))) = true := by decide +kernel
       exact this mk ha.1
theorem T7 {n : Nat} {bs : List Int} {l : List lN} (h : ∀ a ∈ l, a.Ok n bs) : ∀ q ∈ l.flatMap Zc, okQ bs q := fun q hq => by
 obtain ⟨a, ha, hq⟩ := List.mem_flatMap.mp hq
 have hk := h a ha
 cases a with
 | rg op m => cases hq
 | num mk b1 m1 b2 m2 =>
   rw [ajb.mp hq]
   exact hk.2
noncomputable def hD (vs : List Int) : L3.D -> Bool
 | .tup [.str mk, .tup [.int b1, .int m1], .tup [.int b2, .int m2]] => Pw mk (gF b1 m1 vs) (gF b2 m2 vs)
 | _ => true
noncomputable def rdW (vs : List Int) (w : cE) : Bool := w.asks.all (hD vs)
noncomputable def mR (n : Nat) (bs : List Int) (ws : List cE) : Prop := ∀ w ∈ ws, ∃ l : List lN, w.asks = l.map fM /\ l.length <= 2 /\ ∀ a ∈ l, a.Ok n bs
theorem mR.ok {n : Nat} {bs : List Int} {ws : List cE} (h : mR n bs ws) : xD ws := fun w hw => by
 obtain ⟨l, e, _, hl⟩ := h w hw
 exact ⟨l, e, fun a ha => (hl a ha).mk⟩
noncomputable def jf (l : List Int) (s : Int) : List Int := if s ∈ l then l else l ++ [s]
noncomputable def fsM (ws : List cE) (ops vs : List Int) (sg : Str) (es : List Int) (leaf : Int) : List Int := (J3 ws ops sg (leaf :: gP es leaf)).filter fun k => rdW vs (ws.getD k.toNat w0)
noncomputable def pk1 (ws : List cE) (ops vs : List Int) (sg : Str) (es : List Int) (acc : List Int) (leaf : Int) : List Int := match fsM ws ops vs sg es leaf with
 | [] => acc
 | k :: _ => jf acc k
noncomputable def E4 (ks : List Str) (x : Int) : Bool := decide (ks.getD x.toNat Str.empty = "leaf")
noncomputable def iu (ks : List Str) (ops : List Int) : List Int := ops.filter (E4 ks)
theorem T8 {ws : List cE} {ops : List Int} {sg : Str} {ln : List Int} {k : Int} (h : k ∈ J3 ws ops sg ln) : 0 <= k /\ k < ws.length := by
 obtain ⟨i, hi, rfl⟩ := ai8.mp (ug.mp h)
 have := ajr.mp (ajD.mp hi).1
 omega
noncomputable def toQ : L3.D -> List Ask
 | .tup [.str mk, .tup [.int b1, .int m1], .tup [.int b2, .int m2]] => [(mk, b1, m1, b2, m2)]
 | _ => []
noncomputable def M8 (w : cE) : List Ask := w.asks.flatMap toQ
noncomputable def mS (ws : List cE) (k : Int) : List Ask := M8 (ws.getD k.toNat w0)
theorem B4 (l : List lN) : (l.map fM).flatMap toQ = l.flatMap Zc := by
 induction l with
 | nil => rfl
 | cons a l ih =>
   rw [ai1, ajZ, ajZ, ih]
   congr 1
   cases a <;> rfl
noncomputable def LZ (hl : List (Int × Bool)) : List (Key × L3.D) := hl.map fun p => ((Sum.inl p.1 : Key), L3.D.bl p.2)
noncomputable def cD (hl : List (Int × Bool)) (w : Int) : Option Bool := (hl.find? fun p => decide (p.1 = w)).map (·.2)
theorem T9 (hl : List (Int × Bool)) (w : Int) : vH (LZ hl) (.inl w) = (cD hl w).map L3.D.bl := by
 unfold vH LZ cD
 induction hl with
 | nil => rfl
 | cons p hl ih =>
   rw [ai1, ajE, ajE]
   by_cases e : p.1 = w
   . subst e
     rw [ajW rfl, ajW rfl]
     rfl
   . have e2 : ¬ (Sum.inl p.1 : Key) = Sum.inl w := fun z => e (Sum.inl.inj z)
     rw [ajw e2, ajw e]
     exact ih
theorem AJ (hl : List (Int × Bool)) (w v : Int) (c : Bool) : cD (hl ++ [(w, c)]) v = (cD hl v).or (if w = v then some c else none) := by
 unfold cD
 rw [List.find?_append]
 cases e : hl.find? fun p => decide (p.1 = v) with
 | some p => rfl
 | none =>
   by_cases z : w = v
   . subst z
     rw [aiI rfl]
     simp [ajE]
   . rw [aiG z]
     simp [ajE, z]
theorem Ua {hl : List (Int × Bool)} {w : Int} (c : Bool) (h : cD hl w = none) : wZ (LZ hl) (.inl w) (.bl c) = LZ (hl ++ [(w, c)]) := by
 unfold wZ
 rw [aiG]
 . unfold LZ
   rw [ajq]
   rfl
 . intro z
   obtain ⟨kv, hk, e⟩ := List.any_eq_true.mp z
   obtain ⟨p, hp, rfl⟩ := ai8.mp hk
   have e : p.1 = w := Sum.inl.inj (aiU e)
   unfold cD at h
   rw [Option.map_eq_none_iff, akx] at h
   exact h p hp (ajW e)
noncomputable def sC (r : List (List Int)) : Nat := (r.map fun l => l.length + 1).sum
theorem dh (l : List Int) (r : List (List Int)) : sC (l :: r) = l.length + 1 + sC r := by unfold sC; rw [ai1, List.sum_cons]
noncomputable def jl (ws : List cE) (r : List (List Int)) (q : List Ask) (p : List Int) (h : List (Int × Bool)) : List (List Ask × List Int) :=
 match r with
 | [] => [(q, p)]
 | [] :: r => jl ws r q p h
 | (w :: l) :: r =>
   if mS ws w = [] \/ cD h w = some true then jl ws r q (jf p w) h
   else if cD h w = some false then jl ws (l :: r) q p h
   else jl ws r (q ++ mS ws w) (jf p w) (h ++ [(w, true)]) ++ jl ws (l :: r) q p (h ++ [(w, false)])
termination_by sC r
decreasing_by all_goals (simp only [dh, ai2, ajQ]; omega)
section
variable {ws : List cE} {q : List Ask} {p : List Int} {h : List (Int × Bool)} {w : Int} {l : List Int} {r : List (List Int)}
theorem pT : jl ws [] q p h = [(q, p)] := by rw [jl]
theorem lO : jl ws ([] :: r) q p h = jl ws r q p h := by rw [jl]
theorem lP (hc : mS ws w = [] \/ cD h w = some true) : jl ws ((w :: l) :: r) q p h = jl ws r q (jf p w) h := by rw [jl, aiI hc]
theorem lQ (hc : ¬ (mS ws w = [] \/ cD h w = some true)) (hf : cD h w = some false) : jl ws ((w :: l) :: r) q p h = jl ws (l :: r) q p h := by rw [jl, aiG hc, aiI hf]
theorem lR (hq : ¬ mS ws w = []) (hn : cD h w = none) : jl ws ((w :: l) :: r) q p h = jl ws r (q ++ mS ws w) (jf p w) (h ++ [(w, true)]) ++ jl ws (l :: r) q p (h ++ [(w, false)]) := by
 rw [jl, aiG (fun z => z.elim hq (fun z => by rw [hn] at z; cases z)), aiG (fun z => by rw [hn] at z; cases z)]
end
theorem vh (h : List (Int × Bool)) (w : Int) : cD h w = some true \/ cD h w = some false \/ cD h w = none := by
 cases cD h w with
 | none => exact .inr (.inr rfl)
 | some b => cases b <;> simp
theorem sE {ws : List cE} {P : List (List Int) -> List Ask -> List Int -> List (Int × Bool) -> Prop}
   (h0 : ∀ q p h, P [] q p h) (h1 : ∀ r q p h, P r q p h -> P ([] :: r) q p h)
   (h2 : ∀ w l r q p h, (mS ws w = [] \/ cD h w = some true) -> P r q (jf p w) h -> P ((w :: l) :: r) q p h)
   (h3 : ∀ w l r q p h, ¬ (mS ws w = [] \/ cD h w = some true) -> cD h w = some false -> P (l :: r) q p h -> P ((w :: l) :: r) q p h)
   (h4 : ∀ w l r q p h, ¬ mS ws w = [] -> cD h w = none -> P r (q ++ mS ws w) (jf p w) (h ++ [(w, true)]) -> P (l :: r) q p (h ++ [(w, false)]) -> P ((w :: l) :: r) q p h) :
   ∀ (n : Nat) (r : List (List Int)), sC r <= n -> ∀ q p h, P r q p h := by
 intro n
 induction n with
 | zero =>
   intro r hr q p h
   cases r with
   | nil => exact h0 q p h
   | cons l r => rw [dh] at hr; omega
 | succ n ih =>
   intro r hr q p h
   match r, hr with
   | [], _ => exact h0 q p h
   | [] :: r, hr =>
     rw [dh] at hr
     exact h1 r q p h (ih r (by omega) q p h)
   | (w :: l) :: r, hr =>
     rw [dh, ai2] at hr
     have i1 := ih r (by omega)
     have i2 := ih (l :: r) (by rw [dh]; omega)
     by_cases hc : mS ws w = [] \/ cD h w = some true
     . exact h2 w l r q p h hc (i1 _ _ _)
     . rcases vh h w with z | z | z
       . exact absurd (.inr z) hc
       . exact h3 w l r q p h hc z (i2 _ _ _)
       . exact h4 w l r q p h (fun e => hc (.inl e)) z (i1 _ _ _) (i2 _ _ _)
theorem Ub (ws : List cE) (r : List (List Int)) (q : List Ask) (p : List Int) (h : List (Int × Bool)) : 1 <= (jl ws r q p h).length := by
 refine sE (ws := ws) (P := fun r q p h => 1 <= (jl ws r q p h).length) ?_ ?_ ?_ ?_ ?_ (sC r) r (aiH _) q p h
 . intro q p h; rw [pT]; exact aiH _
 . intro r q p h i; rw [lO]; exact i
 . intro w l r q p h hc i; rw [lP hc]; exact i
 . intro w l r q p h hc hf i; rw [lQ hc hf]; exact i
 . intro w l r q p h hq hn i1 i2; rw [lR hq hn, aiT]; omega
noncomputable def j5 (n : Nat) (h : List (Int × Bool)) : Nat := ((List.range n).filter fun (k : Nat) => (cD h (k : Int)).isNone).length
theorem xF {n : Nat} {h : List (Int × Bool)} {w : Int} (c : Bool) (hn : cD h w = none) (w0 : 0 <= w) (w1 : w < n) : j5 n (h ++ [(w, c)]) + 1 <= j5 n h := by
 unfold j5
 have e : (List.range n).filter (fun (k : Nat) => (cD (h ++ [(w, c)]) (k : Int)).isNone) = ((List.range n).filter fun (k : Nat) => (cD h (k : Int)).isNone).filter fun (k : Nat) => !decide (k = w.toNat) := by
   rw [List.filter_filter]
   refine List.filter_congr fun k _ => ?_
   rw [AJ]
   by_cases z : w = (k : Int)
   . rw [aiI z, ajW (show k = w.toNat by omega)]
     cases cD h (k : Int) <;> rfl
   . rw [aiG z, ajw (show ¬ k = w.toNat by omega)]
     cases cD h (k : Int) <;> rfl
 rw [e]
 have := List.length_filter_lt_length_iff_exists (l := (List.range n).filter fun (k : Nat) => (cD h (k : Int)).isNone) (p := fun k => !decide (k = w.toNat))
 have hx := this.mpr ⟨w.toNat, ajD.mpr ⟨ajr.mpr (by omega), by rw [show ((w.toNat : Nat) : Int) = w by omega, hn]; rfl⟩, by simp⟩
 omega
theorem Uc (ws : List cE) (n : Nat) (r : List (List Int)) (q : List Ask) (p : List Int) (h : List (Int × Bool)) : (∀ l ∈ r, ∀ w ∈ l, 0 <= w /\ w < (n : Int)) -> (jl ws r q p h).length <= 2 ^ j5 n h := by
 refine sE (ws := ws) (P := fun r q p h => (∀ l ∈ r, ∀ w ∈ l, 0 <= w /\ w < (n : Int)) -> (jl ws r q p h).length <= 2 ^ j5 n h) ?_ ?_ ?_ ?_ ?_ (sC r) r (aiH _) q p h
 . intro q p h _; rw [pT]; exact Nat.one_le_two_pow
 . intro r q p h i hr; rw [lO]; exact i fun l hl => hr l (aiE _ hl)
 . intro w l r q p h hc i hr; rw [lP hc]; exact i fun l hl => hr l (aiE _ hl)
 . intro w l r q p h hc hf i hr
   rw [lQ hc hf]
   refine i fun m hm => ?_
   rcases aiN.mp hm with rfl | hm
   . exact fun v hv => hr _ aiF v (aiE _ hv)
   . exact hr m (aiE _ hm)
 . intro w l r q p h hq hn i1 i2 hr
   obtain ⟨b0, b1⟩ := hr _ aiF w aiF
   rw [lR hq hn, aiT]
   have a1 := i1 fun l hl => hr l (aiE _ hl)
   have a2 := i2 fun m hm => by
     rcases aiN.mp hm with rfl | hm
     . exact fun v hv => hr _ aiF v (aiE _ hv)
     . exact hr m (aiE _ hm)
   have f1 := xF true hn b0 b1
   have f2 := xF false hn b0 b1
   have g1 : 2 ^ j5 n (h ++ [(w, true)]) <= 2 ^ (j5 n h - 1) := akp (by decide) (by omega)
   have g2 : 2 ^ j5 n (h ++ [(w, false)]) <= 2 ^ (j5 n h - 1) := akp (by decide) (by omega)
   have g3 : 2 ^ j5 n h = 2 ^ (j5 n h - 1) * 2 := by rw [← Nat.pow_succ]; congr 1; omega
   omega
theorem Zd {ws : List cE} {vs : List Int} (r : List (List Int)) (q : List Ask) (p : List Int) (h : List (Int × Bool)) : q.all (hQ vs) = false -> ∀ x ∈ jl ws r q p h, x.1.all (hQ vs) = false := by
 refine sE (ws := ws) (P := fun r q p h => q.all (hQ vs) = false -> ∀ x ∈ jl ws r q p h, x.1.all (hQ vs) = false) ?_ ?_ ?_ ?_ ?_ (sC r) r (aiH _) q p h
 . intro q p h hq x hx
   rw [pT] at hx
   rw [ajb.mp hx]
   exact hq
 . intro r q p h i hq; rw [lO]; exact i hq
 . intro w l r q p h hc i hq; rw [lP hc]; exact i hq
 . intro w l r q p h hc hf i hq; rw [lQ hc hf]; exact i hq
 . intro w l r q p h hq hn i1 i2 hf x hx
   rw [lR hq hn] at hx
   rcases aiO.mp hx with hx | hx
   . exact i1 (by rw [List.all_append, hf]; rfl) x hx
   . exact i2 hf x hx
noncomputable def HF (ws : List cE) (vs : List Int) (w : Int) : Bool := (mS ws w).all (hQ vs)
noncomputable def nR (ws : List cE) (vs : List Int) (acc l : List Int) : List Int := match l.filter (HF ws vs) with
 | [] => acc
 | w :: _ => jf acc w
noncomputable def zu (ws : List cE) (vs : List Int) (r : List (List Int)) (p : List Int) : List Int := r.foldl (nR ws vs) p
theorem E5 {ws : List cE} {vs : List Int} {acc l : List Int} {w : Int} (h : HF ws vs w = true) : nR ws vs acc (w :: l) = jf acc w := by
 unfold nR
 rw [aj2 h]
theorem J6 {ws : List cE} {vs : List Int} {acc l : List Int} {w : Int} (h : HF ws vs w = false) : nR ws vs acc (w :: l) = nR ws vs acc l := by
 unfold nR
 rw [aj1 (by rw [h]; decide)]
theorem L0 {ws : List cE} {vs : List Int} (r : List (List Int)) (q : List Ask) (p : List Int) (h : List (Int × Bool)) : q.all (hQ vs) = true -> (∀ w c, cD h w = some c -> HF ws vs w = c) -> ∃ y, (jl ws r q p h).find? (fun x => x.1.all (hQ vs)) = some (y, zu ws vs r p) := by
 refine sE (ws := ws) (P := fun r q p h => q.all (hQ vs) = true -> (∀ w c, cD h w = some c -> HF ws vs w = c) -> ∃ y, (jl ws r q p h).find? (fun x => x.1.all (hQ vs)) = some (y, zu ws vs r p)) ?_ ?_ ?_ ?_ ?_ (sC r) r (aiH _) q p h
 . intro q p h hq _
   rw [pT, ajE]
   exact ⟨q, by rw [hq]; rfl⟩
 . intro r q p h i hq hc; rw [lO]; exact i hq hc
 . intro w l r q p h hc i hq hk
   have ht : HF ws vs w = true := by
     rcases hc with z | z
     . unfold HF; rw [z]; rfl
     . exact hk w true z
   rw [lP hc]
   show ∃ y, _ = some (y, zu ws vs r (nR ws vs p (w :: l)))
   rw [E5 ht]
   exact i hq hk
 . intro w l r q p h hc hf i hq hk
   rw [lQ hc hf]
   show ∃ y, _ = some (y, zu ws vs r (nR ws vs p (w :: l)))
   rw [J6 (hk w false hf)]
   exact i hq hk
 . intro w l r q p h hn hl i1 i2 hq hk
   have keep : ∀ c, HF ws vs w = c -> ∀ v c', cD (h ++ [(w, c)]) v = some c' -> HF ws vs v = c' := fun c hc v c' hv => by
     rw [AJ] at hv
     cases e : cD h v with
     | some d => rw [e] at hv; exact hk v c' (e.trans hv)
     | none =>
       rw [e] at hv
       by_cases z : w = v
       . rw [aiI z] at hv
         cases hv
         rw [← z]
         exact hc
       . rw [aiG z] at hv
         cases hv
   rw [lR hn hl, List.find?_append]
   show ∃ y, _ = some (y, zu ws vs r (nR ws vs p (w :: l)))
   cases ht : HF ws vs w with
   | true =>
     rw [E5 ht]
     obtain ⟨y, e⟩ := i1 (by rw [List.all_append, hq]; exact ht) (keep true ht)
     exact ⟨y, by rw [e]; rfl⟩
   | false =>
     rw [J6 ht]
     have e0 : (jl ws r (q ++ mS ws w) (jf p w) (h ++ [(w, true)])).find? (fun x => x.1.all (hQ vs)) = none := akx.mpr fun x hx => by
       rw [Zd (vs := vs) r _ _ _ (by rw [List.all_append, hq]; exact ht) x hx]
       decide
     rw [e0]
     exact i2 hq (keep false ht)
structure za where
 i : Nat
 j : Nat
 qs : List Ask
 pk : List Int
 hl : List (Int × Bool)
noncomputable def v7 (s : za) : L3.D := .tup [.int s.i, .int s.j, .tup (s.qs.map jr), .tup (s.pk.map .int), .jC (LZ s.hl)]
noncomputable def Ze (x : List Ask × List Int) : L3.D := .tup [.tup (x.1.map jr), .tup (x.2.map .int)]
noncomputable def J7 (s : za) : za := ⟨s.i + 1, 0, s.qs, s.pk, s.hl⟩
noncomputable def PD (s : za) : za := ⟨s.i, s.j + 1, s.qs, s.pk, s.hl⟩
noncomputable def M9 (s : za) (w : Int) : za := ⟨s.i, s.j, s.qs, jf s.pk w, s.hl⟩
noncomputable def tQ (R : List (List Int)) (s : za) : List (List Int) := if s.i < R.length then (R.getD s.i []).drop s.j :: R.drop (s.i + 1) else []
noncomputable def RC (ws : List cE) (R : List (List Int)) (s : za) : List (List Ask × List Int) := jl ws (tQ R s) s.qs s.pk s.hl
noncomputable def PF (ws : List cE) (R : List (List Int)) (s : za) : List za :=
 if s.j = (R.getD s.i []).length then [J7 s]
 else if mS ws ((R.getD s.i []).getD s.j 0) = [] \/ cD s.hl ((R.getD s.i []).getD s.j 0) = some true then [J7 (M9 s ((R.getD s.i []).getD s.j 0))]
 else if cD s.hl ((R.getD s.i []).getD s.j 0) = some false then [PD s]
 else [PD ⟨s.i, s.j, s.qs, s.pk, s.hl ++ [((R.getD s.i []).getD s.j 0, false)]⟩, J7 (M9 ⟨s.i, s.j, s.qs ++ mS ws ((R.getD s.i []).getD s.j 0), s.pk, s.hl ++ [((R.getD s.i []).getD s.j 0, true)]⟩ ((R.getD s.i []).getD s.j 0))]
theorem mU {R : List (List Int)} (i j : Nat) (q : List Ask) (p : List Int) (h : List (Int × Bool)) : tQ R (J7 ⟨i, j, q, p, h⟩) = R.drop (i + 1) := by
 unfold tQ J7
 dsimp only
 split
 . rename_i hi
   rw [ajX hi, aiK, aiL hi]
   rfl
 . rename_i hi
   rw [List.drop_eq_nil_of_le (by omega)]
theorem J8 (l : List Int) (s : Int) : (jf l s).length <= l.length + 1 := by
 unfold jf
 split <;> simp
structure L1 (M N : Nat) (ws : List cE) (R : List (List Int)) (s : za) : Prop where
 i1 : s.i <= R.length
 j1 : s.j <= (R.getD s.i []).length
 q1 : s.qs.length + 100 * sC (tQ R s) <= 100 * M
 p1 : s.pk.length + sC (tQ R s) <= M
 h1 : s.hl.length + sC (tQ R s) <= M
noncomputable def PJ (R : List (List Int)) (s : za) : Nat := 3 ^ sC (tQ R s)
theorem Zf {M N : Nat} {ws : List cE} {R : List (List Int)} {s : za} (h : L1 M N ws R s) (hi : s.i < R.length) (hq : ∀ w, (mS ws w).length <= 100) :
   (∀ t ∈ PF ws R s, L1 M N ws R t) /\ RC ws R s = ((PF ws R s).reverse.map (RC ws R)).flatten /\ ((PF ws R s).map (PJ R)).sum < PJ R s /\ (PF ws R s).length <= 2 := by
 obtain ⟨i, j, q, p, hl⟩ := s
 obtain ⟨hi1, hj1, Rz, hp1, hh1⟩ := h
 dsimp only at hi1 hj1 Rz hp1 hh1 hi
 have er : tQ R ⟨i, j, q, p, hl⟩ = (R.getD i []).drop j :: R.drop (i + 1) := by unfold tQ; rw [aiI hi]
 have hL0 : ∀ (q' : List Ask) (p' : List Int) (h' : List (Int × Bool)) (M' : Nat), M' = sC (R.drop (i + 1)) -> q'.length + 100 * M' <= 100 * M -> p'.length + M' <= M -> h'.length + M' <= M -> L1 M N ws R (J7 ⟨i, j, q', p', h'⟩) := fun q' p' h' M' e a1 a2 a3 => by
   have e2 := mU (R := R) i j q' p' h'
   exact ⟨by show i + 1 <= R.length; omega, ai9 _, by rw [e2, ← e]; exact a1, by rw [e2, ← e]; exact a2, by rw [e2, ← e]; exact a3⟩
 unfold PF
 dsimp only
 rw [er] at Rz hp1 hh1
 rw [dh, akg] at Rz hp1 hh1
 unfold RC PJ
 rw [er]
 by_cases hj : j = (R.getD i []).length
 . rw [aiI hj]
   refine ⟨fun t ht => ?_, ?_, ?_, aiJ rfl⟩
   . rw [ajb.mp ht]
     exact hL0 _ _ _ _ rfl (by omega) (by omega) (by omega)
   . show jl ws _ _ _ _ = jl ws (tQ R (J7 _)) _ _ _ ++ []
     rw [ai6, mU, List.drop_eq_nil_of_le (by omega), lO]
     rfl
   . show 3 ^ sC (tQ R (J7 _)) + 0 < _
     rw [mU, dh]
     exact Nat.pow_lt_pow_right (by decide) (by omega)
 . rw [aiG hj]
   have pS : j < (R.getD i []).length := by omega
   have ed : (R.getD i []).drop j = (R.getD i []).getD j 0 :: (R.getD i []).drop (j + 1) := by
     rw [ajX pS, aiK (l := R.getD i []), aiL pS]
     rfl
   have hw := hq ((R.getD i []).getD j 0)
   rw [ed]
   generalize (R.getD i []).getD j 0 = w at hw ⊢
   have ha := J8 p w
   have eW : ∀ (q' : List Ask) (p' : List Int) (h' : List (Int × Bool)), tQ R (PD ⟨i, j, q', p', h'⟩) = (R.getD i []).drop (j + 1) :: R.drop (i + 1) := fun q' p' h' => by unfold tQ PD; dsimp only; rw [if_pos hi]
   have hW0 : ∀ (q' : List Ask) (p' : List Int) (h' : List (Int × Bool)), q'.length <= q.length -> p'.length <= p.length -> h'.length <= hl.length + 1 -> L1 M N ws R (PD ⟨i, j, q', p', h'⟩) := fun q' p' h' a1 a2 a3 => by
     have e2 := eW q' p' h'
     refine ⟨hi1, by show j + 1 <= (R.getD i []).length; omega, ?_, ?_, ?_⟩
     . rw [e2, dh, akg]; show q'.length + _ <= _; omega
     . rw [e2, dh, akg]; show p'.length + _ <= _; omega
     . rw [e2, dh, akg]; show h'.length + _ <= _; omega
   by_cases hc : mS ws w = [] \/ cD hl w = some true
   . rw [aiI hc]
     refine ⟨fun t ht => ?_, ?_, ?_, aiJ rfl⟩
     . rw [ajb.mp ht]
       exact hL0 q (jf p w) hl _ rfl (by omega) (by omega) (by omega)
     . show jl ws _ _ _ _ = jl ws (tQ R (J7 (M9 _ w))) _ _ _ ++ []
       rw [ai6, show M9 ⟨i, j, q, p, hl⟩ w = ⟨i, j, q, jf p w, hl⟩ from rfl, mU, lP hc]
       rfl
     . show 3 ^ sC (tQ R (J7 (M9 _ w))) + 0 < _
       rw [show M9 ⟨i, j, q, p, hl⟩ w = ⟨i, j, q, jf p w, hl⟩ from rfl, mU, dh]
       exact Nat.pow_lt_pow_right (by decide) (by omega)
   . rw [aiG hc]
     by_cases hf : cD hl w = some false
     . rw [aiI hf]
       refine ⟨fun t ht => ?_, ?_, ?_, aiJ rfl⟩
       . rw [ajb.mp ht]
         exact hW0 _ _ _ (aiH _) (aiH _) (by omega)
       . show jl ws _ _ _ _ = jl ws (tQ R (PD _)) _ _ _ ++ []
         rw [ai6, eW, lQ hc hf]
         rfl
       . show 3 ^ sC (tQ R (PD _)) + 0 < _
         rw [eW, dh, dh, ai2]
         exact Nat.pow_lt_pow_right (by decide) (by omega)
     . rw [aiG hf]
       have hn : cD hl w = none := by
         rcases vh hl w with z | z | z
         . exact absurd (.inr z) hc
         . exact absurd z hf
         . exact z
       have hqn : ¬ mS ws w = [] := fun z => hc (.inl z)
       have eP : M9 ⟨i, j, q ++ mS ws w, p, hl ++ [(w, true)]⟩ w = ⟨i, j, q ++ mS ws w, jf p w, hl ++ [(w, true)]⟩ := rfl
       rw [eP]
       refine ⟨fun t ht => ?_, ?_, ?_, aiJ rfl⟩
       . simp only [aiN, ajp, or_false] at ht
         rcases ht with rfl | rfl
         . exact hW0 _ _ _ (aiH _) (aiH _) (by rw [aiT]; simp)
         . refine hL0 _ _ _ _ rfl ?_ (by omega) (by rw [aiT, akn]; omega)
           rw [aiT]; omega
       . show jl ws _ _ _ _ = jl ws (tQ R (J7 _)) _ _ _ ++ (jl ws (tQ R (PD _)) _ _ _ ++ [])
         rw [ai6, mU, eW, lR hqn hn]
         rfl
       . show 3 ^ sC (tQ R (PD _)) + (3 ^ sC (tQ R (J7 _)) + 0) < _
         rw [mU, eW, dh, dh, ai2, akg]
         have a1 : 3 ^ sC (R.drop (i + 1)) <= 3 ^ ((R.getD i []).length - (j + 1) + 1 + sC (R.drop (i + 1))) := akp (by decide) (by omega)
         have a2 : 3 ^ ((R.getD i []).length - (j + 1) + 1 + 1 + sC (R.drop (i + 1))) = 3 ^ ((R.getD i []).length - (j + 1) + 1 + sC (R.drop (i + 1))) * 3 := by rw [← Nat.pow_succ]; congr 1; omega
         have a3 : 0 < 3 ^ ((R.getD i []).length - (j + 1) + 1 + sC (R.drop (i + 1))) := Nat.pow_pos (by decide)
         omega
noncomputable def az (s : List Int) (k : Int) : Int := if s.length = 0 then k else s.getD (k % (s.length : Nat)).toNat 0 % 10 ^ (36 : Int).toNat / (1 + k / (s.length : Nat)) + k / (s.length : Nat) * k
theorem lS (s : List Int) {k : Int} (h : 0 <= k) : 0 <= az s k := by
 unfold az
 by_cases e : s.length = 0
 . rw [aiI e]; exact h
 . rw [aiG e]
   have t0 : 0 <= k / (s.length : Nat) := Int.ediv_nonneg h (by omega)
   have m0 := ai4 (s.getD (k % (s.length : Nat)).toNat 0) (b := 10 ^ (36 : Int).toNat) (by decide)
   have := Int.ediv_nonneg m0 (b := 1 + k / (s.length : Nat)) (by omega)
   have := Int.mul_nonneg t0 h
   omega
noncomputable abbrev B5 : Stmt := top 29
noncomputable abbrev HG : Type := List Int × Int
noncomputable def fN : HG -> List L3.D := fun (s, k) => [.lst (s.map .int), .int k]
noncomputable def bf : HG -> Prop := fun (s, k) => 0 <= k /\ k <= 100000 /\ s.length <= 1000
noncomputable def eZ : HG -> T := fun (s, k) => (.sh (.int (az s k)) : T)
structure Zg (X : Cx) (CL : Str -> Addr) : Prop extends cK X where
 aG : Ln X 0 "script"
 jV : Ln X 1 "k"
 mV : Ln X 2 "turn"
 cy : Gl X "len"
 b8 : X.mg "len" = none
theorem Zh {X : Cx} {CL : Str -> Addr} {b : Bx} (E : Zg X CL) (s k) (h : bf (s, k)) :
   aD X CL b B5 ["script", "k", "turn"] (fN (s, k)) (eZ (s, k)) := by
 dsimp only [aD, bf, fN, eZ] at h ⊢
 obtain ⟨k0, k1, hl⟩ := h
 refine dc (eB (ah (di (aiC ..) E.b8 (aE E.aG) E.cy)) (ah aj)).1 (fun hp => ?_) (fun hp => aq ?_)
 . have e : s.length = 0 := by
     have := aiU hp
     omega
   refine bL (v_ E.jV.1) ?_
   show T.sh _ = T.sh (.int (az s k))
   unfold az
   rw [aiI e]
 . have e : ¬ s.length = 0 := by
     have := ai7 hp
     omega
   have t0 : 0 <= k / (s.length : Nat) := Int.ediv_nonneg k0 (by omega)
   have t1 : k / (s.length : Nat) <= k := Int.ediv_le_self _ k0
   have b1 := ai4 k (b := (s.length : Nat)) (by omega)
   have b2 := aiV k (b := (s.length : Nat)) (by omega)
   refine aO E.g E.mV (cA (aE E.jV) (ah (di (aiC ..) E.b8 (aE E.aG) E.cy)) (⟨by omega, by omega⟩)) ?_
   refine bL (cu (ah (cA (ah (bD (bZ (aE E.aG) (ah (bD (aE E.jV) (ah (di (aiC ..) E.b8 (aE E.aG) E.cy)) (by omega))) (fJ b1 b2)) (ah (Bs (ah aj) (ah aj) ⟨by decide, by decide, by decide⟩)) (by decide))) (ah (cu (ah aj) (aE E.mV))) (⟨by omega, by omega⟩))) (ah (tX (aE E.mV) (aE E.jV) (.inr ⟨by omega, by omega⟩)))) ?_
   show T.sh _ = T.sh (.int (az s k))
   unfold az
   rw [aiG e]
theorem v8 : kM (ao B5) ([("script", au), ("k", au), ("turn", au), ("len", av)]) = true := by decide +kernel
theorem J9 : aU ["script", "k", "turn"] ["script", "k"] (ao B5) := bq
noncomputable def jH (s : List Int) : Int := az s 0 / 9 % 3
theorem Zi (s : List Int) : 0 <= jH s /\ jH s < 3 := ⟨ai4 _ (by decide), aiV _ (by decide)⟩
noncomputable def L4 : List Int := [-1, 0, 1, 1, 0, 4, 4, 0, 7]
noncomputable def L5 : List Int := [-1, 0, 1, 2, 2, 1, 5, 5, 0]
noncomputable def Nb (s es : List Int) (j : Nat) : Int := az s (1 + (j : Int)) % (((gP es j).length : Int) + 1)
theorem PL (s es : List Int) (j : Nat) : 0 <= Nb s es j /\ Nb s es j <= ((gP es j).length : Int) := by
 have a := ai4 (az s (1 + (j : Int))) (b := ((gP es j).length : Int) + 1) (by omega)
 have b := aiV (az s (1 + (j : Int))) (b := ((gP es j).length : Int) + 1) (by omega)
 unfold Nb
 omega
noncomputable def B6 (s : List Int) : Nat -> List Int
 | 0 => [-1]
 | j + 1 => B6 s j ++ [GF (B6 s j) j (Nb s (B6 s j) j).toNat]
theorem PN : vg [-1] := ⟨fun k hk => by
   have : k = 0 := by simpa using hk
   subst this
   exact ⟨Int.le_refl _, show (-1 : Int) < ((0 : Nat) : Int) by decide⟩, fun k hk => by simp at hk⟩
theorem HJ (s : List Int) : ∀ j, (B6 s j).length = j + 1 /\ vg (B6 s j)
 | 0 => ⟨rfl, PN⟩
 | j + 1 => by
   obtain ⟨h1, h2⟩ := HJ s j
   refine ⟨by show (B6 s j ++ _).length = _; rw [aiT, h1]; rfl, ?_⟩
   have hu := PL s (B6 s j) j
   exact h2.snoc h1.symm (BP (by omega))
noncomputable def acy (es : List Int) : Bool := (List.range es.length).all (fun k => decide (-1 <= es.getD k 0) && decide (es.getD k 0 < (k : Int))) && (List.range (es.length - 1)).all (fun k => decide (es.getD (k + 1) 0 = (k : Int)) || decide (es.getD (k + 1) 0 ∈ gP es k))
theorem Ud {es : List Int} (h : acy es = true) : vg es := by
 unfold acy at h
 rw [ajm, ajB, ajB] at h
 refine ⟨fun k hk => ?_, fun k hk => ?_⟩
 . have := h.1 k (ajr.mpr hk)
   simpa using this
 . have := h.2 k (ajr.mpr (by omega))
   simpa using this
noncomputable def jX (s : List Int) (n : Nat) : List Int := if 0 < jH s then (if jH s = 1 then L4 else L5).take n else B6 s (n - 1)
theorem Ka (s : List Int) {n : Nat} (h1 : 1 <= n) (h9 : n <= 9) : (jX s n).length = n /\ vg (jX s n) := by
 unfold jX
 split
 . have : n = 1 \/ n = 2 \/ n = 3 \/ n = 4 \/ n = 5 \/ n = 6 \/ n = 7 \/ n = 8 \/ n = 9 := by omega
   split <;> rcases this with rfl | rfl | rfl | rfl | rfl | rfl | rfl | rfl | rfl <;> exact ⟨by decide +kernel, Ud (by decide +kernel)⟩
 . obtain ⟨a, b⟩ := HJ s (n - 1)
   exact ⟨by omega, b⟩
theorem L6 {α : Type} {l : List α} {k : Nat} (h : k <= l.length) : cutD l none (some (k : Int)) = l.take k := by
 unfold cutD
 have e1 : HT.zc l.length 0 none = 0 := rfl
 have e2 : HT.zc l.length l.length (some (k : Int)) = k := by
   unfold HT.zc
   simp
   split <;> omega
 rw [e1, e2]
 simp
noncomputable abbrev sF : Stmt := top 31
noncomputable abbrev xG : Type := List Int × Nat
noncomputable def mW : xG -> List L3.D := fun (s, n) => [.lst (s.map .int), .int n]
noncomputable def jI : xG -> Prop := fun (s, n) => 1 <= n /\ n <= 9 /\ s.length <= 1000
noncomputable def mX : xG -> T := fun (s, n) => (.lst (((jX s n).map .int).map T.sh) : T)
structure PR (X : Cx) (CL : Str -> Addr) : Prop extends cK X where
 aG : Ln X 0 "script"
 fZ : Ln X 1 "many"
 mY : Ln X 2 "style"
 bw : Ln X 3 "elders"
 sG : Ln X 4 "depths"
 jV : Ln X 5 "k"
 jg : Ln X 6 "at"
 Zj : Ln X 7 "step"
 aQ : Gl X "_law_cell"
 bE : Gl X "range"
 cM : Fc X CL "_law_cell" 1 2 fN bf eZ
 bF : X.mg "range" = none
theorem PV {X : Cx} {CL : Str -> Addr} {b : Bx} (E : PR X CL) (s n) (h : jI (s, n)) :
   aD X CL b sF ["script", "many", "style", "elders", "depths", "k", "at", "step"] (mW (s, n)) (mX (s, n)) := by
 dsimp only [aD, jI, mW, mX] at h ⊢
 obtain ⟨n1, n2, hs⟩ := h
 refine aO E.g E.mY (aW (bD (ah (cA (ah (c_ ((s, 0)) E.cM E.aQ (ai (aE E.aG) (ai (ah aj) aN)) (by dsimp only [bf]; exact (⟨by omega, by omega, hs⟩)) rfl)) (ah aj) ⟨by decide, by decide⟩)) (ah aj) (by decide)) (t2 := .sh (.int (jH s))) rfl) ?_
 obtain ⟨y0, y1⟩ := Zi s
 refine dc (JM (aE E.mY) (ah aj)).1 (fun hp => ?_) (fun hp => aq ?_)
 . have hp := aiU hp
   have GH : tN [L3.D.lst (L4.map .int), .lst (L5.map .int)] (jH s - 1) = some (.lst ((if jH s = 1 then L4 else L5).map .int)) := by
     have : jH s = 1 \/ jH s = 2 := by omega
     rcases this with e | e
     . rw [aiI e, e]; rfl
     . rw [aiG (by omega), e]; rfl
   have hfr : T.dQ (.lst [.lst ((L4.map L3.D.int).map T.sh), .lst ((L5.map L3.D.int).map T.sh)]) = .lst [L3.D.lst (L4.map .int), .lst (L5.map .int)] := by
     rw [T.dQ, T.dD, T.dD, T.dD, dI, dI]
   have hfl : n <= ((if jH s = 1 then L4 else L5).map L3.D.int).length := by
     rw [aiC]
     split <;> exact n2
   refine bL (Ow (bZ (uZ (Od (dF (bu (dF (BH rfl) (aM rfl)) (bu (dF (BH rfl) (aM rfl)) cO)) (aM rfl))) hfr) (ah (mH (aE E.mY) (ah aj))) GH) (dU _) SD (SG (aE E.fZ))) ?_
   rw [L6 hfl]
   show T.lst _ = T.lst (((jX s n).map .int).map T.sh)
   unfold jX
   rw [aiI hp]
   simp [List.map_take]
 have hp := ai7 hp
 show fq X CL b _ _ { nx := _, rt := fun Hq _ => Hq = T.lst (((jX s n).map .int).map T.sh), bk := _, ct := _ }
 rw [show jX s n = B6 s (n - 1) by unfold jX; rw [aiG hp]]
 refine aO E.g E.bw (jq (aB (qW (ah aj)) bT) (aM rfl)) ?_
 refine aO E.g E.sG (jq (aB aj bT) (aM rfl)) ?_
 refine gJ E.g E.jV (fun j δ => ∃ o5 o6 o7, δ = [some (.sh (.lst (s.map .int))), some (.sh (.int n)), some (.sh (.int (jH s))), some (.lst (((B6 s j).map .int).map T.sh)), some (.lst (((Hz (B6 s j) (j + 1)).map .int).map T.sh)), o5, o6, o7])
   (Av E.bF (ah aj) (aE E.fZ) (by omega) E.bE) ⟨_, _, _, rfl⟩ (fun j δ ⟨_, _, _, e⟩ => by subst e; exact aiJ rfl) ?turn ?fin
 case turn =>
   rintro j d δ hj ⟨o5, o6, o7, rfl⟩
   obtain ⟨rfl, pS⟩ := fK hj
   obtain ⟨hl, hp⟩ := HJ s j
   have hu := PL s (B6 s j) j
   have est : B6 s (j + 1) = B6 s j ++ [GF (B6 s j) j (Nb s (B6 s j) j).toNat] := rfl
   show fq X CL b _ _ { nx := fun δ => ∃ o5 o6 o7, δ = [_, _, _, some (.lst (((B6 s (j + 1)).map .int).map T.sh)), some (.lst (((Hz (B6 s (j + 1)) (j + 1 + 1)).map .int).map T.sh)), o5, o6, o7], rt := _, bk := _, ct := _ }
   rw [est]
   generalize hes : B6 s j = es at hl hp hu ⊢
   have ht := hp.1
   have hdl : (Hz es (j + 1)).length = j + 1 := by simp [Hz]
   have hcl : ((gP es (j : Int)).length : Nat) <= es.length + 1 := BO _ _ _
   have dj : (Hz es (j + 1)).getD (j : Int).toNat 0 = ((gP es (j : Int)).length : Int) := by
     rw [ajn]
     exact Pp es (by omega)
   refine aO E.g E.jg (aW (mH (aE E.jV) (ah aj)) (congrArg (fun z => T.sh (.int z)) (show (1 + (j : Int)) - 1 = j by omega))) ?_
   have hgu : az s (1 + (j : Int)) % ((Hz es (j + 1)).getD (j : Int).toNat 0 + 1) = Nb s es j := by rw [dj]; rfl
   refine gJ E.g E.Zj (fun i δ => ∃ o7, δ = [some (.sh (.lst (s.map .int))), some (.sh (.int n)), some (.sh (.int (jH s))), some (.lst ((es.map .int).map T.sh)), some (.lst (((Hz es (j + 1)).map .int).map T.sh)), some (.sh (.int (1 + (j : Int)))), some (.sh (.int (GF es j i))), o7])
     (cS E.bF (uZ (ah (bD (ah (c_ ((s, 1 + (j : Int))) E.cM E.aQ (ai (aE E.aG) (ai (aE E.jV) aN)) (by dsimp only [bf]; exact (⟨by omega, by omega, hs⟩)) rfl)) (ah (cu (bZ (vL E.sG.1) (aE E.jg) (fJ (by omega) (by omega))) (ah aj))) ((by rw [dj]; omega)))) (congrArg L3.D.int hgu)) (by omega) E.bE) ⟨_, rfl⟩ (fun j δ ⟨_, e⟩ => by subst e; exact Nat.le_of_ble_eq_true rfl) ?PX ?fin2
   case PX =>
     rintro i d δ hi ⟨o7, rfl⟩
     obtain ⟨rfl, hil⟩ := fK hi
     obtain ⟨⟨x0, x1⟩, x2⟩ := EY ht (j + 1) (m := (j : Int)) (n := i) (by omega) (by omega) (by omega) (by omega)
     refine aO E.g E.jg (aW (fY (bZ (vL E.bw.1) (aE E.jg) (fJ (by omega) (by omega))) rfl) (congrArg (fun z => T.sh (.int z)) x2)) (aq ⟨_, rfl⟩)
   case fin2 =>
     rintro δ ⟨o7, rfl⟩
     have e0 : (bB 0 (Nb s es j).toNat).length = (Nb s es j).toNat := by simp [bB]
     rw [e0]
     have hb : 0 <= GF es j (Nb s es j).toNat /\ GF es j (Nb s es j).toNat < es.length := by
       rcases BP (es := es) (m := (j : Int)) (n := (Nb s es j).toNat) (by omega) with z | z
       . rw [z]; omega
       . have := vZ ht (m := (j : Int)) (by omega) (by omega) z
         omega
     generalize GF es j (Nb s es j).toNat = x at hb ⊢
     refine iy E.bw.1 rfl (v_ E.jg.1) rfl (by simp; omega) ?_
     have dx : (Hz es (j + 1)).getD x.toNat 0 = ((gP es x).length : Int) := by
       have := Pp es (n := j + 1) (i := x.toNat) (by omega)
       rw [this, show ((x.toNat : Nat) : Int) = x by omega]
     refine iy E.sG.1 rfl (aW (cu (bZ (vL E.sG.1) (aE E.jg) (fJ (by omega) (by omega))) (ah aj)) (congrArg (fun z => T.sh (.int (z + 1))) dx)) rfl (by simp; omega) (aq ?_)
     have e1 : ((es.map L3.D.int).map T.sh) ++ [T.sh (.int x)] = ((es ++ [x]).map L3.D.int).map T.sh := by simp
     have e2 : (((Hz es (j + 1)).map L3.D.int).map T.sh) ++ [T.sh (.int (((gP es x).length : Int) + 1))] = ((Hz (es ++ [x]) (j + 1 + 1)).map L3.D.int).map T.sh := by
       rw [← hl, Pr ht hb.1 hb.2]
       simp
     rw [e1, e2]
     exact ⟨_, _, _, rfl⟩
 case fin =>
   rintro δ ⟨o5, o6, o7, rfl⟩
   refine bL (vM E.bw.1) ?_
   have e : (bB 1 ((n : Int) - 1).toNat).length = n - 1 := by simp [bB]
   rw [e]
theorem fu : kM (ao sF) ([("script", au), ("many", au), ("style", au), ("elders", au), ("depths", au), ("k", au), ("at", au), ("step", au), ("_law_cell", av), ("range", av)]) = true := by decide +kernel
theorem AK : aU ["script", "many", "style", "elders", "depths", "k", "at", "step"] ["script", "many"] (ao sF) := bq
noncomputable def Ue (s : List Int) (k : Nat) : Str := if 0 < jH s then (["one", "all"] : List Str).getD (if (k : Int) = jH s - 1 then 1 else 0) Str.empty else (["all", "one", "one"] : List Str).getD ((az s k / 13 + k) % 3).toNat Str.empty
noncomputable def kE (s es : List Int) (k : Nat) : Str := if (k : Int) ∈ es then Ue s k else "leaf"
noncomputable def B7 (s es : List Int) (n : Nat) : List Str := (List.range n).map (kE s es)
theorem B8 (s es : List Int) (n : Nat) : (B7 s es n).length = n := by simp [B7]
theorem Zk (s es : List Int) {n k : Nat} (h : k < n) : (B7 s es n).getD k Str.empty = kE s es k := by
 unfold B7
 rw [aiK, ai5, ajI h]
 rfl
theorem Zm (s : List Int) (k : Nat) : Ue s k = "all" \/ Ue s k = "one" := by
 unfold Ue
 split
 . split
   . exact .inl rfl
   . exact .inr rfl
 . have a := ai4 (az s k / 13 + k) (b := 3) (by decide)
   have b := aiV (az s k / 13 + k) (b := 3) (by decide)
   have : ((az s k / 13 + k) % 3).toNat = 0 \/ ((az s k / 13 + k) % 3).toNat = 1 \/ ((az s k / 13 + k) % 3).toNat = 2 := by omega
   rcases this with e | e | e
   . rw [e]; exact .inl rfl
   . rw [e]; exact .inr rfl
   . rw [e]; exact .inr rfl
theorem acz (s es : List Int) (k : Nat) : ((k : Int) ∈ es /\ (kE s es k = "all" \/ kE s es k = "one")) \/ ((k : Int) ∉ es /\ kE s es k = "leaf") := by
 unfold kE
 split
 . rename_i h
   exact .inl ⟨h, Zm s k⟩
 . rename_i h
   exact .inr ⟨h, rfl⟩
theorem Kc (s es : List Int) : WV (B7 s es es.length) es := fun k hk e => by
 rw [Zk s es hk] at e
 rcases acz s es k with ⟨h, _⟩ | ⟨_, e2⟩
 . exact Y9 h
 . rw [e2] at e
   exact absurd e (by decide +kernel)
noncomputable abbrev v9 : Stmt := top 32
noncomputable abbrev B9 : Type := List Int × List Int
noncomputable def pU : B9 -> List L3.D := fun (s, es) => [.lst (s.map .int), .lst (es.map .int)]
noncomputable def lT : B9 -> Prop := fun (s, es) => es.length <= 900 /\ s.length <= 1000
noncomputable def pV : B9 -> T := fun (s, es) => (.lst (((B7 s es es.length).map .str).map T.sh) : T)
structure Ug (X : Cx) (CL : Str -> Addr) : Prop extends cK X where
 aG : Ln X 0 "script"
 bw : Ln X 1 "elders"
 mY : Ln X 2 "style"
 eU : Ln X 3 "kinds"
 jV : Ln X 4 "k"
 Ca : Ln X 5 "kind"
 aQ : Gl X "_law_cell"
 bE : Gl X "range"
 cy : Gl X "len"
 AO : Gl X "int"
 cM : Fc X CL "_law_cell" 1 2 fN bf eZ
 bF : X.mg "range" = none
 b8 : X.mg "len" = none
 AQ : X.mg "int" = none
theorem Uh {X : Cx} {CL : Str -> Addr} {b : Bx} (E : Ug X CL) (s es) (h : lT (s, es)) :
   aD X CL b v9 ["script", "elders", "style", "kinds", "k", "kind"] (pU (s, es)) (pV (s, es)) := by
 dsimp only [aD, lT, pU, pV] at h ⊢
 obtain ⟨hl, hs⟩ := h
 refine aO E.g E.mY (aW (bD (ah (cA (ah (c_ ((s, 0)) E.cM E.aQ (ai (aE E.aG) (ai (ah aj) aN)) (by dsimp only [bf]; exact (⟨by omega, by omega, hs⟩)) rfl)) (ah aj) ⟨by decide, by decide⟩)) (ah aj) (by decide)) (t2 := .sh (.int (jH s))) rfl) ?_
 refine aO E.g E.eU (dF cO (ai9 _)) ?_
 refine gJ E.g E.jV (fun j δ => ∃ o4 o5, δ = [some (.sh (.lst (s.map .int))), some (.sh (.lst (es.map .int))), some (.sh (.int (jH s))), some (.lst (((B7 s es j).map .str).map T.sh)), o4, o5])
   (cS E.bF (ah (di (aiC ..) E.b8 (aE E.bw) E.cy)) (by omega) E.bE) ⟨_, _, rfl⟩ (fun j δ ⟨_, _, e⟩ => by subst e; exact aiJ rfl) ?turn ?fin
 case turn =>
   rintro j d δ hj ⟨o4, o5, rfl⟩
   obtain ⟨rfl, pS⟩ := fK hj
   rw [ajF]
   have Ui := B8 s es j
   have eK : ∀ x : Str, x = kE s es j -> ((B7 s es j).map L3.D.str).map T.sh ++ [T.sh (.str x)] = ((B7 s es (j + 1)).map L3.D.str).map T.sh := fun x e => by
     subst e
     simp [B7, ajP]
   refine aO E.g E.Ca (fY (bZ (dZ (jq (aB bG (aB bG (aB bG bT))) (aM rfl))) (ah (bD (ah (cu (ah (cA (ah (c_ ((s, (j : Int))) E.cM E.aQ (ai (aE E.aG) (ai (aE E.jV) aN)) (by dsimp only [bf]; exact (⟨by omega, by omega, by omega⟩)) rfl)) (ah aj) ⟨by decide, by decide⟩)) (aE E.jV))) (ah aj) (by decide))) (iB (f := L3.D.str) (l := ["all", "one", "one"]) Str.empty (Int.emod_nonneg _ (by decide)) (Int.emod_lt_of_pos _ (by decide)))) rfl) ?_
   refine r6 (fun δ => δ = [some (.sh (.lst (s.map .int))), some (.sh (.lst (es.map .int))), some (.sh (.int (jH s))), some (.lst (((B7 s es j).map .str).map T.sh)), some (.sh (.int j)), some (.sh (.str (Ue s j)))]) (JM (aE E.mY) (ah aj)).1 (fun hp => ?_) (fun hp => ?_) ?_
   . have hp := aiU hp
     refine aO E.g E.Ca (aW (fY (bZ (ds := (["one", "all"] : List Str).map .str) (dZ (jq (aB bG (aB bG bT)) (aM rfl))) (ah (SM E.AQ (ah ((eB (aE E.jV) (ah (mH (aE E.mY) (ah aj)))).2)) E.AO)) (iB (f := L3.D.str) Str.empty (by split <;> omega) (by show (if _ then (1 : Int) else 0) < ((2 : Nat) : Int); split <;> omega))) rfl) (t2 := .sh (.str (Ue s j))) ?_) (aq rfl)
     unfold Ue
     rw [aiI hp]
     by_cases e : (j : Int) = jH s - 1
     . rw [aiI e, aiI (ajW e)]; rfl
     . rw [if_neg e, if_neg (by simpa using e)]; rfl
   . have hp := ai7 hp
     refine aq ?_
     unfold Ue
     rw [aiG hp]
     rfl
   rintro δ rfl
   refine r6 (fun δ => δ = [some (.sh (.lst (s.map .int))), some (.sh (.lst (es.map .int))), some (.sh (.int (jH s))), some (.lst (((B7 s es j).map .str).map T.sh)), some (.sh (.int j)), some (.sh (.str (kE s es j)))]) (sf (l := es) (aE E.jV) (aE E.bw) rfl rfl).1 (fun hp => ?_) (fun hp => ?_) ?_
   . have e : ¬ (j : Int) ∈ es := by
       rw [akC] at hp
       exact ai7 hp
     rw [show kE s es j = "leaf" by unfold kE; rw [aiG e]]
     exact aO E.g E.Ca bG (aq rfl)
   . have e : (j : Int) ∈ es := by
       rw [aky] at hp
       exact aiU hp
     rw [show kE s es j = Ue s j by unfold kE; rw [aiI e]]
     exact aq rfl
   rintro δ rfl
   refine iy E.eU.1 rfl (v_ E.Ca.1) rfl (by simp; omega) (aq ?_)
   rw [eK _ rfl]
   exact ⟨_, _, rfl⟩
 case fin =>
   rintro δ ⟨o4, o5, rfl⟩
   have e : (bB 0 (es.length : Int).toNat).length = es.length := by simp [bB]
   rw [e]
   exact bL (vM E.eU.1) rfl
theorem gb : kM (ao v9) ([("script", au), ("elders", au), ("style", au), ("kinds", au), ("k", au), ("kind", au), ("_law_cell", av), ("range", av), ("len", av), ("int", av)]) = true := by decide +kernel
theorem E6 : aU ["script", "elders", "style", "kinds", "k", "kind"] ["script", "elders"] (ao v9) := bq
noncomputable abbrev mZ : Stmt := top 33
noncomputable abbrev rj : Type := List Int × Int
noncomputable def gU : rj -> List L3.D := fun (es, m) => [.lst (es.map .int), .int m]
noncomputable def eV : rj -> Prop := fun (es, m) => es.length <= 1000
noncomputable def fP : rj -> T := fun (es, m) => (.lst (((xu es m).map .int).map T.sh) : T)
structure HK (X : Cx) (CL : Str -> Addr) : Prop extends cK X where
 bw : Ln X 0 "elders"
 xH : X.env.kindOf "elders" = some .cell
 rq : Ln X 1 "mood"
 Zn : X.env.kindOf "mood" = some .cell
 bE : Gl X "range"
 cy : Gl X "len"
 bF : X.mg "range" = none
 b8 : X.mg "len" = none
theorem HL {X : Cx} {CL : Str -> Addr} {b : Bx} (E : HK X CL) (es m) (h : eV (es, m)) :
   aD X CL b mZ ["elders", "mood"] (gU (es, m)) (fP (es, m)) := by
 dsimp only [aD, eV, gU, fP] at h ⊢
 refine bL (sy (p := fun d => decide (es.getD d.vG.toNat 0 = m)) (g := fun d => T.sh d) (cQ (.cons E.bw.1 (.inl E.xH) (.cons E.rq.1 (.inl E.Zn) .nil)) (by decide +kernel)) E.g.calm
   (cS E.bF (ah (di (aiC ..) E.b8 (aE E.bw) E.cy)) (by omega) E.bE) (.inr rfl) (fun C s0 H0 f0 b' d hd => ?E7) (ajy (cJ (by simp [bB]; omega)))) ?eq
 case E7 =>
   obtain ⟨i, hi, rfl⟩ := ai8.mp hd
   have Hg : i < es.length := by simpa using hi
   exact ⟨(eB (bZ (ah (v_ (gQ (i := 1) rfl (by decide +kernel)))) (ah (v_ (eF (i := 0) rfl (by decide +kernel)))) (fJ (show (0 : Int) <= 0 + (i : Int) by omega) (show 0 + (i : Int) < es.length by omega))) (ah (v_ (gQ (i := 2) rfl (by decide +kernel))))).1, fun _ => v_ (eF (i := 0) rfl (by decide +kernel))⟩
 case eq =>
   refine congrArg T.lst ?_
   unfold bB xu
   rw [List.filter_map, ajh, ajh, ajh, ajn]
   have e1 : ((fun d : L3.D => decide (es.getD d.vG.toNat 0 = m)) ∘ fun i : Nat => L3.D.int (0 + (i : Int))) = fun i : Nat => decide (es.getD i 0 = m) := by
     funext i
     show decide (es.getD (0 + (i : Int)).toNat 0 = m) = _
     rw [ajF, ajn]
   rw [e1]
   congr 1
   funext i
   show T.sh (.int (0 + (i : Int))) = T.sh (.int i)
   rw [ajF]
theorem gK : kM (ao mZ) ([("elders", .cell), ("mood", .cell), ("range", av), ("len", av)]) = true := by decide +kernel
theorem vm : aU ["elders", "mood"] ["elders", "mood"] (ao mZ) := bq
noncomputable def Uj (s es : List Int) (ks : List Str) (base : Int) (k : Nat) : Int := if ks.getD k Str.empty = "one" then (xu es k).getD (az s (base + k) % ((xu es k).length : Nat)).toNat 0 else -1
noncomputable def Kd (s es : List Int) (ks : List Str) (base : Int) (n : Nat) : List Int := (List.range n).map (Uj s es ks base)
theorem Ke (s es : List Int) (ks : List Str) (base : Int) (n : Nat) : (Kd s es ks base n).length = n := by simp [Kd]
noncomputable abbrev sH : Stmt := top 34
noncomputable abbrev xJ : Type := List Int × List Int × List Str × Int
noncomputable def jJ : xJ -> List L3.D := fun (s, es, ks, base) => [.lst (s.map .int), .lst (es.map .int), .lst (ks.map .str), .int base]
noncomputable def gG : xJ -> Prop := fun (s, es, ks, base) => es.length <= 900 /\ s.length <= 1000 /\ ks.length = es.length /\ WV ks es /\ 0 <= base /\ base <= 5000
noncomputable def jK : xJ -> T := fun (s, es, ks, base) => (.lst (((Kd s es ks base es.length).map .int).map T.sh) : T)
structure PY (X : Cx) (CL : Str -> Addr) : Prop extends cK X where
 aG : Ln X 0 "script"
 bw : Ln X 1 "elders"
 eU : Ln X 2 "kinds"
 Zo : Ln X 3 "base"
 fO : Ln X 4 "chosen"
 jV : Ln X 5 "k"
 rA : Ln X 6 "near"
 bE : Gl X "range"
 cy : Gl X "len"
 m5 : Gl X "_law_inner"
 aQ : Gl X "_law_cell"
 bF : X.mg "range" = none
 b8 : X.mg "len" = none
 rB : Fc X CL "_law_inner" 1 2 gU eV fP
 cM : Fc X CL "_law_cell" 1 2 fN bf eZ
theorem PZ {X : Cx} {CL : Str -> Addr} {b : Bx} (E : PY X CL) (s es ks base) (h : gG (s, es, ks, base)) :
   aD X CL b sH ["script", "elders", "kinds", "base", "chosen", "k", "near"] (jJ (s, es, ks, base)) (jK (s, es, ks, base)) := by
 dsimp only [aD, gG, jJ, jK] at h ⊢
 obtain ⟨hl, hs, hk, ho, b0, b1⟩ := h
 refine aO E.g E.fO (dF cO (ai9 _)) ?_
 refine gJ E.g E.jV (fun j δ => ∃ o o', δ = [some (.sh (.lst (s.map .int))), some (.sh (.lst (es.map .int))), some (.sh (.lst (ks.map .str))), some (.sh (.int base)), some (.lst (((Kd s es ks base j).map .int).map T.sh)), o, o'])
   (cS E.bF (ah (di (aiC ..) E.b8 (aE E.bw) E.cy)) (by omega) E.bE) ⟨_, _, rfl⟩ (fun j δ ⟨_, _, e⟩ => by subst e; exact aiJ rfl) ?turn ?fin
 case turn =>
   rintro j d δ hj ⟨o, o', rfl⟩
   obtain ⟨rfl, pS⟩ := fK hj
   rw [ajF]
   have hcl := Ke s es ks base j
   have hml : ((xu es (j : Int)).map L3.D.int).length = (xu es (j : Int)).length := by simp
   have eK : ∀ x : Int, x = Uj s es ks base j -> ((Kd s es ks base j).map L3.D.int).map T.sh ++ [T.sh (.int x)] = ((Kd s es ks base (j + 1)).map L3.D.int).map T.sh := fun x e => by
     subst e
     simp [Kd, ajP]
   refine aO E.g E.rA (c_ ((es, (j : Int))) E.rB E.m5 (ai (aE E.bw) (ai (aE E.jV) aN)) ((by dsimp only [eV]; omega)) (cG _)) ?_
   rw [show fP (es, (j : Int)) = T.lst (((xu es (j : Int)).map .int).map T.sh) from rfl]
   refine dc (fC (bZ (aE E.eU) (aE E.jV) (iB Str.empty (by omega) (by omega))) (ah bG)).1 (fun hp => ?_) (fun hp => ?_)
   . have e : ks.getD j Str.empty = "one" := aiU hp
     have ahL : 0 < (xu es (j : Int)).length := List.length_pos_iff.mpr (ho j (by omega) e)
     have c1 := ai4 (az s (base + (j : Int))) (b := ((xu es (j : Int)).length : Nat)) (by omega)
     have c2 := aiV (az s (base + (j : Int))) (b := ((xu es (j : Int)).length : Nat)) (by omega)
     refine iy E.fO.1 rfl (fY (bZ (vL E.rA.1) (ah (bD (ah (c_ ((s, base + (j : Int))) E.cM E.aQ (ai (aE E.aG) (ai (ah (cu (aE E.Zo) (aE E.jV))) aN)) (by dsimp only [bf]; exact (⟨by omega, by omega, by omega⟩)) rfl)) (ah (di (hml) E.b8 (vL E.rA.1) E.cy)) (by omega))) (fJ c1 c2)) rfl) rfl (by simp; omega) (aq (aq ?_))
     rw [eK _ (by unfold Uj; rw [aiI e])]
     exact ⟨_, _, rfl⟩
   . have e : ¬ ks.getD j Str.empty = "one" := ai7 hp
     refine iy E.fO.1 rfl (qW (ah aj)) rfl (by simp; omega) (aq (aq ?_))
     rw [eK _ (by unfold Uj; rw [aiG e])]
     exact ⟨_, _, rfl⟩
 case fin =>
   rintro δ ⟨o, o', rfl⟩
   have e : (bB 0 (es.length : Int).toNat).length = es.length := by simp [bB]
   rw [e]
   exact bL (vM E.fO.1) rfl
theorem eG : kM (ao sH) ([("script", au), ("elders", au), ("kinds", au), ("base", au), ("chosen", au), ("k", au), ("near", au), ("range", av), ("len", av), ("_law_inner", av), ("_law_cell", av)]) = true := by decide +kernel
theorem AU : aU ["script", "elders", "kinds", "base", "chosen", "k", "near"] ["script", "elders", "kinds", "base"] (ao sH) := bq
noncomputable def P0 : List Nat := (List.range 26).map (· + 97)
theorem E8 : ("abcdefghijklmnopqrstuvwxyz" : Str).cps.toList = P0 := by decide +kernel
noncomputable def qH (k : Int) : Str := ⟨#[P0.getD k.toNat 0]⟩
noncomputable def sI (k : Int) : Str := toString k
noncomputable def RD (s : List Int) (k : Int) : Str := ([qH (az s 60 / 3 % 26) ++ sI k, qH (az s 60 / 3 % 26) ++ sI k ++ qH (az s 60 / 78 % 26), qH (az s 60 / 3 % 26) ++ qH (az s 60 / 78 % 26) ++ sI k] : List Str).getD (az s 60 % 3).toNat Str.empty
noncomputable abbrev Cb : Stmt := top 36
noncomputable abbrev HM : Type := List Int × Int
noncomputable def lU : HM -> List L3.D := fun (s, k) => [.lst (s.map .int), .int k]
noncomputable def gW : HM -> Prop := fun (s, k) => s.length <= 1000 /\ 0 <= k /\ k <= 8
noncomputable def lV : HM -> T := fun (s, k) => (.sh (.str (RD s k)) : T)
structure Zq (X : Cx) (CL : Str -> Addr) : Prop extends cK X where
 aG : Ln X 0 "script"
 jV : Ln X 1 "k"
 bH : Ln X 2 "cell"
 uq : Ln X 3 "letters"
 qI : Ln X 4 "one"
 sJ : Ln X 5 "two"
 aQ : Gl X "_law_cell"
 sL : Gl X "str"
 cM : Fc X CL "_law_cell" 1 2 fN bf eZ
 lW : X.mg "str" = none
theorem Zr {X : Cx} {CL : Str -> Addr} {b : Bx} (E : Zq X CL) (s k) (h : gW (s, k)) :
   aD X CL b Cb ["script", "k", "cell", "letters", "one", "two"] (lU (s, k)) (lV (s, k)) := by
 dsimp only [aD, gW, lU, lV] at h ⊢
 obtain ⟨hs, hk0, hk⟩ := h
 refine aO E.g E.bH (c_ ((s, 60)) E.cM E.aQ (ai (aE E.aG) (ai (ah aj) aN)) (by dsimp only [bf]; exact (⟨by omega, by omega, hs⟩)) rfl) ?_
 rw [show eZ (s, 60) = T.sh (.int (az s 60)) from rfl]
 have c0 := lS s (k := 60) (by omega)
 show fq X CL b _ _ { nx := _, rt := fun Hq _ => Hq = T.sh (.str (RD s k)), bk := _, ct := _ }
 unfold RD
 generalize az s 60 = c at c0 ⊢
 refine aO E.g E.uq bG ?_
 have hl : P0.length = 26 := by decide +kernel
 have m26 := fun m : Int => ai4 m (show (26 : Int) ≠ 0 by decide)
 have l26 := fun m : Int => aiV m (show (0 : Int) < 26 by decide)
 have Nh : ∀ m : Int, (qH m).length = 1 := fun _ => rfl
 have YZ : (sI k).length = 1 /\ k.natAbs.log2 < 1920 := by
   have : k = 0 \/ k = 1 \/ k = 2 \/ k = 3 \/ k = 4 \/ k = 5 \/ k = 6 \/ k = 7 \/ k = 8 := by omega
   rcases this with rfl | rfl | rfl | rfl | rfl | rfl | rfl | rfl | rfl <;> exact ⟨by decide +kernel, by decide +kernel⟩
 refine aO E.g E.qI (aW (Oh (aE E.uq) (ah (bD (ah (cA (aE E.bH) (ah aj) ⟨by decide, by decide⟩)) (ah aj) (by decide))) (by rw [ajk]; decide +kernel) (by rw [E8]; exact Ox 0 (m26 _) (by have := l26 (c / 3); rw [hl]; omega))) (t2 := .sh (.str (qH (c / 3 % 26)))) rfl) ?_
 refine aO E.g E.sJ (aW (Oh (aE E.uq) (ah (bD (ah (cA (aE E.bH) (ah aj) ⟨by decide, by decide⟩)) (ah aj) (by decide))) (by rw [ajk]; decide +kernel) (by rw [E8]; exact Ox 0 (m26 _) (by have := l26 (c / 78); rw [hl]; omega))) (t2 := .sh (.str (qH (c / 78 % 26)))) rfl) ?_
 have h1 := Nh (c / 3 % 26)
 have h2 := Nh (c / 78 % 26)
 generalize qH (c / 3 % 26) = one at h1 ⊢
 generalize qH (c / 78 % 26) = two at h2 ⊢
 have l1 : (one ++ sI k).length = 2 := by rw [str_len, h1, YZ.1]
 have l2 : (one ++ two).length = 2 := by rw [str_len, h1, h2]
 refine bL (fY (bZ (dZ (jq (aB (qV (aE E.qI) (ah (sd E.lW E.sL (aE E.jV) (YZ.2))) ((by rw [ajk]; show one.length + (sI k).length <= _; omega))) (aB (qV (ah (qV (aE E.qI) (ah (sd E.lW E.sL (aE E.jV) (YZ.2))) ((by rw [ajk]; show one.length + (sI k).length <= _; omega)))) (aE E.sJ) ((by rw [ajk]; show (one ++ sI k).length + two.length <= _; omega))) (aB (qV (ah (qV (aE E.qI) (aE E.sJ) ((by rw [ajk]; omega)))) (ah (sd E.lW E.sL (aE E.jV) (YZ.2))) ((by rw [ajk]; show (one ++ two).length + (sI k).length <= _; omega))) bT))) (aM rfl))) (ah (bD (aE E.bH) (ah aj) (by decide))) (iB (f := L3.D.str) (l := [one ++ sI k, one ++ sI k ++ two, one ++ two ++ sI k]) Str.empty (ai4 _ (by decide)) (aiV _ (by decide)))) rfl) rfl
theorem j6 : kM (ao Cb) ([("script", au), ("k", au), ("cell", au), ("letters", au), ("one", au), ("two", au), ("_law_cell", av), ("str", av)]) = true := by decide +kernel
theorem Kf : aU ["script", "k", "cell", "letters", "one", "two"] ["script", "k"] (ao Cb) := bq
noncomputable def xK (c : Int) : Int := if c % 4 = 1 then c / 4 % (2 * 10 ^ (30 : Int).toNat - 1) - (10 ^ (30 : Int).toNat - 1) else c / 4 % 7 - 3
noncomputable abbrev sM : Stmt := top 37
noncomputable abbrev xM : Type := Int
noncomputable def iC : xM -> List L3.D := fun a => [.int a]
noncomputable def iD : xM -> Prop := fun a => True
noncomputable def iE : xM -> T := fun a => (.sh (.int (xK a)) : T)
structure P1 (X : Cx) (CL : Str -> Addr) : Prop extends cK X where
 bH : Ln X 0 "cell"
theorem P4 {X : Cx} {CL : Str -> Addr} {b : Bx} (E : P1 X CL) (a) (h : iD a) :
   aD X CL b sM ["cell"] (iC a) (iE a) := by
 dsimp only [aD, iD, iC, iE] at h ⊢
 refine dc (eB (ah (bD (aE E.bH) (ah aj) (by decide))) (ah aj)).1 (fun hp => ?_) (fun hp => aq ?_)
 . refine bL (mH (ah (bD (ah (cA (aE E.bH) (ah aj) ⟨by decide, by decide⟩)) (ah (mH (ah (tX (ah aj) (ah (Bs (ah aj) (ah aj) ⟨by decide, by decide, by decide⟩)) (.inl ⟨by decide, by decide⟩))) (ah aj))) (by decide))) (ah (mH (ah (Bs (ah aj) (ah aj) ⟨by decide, by decide, by decide⟩)) (ah aj)))) ?_
   show T.sh _ = T.sh (.int (xK a))
   unfold xK
   rw [aiI (aiU hp)]
 . refine bL (mH (ah (bD (ah (cA (aE E.bH) (ah aj) ⟨by decide, by decide⟩)) (ah aj) (by decide))) (ah aj)) ?_
   show T.sh _ = T.sh (.int (xK a))
   unfold xK
   rw [aiG (ai7 hp)]
theorem L7 : kM (ao sM) ([("cell", au)]) = true := by decide +kernel
theorem AV : aU ["cell"] ["cell"] (ao sM) := bq
noncomputable def vn (c : Int) (n : Nat) : L3.D := .tup [.int (c % ((n : Int) + 1) - 1), .int (xK (c / 4))]
noncomputable abbrev Cd : Stmt := top 38
noncomputable abbrev HN : Type := Int × Nat
noncomputable def oi : HN -> List L3.D := fun (c, n) => [.int c, .int n]
noncomputable def oj : HN -> Prop := fun (c, n) => n <= 1000
noncomputable def om : HN -> T := fun (c, n) => (.sh (.tup [.int (c % ((n : Int) + 1) - 1), .int (xK (c / 4))]) : T)
structure Zt (X : Cx) (CL : Str -> Addr) : Prop extends cK X where
 bH : Ln X 0 "cell"
 bP : Ln X 1 "boxes"
 zv : Gl X "_law_number"
 oq : Fc X CL "_law_number" 1 1 iC iD iE
theorem Zu {X : Cx} {CL : Str -> Addr} {b : Bx} (E : Zt X CL) (c n) (h : oj (c, n)) :
   aD X CL b Cd ["cell", "boxes"] (oi (c, n)) (om (c, n)) := by
 dsimp only [aD, oj, oi, om] at h ⊢
 exact bL (d9 (aB (mH (ah (bD (aE E.bH) (ah (cu (aE E.bP) (ah aj))) (by omega))) (ah aj)) (aB (c_ (c / 4) E.oq E.zv (ai (ah (cA (aE E.bH) (ah aj) ⟨by decide, by decide⟩)) aN) (trivial) rfl) bT)) (aM rfl)) rfl
theorem Ce : kM (ao Cd) ([("cell", au), ("boxes", au), ("_law_number", av)]) = true := by decide +kernel
theorem Kg : aU ["cell", "boxes"] ["cell", "boxes"] (ao Cd) := bq
noncomputable def E9 (n m : Nat) (c : Int) : L3.D :=
 if c % 3 = 1 then .tup [.str ((["open", "shut"] : List Str).getD (c / 3 % 2).toNat Str.empty), .int (c / 6 % (m : Int))]
 else .tup [.str ((["<", "<=", "=", "!="] : List Str).getD (c / 3 % 4).toNat Str.empty), vn (c / 12) n, vn (c / 48) n]
noncomputable def L8 (s : List Int) (q : Int) (m n k : Nat) : L3.D := E9 n m (az s (q + 1 + (k : Int)))
noncomputable def ou (s : List Int) (q : Int) (m n : Nat) : List L3.D := (List.range (az s q % 3).toNat).map (L8 s q m n)
theorem Fb (n m : Nat) (c : Int) : (E9 n m c).mG = true := by
 unfold E9
 split <;> rfl
theorem xN (s : List Int) (q : Int) (m n : Nat) : D.bV (ou s q m n) = true := dg (fun k => Fb _ _ _) _
theorem Ma (s : List Int) (q : Int) (m n : Nat) : (ou s q m n).length <= 2 := by
 have c1 := aiV (az s q) (show (0 : Int) < 3 by decide)
 unfold ou
 rw [aiC, ajC]
 omega
noncomputable abbrev Cg : Stmt := top 40
noncomputable abbrev HP : Type := List Int × Int × Nat × Nat
noncomputable def sN : HP -> List L3.D := fun (s, q, m, n) => [.lst (s.map .int), .int q, .int m, .int n]
noncomputable def oz : HP -> Prop := fun (s, q, m, n) => s.length <= 1000 /\ 0 <= q /\ q <= 90000 /\ n <= 1000 /\ 1 <= m
noncomputable def sO : HP -> T := fun (s, q, m, n) => (.sh (.tup (ou s q m n)) : T)
structure Zv (X : Cx) (CL : Str -> Addr) : Prop extends cK X where
 aG : Ln X 0 "script"
 jg : Ln X 1 "at"
 fZ : Ln X 2 "many"
 bP : Ln X 3 "boxes"
 eL : Ln X 4 "asks"
 jV : Ln X 5 "k"
 bH : Ln X 6 "cell"
 P5 : Ln X 7 "mark"
 bE : Gl X "range"
 aQ : Gl X "_law_cell"
 iW : Gl X "_law_term"
 dJ : Gl X "tuple"
 bF : X.mg "range" = none
 cM : Fc X CL "_law_cell" 1 2 fN bf eZ
 xO : Fc X CL "_law_term" 2 2 oi oj om
 dM : X.mg "tuple" = none
theorem Zw {X : Cx} {CL : Str -> Addr} {b : Bx} (E : Zv X CL) (s q m n) (h : oz (s, q, m, n)) :
   aD X CL b Cg ["script", "at", "many", "boxes", "asks", "k", "cell", "mark"] (sN (s, q, m, n)) (sO (s, q, m, n)) := by
 dsimp only [aD, oz, sN, sO] at h ⊢
 obtain ⟨hs, q0, q1, hn, hm⟩ := h
 refine aO E.g E.eL (dF cO (ai9 _)) ?_
 have c0 := ai4 (az s q) (show (3 : Int) ≠ 0 by decide)
 have c1 := aiV (az s q) (show (0 : Int) < 3 by decide)
 refine gJ E.g E.jV (fun j δ => ∃ o5 o6 o7, δ = [some (.sh (.lst (s.map .int))), some (.sh (.int q)), some (.sh (.int m)), some (.sh (.int n)), some (.lst (((List.range j).map (L8 s q m n)).map T.sh)), o5, o6, o7])
   (cS E.bF (ah (bD (ah (c_ ((s, q)) E.cM E.aQ (ai (aE E.aG) (ai (aE E.jg) aN)) (by dsimp only [bf]; exact (⟨q0, by omega, hs⟩)) rfl)) (ah aj) (by decide))) ((show -(2 ^ 62) <= az s q % 3 /\ az s q % 3 < 2 ^ 62 by omega)) E.bE) ⟨_, _, _, rfl⟩ (fun j δ ⟨_, _, _, e⟩ => by subst e; exact Nat.le_of_ble_eq_true rfl) ?turn ?fin
 case turn =>
   rintro j d δ hj ⟨o5, o6, o7, rfl⟩
   obtain ⟨rfl, pS⟩ := fK hj
   have hj3 : j < 3 := by have pS : j < (az s q % 3).toNat := pS; omega
   rw [ajF]
   have d0 := lS s (k := q + 1 + (j : Int)) (by omega)
   refine aO E.g E.bH (aW (c_ ((s, q + 1 + (j : Int))) E.cM E.aQ (ai (aE E.aG) (ai (ah (cu (ah (cu (aE E.jg) (ah aj))) (aE E.jV))) aN)) (by dsimp only [bf]; exact (⟨by omega, by omega, hs⟩)) rfl) (t2 := .sh (.int (az s (q + 1 + (j : Int))))) rfl) ?_
   have eK : ∀ x : L3.D, x = L8 s q m n j -> ((List.range j).map (L8 s q m n)).map T.sh ++ [T.sh x] = ((List.range (j + 1)).map (L8 s q m n)).map T.sh := fun x e => by
     subst e
     simp [ajP]
   have hd : L8 s q m n j = E9 n m (az s (q + 1 + (j : Int))) := rfl
   generalize az s (q + 1 + (j : Int)) = c at d0 hd ⊢
   refine dc (eB (ah (bD (aE E.bH) (ah aj) (by decide))) (ah aj)).1 (fun hp => ?_) (fun hp => ?_)
   . refine iy E.eL.1 rfl (d9 (aB (fY (bZ (dZ (jq (aB bG (aB bG bT)) (aM rfl))) (ah (bD (ah (cA (aE E.bH) (ah aj) ⟨by decide, by decide⟩)) (ah aj) (by decide))) (iB (f := L3.D.str) (l := ["open", "shut"]) Str.empty (ai4 _ (by decide)) (aiV _ (by decide)))) rfl) (aB (bD (ah (cA (aE E.bH) (ah aj) ⟨by decide, by decide⟩)) (aE E.fZ) (by omega)) bT)) (aM rfl)) rfl (by simp; omega) (aq (aq ?_))
     rw [eK _ (by rw [hd]; unfold E9; rw [aiI (aiU hp)])]
     exact ⟨_, _, _, rfl⟩
   . have hp := ai7 hp
     refine aO E.g E.P5 (fY (bZ (dZ (jq (aB bG (aB bG (aB bG (aB bG bT)))) (aM rfl))) (ah (bD (ah (cA (aE E.bH) (ah aj) ⟨by decide, by decide⟩)) (ah aj) (by decide))) (iB (f := L3.D.str) (l := ["<", "<=", "=", "!="]) Str.empty (ai4 _ (by decide)) (aiV _ (by decide)))) rfl) ?_
     refine iy E.eL.1 rfl (d9 (aB (v_ E.P5.1) (aB (aW (c_ ((c / 12, n)) E.xO E.iW (ai (ah (cA (aE E.bH) (ah aj) ⟨by decide, by decide⟩)) (ai (aE E.bP) aN)) (hn) rfl) (t2 := .sh (vn (c / 12) n)) rfl) (aB (aW (c_ ((c / 48, n)) E.xO E.iW (ai (ah (cA (aE E.bH) (ah aj) ⟨by decide, by decide⟩)) (ai (aE E.bP) aN)) (hn) rfl) (t2 := .sh (vn (c / 48) n)) rfl) bT))) (aM rfl)) rfl (by simp; omega) (aq (aq ?_))
     rw [eK _ (by rw [hd]; unfold E9; rw [aiG hp])]
     exact ⟨_, _, _, rfl⟩
 case fin =>
   rintro δ ⟨o5, o6, o7, rfl⟩
   refine bL (lK E.dM (vL E.eL.1) (dg (fun k => Fb _ _ _) _) E.dJ) ?_
   have e : (bB 0 (az s q % 3).toNat).length = (az s q % 3).toNat := by simp [bB]
   rw [show (bB 0 (az (s, q).1 (s, q).2 % 3).toNat).length = (az s q % 3).toNat from e]
   rfl
theorem gn : kM (ao Cg) ([("script", au), ("at", au), ("many", au), ("boxes", au), ("asks", au), ("k", au), ("cell", au), ("mark", au), ("range", av), ("_law_cell", av), ("_law_term", av), ("tuple", av)]) = true := by decide +kernel
theorem Kh : aU ["script", "at", "many", "boxes", "asks", "k", "cell", "mark"] ["script", "at", "many", "boxes"] (ao Cg) := bq
noncomputable def xP (s : List Int) (n : Nat) (c : Int) : L3.D :=
 if c % 4 = 1 then .tup [.str "call", .str (RD s (c / 4 % 4))]
 else if c % 4 = 2 \/ n = 0 then .tup [.str "say", .str (RD s (c / 4 % 4)), vn (c / 16) n]
 else .tup [.str "put", .int (c / 4 % (n : Int)), vn (c / 16) n]
noncomputable def AW (s : List Int) (q : Int) (n k : Nat) : L3.D := xP s n (az s (q + 1 + (k : Int)))
noncomputable def gH (s : List Int) (q : Int) (n : Nat) : List L3.D := (List.range (az s q % 3).toNat).map (AW s q n)
theorem AX (s : List Int) (n : Nat) (c : Int) : (xP s n c).mG = true := by
 unfold xP
 split
 . rfl
 . split <;> rfl
theorem iX (s : List Int) (q : Int) (n : Nat) : D.bV (gH s q n) = true := dg (fun k => AX _ _ _) _
noncomputable abbrev wc : Stmt := top 39
noncomputable abbrev Ci : Type := List Int × Int × Nat
noncomputable def lX : Ci -> List L3.D := fun (s, q, n) => [.lst (s.map .int), .int q, .int n]
noncomputable def gM : Ci -> Prop := fun (s, q, n) => s.length <= 1000 /\ 0 <= q /\ q <= 90000 /\ n <= 1000
noncomputable def lY : Ci -> T := fun (s, q, n) => (.sh (.tup (gH s q n)) : T)
structure Uk (X : Cx) (CL : Str -> Addr) : Prop extends cK X where
 aG : Ln X 0 "script"
 jg : Ln X 1 "at"
 bP : Ln X 2 "boxes"
 iG : Ln X 3 "deeds"
 jV : Ln X 4 "k"
 bH : Ln X 5 "cell"
 oA : Ln X 6 "name"
 bE : Gl X "range"
 aQ : Gl X "_law_cell"
 iY : Gl X "_law_name"
 iW : Gl X "_law_term"
 dJ : Gl X "tuple"
 bF : X.mg "range" = none
 cM : Fc X CL "_law_cell" 1 2 fN bf eZ
 xQ : Fc X CL "_law_name" 2 2 lU gW lV
 xO : Fc X CL "_law_term" 2 2 oi oj om
 dM : X.mg "tuple" = none
theorem Ul {X : Cx} {CL : Str -> Addr} {b : Bx} (E : Uk X CL) (s q n) (h : gM (s, q, n)) :
   aD X CL b wc ["script", "at", "boxes", "deeds", "k", "cell", "name"] (lX (s, q, n)) (lY (s, q, n)) := by
 dsimp only [aD, gM, lX, lY] at h ⊢
 obtain ⟨hs, q0, q1, hn⟩ := h
 refine aO E.g E.iG (dF cO (ai9 _)) ?_
 have c0 := ai4 (az s q) (show (3 : Int) ≠ 0 by decide)
 have c1 := aiV (az s q) (show (0 : Int) < 3 by decide)
 refine gJ E.g E.jV (fun j δ => ∃ o4 o5 o6, δ = [some (.sh (.lst (s.map .int))), some (.sh (.int q)), some (.sh (.int n)), some (.lst (((List.range j).map (AW s q n)).map T.sh)), o4, o5, o6])
   (cS E.bF (ah (bD (ah (c_ ((s, q)) E.cM E.aQ (ai (aE E.aG) (ai (aE E.jg) aN)) (by dsimp only [bf]; exact (⟨q0, by omega, hs⟩)) rfl)) (ah aj) (by decide))) ((show -(2 ^ 62) <= az s q % 3 /\ az s q % 3 < 2 ^ 62 by omega)) E.bE) ⟨_, _, _, rfl⟩ (fun j δ ⟨_, _, _, e⟩ => by subst e; exact Nat.le_of_ble_eq_true rfl) ?turn ?fin
 case turn =>
   rintro j d δ hj ⟨o4, o5, o6, rfl⟩
   obtain ⟨rfl, pS⟩ := fK hj
   have hj3 : j < 3 := by have pS : j < (az s q % 3).toNat := pS; omega
   rw [ajF]
   have d0 := lS s (k := q + 1 + (j : Int)) (by omega)
   refine aO E.g E.bH (aW (c_ ((s, q + 1 + (j : Int))) E.cM E.aQ (ai (aE E.aG) (ai (ah (cu (ah (cu (aE E.jg) (ah aj))) (aE E.jV))) aN)) (by dsimp only [bf]; exact (⟨by omega, by omega, hs⟩)) rfl) (t2 := .sh (.int (az s (q + 1 + (j : Int))))) rfl) ?_
   have eK : ∀ x : L3.D, x = AW s q n j -> ((List.range j).map (AW s q n)).map T.sh ++ [T.sh x] = ((List.range (j + 1)).map (AW s q n)).map T.sh := fun x e => by
     subst e
     simp [ajP]
   have hd : AW s q n j = xP s n (az s (q + 1 + (j : Int))) := rfl
   generalize az s (q + 1 + (j : Int)) = c at d0 hd ⊢
   have m0 := ai4 (c / 4) (show (4 : Int) ≠ 0 by decide)
   have m1 := aiV (c / 4) (show (0 : Int) < 4 by decide)
   refine aO E.g E.oA (aW (c_ ((s, c / 4 % 4)) E.xQ E.iY (ai (aE E.aG) (ai (ah (bD (ah (cA (aE E.bH) (ah aj) ⟨by decide, by decide⟩)) (ah aj) (by decide))) aN)) (by dsimp only [gW]; exact (⟨hs, m0, by omega⟩)) rfl) (t2 := .sh (.str (RD s (c / 4 % 4)))) rfl) ?_
   refine dc (eB (ah (bD (aE E.bH) (ah aj) (by decide))) (ah aj)).1 (fun hp => ?_) (fun hp => ?_)
   . refine iy E.iG.1 rfl (d9 (aB bG (aB (v_ E.oA.1) bT)) (aM rfl)) rfl (by simp; omega) (aq (aq ?_))
     rw [eK _ (by rw [hd]; unfold xP; rw [aiI (aiU hp)])]
     exact ⟨_, _, _, rfl⟩
   . have hp := ai7 hp
     refine dc (jD (qF (eB (ah (bD (aE E.bH) (ah aj) (by decide))) (ah aj)).1 (fun hb => (kJ (eB (aE E.bP) (ah aj)).1)))) (fun hq => ?_) (fun hq => ?_)
     . have R1 : c % 4 = 2 \/ n = 0 := by
         simp only [Bool.or_eq_true, ajY] at hq
         omega
       refine iy E.iG.1 rfl (d9 (aB bG (aB (v_ E.oA.1) (aB (aW (c_ ((c / 16, n)) E.xO E.iW (ai (ah (cA (aE E.bH) (ah aj) ⟨by decide, by decide⟩)) (ai (aE E.bP) aN)) (hn) rfl) (t2 := .sh (vn (c / 16) n)) rfl) bT))) (aM rfl)) rfl (by simp; omega) (aq (aq (aq ?_)))
       rw [eK _ (by rw [hd]; unfold xP; rw [aiG hp, aiI R1])]
       exact ⟨_, _, _, rfl⟩
     . have R1 : ¬ (c % 4 = 2 \/ n = 0) := by
         simp only [Bool.or_eq_false_iff, decide_eq_false_iff_not] at hq
         omega
       refine iy E.iG.1 rfl (d9 (aB bG (aB (bD (ah (cA (aE E.bH) (ah aj) ⟨by decide, by decide⟩)) (aE E.bP) (by omega)) (aB (aW (c_ ((c / 16, n)) E.xO E.iW (ai (ah (cA (aE E.bH) (ah aj) ⟨by decide, by decide⟩)) (ai (aE E.bP) aN)) (hn) rfl) (t2 := .sh (vn (c / 16) n)) rfl) bT))) (aM rfl)) rfl (by simp; omega) (aq (aq (aq ?_)))
       rw [eK _ (by rw [hd]; unfold xP; rw [aiG hp, aiG R1])]
       exact ⟨_, _, _, rfl⟩
 case fin =>
   rintro δ ⟨o4, o5, o6, rfl⟩
   refine bL (lK E.dM (vL E.iG.1) (dg (fun k => AX _ _ _) _) E.dJ) ?_
   have e : (bB 0 (az s q % 3).toNat).length = (az s q % 3).toNat := by simp [bB]
   rw [show (bB 0 (az (s, q).1 (s, q).2 % 3).toNat).length = (az s q % 3).toNat from e]
   rfl
theorem e7 : kM (ao wc) ([("script", au), ("at", au), ("boxes", au), ("deeds", au), ("k", au), ("cell", au), ("name", au), ("range", av), ("_law_cell", av), ("_law_name", av), ("_law_term", av), ("tuple", av)]) = true := by decide +kernel
theorem Fd : aU ["script", "at", "boxes", "deeds", "k", "cell", "name"] ["script", "at", "boxes"] (ao wc) := bq
noncomputable def xR (s : List Int) : Int := az s 36 % 9
noncomputable def j7 (s : List Int) (m : Nat) : List Int := sortI ((List.range (xR s).toNat).map fun (k : Nat) => az s (37 + (k : Int)) % (m : Int))
noncomputable def HQ (es : List Int) (src c : Int) : Int := if 1 < c % 4 then (xu es (es.getD src.toNat 0)).getD (c / 4 % ((xu es (es.getD src.toNat 0)).length : Nat)).toNat 0 else c / 4 % (es.length : Nat)
noncomputable def zx (s : List Int) (c : Int) : Prop := c % 4 = 1 \/ az s 36 / 9 % 5 = 1
noncomputable instance (s : List Int) (c : Int) : Decidable (zx s c) := by unfold zx; infer_instance
noncomputable def P6 (c : Int) : Str := (["new", "near", "far"] : List Str).getD (c % 3).toNat Str.empty
noncomputable def zy (s es : List Int) (n k : Nat) (src : Int) : cE where
 src := src
 sign := RD s (az s (200 + 12 * (k : Int)) % (1 + az s 62 % 3))
 asks := ou s (200 + 12 * (k : Int) + 1) es.length n
 AI := gH s (200 + 12 * (k : Int) + 4) n
 tgt := if zx s (az s (200 + 12 * (k : Int) + 7)) then -1 else HQ es src (az s (200 + 12 * (k : Int) + 7))
 mode := if zx s (az s (200 + 12 * (k : Int) + 7)) then "new" else P6 (az s (200 + 12 * (k : Int) + 8))
noncomputable def qJ (s es : List Int) (n : Nat) : List cE := (List.range (j7 s es.length).length).map fun k => zy s es n k ((j7 s es.length).getD k 0)
theorem Mb {s : List Int} {m : Nat} (hm : 1 <= m) {x : Int} (h : x ∈ j7 s m) : 0 <= x /\ x < m := by
 obtain ⟨k, _, rfl⟩ := ai8.mp (Ls.mp h)
 exact ⟨ai4 _ (by omega), aiV _ (by omega)⟩
theorem AY (s : List Int) (m : Nat) : (j7 s m).length <= 8 := by
 unfold j7
 rw [Az, aiC, ajC]
 have := aiV (az s 36) (show (0 : Int) < 9 by decide)
 unfold xR
 omega
theorem P7 (s es : List Int) (n k : Nat) (src : Int) : (dP (zy s es n k src)).mG = true := by
 show (true && (true && (D.bV (ou _ _ _ _) && (D.bV (gH _ _ _) && (true && (true && true)))))) = true
 rw [xN, iX]
 rfl
theorem xS (s es : List Int) (n : Nat) : D.bV ((qJ s es n).map dP) = true := vU fun d hd => by
 obtain ⟨w, hw, rfl⟩ := ai8.mp hd
 obtain ⟨k, _, rfl⟩ := ai8.mp hw
 exact P7 _ _ _ _ _
noncomputable abbrev Cj : Stmt := top 41
noncomputable abbrev HR : Type := List Int × List Int × Nat
noncomputable def sP : HR -> List L3.D := fun (s, es, n) => [.lst (s.map .int), .lst (es.map .int), .int n]
noncomputable def oB : HR -> Prop := fun (s, es, n) => s.length <= 1000 /\ 1 <= es.length /\ es.length <= 900 /\ n <= 1000
noncomputable def sQ : HR -> T := fun (s, es, n) => (.lst (((qJ s es n).map dP).map T.sh) : T)
structure Zx (X : Cx) (CL : Str -> Addr) : Prop extends cK X where
 aG : Ln X 0 "script"
 oE : X.env.kindOf "script" = some .cell
 bw : Ln X 1 "elders"
 bP : Ln X 2 "boxes"
 fZ : Ln X 3 "many"
 Zy : X.env.kindOf "many" = some .cell
 j8 : Ln X 4 "count"
 m7 : Ln X 5 "names"
 oF : Ln X 6 "ways"
 xT : Ln X 7 "source"
 jg : Ln X 8 "at"
 oA : Ln X 9 "name"
 eL : Ln X 10 "asks"
 iG : Ln X 11 "deeds"
 bH : Ln X 12 "cell"
 sR : Ln X 13 "target"
 rA : Ln X 14 "near"
 HS : Ln X 15 "mode"
 cy : Gl X "len"
 aQ : Gl X "_law_cell"
 xU : Gl X "sorted"
 bE : Gl X "range"
 iY : Gl X "_law_name"
 Fe : Gl X "_law_asks"
 Ck : Gl X "_law_deeds"
 m5 : Gl X "_law_inner"
 b8 : X.mg "len" = none
 cM : Fc X CL "_law_cell" 1 2 fN bf eZ
 xV : X.mg "sorted" = none
 bF : X.mg "range" = none
 xQ : Fc X CL "_law_name" 2 2 lU gW lV
 Zz : Fc X CL "_law_asks" 3 4 sN oz sO
 wg : Fc X CL "_law_deeds" 3 3 lX gM lY
 rB : Fc X CL "_law_inner" 1 2 gU eV fP
theorem ZC {X : Cx} {CL : Str -> Addr} {b : Bx} (E : Zx X CL) (s es n) (h : oB (s, es, n)) :
   aD X CL b Cj ["script", "elders", "boxes", "many", "count", "names", "ways", "source", "at", "name", "asks", "deeds", "cell", "target", "near", "mode"] (sP (s, es, n)) (sQ (s, es, n)) := by
 dsimp only [aD, oB, sP, sQ] at h ⊢
 obtain ⟨hs, e0, e1, hn⟩ := h
 refine aO E.g E.fZ (aW (di (aiC ..) E.b8 (aE E.bw) E.cy) (t2 := .sh (.int (es.length : Nat))) rfl) ?_
 refine aO E.g E.j8 (aW (bD (ah (c_ ((s, 36)) E.cM E.aQ (ai (aE E.aG) (ai (ah aj) aN)) (by dsimp only [bf]; exact (⟨by omega, by omega, hs⟩)) rfl)) (ah aj) (by decide)) (t2 := .sh (.int (xR s))) rfl) ?_
 have c62 := lS s (k := 62) (by omega)
 refine aO E.g E.m7 (aW (cu (ah aj) (ah (bD (ah (c_ ((s, 62)) E.cM E.aQ (ai (aE E.aG) (ai (ah aj) aN)) (by dsimp only [bf]; exact (⟨by omega, by omega, hs⟩)) rfl)) (ah aj) (by decide)))) (t2 := .sh (.int (1 + az s 62 % 3))) rfl) ?_
 have n0 := ai4 (az s 62) (show (3 : Int) ≠ 0 by decide)
 have n1 := aiV (az s 62) (show (0 : Int) < 3 by decide)
 have k0 : 0 <= xR s := ai4 (az s 36) (show (9 : Int) ≠ 0 by decide)
 have k1 : xR s < 9 := aiV (az s 36) (show (0 : Int) < 9 by decide)
 have hsl := AY s es.length
 have hsm : ∀ {x : Int}, x ∈ j7 s es.length -> 0 <= x /\ x < es.length := fun h => Mb e0 h
 refine aO E.g E.oF (dF cO (ai9 _)) ?_
 have hit : (((bB 0 (xR s).toNat).filter fun _ => true).map fun d => T.sh (.int (az s (37 + d.vG) % (es.length : Nat)))) = ((((List.range (xR s).toNat).map fun (k : Nat) => az s (37 + (k : Int)) % (es.length : Nat)).map L3.D.int).map T.sh) := by
   rw [fL]
   unfold bB
   rw [ajh, ajh, ajh]
   refine ajx fun k _ => ?_
   show T.sh (.int (az s (37 + (0 + (k : Int))) % _)) = _
   rw [ajF]
   rfl
 refine gJ E.g E.xT (fun j δ => ∃ o7 o8 o9 ZD o11 o12 o13 WW o15, δ = [some (.sh (.lst (s.map .int))), some (.sh (.lst (es.map .int))), some (.sh (.int n)), some (.sh (.int (es.length : Nat))), some (.sh (.int (xR s))), some (.sh (.int (1 + az s 62 % 3))), some (.lst ((((List.range j).map fun k => zy s es n k ((j7 s es.length).getD k 0)).map dP).map T.sh)), o7, o8, o9, ZD, o11, o12, o13, WW, o15])
   (n6 (By (ds := (j7 s es.length).map .int) (Ho E.xV (dZ (aW (sy (p := fun _ => true) (g := fun d => T.sh (.int (az s (37 + d.vG) % (es.length : Nat)))) (cQ (.cons E.fZ.1 (.inl E.Zy) (.cons E.aG.1 (.inl E.oE) .nil)) (by decide +kernel)) E.g.calm (cS E.bF (aE E.j8) ((by omega)) E.bE) (.inr rfl) (fun C s0 H0 f0 b' d hd => ?E7) (ajy (cJ (by simp [bB]; omega)))) (congrArg T.lst hit))) (by simp; omega) E.xU))) ⟨_, _, _, _, _, _, _, _, _, rfl⟩ (fun j δ ⟨_, _, _, _, _, _, _, _, _, e⟩ => by subst e; exact aiJ rfl) ?turn ?fin
 case E7 =>
   obtain ⟨i, hi, rfl⟩ := ai8.mp hd
   have Hg : i < (xR s).toNat := by simpa using hi
   exact ⟨rfl, fun _ => (bD (ah (c_ ((s, 37 + (0 + (i : Int)))) (mL E.cM) (gR (by decide +kernel)) (ai (ah (v_ (gQ (i := 2) rfl (by decide +kernel)))) (ai (ah (cu (ah aj) (ah (v_ (eF (i := 0) rfl (by decide +kernel)))))) aN)) (by dsimp only [bf]; exact (⟨by omega, by omega, hs⟩)) rfl)) (ah (v_ (gQ (i := 1) rfl (by decide +kernel)))) (by omega))⟩
 case turn =>
   rintro j d δ hj ⟨o7, o8, o9, ZD, o11, o12, o13, WW, o15, rfl⟩
   obtain ⟨src, rfl, GH, OQ, pS, _, _⟩ := qX hj
   obtain ⟨x0, x1⟩ := hsm OQ
   have T5 : (j7 s es.length).getD j 0 = src := by rw [aiK, GH]; rfl
   have acA : ((((List.range j).map fun k => zy s es n k ((j7 s es.length).getD k 0)).map dP)).length = j := by simp
   have eK : ∀ x : L3.D, x = dP (zy s es n j src) -> ((((List.range j).map fun k => zy s es n k ((j7 s es.length).getD k 0)).map dP).map T.sh) ++ [T.sh x] = ((((List.range (j + 1)).map fun k => zy s es n k ((j7 s es.length).getD k 0)).map dP).map T.sh) := fun x e => by
     subst e
     rw [← T5]
     simp [ajP]
   refine aO E.g E.jg (aW (cu (ah aj) (ah (tX (ah aj) (ah (di (acA) E.b8 (vL E.oF.1) E.cy)) (.inl ⟨by decide, by decide⟩)))) (t2 := .sh (.int (200 + 12 * (j : Int)))) rfl) ?_
   generalize hw : zy s es n j src = w at eK
   have hsg : RD s (az s (200 + 12 * (j : Int)) % (1 + az s 62 % 3)) = w.sign := by rw [← hw]; rfl
   have m0 := ai4 (az s (200 + 12 * (j : Int))) (show (1 + az s 62 % 3 : Int) ≠ 0 by omega)
   have m1 := aiV (az s (200 + 12 * (j : Int))) (show (0 : Int) < 1 + az s 62 % 3 by omega)
   refine aO E.g E.oA (aW (c_ ((s, az s (200 + 12 * (j : Int)) % (1 + az s 62 % 3))) E.xQ E.iY (ai (aE E.aG) (ai (ah (bD (ah (c_ ((s, 200 + 12 * (j : Int))) E.cM E.aQ (ai (aE E.aG) (ai (aE E.jg) aN)) (by dsimp only [bf]; exact (⟨by omega, by omega, hs⟩)) rfl)) (aE E.m7) (by omega))) aN)) (by dsimp only [gW]; exact (⟨hs, m0, by omega⟩)) rfl) (t2 := .sh (.str w.sign)) (congrArg (fun z => T.sh (.str z)) hsg)) ?_
   have has : ou s (200 + 12 * (j : Int) + 1) es.length n = w.asks := by rw [← hw]; rfl
   have hde : gH s (200 + 12 * (j : Int) + 4) n = w.AI := by rw [← hw]; rfl
   refine aO E.g E.eL (aW (c_ (s, 200 + 12 * (j : Int) + 1, es.length, n) E.Zz E.Fe (ai (aE E.aG) (ai (ah (cu (aE E.jg) (ah aj))) (ai (aE E.fZ) (ai (aE E.bP) aN)))) (by dsimp only [oz]; exact ⟨hs, by omega, by omega, hn, e0⟩) (show T.clean (.sh (.tup (ou _ _ _ _))) = true from (xN _ _ _ _))) (t2 := .sh (.tup w.asks)) (congrArg (fun z => T.sh (.tup z)) has)) ?_
   refine aO E.g E.iG (aW (c_ (s, 200 + 12 * (j : Int) + 4, n) E.wg E.Ck (ai (aE E.aG) (ai (ah (cu (aE E.jg) (ah aj))) (ai (aE E.bP) aN))) (by dsimp only [gM]; exact ⟨hs, by omega, by omega, hn⟩) (show T.clean (.sh (.tup (gH _ _ _))) = true from (iX _ _ _))) (t2 := .sh (.tup w.AI)) (congrArg (fun z => T.sh (.tup z)) hde)) ?_
   have d0 := lS s (k := 200 + 12 * (j : Int) + 7) (by omega)
   refine aO E.g E.bH (aW (c_ ((s, 200 + 12 * (j : Int) + 7)) E.cM E.aQ (ai (aE E.aG) (ai (ah (cu (aE E.jg) (ah aj))) aN)) (by dsimp only [bf]; exact (⟨by omega, by omega, hs⟩)) rfl) (t2 := .sh (.int (az s (200 + 12 * (j : Int) + 7)))) rfl) ?_
   have htg : w.tgt = if zx s (az s (200 + 12 * (j : Int) + 7)) then -1 else HQ es src (az s (200 + 12 * (j : Int) + 7)) := by rw [← hw]; rfl
   have hmd : w.mode = if zx s (az s (200 + 12 * (j : Int) + 7)) then ("new" : Str) else P6 (az s (200 + 12 * (j : Int) + 8)) := by rw [← hw]; rfl
   have hsr : w.src = src := by rw [← hw]; rfl
   generalize az s (200 + 12 * (j : Int) + 7) = c at d0 htg hmd ⊢
   refine aO E.g E.sR (bD (ah (cA (aE E.bH) (ah aj) ⟨by decide, by decide⟩)) (aE E.fZ) (by omega)) ?_
   refine r6 (fun δ => ∃ WW, δ = [some (.sh (.lst (s.map .int))), some (.sh (.lst (es.map .int))), some (.sh (.int n)), some (.sh (.int (es.length : Nat))), some (.sh (.int (xR s))), some (.sh (.int (1 + az s 62 % 3))), some (.lst ((((List.range j).map fun k => zy s es n k ((j7 s es.length).getD k 0)).map dP).map T.sh)), some (.sh (.int src)), some (.sh (.int (200 + 12 * (j : Int)))), some (.sh (.str w.sign)), some (.sh (.tup w.asks)), some (.sh (.tup w.AI)), some (.sh (.int c)), some (.sh (.int (HQ es src c))), WW, o15]) (JM (ah (bD (aE E.bH) (ah aj) (by decide))) (ah aj)).1 (fun hp => ?_) (fun hp => ?_) ?_
   . have hp := aiU hp
     have tP : 0 < (xu es (es.getD src.toNat 0)).length := List.length_pos_of_mem (JZ x0 x1 rfl)
     refine aO E.g E.rA (aW (c_ ((es, es.getD src.toNat 0)) E.rB E.m5 (ai (aE E.bw) (ai (bZ (aE E.bw) (aE E.xT) (fJ x0 x1)) aN)) ((by dsimp only [eV]; omega)) (cG _)) (t2 := T.lst (((xu es (es.getD src.toNat 0)).map .int).map T.sh)) rfl) ?_
     have hml : ((xu es (es.getD src.toNat 0)).map L3.D.int).length = (xu es (es.getD src.toNat 0)).length := by simp
     have c1 := ai4 (c / 4) (b := ((xu es (es.getD src.toNat 0)).length : Nat)) (by omega)
     have c2 := aiV (c / 4) (b := ((xu es (es.getD src.toNat 0)).length : Nat)) (by omega)
     refine aO E.g E.sR (aW (fY (bZ (vL E.rA.1) (ah (bD (ah (cA (aE E.bH) (ah aj) ⟨by decide, by decide⟩)) (ah (di (hml) E.b8 (vL E.rA.1) E.cy)) (by omega))) (fJ c1 c2)) rfl) (t2 := .sh (.int (HQ es src c))) (by unfold HQ; rw [aiI hp])) (aq ⟨_, rfl⟩)
   . have hp := ai7 hp
     refine aq ⟨WW, ?_⟩
     rw [show HQ es src c = c / 4 % (es.length : Nat) by unfold HQ; rw [aiG hp]]
     rfl
   rintro δ ⟨WW, rfl⟩
   refine aO E.g E.HS (aW (fY (bZ (dZ (jq (aB bG (aB bG (aB bG bT))) (aM rfl))) (ah (bD (ah (c_ ((s, 200 + 12 * (j : Int) + 8)) E.cM E.aQ (ai (aE E.aG) (ai (ah (cu (aE E.jg) (ah aj))) aN)) (by dsimp only [bf]; exact (⟨by omega, by omega, hs⟩)) rfl)) (ah aj) (by decide))) (iB (f := L3.D.str) (l := ["new", "near", "far"]) Str.empty (Int.emod_nonneg _ (by decide)) (Int.emod_lt_of_pos _ (by decide)))) rfl) (t2 := .sh (.str (P6 (az s (200 + 12 * (j : Int) + 8))))) rfl) ?_
   refine r6 (fun δ => δ = [some (.sh (.lst (s.map .int))), some (.sh (.lst (es.map .int))), some (.sh (.int n)), some (.sh (.int (es.length : Nat))), some (.sh (.int (xR s))), some (.sh (.int (1 + az s 62 % 3))), some (.lst ((((List.range j).map fun k => zy s es n k ((j7 s es.length).getD k 0)).map dP).map T.sh)), some (.sh (.int src)), some (.sh (.int (200 + 12 * (j : Int)))), some (.sh (.str w.sign)), some (.sh (.tup w.asks)), some (.sh (.tup w.AI)), some (.sh (.int c)), some (.sh (.int w.tgt)), WW, some (.sh (.str w.mode))]) (jD (qF (eB (ah (bD (aE E.bH) (ah aj) (by decide))) (ah aj)).1 (fun hb => (kJ (eB (ah (bD (ah (cA (ah (c_ ((s, 36)) E.cM E.aQ (ai (aE E.aG) (ai (ah aj) aN)) (by dsimp only [bf]; exact (⟨by omega, by omega, hs⟩)) rfl)) (ah aj) ⟨by decide, by decide⟩)) (ah aj) (by decide))) (ah aj)).1)))) (fun hp => ?_) (fun hp => ?_) ?_
   . have hp : zx s c := by
       unfold zx
       have hp : (decide (c % 4 = 1) || decide (az s 36 / 9 % 5 = 1)) = true := hp
       simpa using hp
     rw [aiI hp] at htg hmd
     rw [htg, hmd]
     exact aO E.g E.sR (qW (ah aj)) (aO E.g E.HS bG (aq rfl))
   . have hp : ¬ zx s c := by
       unfold zx
       have hp : (decide (c % 4 = 1) || decide (az s 36 / 9 % 5 = 1)) = false := hp
       simpa using hp
     rw [aiG hp] at htg hmd
     rw [htg, hmd]
     exact aq rfl
   rintro δ rfl
   refine iy E.oF.1 rfl (d9 (aB (v_ E.xT.1) (aB (v_ E.oA.1) (aB (v_ E.eL.1) (aB (v_ E.iG.1) (aB (v_ E.sR.1) (aB (v_ E.HS.1) bT)))))) (aM rfl)) rfl (by rw [aiC, acA]; omega) (aq ?_)
   rw [eK _ (by unfold dP; rw [hsr])]
   exact ⟨_, _, _, _, _, _, _, _, _, rfl⟩
 case fin =>
   rintro δ ⟨o7, o8, o9, ZD, o11, o12, o13, WW, o15, rfl⟩
   rw [aiC]
   exact bL (vM E.oF.1) rfl
theorem b9 : kM (ao Cj) ([("script", .cell), ("elders", au), ("boxes", au), ("many", .cell), ("count", au), ("names", au), ("ways", au), ("source", au), ("at", au), ("name", au), ("asks", au), ("deeds", au), ("cell", au), ("target", au), ("near", au), ("mode", au), ("len", av), ("_law_cell", av), ("sorted", av), ("range", av), ("_law_name", av), ("_law_asks", av), ("_law_deeds", av), ("_law_inner", av)]) = true := by decide +kernel
theorem Kl : aU ["script", "elders", "boxes", "many", "count", "names", "ways", "source", "at", "name", "asks", "deeds", "cell", "target", "near", "mode"] ["script", "elders", "boxes"] (ao Cj) := bq
noncomputable def Um (s : List Int) (k : Nat) : Str × Int := (("b" : Str) ++ sI (k : Int), xK (az s (33 + (k : Int))))
noncomputable def HV (s : List Int) : List (Str × Int) := (List.range (az s 32 % 4).toNat).map (Um s)
noncomputable def m8 (s : List Int) : Nat := (az s 32 % 4).toNat
noncomputable def Ff (s : List Int) (q : Int) (n : Nat) : List L3.D := (List.range n).map fun (k : Nat) => .tup (gH s (q + 6 * (k : Int)) (m8 s))
noncomputable def d7 (s : List Int) (most : Nat) : Nat := (if 0 < jH s then max (1 + az s 0 % (most : Int)) ((most : Int) - 1) else 1 + az s 0 % (most : Int)).toNat
theorem Km (s : List Int) {most : Nat} (h : 1 <= most) : 1 <= d7 s most /\ d7 s most <= most /\ ((d7 s most : Nat) : Int) = if 0 < jH s then max (1 + az s 0 % (most : Int)) ((most : Int) - 1) else 1 + az s 0 % (most : Int) := by
 have a := ai4 (az s 0) (b := (most : Int)) (by omega)
 have b := aiV (az s 0) (b := (most : Int)) (by omega)
 unfold d7
 split <;> omega
noncomputable def gX (bs : List L3.D) (es : List Int) (ks : List Str) (ss : List Int) (is os ws : List L3.D) : L3.D := .tup [.lst bs, .lst (es.map .int), .lst (ks.map .str), .lst (ss.map .int), .lst is, .lst os, .lst ws]
theorem AZ (s : List Int) (q : Int) (n : Nat) : D.bV (Ff s q n) = true := dg (fun k => show (L3.D.tup (gH _ _ _)).mG = true from iX _ _ _) _
theorem Mf (s : List Int) : D.bV ((HV s).map xB) = true := dg (fun _ => rfl) _
noncomputable abbrev wj : Stmt := top 42
noncomputable abbrev Cm : Type := List Int × Nat
noncomputable def pW : Cm -> List L3.D := fun (s, most) => [.lst (s.map .int), .int most]
noncomputable def pX : Cm -> Prop := fun (s, most) => s.length <= 1000 /\ 1 <= most /\ most <= 9
noncomputable def pY : Cm -> T := fun (s, most) => (.sh (gX ((HV s).map xB) (jX s (d7 s most)) (B7 s (jX s (d7 s most)) (d7 s most)) (Kd s (jX s (d7 s most)) (B7 s (jX s (d7 s most)) (d7 s most)) 16 (d7 s most)) (Ff s 100 (d7 s most)) (Ff s 103 (d7 s most)) ((qJ s (jX s (d7 s most)) (m8 s)).map dP)) : T)
structure Uo (X : Cx) (CL : Str -> Addr) : Prop extends cK X where
 aG : Ln X 0 "script"
 oE : X.env.kindOf "script" = some .cell
 Cp : Ln X 1 "most"
 fZ : Ln X 2 "many"
 bw : Ln X 3 "elders"
 eU : Ln X 4 "kinds"
 sS : Ln X 5 "starts"
 j8 : Ln X 6 "count"
 Kn : X.env.kindOf "count" = some .cell
 bP : Ln X 7 "boxes"
 Ko : Ln X 8 "ins"
 Cq : Ln X 9 "outs"
 aQ : Gl X "_law_cell"
 acD : Gl X "max"
 zA : Gl X "_law_elders"
 Cr : Gl X "_law_kinds"
 kO : Gl X "_law_chosen"
 bE : Gl X "range"
 Fg : Gl X "_law_ways"
 cM : Fc X CL "_law_cell" 1 2 fN bf eZ
 acE : X.mg "max" = none
 P8 : Fc X CL "_law_elders" 2 2 mW jI mX
 Up : Fc X CL "_law_kinds" 2 2 pU lT pV
 xW : Fc X CL "_law_chosen" 2 4 jJ gG jK
 bF : X.mg "range" = none
 ZE : Fc X CL "_law_ways" 4 3 sP oB sQ
 lW : X.mg "str" = none
 oq : Fc X CL "_law_number" 1 1 iC iD iE
 wg : Fc X CL "_law_deeds" 3 3 lX gM lY
theorem Uq {X : Cx} {CL : Str -> Addr} {b : Bx} (E : Uo X CL) (s most) (h : pX (s, most)) :
   aD X CL b wj ["script", "most", "many", "elders", "kinds", "starts", "count", "boxes", "ins", "outs"] (pW (s, most)) (pY (s, most)) := by
 dsimp only [aD, pX, pW, pY] at h ⊢
 obtain ⟨hs, m1, m2⟩ := h
 obtain ⟨n1, n2, n3⟩ := Km s m1
 refine aO E.g E.fZ (cu (ah aj) (ah (bD (ah (c_ ((s, 0)) E.cM E.aQ (ai (aE E.aG) (ai (ah aj) aN)) (by dsimp only [bf]; exact (⟨by omega, by omega, hs⟩)) rfl)) (aE E.Cp) (by omega)))) ?_
 refine r6 (fun δ => δ = [some (.sh (.lst (s.map .int))), some (.sh (.int most)), some (.sh (.int (d7 s most : Nat))), none, none, none, none, none, none, none]) (JM (ah (bD (ah (cA (ah (c_ ((s, 0)) E.cM E.aQ (ai (aE E.aG) (ai (ah aj) aN)) (by dsimp only [bf]; exact (⟨by omega, by omega, hs⟩)) rfl)) (ah aj) ⟨by decide, by decide⟩)) (ah aj) (by decide))) (ah aj)).1 (fun hp => ?_) (fun hp => ?_) ?_
 . have hp : 0 < jH s := aiU hp
   rw [aiI hp] at n3
   refine aO E.g E.fZ (aW (SV E.g E.acE E.acD (ai (aE E.fZ) (ai (ah (mH (aE E.Cp) (ah aj))) aN))) (t2 := .sh (.int (d7 s most : Nat))) ?_) (aq rfl)
   rw [n3]
   show T.sh (.int (if (most : Int) - 1 > 1 + az s 0 % (most : Int) then (most : Int) - 1 else 1 + az s 0 % (most : Int))) = _
   congr 2
   split <;> omega
 . have hp : ¬ 0 < jH s := ai7 hp
   rw [aiG hp] at n3
   refine aq ?_
   rw [n3]
   rfl
 rintro δ rfl
 obtain ⟨Mg, tU⟩ := Ka s n1 (by omega)
 generalize d7 s most = n at n1 n2 n3 Mg tU ⊢
 refine aO E.g E.bw (aW (c_ ((s, n)) E.P8 E.zA (ai (aE E.aG) (ai (aE E.fZ) aN)) (by dsimp only [jI]; exact (⟨n1, by omega, hs⟩)) (cG _)) (t2 := T.lst (((jX s n).map .int).map T.sh)) rfl) ?_
 generalize jX s n = es at Mg tU ⊢
 refine aO E.g E.eU (aW (c_ ((s, es)) E.Up E.Cr (ai (aE E.aG) (ai (vL E.bw.1) aN)) (by dsimp only [lT]; exact (⟨by omega, hs⟩)) (xm _)) (t2 := T.lst (((B7 s es n).map .str).map T.sh)) (by rw [← Mg]; rfl)) ?_
 have Ui := B8 s es n
 have HW := Kc s es
 rw [Mg] at HW
 generalize B7 s es n = ks at Ui HW ⊢
 refine aO E.g E.sS (aW (c_ ((s, es, ks, 16)) E.xW E.kO (ai (aE E.aG) (ai (vL E.bw.1) (ai (vL E.eU.1) (ai (ah aj) aN)))) (by dsimp only [gG]; exact (⟨by omega, hs, by omega, HW, by omega, by omega⟩)) (cG _)) (t2 := T.lst (((Kd s es ks 16 n).map .int).map T.sh)) (by rw [← Mg]; rfl)) ?_
 generalize Kd s es ks 16 n = ss
 have b0 := ai4 (az s 32) (show (4 : Int) ≠ 0 by decide)
 have b1 := aiV (az s 32) (show (0 : Int) < 4 by decide)
 have hnb : az s 32 % 4 = ((m8 s : Nat) : Int) := by unfold m8; omega
 have afa : m8 s < 4 := by unfold m8; omega
 refine aO E.g E.j8 (aW (bD (ah (c_ ((s, 32)) E.cM E.aQ (ai (aE E.aG) (ai (ah aj) aN)) (by dsimp only [bf]; exact (⟨by omega, by omega, hs⟩)) rfl)) (ah aj) (by decide)) (t2 := .sh (.int (m8 s : Nat))) (congrArg (fun z => T.sh (.int z)) hnb)) ?_
 have hbx : HV s = (List.range (m8 s)).map (Um s) := rfl
 rw [hbx]
 generalize afb : m8 s = nb at afa hbx ⊢
 refine qY (p := fun _ => true) (gg := fun d => T.sh (xB (Um s d.vG.toNat))) E.g E.bP (cQ (.cons E.aG.1 (.inl E.oE) .nil) (by decide +kernel)) (cS E.bF (aE E.j8) (by omega) E.bE) (.inr rfl) (fun C s0 H0 f0 b' d hd => ?E7) (ajy (cJ (by simp [bB]; omega))) ?rest (by exact aiJ rfl) (jG ⟨_, rfl⟩)
 case E7 =>
   obtain ⟨i, hi, rfl⟩ := ai8.mp hd
   have Hg : i < nb := by simpa using hi
   have Nq : (i : Int).natAbs.log2 < 1920 /\ (toString (i : Int) : Str).length <= 50 := by
     have : i = 0 \/ i = 1 \/ i = 2 := by omega
     rcases this with rfl | rfl | rfl <;> exact ⟨by decide +kernel, by decide +kernel⟩
   have ei : (0 + (i : Int)) = (i : Int) := ajF _
   have et : (L3.D.int (0 + (i : Int))).vG.toNat = i := by show (0 + (i : Int)).toNat = i; omega
   refine ⟨rfl, fun _ => aW (d9 (aB (qV (ah bG) (ah (sd E.lW (gR (by decide +kernel)) (ah (v_ (eF (i := 0) rfl (by decide +kernel)))) ((by rw [ei]; exact Nq.1)))) ((by rw [ei, sizeLine_eq]; show 1 + (toString (i : Int) : Str).length <= _; omega))) (aB (c_ (az s (33 + (0 + (i : Int)))) (mL E.oq) (gR (by decide +kernel)) (ai (ah (c_ ((s, 33 + (0 + (i : Int)))) (mL E.cM) (gR (by decide +kernel)) (ai (ah (v_ (gQ (i := 1) rfl (by decide +kernel)))) (ai (ah (cu (ah aj) (ah (v_ (eF (i := 0) rfl (by decide +kernel)))))) aN)) (by dsimp only [bf]; exact (⟨by omega, by omega, hs⟩)) rfl)) aN) (trivial) rfl) bT)) (aM rfl)) ?_⟩
   show T.sh _ = T.sh (xB (Um s (L3.D.int (0 + (i : Int))).vG.toNat))
   rw [et]
   unfold Um xB
   rw [ei]
   rfl
 case rest =>
 have em : ((bB 0 (nb : Int).toNat).filter fun _ => true).map (fun d => T.sh (xB (Um s d.vG.toNat))) = (((List.range nb).map (Um s)).map xB).map T.sh := by
   rw [fL]
   unfold bB
   rw [ajh, ajh, ajh, ajn]
   refine ajx fun k _ => ?_
   show T.sh (xB (Um s (0 + (k : Int)).toNat)) = _
   rw [show (0 + (k : Int)).toNat = k by omega]
   rfl
 rw [em]
 generalize hB : (List.range nb).map (Um s) = bs
 have acF : ∀ q : Int, ((bB 0 (n : Int).toNat).filter fun _ => true).map (fun d => T.sh (.tup (gH s (q + 6 * d.vG) nb))) = (((List.range n).map fun (k : Nat) => L3.D.tup (gH s (q + 6 * (k : Int)) nb)).map T.sh) := fun q => by
   rw [fL]
   unfold bB
   rw [ajh, ajh, ajn]
   refine ajx fun k _ => ?_
   show T.sh (.tup (gH s (q + 6 * (0 + (k : Int))) nb)) = _
   rw [ajF]
   rfl
 refine qY (p := fun _ => true) (gg := fun d => T.sh (.tup (gH s (100 + 6 * d.vG) nb))) E.g E.Ko (cQ (.cons E.j8.1 (.inl E.Kn) (.cons E.aG.1 (.inl E.oE) .nil)) (by decide +kernel)) (cS E.bF (aE E.fZ) (by omega) E.bE) (.inr rfl) (fun C s0 H0 f0 b' d hd => ?afc) (ajy (cJ (by simp [bB]; omega))) ?acG (by exact aiJ rfl) (jG ⟨_, rfl⟩)
 case afc =>
   obtain ⟨i, hi, rfl⟩ := ai8.mp hd
   have Hg : i < n := by simpa using hi
   exact ⟨rfl, fun _ => c_ (s, 100 + 6 * (0 + (i : Int)), nb) (mL E.wg) (gR (by decide +kernel)) (ai (ah (v_ (gQ (i := 2) rfl (by decide +kernel)))) (ai (ah (cu (ah aj) (ah (tX (ah aj) (ah (v_ (eF (i := 0) rfl (by decide +kernel)))) (.inl ⟨by decide, by decide⟩))))) (ai (ah (v_ (gQ (i := 1) rfl (by decide +kernel)))) aN))) (by dsimp only [gM]; exact ⟨hs, by omega, by omega, by omega⟩) (show T.clean (.sh (.tup (gH _ _ _))) = true from (iX _ _ _))⟩
 case acG =>
 rw [acF 100]
 refine qY (p := fun _ => true) (gg := fun d => T.sh (.tup (gH s (103 + 6 * d.vG) nb))) E.g E.Cq (cQ (.cons E.j8.1 (.inl E.Kn) (.cons E.aG.1 (.inl E.oE) .nil)) (by decide +kernel)) (cS E.bF (aE E.fZ) (by omega) E.bE) (.inr rfl) (fun C s0 H0 f0 b' d hd => ?afd) (ajy (cJ (by simp [bB]; omega))) ?acH (by exact aiJ rfl) (jG ⟨_, rfl⟩)
 case afd =>
   obtain ⟨i, hi, rfl⟩ := ai8.mp hd
   have Hg : i < n := by simpa using hi
   exact ⟨rfl, fun _ => c_ (s, 103 + 6 * (0 + (i : Int)), nb) (mL E.wg) (gR (by decide +kernel)) (ai (ah (v_ (gQ (i := 2) rfl (by decide +kernel)))) (ai (ah (cu (ah aj) (ah (tX (ah aj) (ah (v_ (eF (i := 0) rfl (by decide +kernel)))) (.inl ⟨by decide, by decide⟩))))) (ai (ah (v_ (gQ (i := 1) rfl (by decide +kernel)))) aN))) (by dsimp only [gM]; exact ⟨hs, by omega, by omega, by omega⟩) (show T.clean (.sh (.tup (gH _ _ _))) = true from (iX _ _ _))⟩
 case acH =>
 rw [acF 103]
 refine bL (pP (wN (bu (vM E.bP.1) (bu (vFL E.bw.1 rfl) (bu (vM E.eU.1) (bu (vM E.sS.1) (bu (vM E.Ko.1) (bu (vM E.Cq.1) (bu (aW (c_ (s, es, nb) E.ZE E.Fg (ai (aE E.aG) (ai (aE E.bw) (ai (aE E.j8) aN))) (by dsimp only [oB]; exact ⟨hs, by omega, by omega, by omega⟩) (cY (xS s es nb))) (t2 := .lst (((qJ s es nb).map dP).map T.sh)) rfl) cO))))))) (aM rfl)) ?_) rfl
 rw [T.dQ, T.dD, T.dD, T.dD, T.dD, T.dD, T.dD, T.dD, T.dD, dI, dI, dI, dI, dI, dI, T.dQ]
 unfold gX Ff
 rw [afb]
theorem cH : kM (ao wj) ([("script", .cell), ("most", au), ("many", au), ("elders", au), ("kinds", au), ("starts", au), ("count", .cell), ("boxes", au), ("ins", au), ("outs", au), ("_law_cell", av), ("max", av), ("_law_elders", av), ("_law_kinds", av), ("_law_chosen", av), ("range", av), ("_law_ways", av)]) = true := by decide +kernel
theorem Fi : aU ["script", "most", "many", "elders", "kinds", "starts", "count", "boxes", "ins", "outs"] ["script", "most"] (ao wj) := bq
noncomputable abbrev j9 : Stmt := inClass (top 6) 0
noncomputable abbrev oG : Type := List Str × List Int × List Int
noncomputable def qK : oG -> List L3.D := fun (ks, es, ss) => [.lst (ks.map .str), .lst (es.map .int), .lst (ss.map .int)]
noncomputable def qL : oG -> Prop := fun (ks, es, ss) => True
noncomputable def qM : oG -> List (Str × T) := fun (ks, es, ss) => (ve ks es ss : List (Str × T))
structure Fj (X : Cx) (CL : Str -> Addr) : Prop extends cK X where
 kP : Ln X 0 "self"
 eU : Ln X 1 "kinds"
 bw : Ln X 2 "elders"
 sS : Ln X 3 "starts"
 cU : Gl X "list"
 cV : X.mg "list" = none
 kQ : Aj X.K (CL "Tree")
 m9 : bY X.K (CL "Tree") "kinds"
 iH : bY X.K (CL "Tree") "elders"
 zB : bY X.K (CL "Tree") "starts"
theorem Fl {X : Cx} {CL : Str -> Addr} {b : Bx} (E : Fj X CL) (ks : List Str) (es ss : List Int) (y : Addr) (h : True) :
   fq X CL b (gk j9) (OD ["self", "kinds", "elders", "starts"] y "Tree" [.lst (ks.map .str), .lst (es.map .int), .lst (ss.map .int)]) { nx := fun δ => δ[0]? = some (some (.pin y (.ins "Tree" (ve ks es ss)))), rt := fun _ _ => False } := by
 have hi : D.bV (ks.map L3.D.str) = true := dg (fun _ => rfl) _
 refine r9 E.kQ E.m9 E.kP.1 (c9 E.cV (aE E.eU) hi E.cU bW) rfl (aiJ rfl) ?_
 rw [gS]
 refine r9 E.kQ E.iH E.kP.1 (c9 E.cV (aE E.bw) (dU _) E.cU bW) rfl (aiJ rfl) ?_
 rw [cg (by decide +kernel), gS]
 refine r9 E.kQ E.zB E.kP.1 (c9 E.cV (aE E.sS) (dU _) E.cU bW) rfl (aiJ rfl) ?_
 rw [cg (by decide +kernel), cg (by decide +kernel), gS]
 exact aq rfl
theorem gY : kM (ao j9) ([("self", au), ("kinds", au), ("elders", au), ("starts", au), ("list", av)]) = true := by decide +kernel
theorem sU : aU ["self", "kinds", "elders", "starts"] ["self", "kinds", "elders", "starts"] (ao j9) := bq
noncomputable abbrev jt : Stmt := inClass (top 4) 0
noncomputable abbrev ng : Type := List L3.D × List L3.D × V × List L3.D × List L3.D × List L3.D
noncomputable def oH : ng -> List L3.D := fun (bs, nm, tv, is, os, ws) => [.lst bs, .lst nm, .val tv, .lst is, .lst os, .lst ws]
noncomputable def oJ : ng -> Prop := fun (bs, nm, tv, is, os, ws) => D.bV bs = true /\ D.bV nm = true /\ D.bV is = true /\ D.bV os = true /\ D.bV ws = true
noncomputable def oK : ng -> List (Str × T) := fun (bs, nm, tv, is, os, ws) => (mQ bs nm (.sh (.val tv)) is os ws : List (Str × T))
structure Ct (X : Cx) (CL : Str -> Addr) : Prop extends cK X where
 kP : Ln X 0 "self"
 bP : Ln X 1 "boxes"
 m7 : Ln X 2 "names"
 rC : Ln X 3 "tree"
 Ko : Ln X 4 "ins"
 Cq : Ln X 5 "outs"
 oF : Ln X 6 "ways"
 cU : Gl X "list"
 cV : X.mg "list" = none
 eo : Aj X.K (CL "Chart")
 zC : bY X.K (CL "Chart") "boxes"
 zE : bY X.K (CL "Chart") "names"
 gZ : bY X.K (CL "Chart") "tree"
 Fo : bY X.K (CL "Chart") "ins"
 Cu : bY X.K (CL "Chart") "outs"
 fQ : bY X.K (CL "Chart") "ways"
theorem Cv {X : Cx} {CL : Str -> Addr} {b : Bx} (E : Ct X CL) (bs nm : List L3.D) (tv : V) (is os ws : List L3.D) (y : Addr) (h : D.bV bs = true /\ D.bV nm = true /\ D.bV is = true /\ D.bV os = true /\ D.bV ws = true) :
   fq X CL b (gk jt) (OD ["self", "boxes", "names", "tree", "ins", "outs", "ways"] y "Chart" [.lst bs, .lst nm, .val tv, .lst is, .lst os, .lst ws]) { nx := fun δ => δ[0]? = some (some (.pin y (.ins "Chart" (mQ bs nm (.sh (.val tv)) is os ws)))), rt := fun _ _ => False } := by
 obtain ⟨h1, h2, h3, h4, h5⟩ := h
 refine r9 E.eo E.zC E.kP.1 (c9 E.cV (aE E.bP) h1 E.cU bW) rfl (aiJ rfl) ?_
 rw [gS]
 refine r9 E.eo E.zE E.kP.1 (c9 E.cV (aE E.m7) h2 E.cU bW) rfl (aiJ rfl) ?_
 rw [cg (by decide +kernel), gS]
 refine r9 E.eo E.gZ E.kP.1 (v_ E.rC.1) rfl (aiJ rfl) ?_
 rw [cg (by decide +kernel), cg (by decide +kernel), gS]
 refine r9 E.eo E.Fo E.kP.1 (c9 E.cV (aE E.Ko) h3 E.cU bW) rfl (aiJ rfl) ?_
 rw [cg (by decide +kernel), cg (by decide +kernel), cg (by decide +kernel), gS]
 refine r9 E.eo E.Cu E.kP.1 (c9 E.cV (aE E.Cq) h4 E.cU bW) rfl (aiJ rfl) ?_
 rw [cg (by decide +kernel), cg (by decide +kernel), cg (by decide +kernel), cg (by decide +kernel), gS]
 refine r9 E.eo E.fQ E.kP.1 (c9 E.cV (aE E.oF) h5 E.cU bW) rfl (aiJ rfl) ?_
 rw [cg (by decide +kernel), cg (by decide +kernel), cg (by decide +kernel), cg (by decide +kernel), cg (by decide +kernel), gS]
 exact aq rfl
theorem dB : kM (ao jt) ([("self", au), ("boxes", au), ("names", au), ("tree", au), ("ins", au), ("outs", au), ("ways", au), ("list", av)]) = true := by decide +kernel
theorem qN : aU ["self", "boxes", "names", "tree", "ins", "outs", "ways"] ["self", "boxes", "names", "tree", "ins", "outs", "ways"] (ao jt) := bq
noncomputable def nmM (k : Nat) : Str := ("m" : Str) ++ sI (k : Int)
noncomputable def Fp (n : Nat) : List Str := (List.range n).map nmM
theorem P9 (k : Nat) (h : k <= 40) : (k : Int).natAbs.log2 < 1920 /\ (toString (k : Int) : Str).length <= 50 /\ PyData.strOk (toString (k : Int) : Str) = true := by
 have h2 : ((List.range 41).all fun k => decide ((k : Int).natAbs.log2 < 1920) && decide ((toString (k : Int) : Str).length <= 50) && PyData.strOk (toString (k : Int) : Str)) = true := by decide +kernel
 have := ajB.mp h2 k (ajr.mpr (by omega))
 simpa [Bool.and_eq_true, and_assoc] using this
noncomputable abbrev wk : Stmt := top 43
noncomputable abbrev Cw : Type := List L3.D × List Int × List Str × List Int × List L3.D × List L3.D × List L3.D
noncomputable def pZ : Cw -> List L3.D := fun (bs, es, ks, ss, is, os, ws) => [gX bs es ks ss is os ws]
noncomputable def lZ : Cw -> Prop := fun (bs, es, ks, ss, is, os, ws) => D.bV bs = true /\ D.bV is = true /\ D.bV os = true /\ D.bV ws = true /\ es.length <= 40
noncomputable def qa : Cw -> T := fun (bs, es, ks, ss, is, os, ws) => (.ins "Chart" (mQ bs ((Fp es.length).map .str) (.ins "Tree" (ve ks es ss)) is os ws) : T)
structure Ur (X : Cx) (CL : Str -> Addr) : Prop extends cK X where
 bI : Ln X 0 "parts"
 m7 : Ln X 1 "names"
 rC : Ln X 2 "tree"
 bE : Gl X "range"
 cy : Gl X "len"
 ZF : Gl X "Tree"
 cU : Gl X "list"
 Us : Gl X "Chart"
 bF : X.mg "range" = none
 b8 : X.mg "len" = none
 ZG : Fm X CL "Tree" 1 4 qK qL qM
 cV : X.mg "list" = none
 Ut : Fm X CL "Chart" 1 7 oH oJ oK
 lW : X.mg "str" = none
theorem Uu {X : Cx} {CL : Str -> Addr} {b : Bx} (E : Ur X CL) (bs es ks ss is os ws) (h : lZ (bs, es, ks, ss, is, os, ws)) :
   aD X CL b wk ["parts", "names", "tree"] (pZ (bs, es, ks, ss, is, os, ws)) (qa (bs, es, ks, ss, is, os, ws)) := by
 dsimp only [aD, lZ, pZ, qa] at h ⊢
 obtain ⟨ib, ii, io, iw, hl⟩ := h
 refine qY (p := fun _ => true) (gg := fun d => T.sh (.str (nmM d.vG.toNat))) E.g E.m7 (cQ .nil (by decide +kernel)) (cS E.bF (ah (di (aiC ..) E.b8 (aV (aE E.bI) (ah aj) rfl) E.cy)) (by omega) E.bE) (.inr rfl) (fun C s0 H0 f0 b' d hd => ?E7) (ajy (cJ (by simp [bB]; omega))) ?rest (by exact aiJ rfl) (jG ⟨_, rfl⟩)
 case E7 =>
   obtain ⟨i, hi, rfl⟩ := ai8.mp hd
   have Hg : i < es.length := by simpa using hi
   obtain ⟨q1, q2, _⟩ := P9 i (by omega)
   have ei : (0 + (i : Int)) = (i : Int) := ajF _
   have et : (L3.D.int (0 + (i : Int))).vG.toNat = i := by show (0 + (i : Int)).toNat = i; omega
   refine ⟨rfl, fun _ => aW (qV (ah bG) (ah (sd E.lW (gR (by decide +kernel)) (ah (v_ (eF (i := 0) rfl (by decide +kernel)))) ((by rw [ei]; exact q1)))) ((by rw [ei, ajk]; show 1 + (toString (i : Int) : Str).length <= _; omega))) ?_⟩
   show T.sh _ = T.sh (.str (nmM (L3.D.int (0 + (i : Int))).vG.toNat))
   rw [et]
   unfold nmM
   rw [ei]
   rfl
 case rest =>
 have em : ((bB 0 (es.length : Int).toNat).filter fun _ => true).map (fun d => T.sh (.str (nmM d.vG.toNat))) = ((Fp es.length).map L3.D.str).map T.sh := by
   rw [fL]
   unfold bB Fp
   rw [ajh, ajh, ajh, ajn]
   refine ajx fun k _ => ?_
   show T.sh (.str (nmM (0 + (k : Int)).toNat)) = _
   rw [show (0 + (k : Int)).toNat = k by omega]
   rfl
 rw [em]
 refine aO E.g E.rC (aW (mk_ (ks, es, ss) E.ZG E.ZF (ai (dZ (c9 E.cV (aV (aE E.bI) (ah aj) rfl) (sj _) E.cU bW)) (ai (dZ (c9 E.cV (aV (aE E.bI) (ah aj) rfl) (dU _) E.cU bW)) (ai (dZ (c9 E.cV (aV (aE E.bI) (ah aj) rfl) (dU _) E.cU bW)) aN))) trivial (vf ks es ss)) (t2 := .ins "Tree" (ve ks es ss)) rfl) ?_
 exact bL (mkP (f := "tree") (EC := uh bs ((Fp es.length).map .str)) (M7 := um is os ws) (fun v => (bs, (Fp es.length).map .str, v, is, os, ws)) E.Ut E.Us
   (ED (dZ (c9 E.cV (aV (aE E.bI) (ah aj) rfl) ib E.cU bW)) (ED (vL E.m7.1)
     (OX (vM E.rC.1)
       (ai (dZ (c9 E.cV (aV (aE E.bI) (ah aj) rfl) ii E.cU bW)) (ai (dZ (c9 E.cV (aV (aE E.bI) (ah aj) rfl) io E.cU bW)) (ai (dZ (c9 E.cV (aV (aE E.bI) (ah aj) rfl) iw E.cU bW)) aN))))))
   (fun v => rfl) (fun v => ⟨ib, sj _, ii, io, iw⟩) (fun v => rfl) (BU ib (sj _)) (BV ii io iw)) rfl
theorem iZ : kM (ao wk) ([("parts", au), ("names", au), ("tree", au), ("range", av), ("len", av), ("Tree", av), ("list", av), ("Chart", av)]) = true := by decide +kernel
theorem Fq : aU ["parts", "names", "tree"] ["parts"] (ao wk) := bq
noncomputable def HX (s : List Int) (t : List Int) (k : Nat) : List Int := t.set (k % 20) (t.getD (k % 20) 0 + s.getD k 0)
noncomputable def Mh (s : List Int) (j : Nat) : List Int := (List.range j).foldl (HX s) (List.replicate (min s.length 20) 0)
theorem Cy (s : List Int) : ∀ j, (Mh s j).length = min s.length 20
 | 0 => by simp [Mh]
 | j + 1 => by
   have := Cy s j
   unfold Mh at this ⊢
   rw [ajP, List.foldl_append]
   exact (List.length_set ..).trans this
theorem Qa (s : List Int) (j : Nat) : Mh s (j + 1) = HX s (Mh s j) j := by
 unfold Mh
 rw [ajP, List.foldl_append]
 rfl
noncomputable abbrev wm : Stmt := top 52
noncomputable abbrev Cz : Type := List Int
noncomputable def qb : Cz -> List L3.D := fun s => [.lst (s.map .int)]
noncomputable def qc : Cz -> Prop := fun s => s.length <= 1000
noncomputable def qd : Cz -> T := fun s => (.lst (((Mh s s.length).map .int).map T.sh) : T)
structure Uv (X : Cx) (CL : Str -> Addr) : Prop extends cK X where
 aG : Ln X 0 "script"
 jV : Ln X 1 "k"
 qe : Ln X 2 "turns"
 bE : Gl X "range"
 acI : Gl X "min"
 cy : Gl X "len"
 bF : X.mg "range" = none
 acJ : X.mg "min" = none
 b8 : X.mg "len" = none
theorem Uw {X : Cx} {CL : Str -> Addr} {b : Bx} (E : Uv X CL) (s) (h : qc s) :
   aD X CL b wm ["script", "k", "turns"] (qb s) (qd s) := by
 dsimp only [aD, qc, qb, qd] at h ⊢
 have h : s.length <= 1000 := h
 have afe : (if (20 : Int) < ((s.length : Nat) : Int) then (20 : Int) else ((s.length : Nat) : Int)) = ((min s.length 20 : Nat) : Int) := by split <;> omega
 refine qY (p := fun _ => true) (gg := fun _ => T.sh (.int 0)) E.g E.qe (cQ .nil (by decide +kernel)) (cS E.bF (uZ (ah (SR E.g E.acJ E.acI (ai (ah (di (aiC ..) E.b8 (aE E.aG) E.cy)) (ai (ah aj) aN)))) (congrArg L3.D.int afe)) (by omega) E.bE) (.inr rfl) (fun C s0 H0 f0 b' d hd => ⟨rfl, fun _ => aj⟩) (ajy (cJ (by simp [bB]; omega))) ?rest (by exact aiJ rfl) (jG ⟨_, rfl⟩)
 have em : ((bB 0 ((min s.length 20 : Nat) : Int).toNat).filter fun _ => true).map (fun _ => T.sh (.int 0)) = ((Mh s 0).map L3.D.int).map T.sh := by
   rw [fL]
   unfold bB Mh
   rw [ajh, ajn]
   show List.map _ _ = ((List.replicate (min s.length 20) (0 : Int)).map L3.D.int).map T.sh
   rw [List.map_replicate, List.map_replicate, List.eq_replicate_iff]
   refine ⟨by simp, fun x hx => ?_⟩
   obtain ⟨k, _, rfl⟩ := ai8.mp hx
   rfl
 rw [em]
 refine gJ E.g E.jV (fun j δ => ∃ o, δ = [some (.sh (.lst (s.map .int))), o, some (.lst (((Mh s j).map .int).map T.sh))])
   (cS E.bF (ah (di (aiC ..) E.b8 (aE E.aG) E.cy)) (by omega) E.bE) ⟨_, rfl⟩ (fun j δ ⟨_, e⟩ => by subst e; exact aiJ rfl) ?turn ?fin
 case turn =>
   rintro j d δ hj ⟨o, rfl⟩
   obtain ⟨rfl, pS⟩ := fK hj
   rw [ajF]
   have hjs : j < s.length := by omega
   have hl := Cy s j
   have k0 : ((j : Int) % 20).toNat = j % 20 := by omega
   have k1 : j % 20 < min s.length 20 := by omega
   refine ab3 E.qe.1 (aW (cu (bZ (vL E.qe.1) (ah (bD (aE E.jV) (ah aj) (by decide))) (fJ (by omega) (by omega))) (bZ (aE E.aG) (aE E.jV) (fJ (by omega) (by omega)))) (t2 := .sh (.int ((Mh s j).getD (j % 20) 0 + s.getD j 0))) (by rw [k0]; rfl)) (ah (bD (aE E.jV) (ah aj) (by decide))) rfl (Yx (by omega) (by rw [aiC, aiC]; omega)) (aq ⟨some (.sh (.int j)), ?_⟩)
   rw [k0, Qa]
   unfold HX
   rw [List.map_set, List.map_set]
   rfl
 case fin =>
   rintro δ ⟨o, rfl⟩
   have e : (bB 0 (s.length : Int).toNat).length = s.length := by simp [bB]
   rw [e]
   exact bL (vM E.qe.1) rfl
theorem mh : kM (ao wm) ([("script", au), ("k", au), ("turns", au), ("range", av), ("min", av), ("len", av)]) = true := by decide +kernel
theorem Ft : aU ["script", "k", "turns"] ["script"] (ao wm) := bq
noncomputable abbrev wo : Stmt := top 35
noncomputable abbrev CB : Type := List Int × List Str × List Int
noncomputable def qf : CB -> List L3.D := fun (es, ks, ch) => [.lst (es.map .int), .lst (ks.map .str), .lst (ch.map .int)]
noncomputable def mj : CB -> Prop := fun (es, ks, ch) => es.length <= 900 /\ 0 < es.length /\ ks.length = es.length /\ ch.length = es.length /\ jd es
noncomputable def qg : CB -> T := fun (es, ks, ch) => (.lst (((BQ (je ks) es ch (es.length - 1)).map .int).map T.sh) : T)
structure Ux (X : Cx) (CL : Str -> Addr) : Prop extends cK X where
 bw : Ln X 0 "elders"
 eU : Ln X 1 "kinds"
 fO : Ln X 2 "chosen"
 bJ : Ln X 3 "opens"
 jV : Ln X 4 "k"
 iI : Ln X 5 "elder"
 bE : Gl X "range"
 cy : Gl X "len"
 bF : X.mg "range" = none
 b8 : X.mg "len" = none
theorem Uy {X : Cx} {CL : Str -> Addr} {b : Bx} (E : Ux X CL) (es ks ch) (h : mj (es, ks, ch)) :
   aD X CL b wo ["elders", "kinds", "chosen", "opens", "k", "elder"] (qf (es, ks, ch)) (qg (es, ks, ch)) := by
 dsimp only [aD, mj, qf, qg] at h ⊢
 obtain ⟨hl, hl0, hk, hc, ht⟩ := h
 refine aO E.g E.bJ (jq (aB aj bT) (aM rfl)) ?_
 refine gJ E.g E.jV (fun j δ => ∃ o o', δ = [some (.sh (.lst (es.map .int))), some (.sh (.lst (ks.map .str))), some (.sh (.lst (ch.map .int))), some (.lst (((BQ (je ks) es ch j).map .int).map T.sh)), o, o'])
   (Av E.bF (ah aj) (ah (di (aiC ..) E.b8 (aE E.bw) E.cy)) (by omega) E.bE) ⟨_, _, rfl⟩ (fun j δ ⟨_, _, e⟩ => by subst e; exact aiJ rfl) ?turn ?fin
 case turn =>
   rintro j d δ hj ⟨o, o', rfl⟩
   obtain ⟨rfl, pS⟩ := fK hj
   have hol := BR (isAll := je ks) (es := es) (ch := ch) j
   have ej : (1 + (j : Int)).toNat = j + 1 := by omega
   have ejI : (1 + (j : Int)) = ((j + 1 : Nat) : Int) := by omega
   refine aO E.g E.iI (aW (fY (bZ (aE E.bw) (aE E.jV) (fJ (by omega) (by omega))) rfl) (congrArg (fun z => T.sh (.int (es.getD z 0))) ej)) ?_
   have ha := ht (j + 1) (by omega)
   show fq X CL b _ _ { nx := fun δ => ∃ o o', δ = [_, _, _, some (.lst (((BQ (je ks) es ch (j + 1)).map .int).map T.sh)), o, o'], rt := _, bk := _, ct := _ }
   rw [BQ]
   generalize es.getD (j + 1) 0 = x at ha ⊢
   have hx0 : x ∈ BQ (je ks) es ch j -> 0 <= x := fun hx => (v5 j hx).1
   refine dc (jD (gE (vW (aE E.iI) (vL E.bJ.1) (rfl) rfl).1 (fun hb => (jY (jD (qF (fC (bZ (aE E.eU) (aE E.iI) (iB Str.empty (hx0 (aiU hb)) (by omega))) (ah bG)).1 (fun hb2 => (kJ (eB (bZ (aE E.fO) (aE E.iI) (fJ (hx0 (aiU hb)) (by omega))) (aE E.jV)).1)))))))) (fun hp => ?_) (fun hp => aq (aq ?_))
   . simp only [ajm, Bool.or_eq_true, ajY] at hp
     refine iy E.bJ.1 rfl (v_ E.jV.1) rfl (by simp; omega) (aq (aq ?_))
     rw [aiI ⟨hp.1, hp.2.elim (fun z => .inl (ajW z)) (fun z => .inr (by rw [z, ejI]))⟩]
     have e1 : ((BQ (je ks) es ch j).map L3.D.int).map T.sh ++ [T.sh (.int (1 + (j : Int)))] = ((BQ (je ks) es ch j ++ [((j + 1 : Nat) : Int)]).map L3.D.int).map T.sh := by
       rw [ejI]; simp
     rw [e1]
     exact ⟨_, _, rfl⟩
   . rw [aiG (fun z => by
       have : (decide (x ∈ BQ (je ks) es ch j) && (decide (ks.getD x.toNat Str.empty = "all") || decide (ch.getD x.toNat 0 = 1 + (j : Int)))) = true := by
         simp only [ajm, Bool.or_eq_true, ajY]
         exact ⟨z.1, z.2.elim (fun z => .inl (aiU z)) (fun z => .inr (by rw [z, ejI]))⟩
       rw [this] at hp
       cases hp)]
     exact ⟨_, _, rfl⟩
 case fin =>
   rintro δ ⟨o, o', rfl⟩
   have e : (bB 1 ((es.length : Int) - 1).toNat).length = es.length - 1 := by simp [bB]
   rw [e]
   exact bL (vM E.bJ.1) rfl
theorem i6 : kM (ao wo) ([("elders", au), ("kinds", au), ("chosen", au), ("opens", au), ("k", au), ("elder", au), ("range", av), ("len", av)]) = true := by decide +kernel
theorem Fv : aU ["elders", "kinds", "chosen", "opens", "k", "elder"] ["elders", "kinds", "chosen"] (ao wo) := bq
noncomputable abbrev wu : Stmt := top 44
noncomputable abbrev CD : Type := Int × Int × List Int
noncomputable def qh : CD -> List L3.D := fun (bx, mo, bs) => [.tup [.int bx, .int mo], .lst (bs.map .int)]
noncomputable def qi : CD -> Prop := fun (bx, mo, bs) => bx = -1 \/ (0 <= bx /\ bx < bs.length)
noncomputable def qj : CD -> T := fun (bx, mo, bs) => (.sh (.int (gF bx mo bs)) : T)
structure Uz (X : Cx) (CL : Str -> Addr) : Prop extends cK X where
 ur : Ln X 0 "term"
 bP : Ln X 1 "boxes"
theorem UA {X : Cx} {CL : Str -> Addr} {b : Bx} (E : Uz X CL) (bx mo bs) (h : qi (bx, mo, bs)) :
   aD X CL b wu ["term", "boxes"] (qh (bx, mo, bs)) (qj (bx, mo, bs)) := by
 dsimp only [aD, qi, qh, qj] at h ⊢
 refine dc (eB (aV (aE E.ur) (ah aj) rfl) (ah (qW (ah aj)))).1 (fun hp => ?_) (fun hp => ?_)
 . refine bL (fY (aV (aE E.ur) (ah aj) rfl) rfl) ?_
   have e : bx = -1 := aiU hp
   show T.sh (.int mo) = T.sh (.int (gF bx mo bs))
   rw [gF, aiI e]
 . refine aq ?_
   have e : ¬ bx = -1 := ai7 hp
   refine bL (cu (bZ (aE E.bP) (aV (aE E.ur) (ah aj) rfl) (fJ (by omega) (by omega))) (aV (aE E.ur) (ah aj) rfl)) ?_
   show T.sh _ = T.sh (.int (gF bx mo bs))
   rw [gF, aiG e]
theorem Fw : kM (ao wu) ([("term", au), ("boxes", au)]) = true := by decide +kernel
theorem Fx : aU ["term", "boxes"] ["term", "boxes"] (ao wu) := bq
noncomputable def mkQ (q : Ask) : Prop := q.1 ∈ BX
theorem acL {m : Str} (h : m ∈ BX) (i j : Int) : Pw m i j = (if m = "!=" then !decide (i = j) else if m = "=" then decide (i = j) else if m = "<=" then decide (i <= j) else decide (i < j)) := by
 unfold BX at h
 simp only [aiN, ajp, or_false] at h
 unfold Pw
 rcases h with rfl | rfl | rfl | rfl
 . rw [aiI rfl, aiG (by decide +kernel), aiG (by decide +kernel), aiG (by decide +kernel)]
 . rw [aiG (by decide +kernel), aiI rfl, aiG (by decide +kernel), aiG (by decide +kernel), aiI rfl]
 . rw [aiG (by decide +kernel), aiG (by decide +kernel), aiI rfl, aiG (by decide +kernel), aiI rfl]
 . rw [aiG (by decide +kernel), aiG (by decide +kernel), aiG (by decide +kernel), aiI rfl]
noncomputable abbrev wA : Stmt := top 45
noncomputable abbrev CF : Type := List Ask × List Int
noncomputable def mq : CF -> List L3.D := fun (l, vs) => [.tup (l.map jr), .lst (vs.map .int)]
noncomputable def jx : CF -> Prop := fun (l, vs) => ∀ q ∈ l, okQ vs q /\ mkQ q
noncomputable def mw : CF -> T := fun (l, vs) => (.sh (.bl (l.all (hQ vs))) : T)
structure UB (X : Cx) (CL : Str -> Addr) : Prop extends cK X where
 eL : Ln X 0 "asks"
 bP : Ln X 1 "boxes"
 fW : Ln X 2 "ask"
 qI : Ln X 3 "one"
 sJ : Ln X 4 "two"
 xX : Ln X 5 "good"
 sV : Gl X "_law_worth"
 Kp : Fc X CL "_law_worth" 1 2 qh qi qj
theorem UC {X : Cx} {CL : Str -> Addr} {b : Bx} (E : UB X CL) (l vs) (h : jx (l, vs)) :
   aD X CL b wA ["asks", "boxes", "ask", "one", "two", "good"] (mq (l, vs)) (mw (l, vs)) := by
 dsimp only [aD, jx, mq, mw] at h ⊢
 show fq X CL b _ _ { nx := _, rt := fun Hq _ => Hq = T.sh (.bl (l.all (hQ vs))), bk := _, ct := _ }
 refine gJ E.g E.fW (fun j δ => ∃ o2 o3 o4 o5, (∀ q ∈ l.take j, hQ vs q = true) /\ δ = [some (.sh (.tup (l.map jr))), some (.sh (.lst (vs.map .int))), o2, o3, o4, o5])
   (wR (v_ E.eL.1)) ⟨_, _, _, _, fun x hx => by simp at hx, rfl⟩ (fun j δ ⟨_, _, _, _, _, e⟩ => by subst e; exact aiJ rfl) ?turn ?fin
 case turn =>
   rintro j d δ hj ⟨o2, o3, o4, o5, tP, rfl⟩
   obtain ⟨q, rfl, _, hq, _, _, JV⟩ := qX hj
   obtain ⟨⟨k1, k2⟩, km⟩ := h q hq
   refine aO E.g E.qI (aW (c_ (q.2.1, q.2.2.1, vs) E.Kp E.sV (ai (aV (aE E.fW) (ah aj) (aF (j := 1) rfl)) (ai (aE E.bP) aN)) k1 rfl) (t2 := .sh (.int (gF q.2.1 q.2.2.1 vs))) rfl) ?_
   refine aO E.g E.sJ (aW (c_ (q.2.2.2.1, q.2.2.2.2, vs) E.Kp E.sV (ai (aV (aE E.fW) (ah aj) (aF (j := 2) rfl)) (ai (aE E.bP) aN)) k2 rfl) (t2 := .sh (.int (gF q.2.2.2.1 q.2.2.2.2 vs))) rfl) ?_
   have hh : hQ vs q = Pw q.1 (gF q.2.1 q.2.2.1 vs) (gF q.2.2.2.1 q.2.2.2.2 vs) := rfl
   rw [acL km] at hh
   generalize gF q.2.1 q.2.2.1 vs = x1 at hh ⊢
   generalize gF q.2.2.2.1 q.2.2.2.2 vs = x2 at hh ⊢
   refine aO E.g E.xX (Oe (aE E.qI) (aE E.sJ)).2 ?_
   refine r6 (fun δ => δ = [some (.sh (.tup (l.map jr))), some (.sh (.lst (vs.map .int))), some (.sh (jr q)), some (.sh (.int x1)), some (.sh (.int x2)), some (.sh (.bl (if q.1 = "<=" then decide (x1 <= x2) else decide (x1 < x2))))]) (fC (aV (aE E.fW) (ah aj) (aF (j := 0) rfl)) (ah bG)).1 (fun hp => ?_) (fun hp => ?_) ?_
   . refine aO E.g E.xX (abV (aE E.qI) (aE E.sJ)).2 (aq ?_)
     rw [aiI (aiU hp)]
     try rfl
   . refine aq ?_
     rw [aiG (ai7 hp)]
     try rfl
   rintro δ rfl
   refine r6 (fun δ => δ = [some (.sh (.tup (l.map jr))), some (.sh (.lst (vs.map .int))), some (.sh (jr q)), some (.sh (.int x1)), some (.sh (.int x2)), some (.sh (.bl (if q.1 = "=" then decide (x1 = x2) else if q.1 = "<=" then decide (x1 <= x2) else decide (x1 < x2))))]) (fC (aV (aE E.fW) (ah aj) (aF (j := 0) rfl)) (ah bG)).1 (fun hp => ?_) (fun hp => ?_) ?_
   . refine aO E.g E.xX (eB (aE E.qI) (aE E.sJ)).2 (aq ?_)
     rw [aiI (aiU hp)]
     try rfl
   . refine aq ?_
     rw [aiG (ai7 hp)]
     try rfl
   rintro δ rfl
   refine r6 (fun δ => δ = [some (.sh (.tup (l.map jr))), some (.sh (.lst (vs.map .int))), some (.sh (jr q)), some (.sh (.int x1)), some (.sh (.int x2)), some (.sh (.bl (hQ vs q)))]) (fC (aV (aE E.fW) (ah aj) (aF (j := 0) rfl)) (ah bG)).1 (fun hp => ?_) (fun hp => ?_) ?_
   . refine aO E.g E.xX (tY (aE E.qI) (aE E.sJ)).2 (aq ?_)
     rw [hh, aiI (aiU hp)]
     try rfl
   . refine aq ?_
     rw [hh, aiG (ai7 hp)]
   rintro δ rfl
   refine dc (mJ (f6 (v_ E.xX.1))) (fun hp => ?_) (fun hp => aq (aq ⟨_, _, _, _, fun y hy => ?_, rfl⟩))
   . refine bL lG ?_
     rw [akC] at hp
     rw [show l.all (hQ vs) = false from List.all_eq_false.mpr ⟨q, hq, by rw [hp]; decide⟩]
   . rw [aky] at hp
     rw [JV] at hy
     rcases aiO.mp hy with hy | hy
     . exact tP y hy
     . rw [ajb.mp hy]; exact hp
 case fin =>
   rintro δ ⟨o2, o3, o4, o5, tP, rfl⟩
   rw [aiC, ajT] at tP
   refine bL lG ?_
   rw [show l.all (hQ vs) = true from ajB.mpr tP]
theorem jL : kM (ao wA) ([("asks", au), ("boxes", au), ("ask", au), ("one", au), ("two", au), ("good", au), ("_law_worth", av)]) = true := by decide +kernel
theorem Fy : aU ["asks", "boxes", "ask", "one", "two", "good"] ["asks", "boxes"] (ao wA) := bq
noncomputable abbrev wB : Stmt := top 51
noncomputable abbrev CG : Type := (List (List Ask × List Int)) × List Int × List Ask × List Int
noncomputable def qk : CG -> List L3.D := fun (l, vs, y, p) => [.lst (l.map Ze), .lst (vs.map .int)]
noncomputable def mz : CG -> Prop := fun (l, vs, y, p) => (∀ x ∈ l, ∀ q ∈ x.1, okQ vs q /\ mkQ q) /\ l.find? (fun x => x.1.all (hQ vs)) = some (y, p)
noncomputable def ql : CG -> T := fun (l, vs, y, p) => (.sh (.tup (p.map .int)) : T)
structure UD (X : Cx) (CL : Str -> Addr) : Prop extends cK X where
 Qc : Ln X 0 "ends"
 bP : Ln X 1 "boxes"
 aJ : Ln X 2 "branch"
 aR : Gl X "isinstance"
 cU : Gl X "list"
 dJ : Gl X "tuple"
 cy : Gl X "len"
 nh : Gl X "_law_holds"
 aS : X.mg "isinstance" = none
 cV : X.mg "list" = none
 dM : X.mg "tuple" = none
 b8 : X.mg "len" = none
 CH : Fc X CL "_law_holds" 2 2 mq jx mw
theorem UE {X : Cx} {CL : Str -> Addr} {b : Bx} (E : UD X CL) (l vs y p) (h : mz (l, vs, y, p)) :
   aD X CL b wB ["ends", "boxes", "branch"] (qk (l, vs, y, p)) (ql (l, vs, y, p)) := by
 dsimp only [aD, mz, qk, ql] at h ⊢
 obtain ⟨hq, hf⟩ := h
 refine dc (mJ (f6 (isL E.aS E.cV E.aR E.cU (aE E.Qc)))) (fun hp => absurd hp (by decide)) (fun _ => aq ?_)
 refine gJ E.g E.aJ (fun j δ => ∃ o, (∀ x ∈ l.take j, x.1.all (hQ vs) = false) /\ δ = [some (.sh (.lst (l.map Ze))), some (.sh (.lst (vs.map .int))), o])
   (n6 (v_ E.Qc.1)) ⟨_, fun x hx => by simp at hx, rfl⟩ (fun j δ ⟨_, _, e⟩ => by subst e; exact aiJ rfl) ?turn ?fin
 case turn =>
   rintro j d δ hj ⟨o, Hv, rfl⟩
   obtain ⟨x, rfl, hxj, hx, _, _, JV⟩ := qX hj
   refine dc (jD (qF (mJ (f6 (Yw E.aS E.dM E.aR E.dJ (aE E.aJ)))) (fun _ => kJ (tY (ah (jZ E.b8 (aE E.aJ) E.cy)) (ah aj)).1))) (fun hp => by simp at hp) (fun _ => aq ?_)
   refine dc (jD (qF (mJ (f6 (Yw E.aS E.dM E.aR E.dJ (aV (aE E.aJ) (ah aj) (aF (j := 0) rfl))))) (fun _ => kJ (mJ (f6 (Yw E.aS E.dM E.aR E.dJ (aV (aE E.aJ) (ah aj) (aF (j := 1) rfl)))))))) (fun hp => absurd hp (by decide)) (fun _ => aq ?_)
   refine dc (f6 (aW (c_ (x.1, vs) E.CH E.nh (ai (aV (aE E.aJ) (ah aj) (aF (j := 0) rfl)) (ai (aE E.bP) aN)) (hq x hx) rfl) (t2 := .sh (.bl (x.1.all (hQ vs)))) rfl)) (fun hp => ?_) (fun hp => aq (aq ⟨_, fun v hv => ?_, rfl⟩))
   . refine bL (cL (v_ E.aJ.1) (ah aj) (aF (j := 1) rfl)) ?_
     have e : l.find? (fun x => x.1.all (hQ vs)) = some x := by
       obtain ⟨hi, e⟩ := ai3.mp hxj
       have er : l = l.take j ++ x :: l.drop (j + 1) := by rw [← e, ← ajX hi, List.take_append_drop]
       rw [er, List.find?_append, akx.mpr fun v hv => by rw [Hv v hv]; decide, ajE, hp]
       rfl
     rw [hf] at e
     cases e
     rfl
   . rw [JV] at hv
     rcases aiO.mp hv with hv | hv
     . exact Hv v hv
     . rw [ajb.mp hv]
       exact hp
 case fin =>
   rintro δ ⟨o, Hv, rfl⟩
   rw [aiC, ajT] at Hv
   rw [akx.mpr fun v hv => by rw [Hv v hv]; decide] at hf
   cases hf
theorem i7 : kM (ao wB) ([("ends", au), ("boxes", au), ("branch", au), ("isinstance", av), ("list", av), ("tuple", av), ("len", av), ("_law_holds", av)]) = true := by decide +kernel
theorem Fz : aU ["ends", "boxes", "branch"] ["ends", "boxes"] (ao wB) := bq
noncomputable abbrev iJ : Stmt := top 12
noncomputable abbrev kR : Type := List L3.D × List L3.D × List Str × List Int × List Int × List L3.D × List L3.D × List L3.D × List Int
noncomputable def gq : kR -> List L3.D := fun (bs, nm, ks, es, ss, is, os, ws, ops) => [kN bs nm (oh ks es ss) is os ws, .lst (ops.map .int)]
noncomputable def e9 : kR -> Prop := fun (bs, nm, ks, es, ss, is, os, ws, ops) => ops.length <= 1000 /\ ∀ x ∈ ops, 0 <= x /\ x < ks.length
noncomputable def gu : kR -> T := fun (bs, nm, ks, es, ss, is, os, ws, ops) => (.lst (((iu ks ops).map .int).map T.sh) : T)
structure zF (X : Cx) (CL : Str -> Addr) : Prop extends cK X where
 dN : Ln X 0 "chart"
 ni : X.env.kindOf "chart" = some .cell
 bJ : Ln X 1 "opens"
 eo : Aj X.K (CL "Chart")
 kQ : Aj X.K (CL "Tree")
 m9 : bY X.K (CL "Tree") "kinds"
 gZ : bY X.K (CL "Chart") "tree"
theorem zG {X : Cx} {CL : Str -> Addr} {b : Bx} (E : zF X CL) (bs nm ks es ss is os ws ops) (h : e9 (bs, nm, ks, es, ss, is, os, ws, ops)) :
   aD X CL b iJ ["chart", "opens"] (gq (bs, nm, ks, es, ss, is, os, ws, ops)) (gu (bs, nm, ks, es, ss, is, os, ws, ops)) := by
 dsimp only [aD, e9, gq, gu] at h ⊢
 obtain ⟨hl, ho⟩ := h
 refine bL (sy (p := fun d => E4 ks d.vG) (g := fun d => T.sh d) (cQ (.cons E.dN.1 (.inl E.ni) .nil) (by decide +kernel)) E.g.calm (n6 (v_ E.bJ.1)) (.inr rfl) (fun C s0 H0 f0 b' d hd => ?E7) (Nat.le_of_lt (cJ (by simpa using hl)))) ?eq
 case E7 =>
   obtain ⟨x, hx, rfl⟩ := ai8.mp hd
   obtain ⟨x0, x1⟩ := ho x hx
   exact ⟨(fC (bZ (t9 (by exact E.kQ) (by exact E.m9) (t9 (by exact E.eo) (by exact E.gZ) (ah (v_ (gQ (i := 1) rfl (by decide +kernel)))) xA) Hy) (ah (v_ (eF (i := 0) rfl (by decide +kernel)))) (iB Str.empty x0 x1)) (ah bG)).1, fun _ => v_ (eF (i := 0) rfl (by decide +kernel))⟩
 case eq =>
   unfold iu
   rw [List.filter_map, ajh, ajh]
   rfl
theorem jM : kM (ao iJ) ([("chart", .cell), ("opens", au)]) = true := by decide +kernel
theorem oM : aU ["chart", "opens"] ["chart", "opens"] (ao iJ) := bq
noncomputable abbrev g6 : Stmt := top 24
noncomputable abbrev jN : Type := za
noncomputable def fS : jN -> List L3.D := fun s => [v7 s]
noncomputable def fU : jN -> Prop := fun s => True
noncomputable def fV : jN -> T := fun s => (.sh (v7 (J7 s)) : T)
structure xY (X : Cx) (CL : Str -> Addr) : Prop extends cK X where
 aJ : Ln X 0 "branch"
 jh : Gl X "LEAF"
 iK : Gl X "ASKED"
 gf : Gl X "PICKED"
 rD : Gl X "HELD"
 ji : ∃ u, X.mg "LEAF" = some (.int 0 u)
 iL : ∃ u, X.mg "ASKED" = some (.int 2 u)
 gi : ∃ u, X.mg "PICKED" = some (.int 3 u)
 rE : ∃ u, X.mg "HELD" = some (.int 4 u)
theorem xZ {X : Cx} {CL : Str -> Addr} {b : Bx} (E : xY X CL) (s) (h : fU s) :
   aD X CL b g6 ["branch"] (fS s) (fV s) := by
 dsimp only [aD, fU, fS, fV] at h ⊢
 exact bL (aW (d9 (aB (cu (aV (aE E.aJ) (ah (aX E.ji E.jh)) (aF (j := 0) rfl)) (ah aj)) (aB aj (aB (cL (v_ E.aJ.1) (ah (aX E.iL E.iK)) (aF (j := 2) rfl)) (aB (cL (v_ E.aJ.1) (ah (aX E.gi E.gf)) (aF (j := 3) rfl)) (aB (cL (v_ E.aJ.1) (ah (aX E.rE E.rD)) (aF (j := 4) rfl)) bT))))) (aM rfl)) (t2 := .sh (v7 (J7 s))) rfl) rfl
theorem fc : kM (ao g6) ([("branch", au), ("LEAF", av), ("ASKED", av), ("PICKED", av), ("HELD", av)]) = true := by decide +kernel
theorem nQ : aU ["branch"] ["branch"] (ao g6) := bq
noncomputable abbrev iM : Stmt := top 11
noncomputable abbrev kT : Type := List L3.D × List L3.D × L3.D × List L3.D × List L3.D × List cE × Nat × cE
noncomputable def gw : kT -> List L3.D := fun (bs, nm, tr, is, os, ws, k, w) => [kN bs nm tr is os (ws.map dP), .int k]
noncomputable def fh : kT -> Prop := fun (bs, nm, tr, is, os, ws, k, w) => ws[k]? = some w /\ w.asks.length <= 1000 /\ D.bV w.asks = true /\ ∀ d ∈ w.asks, ∃ x r, d = .tup (.str x :: r)
noncomputable def gy : kT -> T := fun (bs, nm, tr, is, os, ws, k, w) => (.sh (.tup (xE w.asks)) : T)
structure zH (X : Cx) (CL : Str -> Addr) : Prop extends cK X where
 dN : Ln X 0 "chart"
 dW : Ln X 1 "way"
 dJ : Gl X "tuple"
 HY : Gl X "ASKS"
 dM : X.mg "tuple" = none
 HZ : ∃ u, X.mg "ASKS" = some (.int 2 u)
 eo : Aj X.K (CL "Chart")
 fQ : bY X.K (CL "Chart") "ways"
theorem zI {X : Cx} {CL : Str -> Addr} {b : Bx} (E : zH X CL) (bs nm tr is os ws k w) (h : fh (bs, nm, tr, is, os, ws, k, w)) :
   aD X CL b iM ["chart", "way"] (gw (bs, nm, tr, is, os, ws, k, w)) (gy (bs, nm, tr, is, os, ws, k, w)) := by
 dsimp only [aD, fh, gw, gy] at h ⊢
 obtain ⟨hk, hl, hi, ha⟩ := h
 have GH : tN (ws.map dP) (k : Int) = some (dP w) := aF (by rw [ai5, hk]; rfl)
 refine bL (lK E.dM (SJ (aW (sy (p := fun d => !decide (d.at1.toS ∈ (["open", "shut"] : List Str))) (g := fun d => T.sh d) (cQ .nil (by decide +kernel)) E.g.calm (wR (cL (G9 (OB E.eo E.fQ (v_ E.dN.1) q8) (aE E.dW) GH) (ah (aX E.HZ E.HY)) rfl)) (.inr rfl) (fun C s0 H0 f0 b' d hd => ?E7) (ajy (cJ hl))) (t2 := .lst ((xE w.asks).map T.sh)) rfl) rfl) (vU fun d hd => wU hi d (ajD.mp hd).1) E.dJ) rfl
 case E7 =>
   obtain ⟨x, r, rfl⟩ := ha d hd
   exact ⟨(SW (x := x) (l := ["open", "shut"]) (aV (ah (v_ (eF (i := 0) rfl (by decide +kernel)))) (ah aj) (aF (j := 0) rfl)) (ah (d9 (aB bG (aB bG bT)) (aM rfl))) rfl rfl).1, fun _ => v_ (eF (i := 0) rfl (by decide +kernel))⟩
theorem g7 : kM (ao iM) ([("chart", au), ("way", au), ("tuple", av), ("ASKS", av)]) = true := by decide +kernel
theorem oN : aU ["chart", "way"] ["chart", "way"] (ao iM) := bq
noncomputable abbrev kg : Stmt := top 26
noncomputable abbrev oO : Type := za × Int
noncomputable def iN : oO -> List L3.D := fun (s, w) => [v7 s, .int w]
noncomputable def iO : oO -> Prop := fun (s, w) => s.pk.length <= 100000
noncomputable def iP : oO -> T := fun (s, w) => (.sh (v7 (M9 s w)) : T)
structure FD (X : Cx) (CL : Str -> Addr) : Prop extends cK X where
 aJ : Ln X 0 "branch"
 dW : Ln X 1 "way"
 fj : Ln X 2 "picked"
 gf : Gl X "PICKED"
 jh : Gl X "LEAF"
 vo : Gl X "WAY"
 iK : Gl X "ASKED"
 rD : Gl X "HELD"
 gi : ∃ u, X.mg "PICKED" = some (.int 3 u)
 ji : ∃ u, X.mg "LEAF" = some (.int 0 u)
 vp : ∃ u, X.mg "WAY" = some (.int 1 u)
 iL : ∃ u, X.mg "ASKED" = some (.int 2 u)
 rE : ∃ u, X.mg "HELD" = some (.int 4 u)
theorem FE {X : Cx} {CL : Str -> Addr} {b : Bx} (E : FD X CL) (s w) (h : iO (s, w)) :
   aD X CL b kg ["branch", "way", "picked"] (iN (s, w)) (iP (s, w)) := by
 dsimp only [aD, iO, iN, iP] at h ⊢
 have h : s.pk.length <= 100000 := h
 refine aO E.g E.fj (cL (v_ E.aJ.1) (ah (aX E.gi E.gf)) (aF (j := 3) rfl)) ?_
 refine r6 (fun δ => δ = [some (.sh (v7 s)), some (.sh (.int w)), some (.sh (.tup ((jf s.pk w).map .int)))]) (sf (l := s.pk) (aE E.dW) (aE E.fj) rfl rfl).1 (fun hp => ?_) (fun hp => ?_) ?_
 . have e : ¬ w ∈ s.pk := by
     rw [akC] at hp
     exact ai7 hp
   refine aO E.g E.fj (EW (v_ E.fj.1) (d9 (aB (v_ E.dW.1) bT) (aM rfl)) (List.cons_ne_nil _ _) (by rw [aiC, ajk]; show s.pk.length + 1 <= _; omega)) (aq ?_)
   unfold jf
   rw [aiG e, ajq]
   rfl
 . have e : w ∈ s.pk := by
     rw [aky] at hp
     exact aiU hp
   refine aq ?_
   unfold jf
   rw [aiI e]
   rfl
 rintro δ rfl
 exact bL (aW (d9 (aB (cL (v_ E.aJ.1) (ah (aX E.ji E.jh)) (aF (j := 0) rfl)) (aB (cL (v_ E.aJ.1) (ah (aX E.vp E.vo)) (aF (j := 1) rfl)) (aB (cL (v_ E.aJ.1) (ah (aX E.iL E.iK)) (aF (j := 2) rfl)) (aB (v_ E.fj.1) (aB (cL (v_ E.aJ.1) (ah (aX E.rE E.rD)) (aF (j := 4) rfl)) bT))))) (aM rfl)) (t2 := .sh (v7 (M9 s w))) rfl) rfl
theorem dX : kM (ao kg) ([("branch", au), ("way", au), ("picked", au), ("PICKED", av), ("LEAF", av), ("WAY", av), ("ASKED", av), ("HELD", av)]) = true := by decide +kernel
theorem sW : aU ["branch", "way", "picked"] ["branch", "way"] (ao kg) := bq
noncomputable abbrev iQ : Stmt := top 25
noncomputable abbrev kU : Type := za
noncomputable def gA : kU -> List L3.D := fun s => [v7 s]
noncomputable def gB : kU -> Prop := fun s => True
noncomputable def gC : kU -> T := fun s => (.sh (v7 (PD s)) : T)
structure zJ (X : Cx) (CL : Str -> Addr) : Prop extends cK X where
 aJ : Ln X 0 "branch"
 jh : Gl X "LEAF"
 vo : Gl X "WAY"
 iK : Gl X "ASKED"
 gf : Gl X "PICKED"
 rD : Gl X "HELD"
 ji : ∃ u, X.mg "LEAF" = some (.int 0 u)
 vp : ∃ u, X.mg "WAY" = some (.int 1 u)
 iL : ∃ u, X.mg "ASKED" = some (.int 2 u)
 gi : ∃ u, X.mg "PICKED" = some (.int 3 u)
 rE : ∃ u, X.mg "HELD" = some (.int 4 u)
theorem zK {X : Cx} {CL : Str -> Addr} {b : Bx} (E : zJ X CL) (s) (h : gB s) :
   aD X CL b iQ ["branch"] (gA s) (gC s) := by
 dsimp only [aD, gB, gA, gC] at h ⊢
 exact bL (aW (d9 (aB (cL (v_ E.aJ.1) (ah (aX E.ji E.jh)) (aF (j := 0) rfl)) (aB (cu (aV (aE E.aJ) (ah (aX E.vp E.vo)) (aF (j := 1) rfl)) (ah aj)) (aB (cL (v_ E.aJ.1) (ah (aX E.iL E.iK)) (aF (j := 2) rfl)) (aB (cL (v_ E.aJ.1) (ah (aX E.gi E.gf)) (aF (j := 3) rfl)) (aB (cL (v_ E.aJ.1) (ah (aX E.rE E.rD)) (aF (j := 4) rfl)) bT))))) (aM rfl)) (t2 := .sh (v7 (PD s))) rfl) rfl
theorem eN : kM (ao iQ) ([("branch", au), ("LEAF", av), ("WAY", av), ("ASKED", av), ("PICKED", av), ("HELD", av)]) = true := by decide +kernel
theorem oQ : aU ["branch"] ["branch"] (ao iQ) := bq
noncomputable abbrev kh : Stmt := top 27
noncomputable abbrev oR : Type := (List (Int × Bool)) × Int × Bool
noncomputable def iR : oR -> List L3.D := fun (hl, w, c) => [.jC (LZ hl), .int w, .bl c]
noncomputable def fz : oR -> Prop := fun (hl, w, c) => cD hl w = none /\ hl.length <= 10000
noncomputable def iS : oR -> T := fun (hl, w, c) => (.jC (LZ (hl ++ [(w, c)])) : T)
structure FG (X : Cx) (CL : Str -> Addr) : Prop extends cK X where
 kW : Ln X 0 "held"
 dW : Ln X 1 "way"
 CJ : Ln X 2 "holds"
 x6 : Ln X 3 "behind"
 ZH : Gl X "dict"
 ZI : X.mg "dict" = none
theorem FH {X : Cx} {CL : Str -> Addr} {b : Bx} (E : FG X CL) (hl w c) (h : fz (hl, w, c)) :
   aD X CL b kh ["held", "way", "holds", "behind"] (iR (hl, w, c)) (iS (hl, w, c)) := by
 dsimp only [aD, fz, iR, iS] at h ⊢
 obtain ⟨h1, h2⟩ := h
 refine aO E.g E.x6 (Pk E.ZI (v_ E.kW.1) E.ZH) ?_
 refine YQ (.inl w) E.u E.x6.1 (v_ E.CJ.1) (aE E.dW) rfl (by unfold LZ; rw [aiC]; omega) ?_
 refine bL (vM E.x6.1) ?_
 show T.jC _ = T.jC _
 rw [Ua c h1]
theorem g8 : kM (ao kh) ([("held", au), ("way", au), ("holds", au), ("behind", au), ("dict", av)]) = true := by decide +kernel
theorem sX : aU ["held", "way", "holds", "behind"] ["held", "way", "holds"] (ao kh) := bq
noncomputable def Qd (ws : List cE) : Prop := ∀ w ∈ ws, w.asks.length <= 100 /\ D.bV w.asks = true /\ (∀ d ∈ w.asks, ∃ x r, d = .tup (.str x :: r)) /\ xE w.asks = (M8 w).map jr
theorem Qd.len {ws : List cE} (h : Qd ws) (k : Int) : (mS ws k).length <= 100 := by
 unfold mS
 by_cases hk : k.toNat < ws.length
 . rw [aiK, aiL hk]
   have g := h ws[k.toNat] (ajU _)
   have e := congrArg List.length g.2.2.2
   rw [aiC] at e
   have := ajJ (fun d : L3.D => !decide (d.at1.toS ∈ (["open", "shut"] : List Str))) ws[k.toNat].asks
   unfold xE at e
   show (M8 ws[k.toNat]).length <= 100
   omega
 . rw [aiK, ako (by omega)]
   exact ai9 _
noncomputable def A0 (R : List (List Int)) : L3.D := .lst (R.map fun l => L3.D.lst (l.map .int))
noncomputable abbrev qm : Stmt := top 23
noncomputable abbrev uv : Type := List L3.D × List L3.D × L3.D × List L3.D × List L3.D × List cE × List (List Int) × za
noncomputable def ki : uv -> List L3.D := fun (bs, nm, tr, is, os, ws, R, s) => [kN bs nm tr is os (ws.map dP), A0 R, v7 s]
noncomputable def i9 : uv -> Prop := fun (bs, nm, tr, is, os, ws, R, s) => s.i < R.length /\ s.j <= (R.getD s.i []).length /\ (s.qs.length <= 1000000 /\ s.pk.length <= 10000 /\ s.hl.length <= 10000) /\ (∀ l ∈ R, ∀ w ∈ l, 0 <= w /\ w < (ws.length : Int)) /\ Qd ws
noncomputable def ko : uv -> T := fun (bs, nm, tr, is, os, ws, R, s) => (.lst (((PF ws R s).map v7).map T.sh) : T)
structure Mi (X : Cx) (CL : Str -> Addr) : Prop extends cK X where
 dN : Ln X 0 "chart"
 uw : Ln X 1 "rows"
 aJ : Ln X 2 "branch"
 dW : Ln X 3 "way"
 eL : Ln X 4 "asks"
 kW : Ln X 5 "held"
 A1 : Ln X 6 "holding"
 A2 : Ln X 7 "failing"
 vo : Gl X "WAY"
 cy : Gl X "len"
 jh : Gl X "LEAF"
 eO : Gl X "at_next_leaf"
 kX : Gl X "number_asks"
 rD : Gl X "HELD"
 ja : Gl X "with_pick"
 iT : Gl X "at_next_way"
 iK : Gl X "ASKED"
 gf : Gl X "PICKED"
 kr : Gl X "with_held"
 vp : ∃ u, X.mg "WAY" = some (.int 1 u)
 b8 : X.mg "len" = none
 ji : ∃ u, X.mg "LEAF" = some (.int 0 u)
 g9 : Fc X CL "at_next_leaf" 1 1 fS fU fV
 zL : Fc X CL "number_asks" 1 2 gw fh gy
 rE : ∃ u, X.mg "HELD" = some (.int 4 u)
 oS : Fc X CL "with_pick" 1 2 iN iO iP
 qO : Fc X CL "at_next_way" 1 1 gA gB gC
 iL : ∃ u, X.mg "ASKED" = some (.int 2 u)
 gi : ∃ u, X.mg "PICKED" = some (.int 3 u)
 vq : Fc X CL "with_held" 1 3 iR fz iS
theorem Mj {X : Cx} {CL : Str -> Addr} {b : Bx} (E : Mi X CL) (bs nm tr is os ws R s) (h : i9 (bs, nm, tr, is, os, ws, R, s)) :
   aD X CL b qm ["chart", "rows", "branch", "way", "asks", "held", "holding", "failing"] (ki (bs, nm, tr, is, os, ws, R, s)) (ko (bs, nm, tr, is, os, ws, R, s)) := by
 dsimp only [aD, i9, ki, ko] at h ⊢
 obtain ⟨hi, hj, ⟨hq, hp, hh⟩, hR, hA⟩ := h
 have GH : tN (R.map fun l => L3.D.lst (l.map .int)) (s.i : Int) = some (.lst ((R.getD s.i []).map .int)) := (iB (f := fun l : List Int => L3.D.lst (l.map .int)) [] (by omega) (by omega)).trans (by rw [ajn])
 show fq X CL b _ _ { nx := _, rt := fun Hq _ => Hq = T.lst (((PF ws R s).map v7).map T.sh), bk := _, ct := _ }
 unfold PF
 have hl : ((R.getD s.i []).map L3.D.int).length = (R.getD s.i []).length := aiC ..
 have hp2 : s.pk.length <= 100000 := by omega
 refine dc (eB (aV (aE E.aJ) (ah (aX E.vp E.vo)) (aF (j := 1) rfl)) (ah (di hl E.b8 (bZ (aE E.uw) (aV (aE E.aJ) (ah (aX E.ji E.jh)) (aF (j := 0) rfl)) GH) E.cy))).1 (fun hc => ?_) (fun hc => aq ?_)
 . have hc : (s.j : Int) = ((R.getD s.i []).length : Nat) := aiU hc
   rw [aiI (by omega)]
   exact bL (dF (bu (cF s E.g9 E.eO (aB (v_ E.aJ.1) bT) trivial) cO) (aM rfl)) rfl
 have hc : ¬ (s.j : Int) = ((R.getD s.i []).length : Nat) := ai7 hc
 rw [aiG (by omega)]
 have pS : s.j < (R.getD s.i []).length := by omega
 have afh : tN ((R.getD s.i []).map L3.D.int) (s.j : Int) = some (.int ((R.getD s.i []).getD s.j 0)) := (fJ (by omega) (by omega)).trans (by rw [ajn])
 obtain ⟨w0', w1⟩ : 0 <= (R.getD s.i []).getD s.j 0 /\ (R.getD s.i []).getD s.j 0 < (ws.length : Int) := by
   refine hR (R.getD s.i []) ?_ _ ?_
   . rw [aiK, aiL hi]
     exact ajU _
   . rw [aiK (l := R.getD s.i []), aiL pS]
     exact ajU _
 refine aO E.g E.dW (fY (bZ (bZ (aE E.uw) (aV (aE E.aJ) (ah (aX E.ji E.jh)) (aF (j := 0) rfl)) GH) (aV (aE E.aJ) (ah (aX E.vp E.vo)) (aF (j := 1) rfl)) afh) rfl) ?_
 generalize (R.getD s.i []).getD s.j 0 = w at w0' w1 ⊢
 have hwm : ws.getD w.toNat w0 ∈ ws := by
   rw [aiK, aiL (by omega)]
   exact ajU _
 obtain ⟨a1, a2, a3, a4⟩ := hA _ hwm
 have Ml : ws[w.toNat]? = some (ws.getD w.toNat w0) := by rw [aiK, aiL (by omega)]; rfl
 have hqi : D.bV ((mS ws w).map jr) = true := dg (fun _ => rfl) _
 have hql := hA.len w
 have ea : xE (ws.getD w.toNat w0).asks = (mS ws w).map jr := a4
 refine aO E.g E.eL (aW (c_ (bs, nm, tr, is, os, ws, w.toNat, ws.getD w.toNat w0) E.zL E.kX (ai (aE E.dN) (ai (uZ (aE E.dW) (congrArg L3.D.int (show w = ((w.toNat : Nat) : Int) by omega))) aN)) (by dsimp only [fh]; exact ⟨Ml, by omega, a2, a3⟩) (by show D.bV (xE _) = true; rw [ea]; exact hqi)) (t2 := .sh (.tup ((mS ws w).map jr))) (by show T.sh (.tup (xE _)) = _; rw [ea])) ?_
 refine aO E.g E.kW (cL (v_ E.aJ.1) (ah (aX E.rE E.rD)) (aF (j := 4) rfl)) ?_
 have Kq : ∀ {b : Bool}, (decide ((((mS ws w).map jr).length : Int) = 0)) = b -> (b = true ↔ mS ws w = []) := fun e => by
   subst e
   rw [aiC, ajY]
   constructor
   . intro z; exact akl (by omega)
   . intro z; rw [z]; rfl
 have hv := T9 s.hl w
 cases hlk : cD s.hl w with
 | some c =>
   have FI : vH (LZ s.hl) (.inl w) = some (.bl c) := by rw [hv, hlk]; rfl
   refine dc (jD (qF (eB (ah (jZ E.b8 (aE E.eL) E.cy)) (ah aj)).1 (fun _ => kJ (jD (gE (BG (.inl w) E.u (aE E.dW) (aE E.kW) rfl) (fun _ => jY (f6 (fY (Ti (.inl w) E.u (aE E.kW) (aE E.dW) FI) rfl)))))))) (fun hc => ?_) (fun hc => aq ?_)
   . rw [FI] at hc
     have Ej : mS ws w = [] \/ some c = some true := by
       cases c with
       | true => exact .inr rfl
       | false =>
         rw [Bool.and_false, Bool.or_false] at hc
         exact .inl ((Kq rfl).mp hc)
     rw [aiI Ej]
     exact bL (dF (bu (cF (M9 s w) E.g9 E.eO (aB (cF (s, w) E.oS E.ja (aB (v_ E.aJ.1) (aB (v_ E.dW.1) bT)) hp2) bT) trivial) cO) (aM rfl)) rfl
   . rw [FI] at hc
     have hc1 : ¬ mS ws w = [] := fun z => by
       rw [(Kq rfl).mpr z] at hc
       cases hc
     have hc3 : c = false := by
       cases c with
       | true => rw [Option.isSome_some, Bool.and_true, Bool.or_true] at hc; cases hc
       | false => rfl
     subst hc3
     rw [aiG (fun z => z.elim hc1 (fun z => by cases z)), aiI rfl]
     refine dc (BG (.inl w) E.u (aE E.dW) (aE E.kW) rfl) (fun _ => ?_) (fun hz => by rw [FI] at hz; cases hz)
     exact bL (dF (bu (cF s E.qO E.iT (aB (v_ E.aJ.1) bT) trivial) cO) (aM rfl)) rfl
 | none =>
   have FI : vH (LZ s.hl) (.inl w) = none := by rw [hv, hlk]; rfl
   refine dc (jD (qF (eB (ah (jZ E.b8 (aE E.eL) E.cy)) (ah aj)).1 (fun _ => kJ (jD (gE (q := false) (BG (.inl w) E.u (aE E.dW) (aE E.kW) rfl) (fun hz => by rw [FI] at hz; cases hz)))))) (fun hc => ?_) (fun hc => aq ?_)
   . rw [FI] at hc
     have Ej : mS ws w = [] := by
       rw [Bool.and_false, Bool.or_false] at hc
       exact (Kq rfl).mp hc
     rw [aiI (.inl Ej)]
     exact bL (dF (bu (cF (M9 s w) E.g9 E.eO (aB (cF (s, w) E.oS E.ja (aB (v_ E.aJ.1) (aB (v_ E.dW.1) bT)) hp2) bT) trivial) cO) (aM rfl)) rfl
   . have hc1 : ¬ mS ws w = [] := fun z => by
       rw [(Kq rfl).mpr z] at hc
       cases hc
     rw [aiG (fun z => z.elim hc1 (fun z => by cases z)), aiG (fun z => by cases z)]
     refine dc (BG (.inl w) E.u (aE E.dW) (aE E.kW) rfl) (fun hz => by rw [FI] at hz; cases hz) (fun _ => aq ?_)
     have tU : ∀ c : Bool, fz (s.hl, w, c) := fun c => by dsimp only [fz]; exact ⟨hlk, hh⟩
     have tP : (mS ws w).map jr ≠ [] := fun z => hc1 (List.map_eq_nil_iff.mp z)
     refine aO E.g E.A1 (pP (d := v7 ⟨s.i, s.j, s.qs ++ mS ws w, s.pk, s.hl ++ [(w, true)]⟩) (wN (bu (cL (v_ E.aJ.1) (ah (aX E.ji E.jh)) (aF (j := 0) rfl)) (bu (cL (v_ E.aJ.1) (ah (aX E.vp E.vo)) (aF (j := 1) rfl)) (bu (EW (cL (v_ E.aJ.1) (ah (aX E.iL E.iK)) (aF (j := 2) rfl)) (v_ E.eL.1) tP (by rw [aiC, aiC, ajk]; omega)) (bu (cL (v_ E.aJ.1) (ah (aX E.gi E.gf)) (aF (j := 3) rfl)) (bu (aW (cF (s.hl, w, true) E.vq E.kr (aB (v_ E.kW.1) (aB (v_ E.dW.1) (aB lG bT))) (tU true)) (t2 := .jC (LZ (s.hl ++ [(w, true)]))) rfl) cO))))) (aM rfl)) (by
       rw [T.dQ, T.dD, T.dD, T.dD, T.dD, T.dD, T.dD, T.dQ, T.dQ, T.dQ, T.dQ, T.dQ, ← ajq]
       rfl)) ?_
     refine aO E.g E.A2 (pP (d := v7 ⟨s.i, s.j, s.qs, s.pk, s.hl ++ [(w, false)]⟩) (wN (bu (cL (v_ E.aJ.1) (ah (aX E.ji E.jh)) (aF (j := 0) rfl)) (bu (cL (v_ E.aJ.1) (ah (aX E.vp E.vo)) (aF (j := 1) rfl)) (bu (cL (v_ E.aJ.1) (ah (aX E.iL E.iK)) (aF (j := 2) rfl)) (bu (cL (v_ E.aJ.1) (ah (aX E.gi E.gf)) (aF (j := 3) rfl)) (bu (aW (cF (s.hl, w, false) E.vq E.kr (aB (v_ E.kW.1) (aB (v_ E.dW.1) (aB lG bT))) (tU false)) (t2 := .jC (LZ (s.hl ++ [(w, false)]))) rfl) cO))))) (aM rfl)) (by
       rw [T.dQ, T.dD, T.dD, T.dD, T.dD, T.dD, T.dD, T.dQ, T.dQ, T.dQ, T.dQ, T.dQ]
       rfl)) ?_
     exact bL (dF (bu (cF ⟨s.i, s.j, s.qs, s.pk, s.hl ++ [(w, false)]⟩ E.qO E.iT (aB (v_ E.A2.1) bT) trivial) (bu (cF (M9 ⟨s.i, s.j, s.qs ++ mS ws w, s.pk, s.hl ++ [(w, true)]⟩ w) E.g9 E.eO (aB (cF ((⟨s.i, s.j, s.qs ++ mS ws w, s.pk, s.hl ++ [(w, true)]⟩ : za), w) E.oS E.ja (aB (v_ E.A1.1) (aB (v_ E.dW.1) bT)) (by exact hp2)) bT) trivial) cO)) (aM rfl)) rfl
theorem bK : kM (ao qm) ([("chart", au), ("rows", au), ("branch", au), ("way", au), ("asks", au), ("held", au), ("holding", au), ("failing", au), ("WAY", av), ("len", av), ("LEAF", av), ("at_next_leaf", av), ("number_asks", av), ("HELD", av), ("with_pick", av), ("at_next_way", av), ("ASKED", av), ("PICKED", av), ("with_held", av)]) = true := by decide +kernel
theorem x8 : aU ["chart", "rows", "branch", "way", "asks", "held", "holding", "failing"] ["chart", "rows", "branch"] (ao qm) := bq
noncomputable abbrev wC : Stmt := top 7
noncomputable abbrev CK : Type := List Str × List Int × List Int × Int
noncomputable def qo : CK -> List L3.D := fun (ks, es, ss, m) => [oh ks es ss, .int m]
noncomputable def mC : CK -> Prop := fun (ks, es, ss, m) => jd es /\ 0 <= m /\ m < es.length /\ es.length <= 1000
noncomputable def qp : CK -> T := fun (ks, es, ss, m) => (.lst (((gP es m).map .int).map T.sh) : T)
structure UG (X : Cx) (CL : Str -> Addr) : Prop extends cK X where
 rC : Ln X 0 "tree"
 rq : Ln X 1 "mood"
 bQ : Ln X 2 "found"
 iI : Ln X 3 "elder"
 kQ : Aj X.K (CL "Tree")
 iH : bY X.K (CL "Tree") "elders"
theorem UH {X : Cx} {CL : Str -> Addr} {b : Bx} (E : UG X CL) (ks es ss m) (h : mC (ks, es, ss, m)) :
   aD X CL b wC ["tree", "mood", "found", "elder"] (qo (ks, es, ss, m)) (qp (ks, es, ss, m)) := by
 dsimp only [aD, mC, qo, qp] at h ⊢
 obtain ⟨ht, h0, h1, hlen⟩ := h
 refine aO E.g E.bQ (dF cO (ai9 _)) ?_
 refine aO E.g E.iI (fY (bZ (t9 E.kQ E.iH (aE E.rC) vd) (aE E.rq) (fJ h0 h1)) rfl) ?_
 have hm := ht.at h0 h1
 refine Bw E.g (fun n δ => ∃ (k : Int) (l : List Int), δ = [some (.sh (oh ks es ss)), some (.sh (.int m)), some (.lst ((l.map .int).map T.sh)), some (.sh (.int k))] /\ -1 <= k /\ k < n /\ k < es.length /\ l ++ vY n es k = gP es m /\ l.length + n <= es.length + 1) (es.length + 1)
   ⟨es.getD m.toNat 0, [], rfl, hm.1, by omega, by omega, rfl, by simp⟩ ?_
 rintro n δ ⟨k, l, rfl, k0, k1, k2, k3, k4⟩
 refine ⟨_, _, (tY (aE E.iI) (ah (qW (ah aj)))).1, fun hp => ?_, fun hp => ?_⟩
 . have hk : ¬ k = -1 := by simpa using hp
   have ha := ht.at (k := k) (by omega) k2
   cases n with
   | zero => omega
   | succ n =>
     refine iy E.bQ.1 rfl (v_ E.iI.1) rfl (by simp; omega) ?_
     refine aO E.g E.iI (fY (bZ (t9 E.kQ E.iH (aE E.rC) vd) (aE E.iI) (fJ (by omega) k2)) rfl) ?_
     refine aq ⟨n, Nat.lt_succ_self _, es.getD k.toNat 0, l ++ [k], ?_, ha.1, by omega, by omega, ?_, by simp; omega⟩
     . show [_, _, some (T.lst (((l.map D.int).map T.sh) ++ [T.sh (.int k)])), _] = _
       simp
     . rw [← k3, vY, aiG hk, aiM]
       rfl
 . have hk : k = -1 := by simpa using hp
   subst hk
   have e : l = gP es m := by
     rw [← k3]
     cases n with
     | zero => rw [vY, ai6]
     | succ n => rw [vY, aiI rfl, ai6]
   subst e
   exact bL (vM E.bQ.1) rfl
theorem sY : kM (ao wC) ([("tree", au), ("mood", au), ("found", au), ("elder", au)]) = true := by decide +kernel
theorem FJ : aU ["tree", "mood", "found", "elder"] ["tree", "mood"] (ao wC) := bq
noncomputable abbrev CM : Stmt := top 10
noncomputable abbrev Ic : Type := List lN × List Int
noncomputable def sZ : Ic -> List L3.D := fun (l, ops) => [.tup (l.map fM), .lst (ops.map .int)]
noncomputable def oU : Ic -> Prop := fun (l, ops) => ∀ a ∈ l, a.T3
noncomputable def tu : Ic -> T := fun (l, ops) => (.sh (.bl (j4 ops (l.map fM))) : T)
structure ZJ (X : Cx) (CL : Str -> Addr) : Prop extends cK X where
 eL : Ln X 0 "asks"
 bJ : Ln X 1 "opens"
 fW : Ln X 2 "ask"
theorem ZK {X : Cx} {CL : Str -> Addr} {b : Bx} (E : ZJ X CL) (l ops) (h : oU (l, ops)) :
   aD X CL b CM ["asks", "opens", "ask"] (sZ (l, ops)) (tu (l, ops)) := by
 dsimp only [aD, oU, sZ, tu] at h ⊢
 show fq X CL b _ _ { nx := _, rt := fun Hq _ => Hq = T.sh (.bl (j4 ops (l.map fM))), bk := _, ct := _ }
 refine gJ E.g E.fW (fun j δ => ∃ o, (∀ d ∈ (l.map fM).take j, zq ops d = true) /\ δ = [some (.sh (.tup (l.map fM))), some (.sh (.lst (ops.map .int))), o])
   (wR (v_ E.eL.1)) ⟨_, fun x hx => by simp at hx, rfl⟩ (fun j δ ⟨_, _, e⟩ => by subst e; exact aiJ rfl) ?turn ?fin
 case turn =>
   rintro j d δ hj ⟨o, tP, rfl⟩
   have JV : (l.map fM).take (j + 1) = (l.map fM).take j ++ [d] := by rw [ake, hj]; rfl
   have hdm : d ∈ l.map fM := ajj hj
   have no : zq ops d = false -> j4 ops (l.map fM) = false := fun e => List.all_eq_false.mpr ⟨d, hdm, by rw [e]; decide⟩
   obtain ⟨a, ha, rfl⟩ := ai8.mp hdm
   have hk := h a ha
   have nxt : zq ops (fM a) = true -> ∀ y ∈ (l.map fM).take (j + 1), zq ops y = true := fun e y hy => by
     rw [JV] at hy
     rcases aiO.mp hy with hy | hy
     . exact tP y hy
     . rw [ajb.mp hy]; exact e
   cases a with
   | num mk b1 m1 b2 m2 =>
     obtain ⟨n1, n2⟩ := J2 hk
     refine dc (jD (gE (q := false) (fC (aV (aE E.fW) (ah aj) rfl) (ah bG)).1 (fun hb => absurd (aiU hb) n1))) (fun hp => by simp at hp) (fun _ => aq ?_)
     refine dc (jD (gE (q := false) (fC (aV (aE E.fW) (ah aj) rfl) (ah bG)).1 (fun hb => absurd (aiU hb) n2))) (fun hp => by simp at hp) (fun _ => aq (aq ⟨_, nxt rfl, rfl⟩))
   | rg op m =>
     have hf := E3 ops op m
     refine dc (jD (gE (fC (aV (aE E.fW) (ah aj) rfl) (ah bG)).1 (fun _ => jY (sf (aV (aE E.fW) (ah aj) rfl) (aE E.bJ) rfl rfl).1))) (fun hp => ?_) (fun hp => aq ?_)
     . have hp : (decide ((if op = true then ("open" : Str) else "shut") = "open") && !decide (m ∈ ops)) = true := hp
       refine bL lG ?_
       rw [no]
       rw [hf]
       cases op with
       | false => exact absurd hp (by rw [show decide ((if false = true then ("open" : Str) else "shut") = "open") = false by decide +kernel]; simp)
       | true => rw [Bool.and_eq_true] at hp; simpa using hp.2
     have hp : (decide ((if op = true then ("open" : Str) else "shut") = "open") && !decide (m ∈ ops)) = false := hp
     refine dc (jD (gE (fC (aV (aE E.fW) (ah aj) rfl) (ah bG)).1 (fun _ => jY (vW (aV (aE E.fW) (ah aj) rfl) (aE E.bJ) rfl rfl).1))) (fun hq => ?_) (fun hq => aq (aq ⟨_, nxt ?_, rfl⟩))
     . have hq : (decide ((if op = true then ("open" : Str) else "shut") = "shut") && decide (m ∈ ops)) = true := hq
       refine bL lG ?_
       rw [no]
       rw [hf]
       cases op with
       | true => exact absurd hq (by rw [show decide ((if true = true then ("open" : Str) else "shut") = "shut") = false by decide +kernel]; simp)
       | false => rw [Bool.and_eq_true] at hq; simpa using hq.2
     . have hq : (decide ((if op = true then ("open" : Str) else "shut") = "shut") && decide (m ∈ ops)) = false := hq
       rw [hf]
       cases op with
       | true => rw [show decide ((if true = true then ("open" : Str) else "shut") = "open") = true by decide +kernel, Bool.true_and] at hp; simpa using hp
       | false => rw [show decide ((if false = true then ("open" : Str) else "shut") = "shut") = true by decide +kernel, Bool.true_and] at hq; simpa using hq
 case fin =>
   rintro δ ⟨o, tP, rfl⟩
   rw [ajT] at tP
   refine bL lG ?_
   rw [show j4 ops (l.map fM) = true from ajB.mpr tP]
theorem CN : kM (ao CM) ([("asks", au), ("opens", au), ("ask", au)]) = true := by decide +kernel
theorem Kr : aU ["asks", "opens", "ask"] ["asks", "opens"] (ao CM) := bq
noncomputable abbrev tD : Stmt := top 9
noncomputable abbrev x9 : Type := List L3.D × List L3.D × List Str × List Int × List Int × List L3.D × List L3.D × List cE × List Int × Int × Str
noncomputable def nj : x9 -> List L3.D := fun (bs, nm, ks, es, ss, is, os, ws, ops, leaf, sg) => [kN bs nm (oh ks es ss) is os (ws.map dP), .lst (ops.map .int), .int leaf, .str sg]
noncomputable def jO : x9 -> Prop := fun (bs, nm, ks, es, ss, is, os, ws, ops, leaf, sg) => jd es /\ es.length <= 900 /\ 0 <= leaf /\ leaf < es.length /\ ws.length <= 63 /\ xD ws
noncomputable def nq : x9 -> T := fun (bs, nm, ks, es, ss, is, os, ws, ops, leaf, sg) => (.lst (((J3 ws ops sg (leaf :: gP es leaf)).map .int).map T.sh) : T)
structure Qe (X : Cx) (CL : Str -> Addr) : Prop extends cK X where
 dN : Ln X 0 "chart"
 ni : X.env.kindOf "chart" = some .cell
 bJ : Ln X 1 "opens"
 CP : Ln X 2 "leaf"
 iF : Ln X 3 "sign"
 bQ : Ln X 4 "found"
 dH : Ln X 5 "number"
 dW : Ln X 6 "way"
 Ie : Ln X 7 "line"
 ZL : X.env.kindOf "line" = some .cell
 CQ : Gl X "above"
 FL : Gl X "enumerate"
 ZM : Gl X "SIGN"
 Qf : Gl X "SOURCE"
 Ig : Gl X "fits"
 HY : Gl X "ASKS"
 xU : Gl X "sorted"
 UI : Fc X CL "above" 1 2 qo mC qp
 FN : X.mg "enumerate" = none
 ZN : ∃ u, X.mg "SIGN" = some (.int 1 u)
 FP : ∃ u, X.mg "SOURCE" = some (.int 0 u)
 ZO : Fc X CL "fits" 1 2 sZ oU tu
 HZ : ∃ u, X.mg "ASKS" = some (.int 2 u)
 xV : X.mg "sorted" = none
 eo : Aj X.K (CL "Chart")
 fQ : bY X.K (CL "Chart") "ways"
 gZ : bY X.K (CL "Chart") "tree"
 lam : Tr X CL "#goable.<locals>.<lambda>" "goable.<locals>.<lambda>"
 dp : X.A.depth < recursionLimit
 rm : fF 1 X.A
theorem Qg {X : Cx} {CL : Str -> Addr} {b : Bx} (E : Qe X CL) (bs nm ks es ss is os ws ops leaf sg) (h : jO (bs, nm, ks, es, ss, is, os, ws, ops, leaf, sg)) :
   aD X CL b tD ["chart", "opens", "leaf", "sign", "found", "number", "way", "line"] (nj (bs, nm, ks, es, ss, is, os, ws, ops, leaf, sg)) (nq (bs, nm, ks, es, ss, is, os, ws, ops, leaf, sg)) := by
 dsimp only [aD, jO, nj, nq] at h ⊢
 obtain ⟨ht, hl, f0, f1, JD, RB⟩ := h
 have hcl : (gP es leaf).length <= es.length + 1 := BO _ _ _
 have er : ([L3.D.int leaf] ++ (gP es leaf).map L3.D.int) = (leaf :: gP es leaf).map L3.D.int := rfl
 refine aO E.g E.Ie (aW (JR (ds := [.int leaf]) (zm := (gP es leaf).map .int) (dZ (ds := [.int leaf]) (dF (bu (v_ E.CP.1) cO) (aM rfl))) (dZ (c_ (ks, es, ss, leaf) E.UI E.CQ (ai (t9 E.eo E.gZ (aE E.dN) xA) (ai (aE E.CP) aN)) (by dsimp only [mC]; exact ⟨ht, f0, f1, by omega⟩) (cG _))) rfl (dU _) (Nat.le_of_lt (cJ (by simp; omega)))) (t2 := .lst (((leaf :: gP es leaf).map .int).map T.sh)) rfl) ?_
 generalize leaf :: gP es leaf = ln
 refine aO E.g E.bQ (dF cO (ai9 _)) ?_
 have aI : ∀ (l : List Int) (x : Int), (l.map L3.D.int).map T.sh ++ [T.sh (.int x)] = ((l ++ [x]).map L3.D.int).map T.sh := by intros; simp
 refine Yz E.g (SX E.g.nd E.g.calm E.dH E.dW) (fun j δ => ∃ o5 o6, δ = [some (.sh (kN bs nm (oh ks es ss) is os (ws.map dP))), some (.sh (.lst (ops.map .int))), some (.sh (.int leaf)), some (.sh (.str sg)), some (.lst ((((Py ws ops sg ln j).map fun (k : Nat) => (k : Int)).map .int).map T.sh)), o5, o6, some (.lst ((ln.map .int).map T.sh))])
   (OV (f := dP) (l := ws) w0 E.FN (OB E.eo E.fQ (v_ E.dN.1) q8) E.FL) ⟨_, _, rfl⟩ (fun j δ ⟨_, _, e⟩ => by subst e; intro i hi; simp only [aiN, ajp, or_false] at hi; rcases hi with rfl | rfl <;> exact aiJ rfl) ?turn ?fin
 case turn =>
   rintro j d δ hj ⟨o5, o6, rfl⟩
   obtain ⟨i, rfl, hi, him, hil, _, _⟩ := qX hj
   have ei : i = j := by
     rw [List.getElem?_range (by simpa using (List.getElem?_eq_some_iff.mp hi).1)] at hi
     exact (aiZ hi).symm
   subst ei
   have hil : i < ws.length := ajr.mp him
   refine ⟨_, rfl, ?_⟩
   obtain ⟨w, hw⟩ : ∃ w, ws.getD i w0 = w := ⟨_, rfl⟩
   have hwm : w ∈ ws := by rw [← hw, aiK, aiL hil]; exact ajU _
   obtain ⟨al, RA, hao⟩ := RB w hwm
   show fq X CL b _ _ { nx := fun δ => ∃ o5 o6, δ = [_, _, _, _, some (.lst ((((Py ws ops sg ln (i + 1)).map fun (k : Nat) => (k : Int)).map .int).map T.sh)), o5, o6, _], rt := _, bk := _, ct := _ }
   rw [Pz, hw]
   have hfl := B3 ws ops sg ln i
   generalize Py ws ops sg ln i = fl at hfl ⊢
   refine dc (jD (gE (fC (aV (aE E.dW) (ah (aX E.ZN E.ZM)) (aF (j := 1) rfl)) (aE E.iF)).1 (fun _ => gE (vW (aV (aE E.dW) (ah (aX E.FP E.Qf)) (aF (j := 0) rfl)) (vL E.Ie.1) rfl rfl).1 (fun _ => jY (f6 (aW (c_ (al, ops) E.ZO E.Ig (ai (uZ (aV (aE E.dW) (ah (aX E.HZ E.HY)) (aF (j := 2) rfl)) (congrArg L3.D.tup RA)) (ai (aE E.bJ) aN)) (by dsimp only [oU]; exact hao) rfl) (t2 := .sh (.bl (j4 ops w.asks))) (by rw [RA]; rfl))))))) (fun hp => ?_) (fun hp => aq (aq ?_))
   . have hp : T4 ops sg ln w = true := hp
     refine iy E.bQ.1 rfl (v_ E.dH.1) rfl (by simp; omega) (aq (aq ?_))
     rw [aI, aiI hp, ajq]
     exact ⟨_, _, rfl⟩
   . have hp : T4 ops sg ln w = false := hp
     rw [aiG (by rw [hp]; decide), ai6]
     exact ⟨_, _, rfl⟩
 case fin =>
   rintro δ ⟨o5, o6, rfl⟩
   rw [aiC, ajC]
   have hfl := B3 ws ops sg ln ws.length
   have OQ : ∀ {k : Nat}, k ∈ Py ws ops sg ln ws.length -> k < ws.length /\ (ws.getD k w0).src ∈ ln := fun hk => by
     obtain ⟨h1, h2⟩ := ajD.mp hk
     simp only [T4, ajm, ajY] at h2
     exact ⟨ajr.mp h1, h2.2.1⟩
   refine bL (aW (Hu (y := "way") (g := fun d => ((uo ln (ws.getD d.vG.toNat w0).src : Nat) : Int)) E.lam E.g E.dp E.xV E.xU (cQ (.cons E.dN.1 (.inl E.ni) (.cons E.Ie.1 (.inl E.ZL) .nil)) (by decide +kernel)) (vL E.bQ.1) (dU _) (by simp; omega) (fun f c s0 H0 b' d hd => ?key)) ?eq) rfl
   case key =>
     obtain ⟨x, hx, rfl⟩ := ai8.mp hd
     obtain ⟨k, hk, rfl⟩ := ai8.mp hx
     obtain ⟨k1, k2⟩ := OQ hk
     have GH : tN (ws.map dP) (k : Int) = some (dP (ws.getD k w0)) := (iB (f := dP) w0 (by omega) (by omega)).trans (by rw [ajn])
     refine ah (aW (Ph (l := ln) (j := uo ln (ws.getD k w0).src) (uZ (ah (v_ (O9 (i := 2) rfl (by decide +kernel)))) (dI _)) (aV (bZ (t9 (by exact E.eo) (by exact E.fQ) (ah (v_ (O9 (i := 1) rfl (by decide +kernel)))) q8) (ah (v_ (Y0 (i := 0) rfl (by decide +kernel)))) GH) (ah (aX (by exact E.FP) (Y3 (by decide +kernel)))) (aF (j := 0) rfl)) (BZ k2) (fun i hi => Zb hi)) ?_)
     show T.sh (.int _) = T.sh (.int ((uo ln (ws.getD (k : Int).toNat w0).src : Nat) : Int))
     rw [ajn]
   case eq =>
     rw [pR]
     rfl
theorem cz : kM (ao tD) ([("chart", .cell), ("opens", au), ("leaf", au), ("sign", au), ("found", au), ("number", au), ("way", au), ("line", .cell), ("above", av), ("enumerate", av), ("SIGN", av), ("SOURCE", av), ("fits", av), ("ASKS", av), ("sorted", av)]) = true := by decide +kernel
theorem A3 : aU ["chart", "opens", "leaf", "sign", "found", "number", "way", "line"] ["chart", "opens", "leaf", "sign"] (ao tD) := bq
noncomputable def dm (ws : List cE) (ops : List Int) (sg : Str) (es l : List Int) : List (List Int) := l.map fun m => J3 ws ops sg (m :: gP es m)
noncomputable def Qh (R : List (List Int)) : T := .lst (R.map fun l => T.lst ((l.map L3.D.int).map T.sh))
theorem yb : ∀ R : List (List Int), T.dD (R.map fun l => T.lst ((l.map L3.D.int).map T.sh)) = R.map fun l => L3.D.lst (l.map .int)
 | [] => by show T.dD [] = _; rw [T.dD]; rfl
 | l :: R => by
   show T.dD (T.lst ((l.map L3.D.int).map T.sh) :: R.map fun l => T.lst ((l.map L3.D.int).map T.sh)) = _
   rw [T.dD, dI, yb R]
   rfl
theorem A4 (R : List (List Int)) : (Qh R).dQ = A0 R := by unfold Qh A0; rw [T.dQ, yb]
theorem WX (R : List (List Int)) : tQ R ⟨0, 0, [], [], []⟩ = R := by
 unfold tQ
 cases R with
 | nil => rfl
 | cons l R => rfl
theorem yc {ws : List cE} {ops : List Int} {sg : Str} {es l : List Int} : ∀ r ∈ dm ws ops sg es l, (∀ w ∈ r, 0 <= w /\ w < (ws.length : Int)) /\ r.length <= ws.length := fun r hr => by
 obtain ⟨m, _, rfl⟩ := ai8.mp hr
 exact ⟨fun w hw => T8 hw, T6 _ _ _ _⟩
theorem ZP {R : List (List Int)} {k : Nat} (h : ∀ r ∈ R, r.length <= k) : sC R <= R.length * (k + 1) := by
 induction R with
 | nil => exact ai9 _
 | cons l R ih =>
   have := ih fun r hr => h r (aiE _ hr)
   have := h l aiF
   rw [dh, ai2, Nat.succ_mul]
   omega
noncomputable abbrev nu : Stmt := top 22
noncomputable abbrev rG : Type := List L3.D × List L3.D × List Str × List Int × List Int × List L3.D × List L3.D × List cE × List Int × Str × Nat
noncomputable def ju : rG -> List L3.D := fun (bs, nm, ks, es, ss, is, os, ws, ops, sg, mo) => [kN bs nm (oh ks es ss) is os (ws.map dP), .lst (ops.map .int), .str sg, .int mo]
noncomputable def ia : rG -> Prop := fun (bs, nm, ks, es, ss, is, os, ws, ops, sg, mo) => (jd es /\ es.length <= 900 /\ ks.length = es.length) /\ (ws.length <= 63 /\ xD ws /\ Qd ws) /\ (ops.length <= 30 /\ ∀ x ∈ ops, 0 <= x /\ x < (es.length : Int)) /\ (jl ws (dm ws ops sg es (iu ks ops)) [] [] []).length <= mo /\ mo <= 1000
noncomputable def jv : rG -> T := fun (bs, nm, ks, es, ss, is, os, ws, ops, sg, mo) => (.lst (((jl ws (dm ws ops sg es (iu ks ops)) [] [] []).map Ze).map T.sh) : T)
structure Ih (X : Cx) (CL : Str -> Addr) : Prop extends cK X where
 dN : Ln X 0 "chart"
 ni : X.env.kindOf "chart" = some .cell
 bJ : Ln X 1 "opens"
 CT : X.env.kindOf "opens" = some .cell
 iF : Ln X 2 "sign"
 ZQ : X.env.kindOf "sign" = some .cell
 Cp : Ln X 3 "most"
 uw : Ln X 4 "rows"
 bQ : Ln X 5 "found"
 qq : Ln X 6 "waiting"
 aJ : Ln X 7 "branch"
 kY : Gl X "open_leaves"
 jh : Gl X "LEAF"
 cy : Gl X "len"
 ux : Gl X "further"
 iK : Gl X "ASKED"
 gf : Gl X "PICKED"
 aa6 : Gl X "TooWide"
 zM : Fc X CL "open_leaves" 1 2 gq e9 gu
 ji : ∃ u, X.mg "LEAF" = some (.int 0 u)
 b8 : X.mg "len" = none
 Mm : Fc X CL "further" 2 3 ki i9 ko
 iL : ∃ u, X.mg "ASKED" = some (.int 2 u)
 gi : ∃ u, X.mg "PICKED" = some (.int 3 u)
 mD : Fc X CL "goable" 2 4 nj jO nq
theorem Ii {X : Cx} {CL : Str -> Addr} {b : Bx} (E : Ih X CL) (bs nm ks es ss is os ws ops sg mo) (h : ia (bs, nm, ks, es, ss, is, os, ws, ops, sg, mo)) :
   aD X CL b nu ["chart", "opens", "sign", "most", "rows", "found", "waiting", "branch"] (ju (bs, nm, ks, es, ss, is, os, ws, ops, sg, mo)) (jv (bs, nm, ks, es, ss, is, os, ws, ops, sg, mo)) := by
 dsimp only [aD, ia, ju, jv] at h ⊢
 obtain ⟨⟨ht, Mg, Ui⟩, ⟨JD, RB, hag⟩, ⟨hol, ho⟩, hmo, ahW⟩ := h
 have hlv : ∀ x ∈ iu ks ops, 0 <= x /\ x < (es.length : Int) := fun x hx => ho x (ajD.mp hx).1
 have hll : (iu ks ops).length <= ops.length := ajJ _ _
 refine qY (p := fun _ => true) (gg := fun d => T.lst (((J3 ws ops sg (d.vG :: gP es d.vG)).map L3.D.int).map T.sh)) E.g E.uw (cQ (.cons E.dN.1 (.inl E.ni) (.cons E.bJ.1 (.inl E.CT) (.cons E.iF.1 (.inl E.ZQ) .nil))) (by decide +kernel))
   (n6 (By (aW (c_ (bs, nm, ks, es, ss, is, os, ws.map dP, ops) E.zM E.kY (ai (aE E.dN) (ai (aE E.bJ) aN)) (by dsimp only [e9]; exact ⟨by omega, fun x hx => by rw [Ui]; exact ho x hx⟩) (cG _)) (t2 := .lst (((iu ks ops).map .int).map T.sh)) rfl))) (.inr rfl) (fun C s0 H0 f0 b' d hd => ?E7) (Nat.le_of_lt (cJ (by rw [List.length_map]; omega))) ?rest (by exact Nat.le_of_ble_eq_true rfl) (jG ⟨_, rfl⟩)
 case E7 =>
   obtain ⟨x, hx, rfl⟩ := ai8.mp hd
   obtain ⟨x0, x1⟩ := hlv x hx
   exact ⟨rfl, fun _ => aW (c_ (bs, nm, ks, es, ss, is, os, ws, ops, x, sg) (mL E.mD) (gR (by decide +kernel)) (ai (ah (v_ (gQ (i := 1) rfl (by decide +kernel)))) (ai (ah (v_ (gQ (i := 2) rfl (by decide +kernel)))) (ai (ah (v_ (eF (i := 0) rfl (by decide +kernel)))) (ai (ah (v_ (gQ (i := 3) rfl (by decide +kernel)))) aN)))) (by dsimp only [jO]; exact ⟨ht, by omega, x0, x1, JD, RB⟩) (cG _)) rfl⟩
 case rest =>
 have em : (((iu ks ops).map L3.D.int).filter fun _ => true).map (fun d => T.lst (((J3 ws ops sg (d.vG :: gP es d.vG)).map L3.D.int).map T.sh)) = (dm ws ops sg es (iu ks ops)).map fun l => T.lst ((l.map L3.D.int).map T.sh) := by
   rw [fL, ajh]
   unfold dm
   rw [ajh]
   rfl
 rw [em]
 have WY := yc (ws := ws) (ops := ops) (sg := sg) (es := es) (l := iu ks ops)
 have hRl : (dm ws ops sg es (iu ks ops)).length <= 30 := by unfold dm; rw [aiC]; omega
 generalize dm ws ops sg es (iu ks ops) = R at WY hRl hmo ⊢
 refine acs (i := 4) (d := A0 R) rfl (A4 R) ?_
 have hM : sC R <= 2000 := by
   have h1 := ZP (R := R) (k := ws.length) fun r hr => (WY r hr).2
   have h2 : R.length * (ws.length + 1) <= 30 * 64 := Nat.mul_le_mul hRl (by omega)
   omega
 refine aO E.g E.bQ (dF cO (ai9 _)) ?_
 refine aO E.g E.qq (aW (dF (bu (pP (d := v7 ⟨0, 0, [], [], []⟩) (wN (bu aj (bu aj (bu (d9 bT (aM rfl)) (bu (d9 bT (aM rfl)) (bu Tg cO))))) (aM rfl)) (by
   simp only [T.dQ, T.dD]
   rfl)) cO) (aM rfl)) (t2 := .lst ((([⟨0, 0, [], [], []⟩] : List za).map v7).map T.sh)) rfl) ?_
 generalize hE : jl ws R [] [] [] = EE at hmo ⊢
 refine Bw E.g (fun n δ => ∃ (W : List za) (F : List (List Ask × List Int)) (o : Option T), δ = [some (.sh (kN bs nm (oh ks es ss) is os (ws.map dP))), some (.sh (.lst (ops.map .int))), some (.sh (.str sg)), some (.sh (.int mo)), some (.sh (A0 R)), some (.lst ((F.map Ze).map T.sh)), some (.lst ((W.map v7).map T.sh)), o] /\ (∀ s ∈ W, L1 (sC R) 0 ws R s) /\ F ++ (W.reverse.map (RC ws R)).flatten = EE /\ n = (W.map (PJ R)).sum) _
   ⟨[⟨0, 0, [], [], []⟩], [], none, rfl, fun s hs => ?_, ?_, rfl⟩ ?_
 . rw [ajb.mp hs]
   have e := WX R
   exact ⟨ai9 _, ai9 _, by rw [e]; show 0 + _ <= _; omega, by rw [e]; show 0 + _ <= _; omega, by rw [e]; show 0 + _ <= _; omega⟩
 . show jl ws (tQ R ⟨0, 0, [], [], []⟩) [] [] [] ++ [] = EE
   rw [ai6, WX, hE]
 rintro n δ ⟨W, F, o, rfl, hW, hF, rfl⟩
 have hlen : F.length + W.length <= EE.length := by
   rw [← hF, aiT]
   have gen : ∀ l : List za, l.length <= ((l.map (RC ws R)).flatten).length := fun l => by
     induction l with
     | nil => exact ai9 _
     | cons s l ih =>
       have := Ub ws (tQ R s) s.qs s.pk s.hl
       rw [ai1, List.flatten_cons, aiT, ai2]
       show _ <= (jl ws (tQ R s) s.qs s.pk s.hl).length + _
       omega
   have := gen W.reverse
   rw [List.length_reverse] at this
   omega
 refine ⟨_, _, Y5 (vL E.qq.1), fun hp => ?_, fun hp => ?_⟩
 . have tP : W ≠ [] := fun z => by rw [z] at hp; cases hp
   obtain ⟨W, s, rfl⟩ : ∃ W' s, W = W' ++ [s] := ⟨W.dropLast, W.getLast tP, (List.dropLast_concat_getLast tP).symm⟩
   have eW : ((W ++ [s]).map v7).map T.sh = (W.map v7).map T.sh ++ [T.sh (v7 s)] := by simp
   rw [eW]
   refine YS E.g E.aJ (Y6 E.qq.1 rfl) ?_
   have hs := hW s (aiD _ aiF)
   have hW2 : ∀ t ∈ W, L1 (sC R) 0 ws R t := fun t ht => hW t (aiP _ ht)
   have eR : ((W ++ [s]).reverse.map (RC ws R)).flatten = RC ws R s ++ (W.reverse.map (RC ws R)).flatten := by
     rw [List.reverse_append]
     rfl
   rw [eR] at hF
   have hwt : ((W ++ [s]).map (PJ R)).sum = (W.map (PJ R)).sum + PJ R s := by
     rw [ajq, List.sum_append]
     show _ + (PJ R s + 0) = _
     omega
   have acP : (R.map fun l => L3.D.lst (l.map .int)).length = R.length := aiC ..
   have Rz := hs.q1
   have hp1 := hs.p1
   have hh1 := hs.h1
   rw [aiT] at hlen
   refine dc (Oe (aV (aE E.aJ) (ah (aX E.ji E.jh)) (aF (j := 0) rfl)) (ah (di acP E.b8 (aE E.uw) E.cy))).1 (fun hc => ?_) (fun hc => ?_)
   . have hc : (s.i : Int) < (R.length : Nat) := aiU hc
     obtain ⟨g1, g2, g3, g4⟩ := Zf hs (by omega) (fun w => hag.len w)
     refine ach E.qq.1 rfl (aW (cF (bs, nm, oh ks es ss, is, os, ws, R, s) E.Mm E.ux (aB (v_ E.dN.1) (aB (v_ E.uw.1) (aB (v_ E.aJ.1) bT))) (by dsimp only [i9]; exact ⟨by omega, hs.j1, ⟨by omega, by omega, by omega⟩, fun l hl => (WY l hl).1, hag⟩)) (t2 := .lst (((PF ws R s).map v7).map T.sh)) rfl) rfl (by simp only [List.length_map]; omega) (aq (aq ?_))
     refine ⟨((W ++ PF ws R s).map (PJ R)).sum, ?_, W ++ PF ws R s, F, some (.sh (v7 s)), ?_, fun t ht => ?_, ?_, rfl⟩
     . rw [hwt, ajq, List.sum_append]
       omega
     . rw [ajq, ajq]
       rfl
     . rcases aiO.mp ht with z | z
       . exact hW2 t z
       . exact g1 t z
     . rw [← hF, g2, List.reverse_append, ajq, List.flatten_append]
   . have hc : ¬ (s.i : Int) < (R.length : Nat) := ai7 hc
     have eX : RC ws R s = [(s.qs, s.pk)] := by
       unfold RC
       rw [show tQ R s = [] by unfold tQ; rw [aiG (by omega)], pT]
     rw [eX] at hF
     have hFl : (F.map Ze).length = F.length := aiC ..
     refine dc (Oe (ah (di hFl E.b8 (vL E.bQ.1) E.cy)) (aE E.Cp)).1 (fun hd => ?_) (fun hd => ?_)
     . refine iy E.bQ.1 rfl (d9 (aB (cL (v_ E.aJ.1) (ah (aX E.iL E.iK)) (aF (j := 2) rfl)) (aB (cL (v_ E.aJ.1) (ah (aX E.gi E.gf)) (aF (j := 3) rfl)) bT)) (aM rfl)) rfl (by simp only [aiC]; omega) (aq (aq (aq ?_)))
       refine ⟨(W.map (PJ R)).sum, ?_, W, F ++ [(s.qs, s.pk)], some (.sh (v7 s)), ?_, hW2, ?_, rfl⟩
       . rw [hwt]
         have : 0 < PJ R s := Nat.pow_pos (by decide)
         omega
       . rw [ajq, ajq]
         rfl
       . rw [← hF, aiM]
     . have hd : ¬ (F.length : Int) < (mo : Int) := ai7 hd
       simp only [ai2, ajQ] at hlen
       omega
 . have tP : W = [] := by
     cases W with
     | nil => rfl
     | cons s W => cases hp
   subst tP
   have e : F = EE := by rw [← hF]; simp
   subst e
   exact bL (vM E.bQ.1) rfl
theorem bC : kM (ao nu) ([("chart", .cell), ("opens", .cell), ("sign", .cell), ("most", au), ("rows", au), ("found", au), ("waiting", au), ("branch", au), ("open_leaves", av), ("LEAF", av), ("len", av), ("further", av), ("ASKED", av), ("PICKED", av), ("TooWide", av)]) = true := by decide +kernel
theorem vt : aU ["chart", "opens", "sign", "most", "rows", "found", "waiting", "branch"] ["chart", "opens", "sign", "most"] (ao nu) := bq
noncomputable def Sm : Nat -> L3.D -> Prop
 | _, .int _ => True
 | _, .str _ => True
 | n + 1, .lst ds => ds.length <= 1000 /\ ∀ d ∈ ds, Sm n d
 | n + 1, .tup ds => ds.length <= 1000 /\ ∀ d ∈ ds, Sm n d
 | _, _ => False
theorem CV {ds : List L3.D} {j : Nat} (h : j < ds.length) : tN ds (j : Int) = some ds[j] := aF (aiL h)
noncomputable abbrev s_same : Stmt := top 30
noncomputable abbrev Ij : Type := L3.D
noncomputable def oV : Ij -> List L3.D := fun d => [d, d]
noncomputable def jP (dd : Nat) : Ij -> Prop := fun d => Sm dd d
noncomputable def oW : Ij -> T := fun d => (.sh (.bl true) : T)
structure ZR (X : Cx) (CL : Str -> Addr) (dd : Nat) : Prop extends cK X where
 bQ : Ln X 0 "found"
 ic : Ln X 1 "due"
 jV : Ln X 2 "k"
 aR : Gl X "isinstance"
 sL : Gl X "str"
 AO : Gl X "int"
 g_bool : Gl X "bool"
 cU : Gl X "list"
 dJ : Gl X "tuple"
 cy : Gl X "len"
 bE : Gl X "range"
 jb : Gl X "_law_same"
 aS : X.mg "isinstance" = none
 lW : X.mg "str" = none
 AQ : X.mg "int" = none
 ZS : X.mg "bool" = none
 cV : X.mg "list" = none
 dM : X.mg "tuple" = none
 b8 : X.mg "len" = none
 bF : X.mg "range" = none
 yd : ∀ d', d' < dd -> Fc X CL "_law_same" (1 + d') 2 oV (jP d') oW
theorem ZT {X : Cx} {CL : Str -> Addr} {b : Bx} {dd : Nat} (E : ZR X CL dd) (d) (h : jP dd d) :
   aD X CL b s_same ["found", "due", "k"] (oV d) (oW d) := by
 dsimp only [aD, jP, oV, oW] at h ⊢
 cases d with
 | int i =>
   refine dc (f6 (isS E.aS E.lW E.aR E.sL (aE E.ic))) (fun hp => absurd hp (by decide)) (fun _ => aq ?_)
   refine dc (f6 (isI E.aS E.AQ E.aR E.AO (aE E.ic))) (fun hp => ?_) (fun hp => absurd hp (by decide))
   refine bL (G8 (isI E.aS E.AQ E.aR E.AO (aE E.bQ)) (fun hb => (G8 (Yn (isB E.aS E.ZS E.aR E.g_bool (aE E.bQ))) (fun hb2 => (Og (eB (aE E.bQ) (aE E.ic)).2))))) ?_
   simp
 | str x =>
   refine dc (f6 (isS E.aS E.lW E.aR E.sL (aE E.ic))) (fun hp => ?_) (fun hp => absurd hp (by decide))
   refine bL (G8 (isS E.aS E.lW E.aR E.sL (aE E.bQ)) (fun hb => (Og (fC (aE E.bQ) (aE E.ic)).2))) ?_
   simp
 | lst ds =>
   obtain ⟨n, rfl⟩ : ∃ n, dd = n + 1 := by
     cases dd with
     | zero => exact absurd h (by intro z; cases z)
     | succ n => exact ⟨n, rfl⟩
   obtain ⟨hl, hd⟩ : ds.length <= 1000 /\ ∀ d ∈ ds, Sm n d := h
   refine dc (f6 (isS E.aS E.lW E.aR E.sL (aE E.ic))) (fun hp => absurd hp (by decide)) (fun _ => aq ?_)
   refine dc (f6 (isI E.aS E.AQ E.aR E.AO (aE E.ic))) (fun hp => absurd hp (by decide)) (fun _ => aq ?_)
   refine dc (jD (qF (Bu (ah (isL E.aS E.cV E.aR E.cU (aE E.ic))) (ah (isL E.aS E.cV E.aR E.cU (aE E.bQ)))).1 (fun _ => kJ (Bu (ah (Yw E.aS E.dM E.aR E.dJ (aE E.ic))) (ah (Yw E.aS E.dM E.aR E.dJ (aE E.bQ)))).1))) (fun hp => absurd hp (by decide)) (fun _ => aq ?_)
   refine dc (tY (ah (vS E.b8 (aE E.bQ) E.cy)) (ah (vS E.b8 (aE E.ic) E.cy))).1 (fun hp => by simp at hp) (fun _ => aq ?_)
   refine gJ E.g E.jV (fun j δ => ∃ o, δ = [some (.sh (.lst ds)), some (.sh (.lst ds)), o])
     (cS E.bF (ah (vS E.b8 (aE E.ic) E.cy)) (by omega) E.bE) ⟨_, rfl⟩ (fun j δ ⟨_, e⟩ => by subst e; exact aiJ rfl) ?turn ?fin
   case turn =>
     rintro j d δ hj ⟨o, rfl⟩
     obtain ⟨rfl, pS⟩ := fK hj
     have pS : j < ds.length := by omega
     rw [ajF]
     refine dc (mJ (f6 (c_ ds[j] (E.yd n (by omega)) E.jb (ai (bZ (aE E.bQ) (aE E.jV) (CV pS)) (ai (bZ (aE E.ic) (aE E.jV) (CV pS)) aN)) (by dsimp only [jP]; exact hd _ (List.getElem_mem _)) rfl))) (fun hp => by cases hp) (fun _ => aq (aq ⟨_, rfl⟩))
   case fin =>
     rintro δ ⟨o, rfl⟩
     exact bL lG rfl
 | tup ds =>
   obtain ⟨n, rfl⟩ : ∃ n, dd = n + 1 := by
     cases dd with
     | zero => exact absurd h (by intro z; cases z)
     | succ n => exact ⟨n, rfl⟩
   obtain ⟨hl, hd⟩ : ds.length <= 1000 /\ ∀ d ∈ ds, Sm n d := h
   refine dc (f6 (isS E.aS E.lW E.aR E.sL (aE E.ic))) (fun hp => absurd hp (by decide)) (fun _ => aq ?_)
   refine dc (f6 (isI E.aS E.AQ E.aR E.AO (aE E.ic))) (fun hp => absurd hp (by decide)) (fun _ => aq ?_)
   refine dc (jD (qF (Bu (ah (isL E.aS E.cV E.aR E.cU (aE E.ic))) (ah (isL E.aS E.cV E.aR E.cU (aE E.bQ)))).1 (fun _ => kJ (Bu (ah (Yw E.aS E.dM E.aR E.dJ (aE E.ic))) (ah (Yw E.aS E.dM E.aR E.dJ (aE E.bQ)))).1))) (fun hp => absurd hp (by decide)) (fun _ => aq ?_)
   refine dc (tY (ah (jZ E.b8 (aE E.bQ) E.cy)) (ah (jZ E.b8 (aE E.ic) E.cy))).1 (fun hp => by simp at hp) (fun _ => aq ?_)
   refine gJ E.g E.jV (fun j δ => ∃ o, δ = [some (.sh (.tup ds)), some (.sh (.tup ds)), o])
     (cS E.bF (ah (jZ E.b8 (aE E.ic) E.cy)) (by omega) E.bE) ⟨_, rfl⟩ (fun j δ ⟨_, e⟩ => by subst e; exact aiJ rfl) ?turn ?fin
   case turn =>
     rintro j d δ hj ⟨o, rfl⟩
     obtain ⟨rfl, pS⟩ := fK hj
     have pS : j < ds.length := by omega
     rw [ajF]
     refine dc (mJ (f6 (c_ ds[j] (E.yd n (by omega)) E.jb (ai (aV (aE E.bQ) (aE E.jV) (CV pS)) (ai (aV (aE E.ic) (aE E.jV) (CV pS)) aN)) (by dsimp only [jP]; exact hd _ (List.getElem_mem _)) rfl))) (fun hp => by cases hp) (fun _ => aq (aq ⟨_, rfl⟩))
   case fin =>
     rintro δ ⟨o, rfl⟩
     exact bL lG rfl
 | non => exact absurd h (by intro z; cases dd <;> cases z)
 | bl _ => exact absurd h (by intro z; cases dd <;> cases z)
 | ins _ _ => exact absurd h (by intro z; cases dd <;> cases z)
 | any => exact absurd h (by intro z; cases dd <;> cases z)
 | jC _ => exact absurd h (by intro z; cases dd <;> cases z)
 | dct _ => exact absurd h (by intro z; cases dd <;> cases z)
 | val _ => exact absurd h (by intro z; cases dd <;> cases z)
theorem gD : kM (ao s_same) ([("found", au), ("due", au), ("k", au), ("isinstance", av), ("str", av), ("int", av), ("bool", av), ("list", av), ("tuple", av), ("len", av), ("range", av), ("_law_same", av)]) = true := by decide +kernel
theorem Ks : aU ["found", "due", "k"] ["found", "due"] (ao s_same) := bq
noncomputable abbrev qu : Stmt := top 46
noncomputable abbrev uy : Type := List lN × List Int
noncomputable def ku : uy -> List L3.D := fun (l, ops) => [.tup (l.map fM), .lst (ops.map .int)]
noncomputable def kB : uy -> Prop := fun (l, ops) => ∀ a ∈ l, a.T3
noncomputable def kC : uy -> T := fun (l, ops) => (.sh (.bl (j4 ops (l.map fM))) : T)
structure Mp (X : Cx) (CL : Str -> Addr) : Prop extends cK X where
 eL : Ln X 0 "asks"
 bJ : Ln X 1 "opens"
 fW : Ln X 2 "ask"
theorem Mq {X : Cx} {CL : Str -> Addr} {b : Bx} (E : Mp X CL) (l ops) (h : kB (l, ops)) :
   aD X CL b qu ["asks", "opens", "ask"] (ku (l, ops)) (kC (l, ops)) := by
 dsimp only [aD, kB, ku, kC] at h ⊢
 show fq X CL b _ _ { nx := _, rt := fun Hq _ => Hq = T.sh (.bl (j4 ops (l.map fM))), bk := _, ct := _ }
 refine gJ E.g E.fW (fun j δ => ∃ o, (∀ d ∈ (l.map fM).take j, zq ops d = true) /\ δ = [some (.sh (.tup (l.map fM))), some (.sh (.lst (ops.map .int))), o])
   (wR (v_ E.eL.1)) ⟨_, fun x hx => by simp at hx, rfl⟩ (fun j δ ⟨_, _, e⟩ => by subst e; exact aiJ rfl) ?turn ?fin
 case turn =>
   rintro j d δ hj ⟨o, tP, rfl⟩
   have JV : (l.map fM).take (j + 1) = (l.map fM).take j ++ [d] := by rw [ake, hj]; rfl
   have hdm : d ∈ l.map fM := ajj hj
   have no : zq ops d = false -> j4 ops (l.map fM) = false := fun e => List.all_eq_false.mpr ⟨d, hdm, by rw [e]; decide⟩
   obtain ⟨a, ha, rfl⟩ := ai8.mp hdm
   have hk := h a ha
   have nxt : zq ops (fM a) = true -> ∀ y ∈ (l.map fM).take (j + 1), zq ops y = true := fun e y hy => by
     rw [JV] at hy
     rcases aiO.mp hy with hy | hy
     . exact tP y hy
     . rw [ajb.mp hy]; exact e
   cases a with
   | num mk b1 m1 b2 m2 =>
     obtain ⟨n1, n2⟩ := J2 hk
     refine dc (jD (gE (q := false) (fC (aV (aE E.fW) (ah aj) rfl) (ah bG)).1 (fun hb => absurd (aiU hb) n1))) (fun hp => by simp at hp) (fun _ => aq ?_)
     refine dc (jD (gE (q := false) (fC (aV (aE E.fW) (ah aj) rfl) (ah bG)).1 (fun hb => absurd (aiU hb) n2))) (fun hp => by simp at hp) (fun _ => aq (aq ⟨_, nxt rfl, rfl⟩))
   | rg op m =>
     have hf := E3 ops op m
     refine dc (jD (gE (fC (aV (aE E.fW) (ah aj) rfl) (ah bG)).1 (fun _ => jY (sf (aV (aE E.fW) (ah aj) rfl) (aE E.bJ) rfl rfl).1))) (fun hp => ?_) (fun hp => aq ?_)
     . have hp : (decide ((if op = true then ("open" : Str) else "shut") = "open") && !decide (m ∈ ops)) = true := hp
       refine bL lG ?_
       rw [no]
       rw [hf]
       cases op with
       | false => exact absurd hp (by rw [show decide ((if false = true then ("open" : Str) else "shut") = "open") = false by decide +kernel]; simp)
       | true => rw [Bool.and_eq_true] at hp; simpa using hp.2
     have hp : (decide ((if op = true then ("open" : Str) else "shut") = "open") && !decide (m ∈ ops)) = false := hp
     refine dc (jD (gE (fC (aV (aE E.fW) (ah aj) rfl) (ah bG)).1 (fun _ => jY (vW (aV (aE E.fW) (ah aj) rfl) (aE E.bJ) rfl rfl).1))) (fun hq => ?_) (fun hq => aq (aq ⟨_, nxt ?_, rfl⟩))
     . have hq : (decide ((if op = true then ("open" : Str) else "shut") = "shut") && decide (m ∈ ops)) = true := hq
       refine bL lG ?_
       rw [no]
       rw [hf]
       cases op with
       | true => exact absurd hq (by rw [show decide ((if true = true then ("open" : Str) else "shut") = "shut") = false by decide +kernel]; simp)
       | false => rw [Bool.and_eq_true] at hq; simpa using hq.2
     . have hq : (decide ((if op = true then ("open" : Str) else "shut") = "shut") && decide (m ∈ ops)) = false := hq
       rw [hf]
       cases op with
       | true => rw [show decide ((if true = true then ("open" : Str) else "shut") = "open") = true by decide +kernel, Bool.true_and] at hp; simpa using hp
       | false => rw [show decide ((if false = true then ("open" : Str) else "shut") = "shut") = true by decide +kernel, Bool.true_and] at hq; simpa using hq
 case fin =>
   rintro δ ⟨o, tP, rfl⟩
   rw [ajT] at tP
   refine bL lG ?_
   rw [show j4 ops (l.map fM) = true from ajB.mpr tP]
theorem rH : kM (ao qu) ([("asks", au), ("opens", au), ("ask", au)]) = true := by decide +kernel
theorem ye : aU ["asks", "opens", "ask"] ["asks", "opens"] (ao qu) := bq
theorem acQ {ws : List cE} {ops : List Int} {sg : Str} {es : List Int} (ht : jd es) {k : Int} (h0 : 0 <= k) (h1 : k < es.length) : gsW ws ops sg (k :: gP es k) = LY ws ops sg k ws.length ++ (if es.getD k.toNat 0 = -1 then [] else gsW ws ops sg (es.getD k.toNat 0 :: gP es (es.getD k.toNat 0))) := by
 show (k :: gP es k).flatMap _ = _
 rw [ajZ, BK ht h0 h1]
 congr 1
 split <;> rfl
noncomputable abbrev kD : Stmt := top 47
noncomputable abbrev oX : Type := List L3.D × List Int × List Str × List Int × List L3.D × List L3.D × List cE × List Int × Int × Str
noncomputable def iU : oX -> List L3.D := fun (bs, es, ks, ss, is, os, ws, ops, leaf, sg) => [gX bs es ks ss is os (ws.map dP), .lst (ops.map .int), .int leaf, .str sg]
noncomputable def gj : oX -> Prop := fun (bs, es, ks, ss, is, os, ws, ops, leaf, sg) => jd es /\ es.length <= 900 /\ 0 <= leaf /\ leaf < es.length /\ ws.length <= 63 /\ xD ws
noncomputable def iV : oX -> T := fun (bs, es, ks, ss, is, os, ws, ops, leaf, sg) => (.lst (((J3 ws ops sg (leaf :: gP es leaf)).map .int).map T.sh) : T)
structure FQ (X : Cx) (CL : Str -> Addr) : Prop extends cK X where
 bI : Ln X 0 "parts"
 bJ : Ln X 1 "opens"
 CP : Ln X 2 "leaf"
 iF : Ln X 3 "sign"
 uz : Ln X 4 "some"
 jg : Ln X 5 "at"
 dH : Ln X 6 "number"
 dW : Ln X 7 "way"
 bE : Gl X "range"
 cy : Gl X "len"
 FT : Gl X "_law_fits"
 bF : X.mg "range" = none
 b8 : X.mg "len" = none
 Mr : Fc X CL "_law_fits" 1 2 ku kB kC
theorem FU {X : Cx} {CL : Str -> Addr} {b : Bx} (E : FQ X CL) (bs es ks ss is os ws ops leaf sg) (h : gj (bs, es, ks, ss, is, os, ws, ops, leaf, sg)) :
   aD X CL b kD ["parts", "opens", "leaf", "sign", "some", "at", "number", "way"] (iU (bs, es, ks, ss, is, os, ws, ops, leaf, sg)) (iV (bs, es, ks, ss, is, os, ws, ops, leaf, sg)) := by
 dsimp only [aD, gj, iU, iV] at h ⊢
 obtain ⟨ht, hl, f0, f1, JD, RB⟩ := h
 show fq X CL b _ _ { nx := _, rt := fun Hq _ => Hq = T.lst (((J3 ws ops sg (leaf :: gP es leaf)).map .int).map T.sh), bk := _, ct := _ }
 rw [go_eq (HD ht f0 f1)]
 refine aO E.g E.uz (dF cO (ai9 _)) ?_
 refine aO E.g E.jg (v_ E.CP.1) ?_
 refine Bw E.g (fun n δ => ∃ (k : Int) (l : List Int) (o6 o7 : Option T), δ = [some (.sh (gX bs es ks ss is os (ws.map dP))), some (.sh (.lst (ops.map .int))), some (.sh (.int leaf)), some (.sh (.str sg)), some (.lst ((l.map .int).map T.sh)), some (.sh (.int k)), o6, o7] /\ -1 <= k /\ k < n /\ k < es.length /\ l ++ (if k = -1 then [] else gsW ws ops sg (k :: gP es k)) = gsW ws ops sg (leaf :: gP es leaf) /\ l.length + 63 * n <= 63 * (es.length + 1)) (es.length + 1)
   ⟨leaf, [], _, _, rfl, by omega, by omega, f1, by rw [aiG (by omega)]; rfl, by simp⟩ ?_
 rintro n δ ⟨k, l, o6, o7, rfl, k0, k1, k2, k3, k4⟩
 refine ⟨_, _, (tY (aE E.jg) (ah (qW (ah aj)))).1, fun hp => ?_, fun hp => ?_⟩
 . have hk : ¬ k = -1 := by simpa using hp
   rw [aiG hk, acQ ht (by omega) k2] at k3
   have hke := ht.at (k := k) (by omega) k2
   cases n with
   | zero => omega
   | succ n =>
     have afl : (ws.map dP).length = ws.length := aiC ..
     refine gJ E.g E.dH (fun j δ => ∃ o6 o7, δ = [some (.sh (gX bs es ks ss is os (ws.map dP))), some (.sh (.lst (ops.map .int))), some (.sh (.int leaf)), some (.sh (.str sg)), some (.lst (((l ++ LY ws ops sg k j).map .int).map T.sh)), some (.sh (.int k)), o6, o7])
       (cS E.bF (ah (di afl E.b8 (aV (aE E.bI) (ah aj) (aF (j := 6) rfl)) E.cy)) (by omega) E.bE) ⟨_, _, by rw [show LY ws ops sg k 0 = [] from rfl, ai6]⟩ (fun j δ ⟨_, _, e⟩ => by subst e; exact aiJ rfl) ?turn ?fin
     case turn =>
       rintro j d δ hj ⟨o6, o7, rfl⟩
       obtain ⟨rfl, pS⟩ := fK hj
       have pS : j < ws.length := by simpa using pS
       rw [ajF]
       have Ml : tN (ws.map dP) (j : Int) = some (dP (ws.getD j w0)) := (iB w0 (by omega) (by omega)).trans (by rw [ajn])
       obtain ⟨al, ea, RA⟩ := RB (ws.getD j w0) (by rw [aiK, aiL pS]; exact ajU _)
       have ZU := J4 ws ops sg k j
       show fq X CL b _ _ { nx := fun δ => ∃ o6 o7, δ = [_, _, _, _, some (.lst (((l ++ LY ws ops sg k (j + 1)).map .int).map T.sh)), _, o6, o7], rt := _, bk := _, ct := _ }
       rw [PB]
       generalize LY ws ops sg k j = gl at ZU ⊢
       refine aO E.g E.dW (G9 (cL (v_ E.bI.1) (ah aj) (aF (j := 6) rfl)) (aE E.dH) Ml) ?_
       generalize ws.getD j w0 = w at ea RA ⊢
       refine dc (jD (gE (eB (aV (aE E.dW) (ah aj) (aF (j := 0) rfl)) (aE E.jg)).1 (fun _ => gE (fC (aV (aE E.dW) (ah aj) (aF (j := 1) rfl)) (aE E.iF)).1 (fun _ => jY (f6 (aW (c_ (al, ops) E.Mr E.FT (ai (uZ (aV (aE E.dW) (ah aj) (aF (j := 2) rfl)) (by rw [ea])) (ai (aE E.bJ) aN)) RA rfl) (t2 := .sh (.bl (j4 ops w.asks))) (by rw [ea]; rfl))))))) (fun hp => ?_) (fun hp => aq ?_)
       . rw [aiI hp]
         refine iy E.uz.1 rfl (v_ E.dH.1) rfl (by simp only [aiC, aiT]; omega) (aq (aq ?_))
         rw [show ((l ++ gl).map L3.D.int).map T.sh ++ [T.sh (.int (j : Int))] = ((l ++ (gl ++ [(j : Int)])).map L3.D.int).map T.sh by simp]
         exact ⟨_, _, rfl⟩
       . rw [aiG (by rw [hp]; decide), ai6]
         exact aq ⟨_, _, rfl⟩
     case fin =>
       rintro δ ⟨o6, o7, rfl⟩
       rw [show (bB 0 ((ws.length : Nat) : Int).toNat).length = ws.length by simp [bB]]
       have ZU := J4 ws ops sg k ws.length
       have GH : tN (es.map L3.D.int) k = some (.int (es.getD k.toNat 0)) := fJ (by omega) k2
       refine aO E.g E.jg (fY (bZ (aV (aE E.bI) (ah aj) (aF (j := 1) rfl)) (aE E.jg) GH) rfl) (aq ⟨n, Nat.lt_succ_self _, es.getD k.toNat 0, l ++ LY ws ops sg k ws.length, _, _, rfl, hke.1, by omega, by omega, by rw [aiM]; exact k3, ?_⟩)
       rw [aiT]
       omega
 . have hk : k = -1 := by simpa using hp
   rw [aiI hk, ai6] at k3
   subst k3
   exact bL (vM E.uz.1) rfl
theorem cI : kM (ao kD) ([("parts", au), ("opens", au), ("leaf", au), ("sign", au), ("some", au), ("at", au), ("number", au), ("way", au), ("range", av), ("len", av), ("_law_fits", av)]) = true := by decide +kernel
theorem tE : aU ["parts", "opens", "leaf", "sign", "some", "at", "number", "way"] ["parts", "opens", "leaf", "sign"] (ao kD) := bq
noncomputable abbrev wF : Stmt := top 49
noncomputable abbrev CW : Type := List L3.D × List Int × List Str × List Int × List L3.D × List L3.D × List cE × List Int × Str
noncomputable def qv : CW -> List L3.D := fun (bs, es, ks, ss, is, os, ws, ops, sg) => [gX bs es ks ss is os (ws.map dP), .lst (ops.map .int), .str sg]
noncomputable def mE : CW -> Prop := fun (bs, es, ks, ss, is, os, ws, ops, sg) => (jd es /\ es.length <= 900 /\ ks.length = es.length) /\ (ws.length <= 63 /\ xD ws) /\ ops.length <= 1000 /\ ∀ x ∈ ops, 0 <= x /\ x < (es.length : Int)
noncomputable def qw : CW -> T := fun (bs, es, ks, ss, is, os, ws, ops, sg) => (.lst ((dm ws ops sg es (iu ks ops)).map fun l => T.lst ((l.map L3.D.int).map T.sh)) : T)
structure UJ (X : Cx) (CL : Str -> Addr) : Prop extends cK X where
 bI : Ln X 0 "parts"
 bJ : Ln X 1 "opens"
 iF : Ln X 2 "sign"
 tF : Ln X 3 "lists"
 rq : Ln X 4 "mood"
 zN : Gl X "_law_goable"
 FW : Fc X CL "_law_goable" 2 4 iU gj iV
theorem UK {X : Cx} {CL : Str -> Addr} {b : Bx} (E : UJ X CL) (bs es ks ss is os ws ops sg) (h : mE (bs, es, ks, ss, is, os, ws, ops, sg)) :
   aD X CL b wF ["parts", "opens", "sign", "lists", "mood"] (qv (bs, es, ks, ss, is, os, ws, ops, sg)) (qw (bs, es, ks, ss, is, os, ws, ops, sg)) := by
 dsimp only [aD, mE, qv, qw] at h ⊢
 obtain ⟨⟨ht, Mg, Ui⟩, ⟨JD, RB⟩, hol, ho⟩ := h
 refine aO E.g E.tF (dF cO (ai9 _)) ?_
 refine gJ E.g E.rq (fun j δ => ∃ o, δ = [some (.sh (gX bs es ks ss is os (ws.map dP))), some (.sh (.lst (ops.map .int))), some (.sh (.str sg)), some (.lst ((dm ws ops sg es (iu ks (ops.take j))).map fun l => T.lst ((l.map L3.D.int).map T.sh))), o])
   (n6 (v_ E.bJ.1)) ⟨_, rfl⟩ (fun j δ ⟨_, e⟩ => by subst e; exact aiJ rfl) ?turn ?fin
 case turn =>
   rintro j d δ hj ⟨o, rfl⟩
   obtain ⟨x, rfl, _, hx, pS, _, JV⟩ := qX hj
   obtain ⟨x0, x1⟩ := ho x hx
   have GH : tN (ks.map L3.D.str) x = some (.str (ks.getD x.toNat Str.empty)) := iB Str.empty x0 (by omega)
   have hl1 : (dm ws ops sg es (iu ks (ops.take j))).length <= j := by
     unfold dm
     rw [aiC]
     have h1 := ajJ (E4 ks) (ops.take j)
     have h2 := List.length_take_le j ops
     unfold iu
     omega
   show fq X CL b _ _ { nx := fun δ => ∃ o, δ = [_, _, _, some (.lst ((dm ws ops sg es (iu ks (ops.take (j + 1)))).map fun l => T.lst ((l.map L3.D.int).map T.sh))), o], rt := _, bk := _, ct := _ }
   rw [JV]
   have en : iu ks (ops.take j ++ [x]) = iu ks (ops.take j) ++ (if E4 ks x = true then [x] else []) := by
     unfold iu
     rw [aj7, List.filter_cons, akt]
   rw [en]
   refine dc (fC (bZ (aV (aE E.bI) (ah aj) (aF (j := 2) rfl)) (aE E.rq) GH) (ah bG)).1 (fun hp => ?_) (fun hp => aq ?_)
   . rw [aiI (show E4 ks x = true from hp)]
     refine iy E.tF.1 rfl (aW (c_ (bs, es, ks, ss, is, os, ws, ops, x, sg) E.FW E.zN (ai (aE E.bI) (ai (aE E.bJ) (ai (aE E.rq) (ai (aE E.iF) aN)))) (by dsimp only [gj]; exact ⟨ht, Mg, x0, x1, JD, RB⟩) (cG _)) (t2 := .lst (((J3 ws ops sg (x :: gP es x)).map .int).map T.sh)) rfl) rfl (by rw [List.length_map]; omega) (aq (aq ?_))
     rw [show (dm ws ops sg es (iu ks (ops.take j))).map (fun l => T.lst ((l.map L3.D.int).map T.sh)) ++ [T.lst (((J3 ws ops sg (x :: gP es x)).map .int).map T.sh)] = (dm ws ops sg es (iu ks (ops.take j) ++ [x])).map (fun l => T.lst ((l.map L3.D.int).map T.sh)) by unfold dm; rw [ajq, ajq]; rfl]
     exact ⟨_, rfl⟩
   . have hp : ¬ E4 ks x = true := fun z => by
       have z : decide (ks.getD x.toNat Str.empty = "leaf") = true := z
       rw [hp] at z
       cases z
     rw [aiG hp, ai6]
     exact aq ⟨_, rfl⟩
 case fin =>
   rintro δ ⟨o, rfl⟩
   rw [aiC, ajT]
   exact bL (vM E.tF.1) rfl
theorem mF : kM (ao wF) ([("parts", au), ("opens", au), ("sign", au), ("lists", au), ("mood", au), ("_law_goable", av)]) = true := by decide +kernel
theorem FY : aU ["parts", "opens", "sign", "lists", "mood"] ["parts", "opens", "sign"] (ao wF) := bq
noncomputable def ZV : L3.D -> Nat
 | .tup ds => ds.length
 | _ => 0
noncomputable def Qi (d : L3.D) : Bool := decide ((ZV d : Int) = 3)
theorem UL {n : Nat} {bs : List Int} {l : List lN} (h : ∀ a ∈ l, a.Ok n bs) : (l.map fM).filter Qi = xE (l.map fM) := by
 unfold xE
 refine List.filter_congr fun d hd => ?_
 obtain ⟨a, ha, rfl⟩ := ai8.mp hd
 have hk := h a ha
 cases a with
 | rg op m =>
   show false = !decide ((if op = true then ("open" : Str) else "shut") ∈ (["open", "shut"] : List Str))
   cases op <;> decide +kernel
 | num mk b1 m1 b2 m2 =>
   have : ∀ x ∈ BX, true = (!decide (x ∈ (["open", "shut"] : List Str))) := by decide +kernel
   exact this mk hk.1
noncomputable abbrev qx : Stmt := top 48
noncomputable abbrev uA : Type := List L3.D × List Int × List Str × List Int × List L3.D × List L3.D × List cE × Nat × cE × List lN × Nat × List Int
noncomputable def kF : uA -> List L3.D := fun (bs, es, ks, ss, is, os, ws, k, w, al, n, vs) => [gX bs es ks ss is os (ws.map dP), .int k]
noncomputable def jc : uA -> Prop := fun (bs, es, ks, ss, is, os, ws, k, w, al, n, vs) => ws[k]? = some w /\ w.asks = al.map fM /\ al.length <= 1000 /\ ∀ a ∈ al, a.Ok n vs
noncomputable def kG : uA -> T := fun (bs, es, ks, ss, is, os, ws, k, w, al, n, vs) => (.sh (.tup ((M8 w).map jr)) : T)
structure Ms (X : Cx) (CL : Str -> Addr) : Prop extends cK X where
 bI : Ln X 0 "parts"
 dH : Ln X 1 "number"
 dJ : Gl X "tuple"
 dM : X.mg "tuple" = none
 b8 : X.mg "len" = none
theorem Mt {X : Cx} {CL : Str -> Addr} {b : Bx} (E : Ms X CL) (bs es ks ss is os ws k w al n vs) (h : jc (bs, es, ks, ss, is, os, ws, k, w, al, n, vs)) :
   aD X CL b qx ["parts", "number"] (kF (bs, es, ks, ss, is, os, ws, k, w, al, n, vs)) (kG (bs, es, ks, ss, is, os, ws, k, w, al, n, vs)) := by
 dsimp only [aD, jc, kF, kG] at h ⊢
 obtain ⟨hk, ea, hl, ha⟩ := h
 have GH : tN (ws.map dP) (k : Int) = some (dP w) := aF (by rw [ai5, hk]; rfl)
 have hi : D.bV w.asks = true := by rw [ea]; exact dg (fun a => E2 a) _
 have e2 : w.asks.filter Qi = (M8 w).map jr := by
   rw [ea, UL ha, J5 ha]
   unfold M8
   rw [ea, B4]
 have hi2 : D.bV ((M8 w).map jr) = true := dg (fun _ => rfl) _
 refine bL (lK E.dM (dZ (ds := (M8 w).map jr) (aW (sy (p := fun d => decide ((ZV d : Int) = 3)) (g := fun d => T.sh d) (cQ .nil (by decide +kernel)) E.g.calm (wR (cL (G9 (cL (v_ E.bI.1) (ah aj) (aF (j := 6) rfl)) (aE E.dH) GH) (ah aj) (aF (j := 2) rfl))) (.inr rfl) (fun C s0 H0 f0 b' d hd => ?E7) (ajy (cJ (by rw [ea, aiC]; omega)))) (by rw [show (fun d => decide ((ZV d : Int) = 3)) = Qi from rfl, e2]))) hi2 E.dJ) rfl
 case E7 =>
   rw [ea] at hd
   obtain ⟨a, ha2, rfl⟩ := ai8.mp hd
   cases a with
   | rg op m => exact ⟨(eB (ah (jZ (by exact E.b8) (ah (v_ (eF (i := 0) rfl (by decide +kernel)))) (gR (by decide +kernel)))) (ah aj)).1, fun _ => v_ (eF (i := 0) rfl (by decide +kernel))⟩
   | num mk b1 m1 b2 m2 => exact ⟨(eB (ah (jZ (by exact E.b8) (ah (v_ (eF (i := 0) rfl (by decide +kernel)))) (gR (by decide +kernel)))) (ah aj)).1, fun _ => v_ (eF (i := 0) rfl (by decide +kernel))⟩
theorem rJ : kM (ao qx) ([("parts", au), ("number", au), ("tuple", av)]) = true := by decide +kernel
theorem yf : aU ["parts", "number"] ["parts", "number"] (ao qx) := bq
theorem Qj {n : Nat} {vs : List Int} {w : cE} {al : List lN} (e : w.asks = al.map fM) (h : ∀ a ∈ al, a.Ok n vs) : ∀ q ∈ M8 w, okQ vs q /\ mkQ q := fun q hq => by
 unfold M8 at hq
 rw [e, B4] at hq
 refine ⟨T7 h q hq, ?_⟩
 obtain ⟨a, ha, hq⟩ := List.mem_flatMap.mp hq
 have hk := h a ha
 cases a with
 | rg op m => cases hq
 | num mk b1 m1 b2 m2 =>
   rw [ajb.mp hq]
   exact hk.1
theorem UM {ws : List cE} {vs acc r : List Int} {i : Nat} {w : Int} (hn : ∀ v ∈ r.take i, HF ws vs v = false) (hw : r[i]? = some w) (ht : HF ws vs w = true) : nR ws vs acc r = jf acc w := by
 obtain ⟨hi, e⟩ := ai3.mp hw
 have er : r = r.take i ++ w :: r.drop (i + 1) := by
   rw [← e, ← ajX hi, List.take_append_drop]
 unfold nR
 rw [er, aj7, List.filter_eq_nil_iff.mpr fun v hv => by rw [hn v hv]; decide, akk, aj2 ht]
noncomputable abbrev tG : Stmt := top 50
noncomputable abbrev yg : Type := List L3.D × List Int × List Str × List Int × List L3.D × List L3.D × List cE × List Int × List Int × Str × Nat
noncomputable def ny : yg -> List L3.D := fun (bs, es, ks, ss, is, os, ws, ops, vs, sg, n) => [gX bs es ks ss is os (ws.map dP), .lst (ops.map .int), .lst (vs.map .int), .str sg]
noncomputable def jQ : yg -> Prop := fun (bs, es, ks, ss, is, os, ws, ops, vs, sg, n) => (jd es /\ es.length <= 900 /\ ks.length = es.length) /\ (ws.length <= 63 /\ mR n vs ws) /\ ops.length <= 100 /\ ∀ x ∈ ops, 0 <= x /\ x < (es.length : Int)
noncomputable def nA : yg -> T := fun (bs, es, ks, ss, is, os, ws, ops, vs, sg, n) => (.sh (.tup ((zu ws vs (dm ws ops sg es (iu ks ops)) []).map .int)) : T)
structure Qk (X : Cx) (CL : Str -> Addr) : Prop extends cK X where
 bI : Ln X 0 "parts"
 bJ : Ln X 1 "opens"
 bP : Ln X 2 "boxes"
 iF : Ln X 3 "sign"
 fj : Ln X 4 "picked"
 uz : Ln X 5 "some"
 dH : Ln X 6 "number"
 CY : Gl X "_law_lists"
 nh : Gl X "_law_holds"
 yh : Gl X "_law_numbers"
 dJ : Gl X "tuple"
 UN : Fc X CL "_law_lists" 3 3 qv mE qw
 CH : Fc X CL "_law_holds" 2 2 mq jx mw
 Mu : Fc X CL "_law_numbers" 1 2 kF jc kG
 dM : X.mg "tuple" = none
theorem Ql {X : Cx} {CL : Str -> Addr} {b : Bx} (E : Qk X CL) (bs es ks ss is os ws ops vs sg n) (h : jQ (bs, es, ks, ss, is, os, ws, ops, vs, sg, n)) :
   aD X CL b tG ["parts", "opens", "boxes", "sign", "picked", "some", "number"] (ny (bs, es, ks, ss, is, os, ws, ops, vs, sg, n)) (nA (bs, es, ks, ss, is, os, ws, ops, vs, sg, n)) := by
 dsimp only [aD, jQ, ny, nA] at h ⊢
 obtain ⟨⟨ht, Mg, Ui⟩, ⟨JD, WZ⟩, hol, ho⟩ := h
 have RB := WZ.ok
 refine aO E.g E.fj (dF cO (ai9 _)) ?_
 have WY := yc (ws := ws) (ops := ops) (sg := sg) (es := es) (l := iu ks ops)
 have hRl : (dm ws ops sg es (iu ks ops)).length <= 100 := by
   have := ajJ (E4 ks) ops
   unfold dm iu
   rw [aiC]
   omega
 have hcl : ∀ R : List (List Int), (T.lst (R.map fun l => T.lst ((l.map L3.D.int).map T.sh))).clean = true := fun R => by
   rw [lH]
   induction R with
   | nil => rfl
   | cons l R ih => rw [ai1, T.iA, cG, ih]; rfl
 refine gJ E.g E.uz (fun j δ => ∃ o5 o6, (zu ws vs ((dm ws ops sg es (iu ks ops)).take j) []).length <= j /\ δ = [some (.sh (gX bs es ks ss is os (ws.map dP))), some (.sh (.lst (ops.map .int))), some (.sh (.lst (vs.map .int))), some (.sh (.str sg)), some (.lst (((zu ws vs ((dm ws ops sg es (iu ks ops)).take j) []).map .int).map T.sh)), o5, o6])
   (n6 (pP (d := A0 (dm ws ops sg es (iu ks ops))) (aW (c_ (bs, es, ks, ss, is, os, ws, ops, sg) E.UN E.CY (ai (aE E.bI) (ai (aE E.bJ) (ai (aE E.iF) aN))) (by dsimp only [mE]; exact ⟨⟨ht, Mg, Ui⟩, ⟨JD, RB⟩, by omega, ho⟩) (hcl _)) (t2 := Qh (dm ws ops sg es (iu ks ops))) rfl) (A4 _))) ⟨_, _, Nat.le_refl _, rfl⟩ (fun j δ ⟨_, _, _, e⟩ => by subst e; exact Nat.le_of_ble_eq_true rfl) ?turn ?fin
 case turn =>
   rintro j d δ hj ⟨o5, o6, ZU, rfl⟩
   obtain ⟨r, hr, rfl⟩ : ∃ r, (dm ws ops sg es (iu ks ops))[j]? = some r /\ L3.D.lst (r.map .int) = d := by rw [ai5] at hj; exact Option.map_eq_some_iff.mp hj
   have hrm := (WY r (ajj hr)).1
   have JV : (dm ws ops sg es (iu ks ops)).take (j + 1) = (dm ws ops sg es (iu ks ops)).take j ++ [r] := by rw [ake, hr]; rfl
   have eg : zu ws vs ((dm ws ops sg es (iu ks ops)).take (j + 1)) [] = nR ws vs (zu ws vs ((dm ws ops sg es (iu ks ops)).take j) []) r := by
     rw [JV]
     unfold zu
     rw [List.foldl_append]
     rfl
   have hjR : j < 100 := by
     have := (ai3.mp hr).1
     omega
   show fq X CL b _ _ { nx := fun δ => ∃ o5 o6, (zu ws vs ((dm ws ops sg es (iu ks ops)).take (j + 1)) []).length <= j + 1 /\ δ = [_, _, _, _, some (.lst (((zu ws vs ((dm ws ops sg es (iu ks ops)).take (j + 1)) []).map .int).map T.sh)), o5, o6], rt := _, bk := _, ct := _ }
   rw [eg]
   generalize zu ws vs ((dm ws ops sg es (iu ks ops)).take j) [] = acc at ZU ⊢
   refine gJ E.g E.dH (fun i δ => ∃ o6, (∀ w ∈ r.take i, HF ws vs w = false) /\ δ = [some (.sh (gX bs es ks ss is os (ws.map dP))), some (.sh (.lst (ops.map .int))), some (.sh (.lst (vs.map .int))), some (.sh (.str sg)), some (.lst ((acc.map .int).map T.sh)), some (.sh (.lst (r.map .int))), o6])
     (n6 (v_ E.uz.1)) ⟨_, fun w hw => by simp at hw, rfl⟩ (fun j δ ⟨_, _, e⟩ => by subst e; exact aiJ rfl) ?PX ?fin2
   case PX =>
     rintro i d δ hi ⟨o6, Hv, rfl⟩
     obtain ⟨w, rfl, hwi, hwm, _, _, afm⟩ := qX hi
     obtain ⟨w0', w1⟩ := hrm w hwm
     have Ml : ws[w.toNat]? = some (ws.getD w.toNat w0) := by rw [aiK, aiL (by omega)]; rfl
     obtain ⟨al, ea, RA, dw⟩ := WZ (ws.getD w.toNat w0) (ajj Ml)
     have hqi : D.bV ((M8 (ws.getD w.toNat w0)).map jr) = true := dg (fun _ => rfl) _
     refine dc (f6 (aW (c_ (mS ws w, vs) E.CH E.nh (ai (ah (aW (c_ (bs, es, ks, ss, is, os, ws, w.toNat, ws.getD w.toNat w0, al, n, vs) E.Mu E.yh (ai (aE E.bI) (ai (uZ (aE E.dH) (congrArg L3.D.int (show w = ((w.toNat : Nat) : Int) by omega))) aN)) (by dsimp only [jc]; exact ⟨Ml, ea, by omega, dw⟩) hqi) (t2 := .sh (.tup ((mS ws w).map jr))) rfl)) (ai (aE E.bP) aN)) (by dsimp only [jx]; exact Qj ea dw) rfl) (t2 := .sh (.bl (HF ws vs w))) rfl)) (fun hp => ?_) (fun hp => aq (aq ⟨_, fun v hv => ?_, rfl⟩))
     . have hp : HF ws vs w = true := hp
       rw [UM Hv hwi hp]
       refine dc (sf (l := acc) (aE E.dH) (vL E.fj.1) rfl rfl).1 (fun hq => ?_) (fun hq => ?_)
       . have e : ¬ w ∈ acc := by
           rw [akC] at hq
           exact ai7 hq
         refine iy E.fj.1 rfl (v_ E.dH.1) rfl (by simp only [aiC]; omega) (aq (JS (aq ?_)))
         rw [show jf acc w = acc ++ [w] by unfold jf; rw [aiG e], show (acc.map L3.D.int).map T.sh ++ [T.sh (.int w)] = ((acc ++ [w]).map L3.D.int).map T.sh by simp]
         exact ⟨_, _, by rw [aiT]; simp only [ai2, ajQ]; omega, rfl⟩
       . have e : w ∈ acc := by
           rw [aky] at hq
           exact aiU hq
         rw [show jf acc w = acc by unfold jf; rw [aiI e]]
         exact aq (JS (aq ⟨_, _, by omega, rfl⟩))
     . rw [afm] at hv
       rcases aiO.mp hv with hv | hv
       . exact Hv v hv
       . rw [ajb.mp hv]
         exact hp
   case fin2 =>
     rintro δ ⟨o6, Hv, rfl⟩
     rw [aiC, ajT] at Hv
     have e : nR ws vs acc r = acc := by
       unfold nR
       rw [List.filter_eq_nil_iff.mpr fun w hw => by rw [Hv w hw]; decide]
     rw [e]
     exact aq ⟨_, _, by omega, rfl⟩
 case fin =>
   rintro δ ⟨o5, o6, ZU, rfl⟩
   have e : (dm ws ops sg es (iu ks ops)).take ((dm ws ops sg es (iu ks ops)).map fun l => L3.D.lst (l.map .int)).length = dm ws ops sg es (iu ks ops) := by rw [aiC, ajT]
   rw [e]
   exact bL (lK E.dM (vL E.fj.1) (dU _) E.dJ) rfl
theorem eS : kM (ao tG) ([("parts", au), ("opens", au), ("boxes", au), ("sign", au), ("picked", au), ("some", au), ("number", au), ("_law_lists", av), ("_law_holds", av), ("_law_numbers", av), ("tuple", av)]) = true := by decide +kernel
theorem A5 : aU ["parts", "opens", "boxes", "sign", "picked", "some", "number"] ["parts", "opens", "boxes", "sign"] (ao tG) := bq
noncomputable def FZ (n m : Nat) (c : Int) : lN := if c % 3 = 1 then .rg (decide (c / 3 % 2 = 0)) (c / 6 % (m : Int)) else .num ((["<", "<=", "=", "!="] : List Str).getD (c / 3 % 4).toNat Str.empty) (c / 12 % ((n : Int) + 1) - 1) (xK (c / 12 / 4)) (c / 48 % ((n : Int) + 1) - 1) (xK (c / 48 / 4))
theorem UO (n m : Nat) (c : Int) : E9 n m c = fM (FZ n m c) := by
 unfold E9 FZ
 split
 . have : c / 3 % 2 = 0 \/ c / 3 % 2 = 1 := by omega
   rcases this with e | e
   . rw [e]; rfl
   . rw [e]; rfl
 . rfl
theorem Qm {n m : Nat} {vs : List Int} (hm : 1 <= m) (hv : vs.length = n) (c : Int) : (FZ n m c).Ok m vs := by
 unfold FZ
 split
 . exact ⟨ai4 _ (by omega), aiV _ (by omega)⟩
 . have a1 := ai4 (c / 12) (b := (n : Int) + 1) (by omega)
   have a2 := aiV (c / 12) (b := (n : Int) + 1) (by omega)
   have b1 := ai4 (c / 48) (b := (n : Int) + 1) (by omega)
   have b2 := aiV (c / 48) (b := (n : Int) + 1) (by omega)
   refine ⟨?_, by omega, by omega⟩
   have : c / 3 % 4 = 0 \/ c / 3 % 4 = 1 \/ c / 3 % 4 = 2 \/ c / 3 % 4 = 3 := by omega
   rcases this with e | e | e | e <;> rw [e] <;> decide +kernel
theorem Qn {s es : List Int} {n : Nat} {vs : List Int} (hm : 1 <= es.length) (hv : vs.length = n) : mR es.length vs (qJ s es n) := fun w hw => by
 obtain ⟨k, _, rfl⟩ := ai8.mp hw
 have hl := Ma s (200 + 12 * (k : Int) + 1) es.length n
 unfold ou at hl
 rw [aiC, ajC] at hl
 refine ⟨(List.range (az s (200 + 12 * (k : Int) + 1) % 3).toNat).map fun (j : Nat) => FZ n es.length (az s (200 + 12 * (k : Int) + 1 + 1 + (j : Int))), ?_, by rw [aiC, ajC]; exact hl, fun a ha => ?_⟩
 . show ou s (200 + 12 * (k : Int) + 1) es.length n = _
   unfold ou
   rw [ajh]
   refine ajx fun j _ => ?_
   exact UO _ _ _
 . obtain ⟨j, _, rfl⟩ := ai8.mp ha
   exact Qm hm hv _
theorem mR.g {n : Nat} {vs : List Int} {ws : List cE} (h : mR n vs ws) : Qd ws := fun w hw => by
 obtain ⟨l, e, hl, ha⟩ := h w hw
 refine ⟨by rw [e, aiC]; omega, by rw [e]; exact dg (fun a => E2 a) _, fun d hd => ?_, ?_⟩
 . rw [e] at hd
   obtain ⟨a, _, rfl⟩ := ai8.mp hd
   cases a with
   | rg op m => exact ⟨_, _, rfl⟩
   | num mk b1 m1 b2 m2 => exact ⟨_, _, rfl⟩
 . rw [e, J5 ha]
   unfold M8
   rw [e, B4]
theorem Qo {ws : List cE} {P : Ask -> Prop} (r : List (List Int)) (q : List Ask) (p : List Int) (h : List (Int × Bool)) : (∀ l ∈ r, ∀ w ∈ l, ∀ a ∈ mS ws w, P a) -> (∀ a ∈ q, P a) -> ∀ x ∈ jl ws r q p h, ∀ a ∈ x.1, P a := by
 refine sE (ws := ws) (P := fun r q p h => (∀ l ∈ r, ∀ w ∈ l, ∀ a ∈ mS ws w, P a) -> (∀ a ∈ q, P a) -> ∀ x ∈ jl ws r q p h, ∀ a ∈ x.1, P a) ?_ ?_ ?_ ?_ ?_ (sC r) r (aiH _) q p h
 . intro q p h _ hq x hx
   rw [pT] at hx
   rw [ajb.mp hx]
   exact hq
 . intro r q p h i hr hq; rw [lO]; exact i (fun l hl => hr l (aiE _ hl)) hq
 . intro w l r q p h hc i hr hq; rw [lP hc]; exact i (fun l hl => hr l (aiE _ hl)) hq
 . intro w l r q p h hc hf i hr hq
   rw [lQ hc hf]
   refine i (fun m hm => ?_) hq
   rcases aiN.mp hm with rfl | hm
   . exact fun v hv => hr _ aiF v (aiE _ hv)
   . exact hr m (aiE _ hm)
 . intro w l r q p h hn hl i1 i2 hr hq x hx
   rw [lR hn hl] at hx
   rcases aiO.mp hx with hx | hx
   . refine i1 (fun l hl => hr l (aiE _ hl)) (fun a ha => ?_) x hx
     rcases aiO.mp ha with ha | ha
     . exact hq a ha
     . exact hr _ aiF w aiF a ha
   . refine i2 (fun m hm => ?_) hq x hx
     rcases aiN.mp hm with rfl | hm
     . exact fun v hv => hr _ aiF v (aiE _ hv)
     . exact hr m (aiE _ hm)
theorem CZ {bs nm is os ws : List L3.D} {t : T} (h1 : D.bV bs = true) (h2 : D.bV nm = true) (h3 : t.clean = true) (h4 : D.bV is = true) (h5 : D.bV os = true) (h6 : D.bV ws = true) : T.bS (mQ bs nm t is os ws) = true := by
 unfold mQ uh um
 rw [ai0, ai0, akk, T.bS, T.bS, T.bS, T.bS, T.bS, T.bS, T.bS, cY h1, cY h2, h3, cY h4, cY h5, cY h6]
 rfl
theorem UQ (x : List Ask × List Int) : (Ze x).mG = true := by
 have e1 : D.bV (x.1.map jr) = true := dg (fun _ => rfl) _
 have e2 : D.bV (x.2.map .int) = true := dU _
 show (D.bV _ && (D.bV _ && true)) = true
 rw [e1, e2]
 rfl
theorem Qp (n : Nat) {l : List Int} (h : l.length <= 1000) : Sm (n + 1) (.lst (l.map .int)) := ⟨by rw [aiC]; exact h, fun d hd => by
 obtain ⟨i, _, rfl⟩ := ai8.mp hd
 cases n <;> trivial⟩
theorem Qq (n : Nat) {l : List Int} (h : l.length <= 1000) : Sm (n + 1) (.tup (l.map .int)) := ⟨by rw [aiC]; exact h, fun d hd => by
 obtain ⟨i, _, rfl⟩ := ai8.mp hd
 cases n <;> trivial⟩
theorem Ku (ws : List cE) (vs : List Int) : ∀ (r : List (List Int)) (p : List Int), (zu ws vs r p).length <= p.length + r.length
 | [], p => aiH _
 | l :: r, p => by
   have h1 := Ku ws vs r (nR ws vs p l)
   have h2 : (nR ws vs p l).length <= p.length + 1 := by
     unfold nR
     split
     . omega
     . exact J8 _ _
   show (zu ws vs r (nR ws vs p l)).length <= _
   rw [ai2]
   omega
noncomputable def W0 (c : Int) (k : Nat) : Int := xK (c % 10 ^ (36 : Int).toNat / (4 + 11 * (k : Int)) + (k : Int))
noncomputable abbrev Kv : Stmt := top 53
noncomputable abbrev Qs : Type := List Int
noncomputable def qy : Qs -> List L3.D := fun a => [.lst (a.map .int)]
noncomputable def qz : Qs -> Prop := fun a => a.length <= 63
noncomputable def qA : Qs -> T := fun a => (.sh (.bl true) : T)
structure acR (X : Cx) (CL : Str -> Addr) : Prop extends cK X where
 aG : Ln X 0 "script"
 bI : Ln X 1 "parts"
 dN : Ln X 2 "chart"
 mV : Ln X 3 "turn"
 bH : Ln X 4 "cell"
 Ik : X.env.kindOf "cell" = some .cell
 fO : Ln X 5 "chosen"
 bJ : Ln X 6 "opens"
 iF : Ln X 7 "sign"
 bP : Ln X 8 "boxes"
 yi : Ln X 9 "handed"
 bQ : Ln X 10 "found"
 C1 : Gl X "_law_parts"
 C2 : Gl X "_law_chart"
 C3 : Gl X "_law_turns"
 kO : Gl X "_law_chosen"
 C4 : Gl X "_law_opens"
 iY : Gl X "_law_name"
 bE : Gl X "range"
 cy : Gl X "len"
 cU : Gl X "list"
 C5 : Gl X "_law_first"
 rK : Gl X "branches"
 jb : Gl X "_law_same"
 zO : Gl X "_law_picked"
 UR : Fc X CL "_law_parts" 5 2 pW pX pY
 UT : Fc X CL "_law_chart" 3 1 pZ lZ qa
 UU : Fc X CL "_law_turns" 1 1 qb qc qd
 xW : Fc X CL "_law_chosen" 2 4 jJ gG jK
 UW : Fc X CL "_law_opens" 1 3 qf mj qg
 xQ : Fc X CL "_law_name" 2 2 lU gW lV
 bF : X.mg "range" = none
 b8 : X.mg "len" = none
 cV : X.mg "list" = none
 UX : Fc X CL "_law_first" 3 2 qk mz ql
 Il : Fc X CL "branches" 3 4 ju ia jv
 yd : Fc X CL "_law_same" 9 2 oV (jP 8) oW
 Qt : Fc X CL "_law_picked" 4 4 ny jQ nA
 oq : Fc X CL "_law_number" 1 1 iC iD iE
theorem acS {X : Cx} {CL : Str -> Addr} {b : Bx} (E : acR X CL) (a) (h : qz a) :
   aD X CL b Kv ["script", "parts", "chart", "turn", "cell", "chosen", "opens", "sign", "boxes", "handed", "found"] (qy a) (qA a) := by
 dsimp only [aD, qz, qy, qA] at h ⊢
 have hs : a.length <= 1000 := by omega
 refine aO E.g E.bI (aW (cF (a, 9) E.UR E.C1 (bu (v_ E.aG.1) (bu aj cO)) ⟨hs, by omega, by omega⟩) (t2 := .sh (gX ((HV a).map xB) (jX a (d7 a 9)) (B7 a (jX a (d7 a 9)) (d7 a 9)) (Kd a (jX a (d7 a 9)) (B7 a (jX a (d7 a 9)) (d7 a 9)) 16 (d7 a 9)) (Ff a 100 (d7 a 9)) (Ff a 103 (d7 a 9)) ((qJ a (jX a (d7 a 9)) (m8 a)).map dP))) rfl) ?_
 obtain ⟨n1, n2, _⟩ := Km a (most := 9) (by omega)
 generalize d7 a 9 = n at n1 n2 ⊢
 obtain ⟨Mg, tU⟩ := Ka a n1 n2
 generalize jX a n = es at Mg tU ⊢
 have ht := tU.1
 have Ui := B8 a es n
 have HW := Kc a es
 rw [Mg] at HW
 generalize B7 a es n = ks at Ui HW ⊢
 generalize Kd a es ks 16 n = ss
 have iw := xS a es (m8 a)
 have hwa : ∀ vs : List Int, vs.length = m8 a -> mR es.length vs (qJ a es (m8 a)) := fun vs hv => Qn (by omega) hv
 have JD : (qJ a es (m8 a)).length <= 8 := by
   unfold qJ
   rw [aiC, ajC]
   exact AY a es.length
 have hnb : m8 a <= 3 := by
   have := aiV (az a 32) (show (0 : Int) < 4 by decide)
   unfold m8
   omega
 have ib := Mf a
 have hbl : ((HV a).map xB).length = m8 a := by
   unfold HV m8
   rw [aiC, aiC, ajC]
 generalize m8 a = nb at iw hwa JD hnb hbl ⊢
 generalize qJ a es nb = ws at iw hwa JD ⊢
 have ii := AZ a 100 n
 have io := AZ a 103 n
 generalize Ff a 100 n = is at ii ⊢
 generalize Ff a 103 n = os at io ⊢
 generalize (HV a).map xB = bs at ib hbl ⊢
 refine aO E.g E.dN (pP (d := kN bs ((Fp es.length).map .str) (oh ks es ss) is os (ws.map dP)) (c_ (bs, es, ks, ss, is, os, ws.map dP) E.UT E.C2 (ai (aE E.bI) aN) (by dsimp only [lZ]; exact ⟨ib, ii, io, iw, by omega⟩) (by
   show T.bS (mQ _ _ _ _ _ _) = true
   exact CZ ib (sj _) (vf ks es ss) ii io iw)) (by
   show T.dQ (.ins "Chart" (mQ _ _ _ _ _ _)) = _
   rw [HB, LX])) ?_
 refine aO E.g E.mV aj ?_
 have htl := Cy a a.length
 refine gJ E.g E.bH (fun j δ => ∃ o4 o5 o6 o7 o8 o9 ZD, δ = [some (.sh (.lst (a.map .int))), some (.sh (gX bs es ks ss is os (ws.map dP))), some (.sh (kN bs ((Fp es.length).map .str) (oh ks es ss) is os (ws.map dP))), some (.sh (.int (j : Int))), o4, o5, o6, o7, o8, o9, ZD])
   (n6 (By (aW (JR (ds := [.int 0]) (zm := (Mh a a.length).map .int) (dZ (ds := [.int 0]) (dF (bu aj cO) (aM rfl))) (dZ (aW (c_ a E.UU E.C3 (ai (aE E.aG) aN) hs (cG _)) rfl)) rfl (dU _) (ajy (cJ (by simp only [aiC, aiT, ai2, ajQ]; omega)))) (t2 := .lst (((0 :: Mh a a.length).map .int).map T.sh)) rfl))) ⟨_, _, _, _, _, _, _, rfl⟩ (fun j δ ⟨_, _, _, _, _, _, _, e⟩ => by subst e; exact aiJ rfl) ?turn ?fin
 case turn =>
   rintro j d δ hj ⟨o4, o5, o6, o7, o8, o9, ZD, rfl⟩
   obtain ⟨c, rfl, _, _, pS, _, _⟩ := qX hj
   rw [ai2] at pS
   have ah2 : j <= 70 := by omega
   refine aO E.g E.fO (aW (c_ (a, es, ks, 16 + (j : Int)) E.xW E.kO (ai (aE E.aG) (ai (aV (aE E.bI) (ah aj) (aF (j := 1) rfl)) (ai (aV (aE E.bI) (ah aj) (aF (j := 2) rfl)) (ai (ah (cu (ah aj) (aE E.mV))) aN)))) (by dsimp only [gG]; exact ⟨by omega, hs, by omega, HW, by omega, by omega⟩) (cG _)) (t2 := .lst (((Kd a es ks (16 + (j : Int)) es.length).map .int).map T.sh)) rfl) ?_
   have acT := Ke a es ks (16 + (j : Int)) es.length
   generalize Kd a es ks (16 + (j : Int)) es.length = ch at acT ⊢
   refine aO E.g E.bJ (aW (c_ (es, ks, ch) E.UW E.C4 (ai (aV (aE E.bI) (ah aj) (aF (j := 1) rfl)) (ai (aV (aE E.bI) (ah aj) (aF (j := 2) rfl)) (ai (vL E.fO.1) aN))) (by dsimp only [mj]; exact ⟨by omega, by omega, by omega, acT, ht⟩) (cG _)) (t2 := .lst (((BQ (je ks) es ch (es.length - 1)).map .int).map T.sh)) rfl) ?_
   have hob : ∀ x ∈ BQ (je ks) es ch (es.length - 1), 0 <= x /\ x < (es.length : Int) := fun x hx => by
     have := v5 _ hx
     omega
   have hol := BR (isAll := je ks) (es := es) (ch := ch) (es.length - 1)
   generalize BQ (je ks) es ch (es.length - 1) = ops at hob hol ⊢
   have q0 := ai4 (c + (j : Int)) (b := 4) (by decide)
   have q1 := aiV (c + (j : Int)) (b := 4) (by decide)
   refine aO E.g E.iF (aW (c_ (a, (c + (j : Int)) % 4) E.xQ E.iY (ai (aE E.aG) (ai (ah (bD (ah (cu (aE E.bH) (aE E.mV))) (ah aj) (by decide))) aN)) (by dsimp only [gW]; exact ⟨hs, by omega, by omega⟩) rfl) (t2 := .sh (.str (RD a ((c + (j : Int)) % 4)))) rfl) ?_
   generalize RD a ((c + (j : Int)) % 4) = sg
   refine qY (p := fun _ => true) (gg := fun d => T.sh (.int (W0 c d.vG.toNat))) E.g E.bP (cQ (.cons E.bH.1 (.inl E.Ik) .nil) (by decide +kernel)) (cS E.bF (ah (di hbl E.b8 (aV (aE E.bI) (ah aj) (aF (j := 0) rfl)) E.cy)) (by omega) E.bE) (.inr rfl) (fun C s0 H0 f0 b' d hd => ?E7) (ajy (cJ (by simp [bB]; omega))) ?rest (by exact aiJ rfl) (jG ⟨_, rfl⟩)
   case E7 =>
     obtain ⟨i, hi, rfl⟩ := ai8.mp hd
     have hi2 : i < nb := by simpa using hi
     have et : (L3.D.int (0 + (i : Int))).vG.toNat = i := by show (0 + (i : Int)).toNat = i; omega
     refine ⟨rfl, fun _ => aW (c_ (c % 10 ^ (36 : Int).toNat / (4 + 11 * (0 + (i : Int))) + (0 + (i : Int))) (mL E.oq) (gR (by decide +kernel)) (ai (ah (cu (ah (cA (ah (bD (ah (v_ (gQ (i := 1) rfl (by decide +kernel)))) (ah (Bs (ah aj) (ah aj) ⟨by decide, by decide, by decide⟩)) (by decide))) (ah (cu (ah aj) (ah (tX (ah aj) (ah (v_ (eF (i := 0) rfl (by decide +kernel)))) (.inl ⟨by decide, by decide⟩))))) (⟨by omega, by omega⟩))) (ah (v_ (eF (i := 0) rfl (by decide +kernel)))))) aN) trivial rfl) ?_⟩
     show T.sh _ = T.sh (.int (W0 c (L3.D.int (0 + (i : Int))).vG.toNat))
     rw [et]
     unfold W0
     rw [ajF]
   case rest =>
   have em : ((bB 0 ((nb : Nat) : Int).toNat).filter fun _ => true).map (fun d => T.sh (.int (W0 c d.vG.toNat))) = (((List.range nb).map (W0 c)).map L3.D.int).map T.sh := by
     rw [fL]
     unfold bB
     rw [ajh, ajh, ajh, ajn]
     refine ajx fun k _ => ?_
     show T.sh (.int (W0 c (0 + (k : Int)).toNat)) = _
     rw [show (0 + (k : Int)).toNat = k by omega]
     rfl
   rw [em]
   have hvl : ((List.range nb).map (W0 c)).length = nb := by rw [aiC, ajC]
   have WZ := hwa _ hvl
   generalize (List.range nb).map (W0 c) = vs at hvl WZ ⊢
   refine aO E.g E.yi (c9 E.cV (vL E.bJ.1) (dU _) E.cU bW) ?_
   have hg := WZ.g
   have WY := yc (ws := ws) (ops := ops) (sg := sg) (es := es) (l := iu ks ops)
   have hRl : (dm ws ops sg es (iu ks ops)).length <= 9 := by
     have := ajJ (E4 ks) ops
     unfold dm iu
     rw [aiC]
     omega
   have afp : (jl ws (dm ws ops sg es (iu ks ops)) [] [] []).length <= 300 := by
     have h1 := Uc ws ws.length (dm ws ops sg es (iu ks ops)) [] [] [] fun l hl => (WY l hl).1
     have h2 : j5 ws.length [] <= ws.length := by
       unfold j5
       refine ajL (ajJ _ _) ?_
       rw [ajC]
       exact aiH _
     have h3 : 2 ^ j5 ws.length [] <= 2 ^ 8 := akp (by decide) (by omega)
     omega
   obtain ⟨y, hf⟩ := L0 (ws := ws) (vs := vs) (dm ws ops sg es (iu ks ops)) [] [] [] rfl (fun w c h => by cases h)
   have hqs : ∀ x ∈ jl ws (dm ws ops sg es (iu ks ops)) [] [] [], ∀ q ∈ x.1, okQ vs q /\ mkQ q := Qo (dm ws ops sg es (iu ks ops)) [] [] [] (fun l hl w hw q hq => by
     obtain ⟨w0', w1⟩ := (WY l hl).1 w hw
     obtain ⟨al, ea, _, dw⟩ := WZ (ws.getD w.toNat w0) (by
       rw [aiK, aiL (by omega)]
       exact ajU _)
     exact Qj ea dw q hq) (fun q hq => by cases hq)
   have ZU := Ku ws vs (dm ws ops sg es (iu ks ops)) []
   refine aO E.g E.bQ (aW (c_ (jl ws (dm ws ops sg es (iu ks ops)) [] [] [], vs, y, zu ws vs (dm ws ops sg es (iu ks ops)) []) E.UX E.C5 (ai (dZ (aW (c_ (bs, (Fp es.length).map .str, ks, es, ss, is, os, ws, ops, sg, 300) E.Il E.rK (ai (aE E.dN) (ai (vL E.yi.1) (ai (aE E.iF) (ai (ah aj) aN)))) (by dsimp only [ia]; exact ⟨⟨ht, by omega, by omega⟩, ⟨by omega, WZ.ok, hg⟩, ⟨by omega, hob⟩, afp, by omega⟩) (cY (dg (fun x => UQ x) _))) (t2 := .lst (((jl ws (dm ws ops sg es (iu ks ops)) [] [] []).map Ze).map T.sh)) rfl)) (ai (vL E.bP.1) aN)) (by dsimp only [mz]; exact ⟨hqs, hf⟩) (dU _)) (t2 := .sh (.tup ((zu ws vs (dm ws ops sg es (iu ks ops)) []).map .int))) rfl) ?_
   have afq : Sm 8 (.tup ((zu ws vs (dm ws ops sg es (iu ks ops)) []).map .int)) := Qq 7 (by simp only [ajQ] at ZU; omega)
   have afr : Sm 8 (.lst (ops.map .int)) := Qp 7 (by omega)
   refine dc (jD (qF (TQ (aE E.bQ)) (fun _ => kJ (mJ (f6 (aW (c_ (L3.D.tup ((zu ws vs (dm ws ops sg es (iu ks ops)) []).map .int)) E.yd E.jb (ai (aE E.bQ) (ai (ah (aW (c_ (bs, es, ks, ss, is, os, ws, ops, vs, sg, es.length) E.Qt E.zO (ai (aE E.bI) (ai (vL E.bJ.1) (ai (vL E.bP.1) (ai (aE E.iF) aN)))) (by dsimp only [jQ]; exact ⟨⟨ht, by omega, by omega⟩, ⟨by omega, WZ⟩, by omega, hob⟩) (dU _)) (t2 := .sh (.tup ((zu ws vs (dm ws ops sg es (iu ks ops)) []).map .int))) rfl)) aN)) afq rfl) (t2 := .sh (.bl true)) rfl)))))) (fun hp => absurd hp (by decide)) (fun _ => aq ?_)
   refine dc (mJ (f6 (aW (c_ (L3.D.lst (ops.map .int)) E.yd E.jb (ai (vL E.yi.1) (ai (vL E.bJ.1) aN)) afr rfl) (t2 := .sh (.bl true)) rfl))) (fun hp => absurd hp (by decide)) (fun _ => aq ?_)
   exact aO E.g E.mV (cu (aE E.mV) (ah aj)) (aq ⟨_, _, _, _, _, _, _, rfl⟩)
 case fin =>
   rintro δ ⟨o4, o5, o6, o7, o8, o9, ZD, rfl⟩
   exact bL lG rfl
theorem cZ : kM (ao Kv) ([("script", au), ("parts", au), ("chart", au), ("turn", au), ("cell", .cell), ("chosen", au), ("opens", au), ("sign", au), ("boxes", au), ("handed", au), ("found", au), ("_law_parts", av), ("_law_chart", av), ("_law_turns", av), ("_law_chosen", av), ("_law_opens", av), ("_law_name", av), ("range", av), ("len", av), ("list", av), ("_law_first", av), ("branches", av), ("_law_same", av), ("_law_picked", av)]) = true := by decide +kernel
theorem Qu : aU ["script", "parts", "chart", "turn", "cell", "chosen", "opens", "sign", "boxes", "handed", "found"] ["script"] (ao Kv) := bq
noncomputable def cl (ak ay aC : Addr) : Str -> Addr := fun c => if c = "Chart" then ak else if c = "Tree" then ay else if c = "#goable.<locals>.<lambda>" then aC else 0
theorem vv {ak ay aC : Addr} : cl ak ay aC "#goable.<locals>.<lambda>" = aC := by unfold cl; rw [aiG (by decide +kernel)]; rw [aiG (by decide +kernel)]; rw [aiI rfl]
theorem ig {ak ay aC : Addr} : cl ak ay aC "Chart" = ak := by unfold cl; rw [aiI rfl]
theorem qB {ak ay aC : Addr} : cl ak ay aC "Tree" = ay := by unfold cl; rw [aiG (by decide +kernel)]; rw [aiI rfl]
theorem UY {ak ay aC : Addr} {x : Str} (h : Es x = true) (h0 : cl ak ay aC x ≠ 0) : (cl ak ay aC x, Ld x) ∈ ([(aC, "goable.<locals>.<lambda>")] : List (Addr × Str)) := by
 unfold cl at h0 ⊢
 rw [aiG (fun e => by rw [e] at h; exact absurd h (by decide +kernel))] at h0 ⊢
 rw [aiG (fun e => by rw [e] at h; exact absurd h (by decide +kernel))] at h0 ⊢
 by_cases yj : x = "#goable.<locals>.<lambda>"
 . rw [aiI yj, yj, show Ld ("#goable.<locals>.<lambda>" : Str) = "goable.<locals>.<lambda>" by decide +kernel]; simp
 rw [aiG yj] at h0 ⊢
 exact absurd rfl h0
noncomputable def acU {α : Type} : Nat -> (List α -> Prop) -> Prop
 | 0, P => P []
 | n + 1, P => ∀ a, acU n fun r => P (a :: r)
theorem bO {α : Type} {n : Nat} {P : List α -> Prop} (h : acU n P) : ∀ us : List α, us.length = n -> P us := by
 intro us hl
 induction us generalizing n P with
 | nil => subst hl; exact h
 | cons a r ih => subst hl; exact ih (P := fun r => P (a :: r)) (h a) rfl
theorem all_mk {l : PySem.W.OpenLaw} {w : World} {K : PySem.W.Frag} {h : Heap} {mg : Str -> Option Value} {T0 : List Addr} {fa Im yk C6 rL ym Io yo Iq Ir C7 Iu C8 kH jw C9 Dc Dd De Df Dg kZ jR k6 oY k7 oZ uB Dh Iv yp rM Iw uC pe Di uD yq W2 ak ay aC : Addr} (XX : K.In h) (G : h.Ns mainGlobals mg) (hfa : mg "law" = some (.ref fa))
   {ZW Qv UZ Iz Qw ZX Qx ZY ZZ U0 Z0 U1 F0 Dj U3 U4 U5 U6 U7 U8 kY eO kX ja iT kr ux CQ Ig F2 rK g_same Mv F3 U9 Mw Qy W3 : FuncData}
   (Dk : PySem.W.nsIn K mainGlobals "Chart" = some (some (.ref ak))) (yr : PySem.W.plainGet K ak Str.empty = true) (yt : PySem.W.hasDictIn K ak = true) (yu : PySem.W.plainOver K ak = true) (yw : PySem.W.findIn K (.ref ak) "__setattr__" = some (some (.builtin "object.__setattr__"))) (yx : PySem.W.makesIn K ak = true) (yy : PySem.W.keepIn K (.ref ak) = true)
   (k8 : PySem.W.findIn K (.ref ak) "boxes" = some none)
   (k9 : PySem.W.findIn K (.ref ak) "names" = some none)
   (nB : PySem.W.findIn K (.ref ak) "tree" = some none)
   (pA : PySem.W.findIn K (.ref ak) "ins" = some none)
   (nE : PySem.W.findIn K (.ref ak) "outs" = some none)
   (nF : PySem.W.findIn K (.ref ak) "ways" = some none)
   (IA : PySem.W.nsIn K mainGlobals "Tree" = some (some (.ref ay))) (Dl : PySem.W.plainGet K ay Str.empty = true) (Dm : PySem.W.hasDictIn K ay = true) (Dn : PySem.W.plainOver K ay = true) (Dp : PySem.W.findIn K (.ref ay) "__setattr__" = some (some (.builtin "object.__setattr__"))) (Dq : PySem.W.makesIn K ay = true) (Dr : PySem.W.keepIn K (.ref ay) = true)
   (nG : PySem.W.findIn K (.ref ay) "kinds" = some none)
   (lg : PySem.W.findIn K (.ref ay) "elders" = some none)
   (lq : PySem.W.findIn K (.ref ay) "starts" = some none)
   (IB : PySem.W.nsIn K mainGlobals "_law_cell" = some (some (.ref Im))) (IC : jB K "_law_cell" "_law_cell" B5 Im ZW)
   (yz : PySem.W.nsIn K mainGlobals "_law_elders" = some (some (.ref yk))) (yC : jB K "_law_elders" "_law_elders" sF yk Qv)
   (Ds : PySem.W.nsIn K mainGlobals "_law_kinds" = some (some (.ref C6))) (Dt : jB K "_law_kinds" "_law_kinds" v9 C6 UZ)
   (rN : PySem.W.nsIn K mainGlobals "_law_inner" = some (some (.ref rL))) (rO : jB K "_law_inner" "_law_inner" mZ rL Iz)
   (yE : PySem.W.nsIn K mainGlobals "_law_chosen" = some (some (.ref ym))) (yF : jB K "_law_chosen" "_law_chosen" sH ym Qw)
   (IE : PySem.W.nsIn K mainGlobals "_law_name" = some (some (.ref Io))) (IG : jB K "_law_name" "_law_name" Cb Io ZX)
   (yG : PySem.W.nsIn K mainGlobals "_law_number" = some (some (.ref yo))) (yH : jB K "_law_number" "_law_number" sM yo Qx)
   (II : PySem.W.nsIn K mainGlobals "_law_term" = some (some (.ref Iq))) (IJ : jB K "_law_term" "_law_term" Cd Iq ZY)
   (IK : PySem.W.nsIn K mainGlobals "_law_asks" = some (some (.ref Ir))) (IL : jB K "_law_asks" "_law_asks" Cg Ir ZZ)
   (Du : PySem.W.nsIn K mainGlobals "_law_deeds" = some (some (.ref C7))) (Dv : jB K "_law_deeds" "_law_deeds" wc C7 U0)
   (IQ : PySem.W.nsIn K mainGlobals "_law_ways" = some (some (.ref Iu))) (IU : jB K "_law_ways" "_law_ways" Cj Iu Z0)
   (Dw : PySem.W.nsIn K mainGlobals "_law_parts" = some (some (.ref C8))) (Dy : jB K "_law_parts" "_law_parts" wj C8 U1)
   (pB : PySem.W.findIn K (.ref ay) "__init__" = some (some (.ref kH))) (pC : PySem.W.isFn K (.ref kH) = true) (vz : jB K "__init__" "Tree.__init__" j9 kH F0)
   (nI : PySem.W.findIn K (.ref ak) "__init__" = some (some (.ref jw))) (nJ : PySem.W.isFn K (.ref jw) = true) (tH : jB K "__init__" "Chart.__init__" jt jw Dj)
   (Dz : PySem.W.nsIn K mainGlobals "_law_chart" = some (some (.ref C9))) (DB : jB K "_law_chart" "_law_chart" wk C9 U3)
   (DC : PySem.W.nsIn K mainGlobals "_law_turns" = some (some (.ref Dc))) (DE : jB K "_law_turns" "_law_turns" wm Dc U4)
   (DF : PySem.W.nsIn K mainGlobals "_law_opens" = some (some (.ref Dd))) (DG : jB K "_law_opens" "_law_opens" wo Dd U5)
   (DH : PySem.W.nsIn K mainGlobals "_law_worth" = some (some (.ref De))) (DI : jB K "_law_worth" "_law_worth" wu De U6)
   (DJ : PySem.W.nsIn K mainGlobals "_law_holds" = some (some (.ref Df))) (DK : jB K "_law_holds" "_law_holds" wA Df U7)
   (DL : PySem.W.nsIn K mainGlobals "_law_first" = some (some (.ref Dg))) (DM : jB K "_law_first" "_law_first" wB Dg U8)
   (lu : PySem.W.nsIn K mainGlobals "open_leaves" = some (some (.ref kZ))) (ly : jB K "open_leaves" "open_leaves" iJ kZ kY)
   (jS : PySem.W.nsIn K mainGlobals "at_next_leaf" = some (some (.ref jR))) (jT : jB K "at_next_leaf" "at_next_leaf" g6 jR eO)
   (lz : PySem.W.nsIn K mainGlobals "number_asks" = some (some (.ref k6))) (lA : jB K "number_asks" "number_asks" iM k6 kX)
   (pD : PySem.W.nsIn K mainGlobals "with_pick" = some (some (.ref oY))) (pF : jB K "with_pick" "with_pick" kg oY ja)
   (lB : PySem.W.nsIn K mainGlobals "at_next_way" = some (some (.ref k7))) (lC : jB K "at_next_way" "at_next_way" iQ k7 iT)
   (pG : PySem.W.nsIn K mainGlobals "with_held" = some (some (.ref oZ))) (pH : jB K "with_held" "with_held" kh oZ kr)
   (uE : PySem.W.nsIn K mainGlobals "further" = some (some (.ref uB))) (uF : jB K "further" "further" qm uB ux)
   (DN : PySem.W.nsIn K mainGlobals "above" = some (some (.ref Dh))) (DP : jB K "above" "above" wC Dh CQ)
   (IV : PySem.W.nsIn K mainGlobals "fits" = some (some (.ref Iv))) (IW : jB K "fits" "fits" CM Iv Ig)
   (yI : PySem.W.nsIn K mainGlobals "goable" = some (some (.ref yp))) (yJ : jB K "goable" "goable" tD yp F2)
   {mD : Addr} {Mx : Option Addr} {A6 : Array Value} {My : Array (Option Value)} (uG : F2.code = .ref mD) (A7 : K.lookup mD = some ⟨.type "code", Mx, .fields A6, My⟩) (A8 : A6[11]? = some (.ref aC)) (qC : PySem.W.codeHdIn K mD aC = true) (uH : aC ≠ 0) (uI : K.lookup aC = none) (uJ : aC ∈ T0)
   (rP : PySem.W.nsIn K mainGlobals "branches" = some (some (.ref rM))) (rQ : jB K "branches" "branches" nu rM rK)
   (IX : PySem.W.nsIn K mainGlobals "_law_same" = some (some (.ref Iw))) (DQ : jB K "_law_same" "_law_same" s_same Iw g_same)
   (uK : PySem.W.nsIn K mainGlobals "_law_fits" = some (some (.ref uC))) (uL : jB K "_law_fits" "_law_fits" qu uC Mv)
   (pI : PySem.W.nsIn K mainGlobals "_law_goable" = some (some (.ref pe))) (pJ : jB K "_law_goable" "_law_goable" kD pe F3)
   (DR : PySem.W.nsIn K mainGlobals "_law_lists" = some (some (.ref Di))) (DS : jB K "_law_lists" "_law_lists" wF Di U9)
   (uM : PySem.W.nsIn K mainGlobals "_law_numbers" = some (some (.ref uD))) (uN : jB K "_law_numbers" "_law_numbers" qx uD Mw)
   (yK : PySem.W.nsIn K mainGlobals "_law_picked" = some (some (.ref yq))) (yL : jB K "_law_picked" "_law_picked" tG yq Qy)
   (Kw : PySem.W.nsIn K mainGlobals "law" = some (some (.ref W2))) (Qz : jB K "law" "law" Kv W2 W3)
   (QB : PySem.W.nsIn K mainGlobals "len" = some none)
   (DT : PySem.W.nsIn K mainGlobals "range" = some none)
   (QC : PySem.W.nsIn K mainGlobals "int" = some none)
   (QD : PySem.W.nsIn K mainGlobals "str" = some none)
   (DU : PySem.W.nsIn K mainGlobals "tuple" = some none)
   (yM : PySem.W.nsIn K mainGlobals "sorted" = some none)
   (QF : PySem.W.nsIn K mainGlobals "max" = some none)
   (IY : PySem.W.nsIn K mainGlobals "list" = some none)
   (QG : PySem.W.nsIn K mainGlobals "min" = some none)
   (nK : PySem.W.nsIn K mainGlobals "isinstance" = some none)
   {Va : Tok} (IZ : PySem.W.nsIn K mainGlobals "LEAF" = some (some (.int 0 Va)))
   {QH : Tok} (DV : PySem.W.nsIn K mainGlobals "ASKED" = some (some (.int 2 QH)))
   {Mz : Tok} (yN : PySem.W.nsIn K mainGlobals "PICKED" = some (some (.int 3 Mz)))
   {Vb : Tok} (I0 : PySem.W.nsIn K mainGlobals "HELD" = some (some (.int 4 Vb)))
   {Vc : Tok} (Ja : PySem.W.nsIn K mainGlobals "ASKS" = some (some (.int 2 Vc)))
   {Z6 : Tok} (QI : PySem.W.nsIn K mainGlobals "WAY" = some (some (.int 1 Z6)))
   (Jb : PySem.W.nsIn K mainGlobals "dict" = some none)
   (pK : PySem.W.nsIn K mainGlobals "enumerate" = some none)
   {Vd : Tok} (Jc : PySem.W.nsIn K mainGlobals "SIGN" = some (some (.int 1 Vd)))
   {MA : Tok} (yO : PySem.W.nsIn K mainGlobals "SOURCE" = some (some (.int 0 MA)))
   (y_bool : PySem.W.nsIn K mainGlobals "bool" = some none)
   : ∃ (fd : FuncData) (ts : List (Addr × Str)), (∀ p ∈ ts, p.1 ∈ T0 /\ ts.lookup p.1 = some p.2 /\ K.lookup p.1 = none /\ ∃ c, PySem.W.CodeHd h c p.1) /\ (∀ (s : Shared) (v : Value), BindsTo s fd ⟨[v], []⟩ [("script", v)]) /\ ∀ base : Heap, K.In base -> base.Ns mainGlobals mg -> xh mg base -> ck l.prog w K mg base gO 10 fa fd ["script"] (spT K ts 1 qy qz qA) := by
 have e := hfa.symm.trans (aiQ XX G Kw)
 cases e
 have Z7 := aiQ XX G IB
 have Z8 := IC.binds (ps := ["script", "k"]) fun _ _ _ _ _ _ => by refine bO ?_; exact fun _ _ => rfl
 have QJ := aiQ XX G yz
 have QK := yC.binds (ps := ["script", "many"]) fun _ _ _ _ _ _ => by refine bO ?_; exact fun _ _ => rfl
 have Ve := aiQ XX G Ds
 have Vf := Dt.binds (ps := ["script", "elders"]) fun _ _ _ _ _ _ => by refine bO ?_; exact fun _ _ => rfl
 have Jd := aiQ XX G rN
 have Je := rO.binds (ps := ["elders", "mood"]) fun _ _ _ _ _ _ => by refine bO ?_; exact fun _ _ => rfl
 have QL := aiQ XX G yE
 have QM := yF.binds (ps := ["script", "elders", "kinds", "base"]) fun _ _ _ _ _ _ => by refine bO ?_; exact fun _ _ _ _ => rfl
 have Z9 := aiQ XX G IE
 have aac := IG.binds (ps := ["script", "k"]) fun _ _ _ _ _ _ => by refine bO ?_; exact fun _ _ => rfl
 have QN := aiQ XX G yG
 have QO := yH.binds (ps := ["cell"]) fun _ _ _ _ _ _ => by refine bO ?_; exact fun _ => rfl
 have aad := aiQ XX G II
 have aae := IJ.binds (ps := ["cell", "boxes"]) fun _ _ _ _ _ _ => by refine bO ?_; exact fun _ _ => rfl
 have aaf := aiQ XX G IK
 have aag := IL.binds (ps := ["script", "at", "many", "boxes"]) fun _ _ _ _ _ _ => by refine bO ?_; exact fun _ _ _ _ => rfl
 have Vg := aiQ XX G Du
 have Vh := Dv.binds (ps := ["script", "at", "boxes"]) fun _ _ _ _ _ _ => by refine bO ?_; exact fun _ _ _ => rfl
 have aah := aiQ XX G IQ
 have aai := IU.binds (ps := ["script", "elders", "boxes"]) fun _ _ _ _ _ _ => by refine bO ?_; exact fun _ _ _ => rfl
 have Vi := aiQ XX G Dw
 have Vj := Dy.binds (ps := ["script", "most"]) fun _ _ _ _ _ _ => by refine bO ?_; exact fun _ _ => rfl
 have F4 := vz.binds (ps := ["self", "kinds", "elders", "starts"]) fun _ _ _ _ _ _ => by refine bO ?_; exact fun _ _ _ _ => rfl
 have DW := tH.binds (ps := ["self", "boxes", "names", "tree", "ins", "outs", "ways"]) fun _ _ _ _ _ _ => by refine bO ?_; exact fun _ _ _ _ _ _ _ => rfl
 have Vk := aiQ XX G Dz
 have Vl := DB.binds (ps := ["parts"]) fun _ _ _ _ _ _ => by refine bO ?_; exact fun _ => rfl
 have Vm := aiQ XX G DC
 have Vo := DE.binds (ps := ["script"]) fun _ _ _ _ _ _ => by refine bO ?_; exact fun _ => rfl
 have Vp := aiQ XX G DF
 have Vq := DG.binds (ps := ["elders", "kinds", "chosen"]) fun _ _ _ _ _ _ => by refine bO ?_; exact fun _ _ _ => rfl
 have Vr := aiQ XX G DH
 have Vs := DI.binds (ps := ["term", "boxes"]) fun _ _ _ _ _ _ => by refine bO ?_; exact fun _ _ => rfl
 have Vt := aiQ XX G DJ
 have Vu := DK.binds (ps := ["asks", "boxes"]) fun _ _ _ _ _ _ => by refine bO ?_; exact fun _ _ => rfl
 have Vv := aiQ XX G DL
 have Vw := DM.binds (ps := ["ends", "boxes"]) fun _ _ _ _ _ _ => by refine bO ?_; exact fun _ _ => rfl
 have zP := aiQ XX G lu
 have zQ := ly.binds (ps := ["chart", "opens"]) fun _ _ _ _ _ _ => by refine bO ?_; exact fun _ _ => rfl
 have yP := aiQ XX G jS
 have yQ := jT.binds (ps := ["branch"]) fun _ _ _ _ _ _ => by refine bO ?_; exact fun _ => rfl
 have zR := aiQ XX G lz
 have zS := lA.binds (ps := ["chart", "way"]) fun _ _ _ _ _ _ => by refine bO ?_; exact fun _ _ => rfl
 have F5 := aiQ XX G pD
 have F6 := pF.binds (ps := ["branch", "way"]) fun _ _ _ _ _ _ => by refine bO ?_; exact fun _ _ => rfl
 have zT := aiQ XX G lB
 have zU := lC.binds (ps := ["branch"]) fun _ _ _ _ _ _ => by refine bO ?_; exact fun _ => rfl
 have F7 := aiQ XX G pG
 have F8 := pH.binds (ps := ["held", "way", "holds"]) fun _ _ _ _ _ _ => by refine bO ?_; exact fun _ _ _ => rfl
 have MB := aiQ XX G uE
 have MC := uF.binds (ps := ["chart", "rows", "branch"]) fun _ _ _ _ _ _ => by refine bO ?_; exact fun _ _ _ => rfl
 have Vx := aiQ XX G DN
 have Vy := DP.binds (ps := ["tree", "mood"]) fun _ _ _ _ _ _ => by refine bO ?_; exact fun _ _ => rfl
 have aaj := aiQ XX G IV
 have aak := IW.binds (ps := ["asks", "opens"]) fun _ _ _ _ _ _ => by refine bO ?_; exact fun _ _ => rfl
 have QS := aiQ XX G yI
 have QT := yJ.binds (ps := ["chart", "opens", "leaf", "sign"]) fun _ _ _ _ _ _ => by refine bO ?_; exact fun _ _ _ _ => rfl
 have Jf := aiQ XX G rP
 have Jg := rQ.binds (ps := ["chart", "opens", "sign", "most"]) fun _ _ _ _ _ _ => by refine bO ?_; exact fun _ _ _ _ => rfl
 have QV := aiQ XX G IX
 have QW := DQ.binds (ps := ["found", "due"]) fun _ _ _ _ _ _ => by refine bO ?_; exact fun _ _ => rfl
 have MD := aiQ XX G uK
 have MF := uL.binds (ps := ["asks", "opens"]) fun _ _ _ _ _ _ => by refine bO ?_; exact fun _ _ => rfl
 have F9 := aiQ XX G pI
 have Ga := pJ.binds (ps := ["parts", "opens", "leaf", "sign"]) fun _ _ _ _ _ _ => by refine bO ?_; exact fun _ _ _ _ => rfl
 have Vz := aiQ XX G DR
 have VA := DS.binds (ps := ["parts", "opens", "sign"]) fun _ _ _ _ _ _ => by refine bO ?_; exact fun _ _ _ => rfl
 have MG := aiQ XX G uM
 have MH := uN.binds (ps := ["parts", "number"]) fun _ _ _ _ _ _ => by refine bO ?_; exact fun _ _ => rfl
 have QX := aiQ XX G yK
 have QY := yL.binds (ps := ["parts", "opens", "boxes", "sign"]) fun _ _ _ _ _ _ => by refine bO ?_; exact fun _ _ _ _ => rfl
 have agh := aiQ XX G Kw
 have agi := Qz.binds (ps := ["script"]) fun _ _ _ _ _ _ => by refine bO ?_; exact fun _ => rfl
 have VB := aiQ XX G Dk
 have eo : Aj K ak := ⟨yr, yt, yu, yw⟩
 have wG : Aj K ((cl ak ay aC) "Chart") := by rw [ig]; exact eo
 have zV : bY K ((cl ak ay aC) "Chart") "boxes" := by rw [ig]; exact k8
 have zW : bY K ((cl ak ay aC) "Chart") "names" := by rw [ig]; exact k9
 have nL : bY K ((cl ak ay aC) "Chart") "tree" := by rw [ig]; exact nB
 have Gb : bY K ((cl ak ay aC) "Chart") "ins" := by rw [ig]; exact pA
 have DX : bY K ((cl ak ay aC) "Chart") "outs" := by rw [ig]; exact nE
 have nM : bY K ((cl ak ay aC) "Chart") "ways" := by rw [ig]; exact nF
 have aal := aiQ XX G IA
 have kQ : Aj K ay := ⟨Dl, Dm, Dn, Dp⟩
 have Jh : Aj K ((cl ak ay aC) "Tree") := by rw [qB]; exact kQ
 have tK : bY K ((cl ak ay aC) "Tree") "kinds" := by rw [qB]; exact nG
 have qP : bY K ((cl ak ay aC) "Tree") "elders" := by rw [qB]; exact lg
 have zX : bY K ((cl ak ay aC) "Tree") "starts" := by rw [qB]; exact lq
 have jU := ajs XX G QB
 have fE := ajs XX G DT
 have W4 := ajs XX G QC
 have Kx := ajs XX G QD
 have nO := ajs XX G DU
 have Gd := ajs XX G yM
 have acV := ajs XX G QF
 have uO := ajs XX G IY
 have acW := ajs XX G QG
 have tL := ajs XX G nK
 have yR : ∃ u, mg "LEAF" = some (.int 0 u) := ⟨_, aiQ XX G IZ⟩
 have tM : ∃ u, mg "ASKED" = some (.int 2 u) := ⟨_, aiQ XX G DV⟩
 have pL : ∃ u, mg "PICKED" = some (.int 3 u) := ⟨_, aiQ XX G yN⟩
 have DY : ∃ u, mg "HELD" = some (.int 4 u) := ⟨_, aiQ XX G I0⟩
 have QZ : ∃ u, mg "ASKS" = some (.int 2 u) := ⟨_, aiQ XX G Ja⟩
 have Q0 : ∃ u, mg "WAY" = some (.int 1 u) := ⟨_, aiQ XX G QI⟩
 have aam := ajs XX G Jb
 have Ge := ajs XX G pK
 have aan : ∃ u, mg "SIGN" = some (.int 1 u) := ⟨_, aiQ XX G Jc⟩
 have Q5 : ∃ u, mg "SOURCE" = some (.int 0 u) := ⟨_, aiQ XX G yO⟩
 have aao := ajs XX G y_bool
 refine ⟨W3, [(aC, "goable.<locals>.<lambda>")], ?tabs, ?bind, fun base kb _ bl => ?_⟩
 case tabs =>
   intro p hp
   simp only [aiN, ajp, or_false] at hp
   rcases hp with rfl
   . exact ⟨uJ, by simp only [ajg, akh], uI, mD, PySem.W.codeHd_of_K XX qC⟩
 case bind =>
   obtain ⟨oc, od, kV, doc, pm, an, dY, ct, M5, rfl, lk, jy⟩ := Qz.ex
   exact fun s v => .of_eq rfl
 have aap : ck l.prog w K mg base gO 1 Im _ ["script", "k"] (kK K (cl ak ay aC) 2 fN bf eZ) := bA IC J9 fun dY Ar outer s H E b a hr hp => by
   obtain ⟨p0, p1⟩ := a; refine Zh ?_ p0 p1 hp
   exact ⟨⟨⟨J9.nd, rfl, rfl⟩, hr.units⟩, bz v8 0, bz v8 1, bz v8 2, cj v8 3, jU⟩
 have pM := cT aap Z7 IC.kp Z8
 have Q6 : ck l.prog w K mg base gO 2 yk _ ["script", "many"] (kK K (cl ak ay aC) 2 mW jI mX) := bA yC AK fun dY Ar outer s H E b a hr hp => by
   obtain ⟨p0, p1⟩ := a; refine PV ?_ p0 p1 hp
   exact ⟨⟨⟨AK.nd, rfl, rfl⟩, hr.units⟩, bz fu 0, bz fu 1, bz fu 2, bz fu 3, bz fu 4, bz fu 5, bz fu 6, bz fu 7, cj fu 8, cj fu 9, cX pM hr, fE⟩
 have Q7 := cT Q6 QJ yC.kp QK
 have VC : ck l.prog w K mg base gO 2 C6 _ ["script", "elders"] (kK K (cl ak ay aC) 2 pU lT pV) := bA Dt E6 fun dY Ar outer s H E b a hr hp => by
   obtain ⟨p0, p1⟩ := a; refine Uh ?_ p0 p1 hp
   exact ⟨⟨⟨E6.nd, rfl, rfl⟩, hr.units⟩, bz gb 0, bz gb 1, bz gb 2, bz gb 3, bz gb 4, bz gb 5, cj gb 6, cj gb 7, cj gb 8, cj gb 9, cX pM hr, fE, jU, W4⟩
 have VD := cT VC Ve Dt.kp Vf
 have Ji : ck l.prog w K mg base gO 1 rL _ ["elders", "mood"] (kK K (cl ak ay aC) 2 gU eV fP) := bA rO vm fun dY Ar outer s H E b a hr hp => by
   obtain ⟨p0, p1⟩ := a; refine HL ?_ p0 p1 hp
   exact ⟨⟨⟨vm.nd, rfl, rfl⟩, hr.units⟩, LD gK 0, ef gK 0 rfl, LD gK 1, ef gK 1 rfl, cj gK 2, cj gK 3, fE, jU⟩
 have yS := cT Ji Jd rO.kp Je
 have Q8 : ck l.prog w K mg base gO 2 ym _ ["script", "elders", "kinds", "base"] (kK K (cl ak ay aC) 4 jJ gG jK) := bA yF AU fun dY Ar outer s H E b a hr hp => by
   obtain ⟨p0, p1, p2, p3⟩ := a; refine PZ ?_ p0 p1 p2 p3 hp
   exact ⟨⟨⟨AU.nd, rfl, rfl⟩, hr.units⟩, bz eG 0, bz eG 1, bz eG 2, bz eG 3, bz eG 4, bz eG 5, bz eG 6, cj eG 7, cj eG 8, cj eG 9, cj eG 10, fE, jU, cX yS hr, cX pM hr⟩
 have Gf := cT Q8 QL yF.kp QM
 have aaq : ck l.prog w K mg base gO 2 Io _ ["script", "k"] (kK K (cl ak ay aC) 2 lU gW lV) := bA IG Kf fun dY Ar outer s H E b a hr hp => by
   obtain ⟨p0, p1⟩ := a; refine Zr ?_ p0 p1 hp
   exact ⟨⟨⟨Kf.nd, rfl, rfl⟩, hr.units⟩, bz j6 0, bz j6 1, bz j6 2, bz j6 3, bz j6 4, bz j6 5, cj j6 6, cj j6 7, cX pM hr, Kx⟩
 have Jj := cT aaq Z9 IG.kp aac
 have Q9 : ck l.prog w K mg base gO 1 yo _ ["cell"] (kK K (cl ak ay aC) 1 iC iD iE) := bA yH AV fun dY Ar outer s H E b a hr hp => by
   refine P4 ?_ a hp
   exact ⟨⟨⟨AV.nd, rfl, rfl⟩, hr.units⟩, bz L7 0⟩
 have yT := cT Q9 QN yH.kp QO
 have aar : ck l.prog w K mg base gO 2 Iq _ ["cell", "boxes"] (kK K (cl ak ay aC) 2 oi oj om) := bA IJ Kg fun dY Ar outer s H E b a hr hp => by
   obtain ⟨p0, p1⟩ := a; refine Zu ?_ p0 p1 hp
   exact ⟨⟨⟨Kg.nd, rfl, rfl⟩, hr.units⟩, bz Ce 0, bz Ce 1, cj Ce 2, cX yT hr⟩
 have Ra := cT aar aad IJ.kp aae
 have aas : ck l.prog w K mg base gO 3 Ir _ ["script", "at", "many", "boxes"] (kK K (cl ak ay aC) 4 sN oz sO) := bA IL Kh fun dY Ar outer s H E b a hr hp => by
   obtain ⟨p0, p1, p2, p3⟩ := a; refine Zw ?_ p0 p1 p2 p3 hp
   exact ⟨⟨⟨Kh.nd, rfl, rfl⟩, hr.units⟩, bz gn 0, bz gn 1, bz gn 2, bz gn 3, bz gn 4, bz gn 5, bz gn 6, bz gn 7, cj gn 8, cj gn 9, cj gn 10, cj gn 11, fE, cX pM hr, cX Ra hr, nO⟩
 have aat := cT aas aaf IL.kp aag
 have VF : ck l.prog w K mg base gO 3 C7 _ ["script", "at", "boxes"] (kK K (cl ak ay aC) 3 lX gM lY) := bA Dv Fd fun dY Ar outer s H E b a hr hp => by
   obtain ⟨p0, p1, p2⟩ := a; refine Ul ?_ p0 p1 p2 hp
   exact ⟨⟨⟨Fd.nd, rfl, rfl⟩, hr.units⟩, bz e7 0, bz e7 1, bz e7 2, bz e7 3, bz e7 4, bz e7 5, bz e7 6, cj e7 7, cj e7 8, cj e7 9, cj e7 10, cj e7 11, fE, cX pM hr, cX Jj hr, cX Ra hr, nO⟩
 have Ky := cT VF Vg Dv.kp Vh
 have aau : ck l.prog w K mg base gO 4 Iu _ ["script", "elders", "boxes"] (kK K (cl ak ay aC) 3 sP oB sQ) := bA IU Kl fun dY Ar outer s H E b a hr hp => by
   obtain ⟨p0, p1, p2⟩ := a; refine ZC ?_ p0 p1 p2 hp
   exact ⟨⟨⟨Kl.nd, rfl, rfl⟩, hr.units⟩, LD b9 0, ef b9 0 rfl, bz b9 1, bz b9 2, LD b9 3, ef b9 3 rfl, bz b9 4, bz b9 5, bz b9 6, bz b9 7, bz b9 8, bz b9 9, bz b9 10, bz b9 11, bz b9 12, bz b9 13, bz b9 14, bz b9 15, cj b9 16, cj b9 17, cj b9 18, cj b9 19, cj b9 20, cj b9 21, cj b9 22, cj b9 23, jU, cX pM hr, Gd, fE, cX Jj hr, cX aat hr, cX Ky hr, cX yS hr⟩
 have aav := cT aau aah IU.kp aai
 have VG : ck l.prog w K mg base gO 5 C8 _ ["script", "most"] (kK K (cl ak ay aC) 2 pW pX pY) := bA Dy Fi fun dY Ar outer s H E b a hr hp => by
   obtain ⟨p0, p1⟩ := a; refine Uq ?_ p0 p1 hp
   exact ⟨⟨⟨Fi.nd, rfl, rfl⟩, hr.units⟩, LD cH 0, ef cH 0 rfl, bz cH 1, bz cH 2, bz cH 3, bz cH 4, bz cH 5, LD cH 6, ef cH 6 rfl, bz cH 7, bz cH 8, bz cH 9, cj cH 10, cj cH 11, cj cH 12, cj cH 13, cj cH 14, cj cH 15, cj cH 16, cX pM hr, acV, cX Q7 hr, cX VD hr, cX Gf hr, fE, cX aav hr, Kx, cX yT hr, cX Ky hr⟩
 have VH := cT VG Vi Dy.kp Vj
 have Gg : ck l.prog w K mg base gO 1 kH _ ["self", "kinds", "elders", "starts"] (spI K (cl ak ay aC) "Tree" 4 qK qL qM) := JQ vz sU fun dY Ar outer s H E b a y hr hp => by
   obtain ⟨p0, p1, p2⟩ := a; refine Fl ?_ p0 p1 p2 y hp
   exact ⟨⟨⟨sU.nd, rfl, rfl⟩, hr.units⟩, bz gY 0, bz gY 1, bz gY 2, bz gY 3, cj gY 4, uO, Jh, tK, qP, zX⟩
 have DZ : ck l.prog w K mg base gO 1 jw _ ["self", "boxes", "names", "tree", "ins", "outs", "ways"] (spI K (cl ak ay aC) "Chart" 7 oH oJ oK) := JQ tH qN fun dY Ar outer s H E b a y hr hp => by
   obtain ⟨p0, p1, p2, p3, p4, p5⟩ := a; refine Cv ?_ p0 p1 p2 p3 p4 p5 y hp
   exact ⟨⟨⟨qN.nd, rfl, rfl⟩, hr.units⟩, bz dB 0, bz dB 1, bz dB 2, bz dB 3, bz dB 4, bz dB 5, bz dB 6, cj dB 7, uO, wG, zV, zW, nL, Gb, DX, nM⟩
 have VJ : ck l.prog w K mg base gO 3 C9 _ ["parts"] (kK K (cl ak ay aC) 1 pZ lZ qa) := bA DB Fq fun dY Ar outer s H E b a hr hp => by
   obtain ⟨p0, p1, p2, p3, p4, p5, p6⟩ := a; refine Uu ?_ p0 p1 p2 p3 p4 p5 p6 hp
   exact ⟨⟨⟨Fq.nd, rfl, rfl⟩, hr.units⟩, bz iZ 0, bz iZ 1, bz iZ 2, cj iZ 3, cj iZ 4, cj iZ 5, cj iZ 6, cj iZ 7, fE, jU, ⟨⟨_, _, _, by rw [qB]; exact ⟨Dq, pB, pC, Dr⟩, Gg, by rw [qB]; exact aal, F4⟩, hr.mono (by decide)⟩, uO, ⟨⟨_, _, _, by rw [ig]; exact ⟨yx, nI, nJ, yy⟩, DZ, by rw [ig]; exact VB, DW⟩, hr.mono (by decide)⟩, Kx⟩
 have VL := cT VJ Vk DB.kp Vl
 have VM : ck l.prog w K mg base gO 1 Dc _ ["script"] (kK K (cl ak ay aC) 1 qb qc qd) := bA DE Ft fun dY Ar outer s H E b a hr hp => by
   refine Uw ?_ a hp
   exact ⟨⟨⟨Ft.nd, rfl, rfl⟩, hr.units⟩, bz mh 0, bz mh 1, bz mh 2, cj mh 3, cj mh 4, cj mh 5, fE, acW, jU⟩
 have VN := cT VM Vm DE.kp Vo
 have VP : ck l.prog w K mg base gO 1 Dd _ ["elders", "kinds", "chosen"] (kK K (cl ak ay aC) 3 qf mj qg) := bA DG Fv fun dY Ar outer s H E b a hr hp => by
   obtain ⟨p0, p1, p2⟩ := a; refine Uy ?_ p0 p1 p2 hp
   exact ⟨⟨⟨Fv.nd, rfl, rfl⟩, hr.units⟩, bz i6 0, bz i6 1, bz i6 2, bz i6 3, bz i6 4, bz i6 5, cj i6 6, cj i6 7, fE, jU⟩
 have VQ := cT VP Vp DG.kp Vq
 have VR : ck l.prog w K mg base gO 1 De _ ["term", "boxes"] (kK K (cl ak ay aC) 2 qh qi qj) := bA DI Fx fun dY Ar outer s H E b a hr hp => by
   obtain ⟨p0, p1, p2⟩ := a; refine UA ?_ p0 p1 p2 hp
   exact ⟨⟨⟨Fx.nd, rfl, rfl⟩, hr.units⟩, bz Fw 0, bz Fw 1⟩
 have VW := cT VR Vr DI.kp Vs
 have VX : ck l.prog w K mg base gO 2 Df _ ["asks", "boxes"] (kK K (cl ak ay aC) 2 mq jx mw) := bA DK Fy fun dY Ar outer s H E b a hr hp => by
   obtain ⟨p0, p1⟩ := a; refine UC ?_ p0 p1 hp
   exact ⟨⟨⟨Fy.nd, rfl, rfl⟩, hr.units⟩, bz jL 0, bz jL 1, bz jL 2, bz jL 3, bz jL 4, bz jL 5, cj jL 6, cX VW hr⟩
 have Kz := cT VX Vt DK.kp Vu
 have VY : ck l.prog w K mg base gO 3 Dg _ ["ends", "boxes"] (kK K (cl ak ay aC) 2 qk mz ql) := bA DM Fz fun dY Ar outer s H E b a hr hp => by
   obtain ⟨p0, p1, p2, p3⟩ := a; refine UE ?_ p0 p1 p2 p3 hp
   exact ⟨⟨⟨Fz.nd, rfl, rfl⟩, hr.units⟩, bz i7 0, bz i7 1, bz i7 2, cj i7 3, cj i7 4, cj i7 5, cj i7 6, cj i7 7, tL, uO, nO, jU, cX Kz hr⟩
 have VZ := cT VY Vv DM.kp Vw
 have zY : ck l.prog w K mg base gO 1 kZ _ ["chart", "opens"] (kK K (cl ak ay aC) 2 gq e9 gu) := bA ly oM fun dY Ar outer s H E b a hr hp => by
   obtain ⟨p0, p1, p2, p3, p4, p5, p6, p7, p8⟩ := a; refine zG ?_ p0 p1 p2 p3 p4 p5 p6 p7 p8 hp
   exact ⟨⟨⟨oM.nd, rfl, rfl⟩, hr.units⟩, LD jM 0, ef jM 0 rfl, bz jM 1, wG, Jh, tK, nL⟩
 have zZ := cT zY zP ly.kp zQ
 have yU : ck l.prog w K mg base gO 1 jR _ ["branch"] (kK K (cl ak ay aC) 1 fS fU fV) := bA jT nQ fun dY Ar outer s H E b a hr hp => by
   refine xZ ?_ a hp
   exact ⟨⟨⟨nQ.nd, rfl, rfl⟩, hr.units⟩, bz fc 0, cj fc 1, cj fc 2, cj fc 3, cj fc 4, yR, tM, pL, DY⟩
 have yV := cT yU yP jT.kp yQ
 have z0 : ck l.prog w K mg base gO 1 k6 _ ["chart", "way"] (kK K (cl ak ay aC) 2 gw fh gy) := bA lA oN fun dY Ar outer s H E b a hr hp => by
   obtain ⟨p0, p1, p2, p3, p4, p5, p6, p7⟩ := a; refine zI ?_ p0 p1 p2 p3 p4 p5 p6 p7 hp
   exact ⟨⟨⟨oN.nd, rfl, rfl⟩, hr.units⟩, bz g7 0, bz g7 1, cj g7 2, cj g7 3, nO, QZ, wG, nM⟩
 have z6 := cT z0 zR lA.kp zS
 have Gh : ck l.prog w K mg base gO 1 oY _ ["branch", "way"] (kK K (cl ak ay aC) 2 iN iO iP) := bA pF sW fun dY Ar outer s H E b a hr hp => by
   obtain ⟨p0, p1⟩ := a; refine FE ?_ p0 p1 hp
   exact ⟨⟨⟨sW.nd, rfl, rfl⟩, hr.units⟩, bz dX 0, bz dX 1, bz dX 2, cj dX 3, cj dX 4, cj dX 5, cj dX 6, cj dX 7, pL, yR, Q0, tM, DY⟩
 have Gi := cT Gh F5 pF.kp F6
 have z7 : ck l.prog w K mg base gO 1 k7 _ ["branch"] (kK K (cl ak ay aC) 1 gA gB gC) := bA lC oQ fun dY Ar outer s H E b a hr hp => by
   refine zK ?_ a hp
   exact ⟨⟨⟨oQ.nd, rfl, rfl⟩, hr.units⟩, bz eN 0, cj eN 1, cj eN 2, cj eN 3, cj eN 4, cj eN 5, yR, Q0, tM, pL, DY⟩
 have z8 := cT z7 zT lC.kp zU
 have Gj : ck l.prog w K mg base gO 1 oZ _ ["held", "way", "holds"] (kK K (cl ak ay aC) 3 iR fz iS) := bA pH sX fun dY Ar outer s H E b a hr hp => by
   obtain ⟨p0, p1, p2⟩ := a; refine FH ?_ p0 p1 p2 hp
   exact ⟨⟨⟨sX.nd, rfl, rfl⟩, hr.units⟩, bz g8 0, bz g8 1, bz g8 2, bz g8 3, cj g8 4, aam⟩
 have Gk := cT Gj F7 pH.kp F8
 have MJ : ck l.prog w K mg base gO 2 uB _ ["chart", "rows", "branch"] (kK K (cl ak ay aC) 3 ki i9 ko) := bA uF x8 fun dY Ar outer s H E b a hr hp => by
   obtain ⟨p0, p1, p2, p3, p4, p5, p6, p7⟩ := a; refine Mj ?_ p0 p1 p2 p3 p4 p5 p6 p7 hp
   exact ⟨⟨⟨x8.nd, rfl, rfl⟩, hr.units⟩, bz bK 0, bz bK 1, bz bK 2, bz bK 3, bz bK 4, bz bK 5, bz bK 6, bz bK 7, cj bK 8, cj bK 9, cj bK 10, cj bK 11, cj bK 12, cj bK 13, cj bK 14, cj bK 15, cj bK 16, cj bK 17, cj bK 18, Q0, jU, yR, cX yV hr, cX z6 hr, DY, cX Gi hr, cX z8 hr, tM, pL, cX Gk hr⟩
 have MK := cT MJ MB uF.kp MC
 have V0 : ck l.prog w K mg base gO 1 Dh _ ["tree", "mood"] (kK K (cl ak ay aC) 2 qo mC qp) := bA DP FJ fun dY Ar outer s H E b a hr hp => by
   obtain ⟨p0, p1, p2, p3⟩ := a; refine UH ?_ p0 p1 p2 p3 hp
   exact ⟨⟨⟨FJ.nd, rfl, rfl⟩, hr.units⟩, bz sY 0, bz sY 1, bz sY 2, bz sY 3, Jh, qP⟩
 have V1 := cT V0 Vx DP.kp Vy
 have aaw : ck l.prog w K mg base gO 1 Iv _ ["asks", "opens"] (kK K (cl ak ay aC) 2 sZ oU tu) := bA IW Kr fun dY Ar outer s H E b a hr hp => by
   obtain ⟨p0, p1⟩ := a; refine ZK ?_ p0 p1 hp
   exact ⟨⟨⟨Kr.nd, rfl, rfl⟩, hr.units⟩, bz CN 0, bz CN 1, bz CN 2⟩
 have aax := cT aaw aaj IW.kp aak
 have Rb : ck l.prog w K mg base gO 2 yp _ ["chart", "opens", "leaf", "sign"] (kK K (cl ak ay aC) 4 nj jO nq) := Pa yJ A3 fun dY Ar outer s H E b a jy hr hp => by
   obtain ⟨p0, p1, p2, p3, p4, p5, p6, p7, p8, p9, p10⟩ := a; refine Qg ?_ p0 p1 p2 p3 p4 p5 p6 p7 p8 p9 p10 hp
   exact ⟨⟨⟨A3.nd, rfl, rfl⟩, hr.units⟩, LD cz 0, ef cz 0 rfl, bz cz 1, bz cz 2, bz cz 3, bz cz 4, bz cz 5, bz cz 6, LD cz 7, ef cz 7 rfl, cj cz 8, cj cz 9, cj cz 10, cj cz 11, cj cz 12, cj cz 13, cj cz 14, cX V1 hr, Ge, aan, Q5, cX aax hr, QZ, Gd, wG, nM, nL, aeX bl kb jy uG (by rw [vv]; exact qC) (by rw [vv]; exact uH), TJ hr, hr⟩
 have Rc := cT Rb QS yJ.kp QT
 have Jk : ck l.prog w K mg base gO 3 rM _ ["chart", "opens", "sign", "most"] (kK K (cl ak ay aC) 4 ju ia jv) := bA rQ vt fun dY Ar outer s H E b a hr hp => by
   obtain ⟨p0, p1, p2, p3, p4, p5, p6, p7, p8, p9, p10⟩ := a; refine Ii ?_ p0 p1 p2 p3 p4 p5 p6 p7 p8 p9 p10 hp
   exact ⟨⟨⟨vt.nd, rfl, rfl⟩, hr.units⟩, LD bC 0, ef bC 0 rfl, LD bC 1, ef bC 1 rfl, LD bC 2, ef bC 2 rfl, bz bC 3, bz bC 4, bz bC 5, bz bC 6, bz bC 7, cj bC 8, cj bC 9, cj bC 10, cj bC 11, cj bC 12, cj bC 13, cj bC 14, cX zZ hr, yR, jU, cX MK hr, tM, pL, cX Rc hr⟩
 have Jl := cT Jk Jf rQ.kp Jg
 have V2 : ∀ dd, ck l.prog w K mg base gO (1 + dd) Iw g_same ["found", "due"] (kK K (cl ak ay aC) 2 oV (jP dd) oW) := by
   intro dd
   induction dd using Nat.strongRecOn with
   | ind dd ih =>
     rw [show 1 + dd = (0 + dd) + 1 by omega]
     exact bA DQ Ks fun dY Ar outer s H E b a hr hp => by
       refine ZT (dd := dd) ?_ a hp
       exact ⟨⟨⟨Ks.nd, rfl, rfl⟩, hr.units⟩, bz gD 0, bz gD 1, bz gD 2, cj gD 3, cj gD 4, cj gD 5, cj gD 6, cj gD 7, cj gD 8, cj gD 9, cj gD 10, cj gD 11, tL, Kx, W4, aao, uO, nO, jU, fE, fun d' hd => ⟨⟨_, _, _, ih d' hd, QV, DQ.kp, QW⟩, hr.mono (by omega)⟩⟩
 have aaz := V2 8
 have aaA := cT aaz QV DQ.kp QW
 have ML : ck l.prog w K mg base gO 1 uC _ ["asks", "opens"] (kK K (cl ak ay aC) 2 ku kB kC) := bA uL ye fun dY Ar outer s H E b a hr hp => by
   obtain ⟨p0, p1⟩ := a; refine Mq ?_ p0 p1 hp
   exact ⟨⟨⟨ye.nd, rfl, rfl⟩, hr.units⟩, bz rH 0, bz rH 1, bz rH 2⟩
 have MN := cT ML MD uL.kp MF
 have Gm : ck l.prog w K mg base gO 2 pe _ ["parts", "opens", "leaf", "sign"] (kK K (cl ak ay aC) 4 iU gj iV) := bA pJ tE fun dY Ar outer s H E b a hr hp => by
   obtain ⟨p0, p1, p2, p3, p4, p5, p6, p7, p8, p9⟩ := a; refine FU ?_ p0 p1 p2 p3 p4 p5 p6 p7 p8 p9 hp
   exact ⟨⟨⟨tE.nd, rfl, rfl⟩, hr.units⟩, bz cI 0, bz cI 1, bz cI 2, bz cI 3, bz cI 4, bz cI 5, bz cI 6, bz cI 7, cj cI 8, cj cI 9, cj cI 10, fE, jU, cX MN hr⟩
 have Gn := cT Gm F9 pJ.kp Ga
 have V3 : ck l.prog w K mg base gO 3 Di _ ["parts", "opens", "sign"] (kK K (cl ak ay aC) 3 qv mE qw) := bA DS FY fun dY Ar outer s H E b a hr hp => by
   obtain ⟨p0, p1, p2, p3, p4, p5, p6, p7, p8⟩ := a; refine UK ?_ p0 p1 p2 p3 p4 p5 p6 p7 p8 hp
   exact ⟨⟨⟨FY.nd, rfl, rfl⟩, hr.units⟩, bz mF 0, bz mF 1, bz mF 2, bz mF 3, bz mF 4, cj mF 5, cX Gn hr⟩
 have V4 := cT V3 Vz DS.kp VA
 have MP : ck l.prog w K mg base gO 1 uD _ ["parts", "number"] (kK K (cl ak ay aC) 2 kF jc kG) := bA uN yf fun dY Ar outer s H E b a hr hp => by
   obtain ⟨p0, p1, p2, p3, p4, p5, p6, p7, p8, p9, p10, p11⟩ := a; refine Mt ?_ p0 p1 p2 p3 p4 p5 p6 p7 p8 p9 p10 p11 hp
   exact ⟨⟨⟨yf.nd, rfl, rfl⟩, hr.units⟩, bz rJ 0, bz rJ 1, cj rJ 2, nO, jU⟩
 have MQ := cT MP MG uN.kp MH
 have Rf : ck l.prog w K mg base gO 4 yq _ ["parts", "opens", "boxes", "sign"] (kK K (cl ak ay aC) 4 ny jQ nA) := bA yL A5 fun dY Ar outer s H E b a hr hp => by
   obtain ⟨p0, p1, p2, p3, p4, p5, p6, p7, p8, p9, p10⟩ := a; refine Ql ?_ p0 p1 p2 p3 p4 p5 p6 p7 p8 p9 p10 hp
   exact ⟨⟨⟨A5.nd, rfl, rfl⟩, hr.units⟩, bz eS 0, bz eS 1, bz eS 2, bz eS 3, bz eS 4, bz eS 5, bz eS 6, cj eS 7, cj eS 8, cj eS 9, cj eS 10, cX V4 hr, cX Kz hr, cX MQ hr, nO⟩
 have Rg := cT Rf QX yL.kp QY
 have acX : ck l.prog w K mg base gO 10 _ _ ["script"] (kK K (cl ak ay aC) 1 qy qz qA) := bA Qz Qu fun dY Ar outer s H E b a hr hp => by
   refine acS ?_ a hp
   exact ⟨⟨⟨Qu.nd, rfl, rfl⟩, hr.units⟩, bz cZ 0, bz cZ 1, bz cZ 2, bz cZ 3, LD cZ 4, ef cZ 4 rfl, bz cZ 5, bz cZ 6, bz cZ 7, bz cZ 8, bz cZ 9, bz cZ 10, cj cZ 11, cj cZ 12, cj cZ 13, cj cZ 14, cj cZ 15, cj cZ 16, cj cZ 17, cj cZ 18, cj cZ 19, cj cZ 20, cj cZ 21, cj cZ 22, cj cZ 23, cX VH hr, cX VL hr, cX VN hr, cX Gf hr, cX VQ hr, cX Jj hr, fE, jU, uO, cX VZ hr, cX Jl hr, cX aaA hr, cX Rg hr, cX yT hr⟩
 exact acX.imp (TF (fun _ => rfl) (fun _ => rfl) fun x hx h0 => UY hx h0)
theorem walk {l : PySem.W.OpenLaw} {q : Program} {loose : List Str} {XP : (Str -> Option Value) -> Heap -> Prop} {YP : World -> Heap -> Prop} {d : DefRec} {K : Params -> PySem.W.Frag} {T0 : List Addr} (hn : l.most = some 63) (hdf : d.params.defaults = [])
   (hY : ∀ (w : World) (h : Heap), YP w h -> (K w.params).In h) (hT : ∀ (w : World) (h : Heap), YP w h -> ∀ P ∈ T0, h.get? P = some (PySem.W.tabObj #[]))
   (F : ∀ (w : World) (mg : Str -> Option Value) (fa : Addr) (h : Heap), (K w.params).In h -> h.Ns mainGlobals mg -> mg d.name = some (.ref fa) →
     ∃ (fd : FuncData) (ts : List (Addr × Str)), (∀ p ∈ ts, p.1 ∈ T0 /\ ts.lookup p.1 = some p.2 /\ (K w.params).lookup p.1 = none /\ ∃ c, PySem.W.CodeHd h c p.1) /\ (∀ (s : Shared) (u : Value), BindsTo s fd ⟨[u], []⟩ [("script", u)]) /\ ∀ base : Heap, (K w.params).In base -> base.Ns mainGlobals mg -> xh mg base -> ck l.prog w (K w.params) mg base gO 10 fa fd ["script"] (spT (K w.params) ts 1 qy qz qA)) :
   PySem.W.WalkO q loose XP YP l.row.toRowW d [] (fun f vs => PySem.call f vs) :=
 Pb (n := 63) (k := 10) (x := "script") (sp := fun w ts => spT (K w.params) ts 1 qy qz qA) hn (by decide) hdf ⟨rfl, by decide, by decide⟩ hY hT F (fun _ _ _ a ns hl hS ht => TH rfl hl rfl hS ht)
end Law
namespace PySem.W.Fast
 def tw11211165252168703832 := 0
 def tw14367558317206850968 := 0
 def tw1576953302118701136 := 0
 def tw1729031022280580029 := 0
 def tw3734636247826150461 := 0
 def tw8625603744011504692 := 0
 def tw12236298397085419192 := 0
 def tw11945610211693168540 := 0
 def tw3294626048034197972 := 0
 def tw17829064381385004731 := 0
 def tw14872512869193054821 := 0
 def tw5387448782500118439 := 0
 def tw14979118114647200254 := 0
 def tw13064632467335869810 := 0
 def tw12250156559471780642 := 0
 def tw12610944118879198299 := 0
 def tw6598971404030522056 := 0
 def tw9407468442268494686 := 0
 def tw18262406527555478404 := 0
 def tw4614376627289897797 := 0
 def tw6015223282556884972 := 0
 def tw9496547847961662639 := 0
 def tw17018761442340975577 := 0
 def tw17322993540011356925 := 0
 def tw7162519453105890645 := 0
 def tw7232002106539820697 := 0
 def tw6173785562085957064 := 0
 def tw5935636982723483917 := 0
 def tw951098940519843831 := 0
 def tw9016640523966246735 := 0
 def tw17496240754352352632 := 0
 def tw4365526756384352436 := 0
 def tw2142672611737274523 := 0
 def tw4009653568363542051 := 0
 def tw5348318284133858469 := 0
 def tw7564391955550003245 := 0
 def tw15870825440941732654 := 0
 def tw4004537906801228054 := 0
 def tw14419427139042101407 := 0
 def tw7632601634782148110 := 0
 def tw16802975940489536124 := 0
 def tw7522385342403909341 := 0
 def tw9447528772656661066 := 0
 def tw13425289242682404164 := 0
 def tw4584815687754770639 := 0
 def tw11129340955004630636 := 0
 def tw990502712707195007 := 0
 def tw8635936477520659585 := 0
 def tw14607793202139687951 := 0
 def tw2621828482893927215 := 0
 def tw3999979815496389778 := 0
 def tw5332256352115795924 := 0
 def tw7897562143088361409 := 0
 def tw13226322651919436617 := 0
 def tw6403979263334067668 := 0
end PySem.W.Fast
open PySem PySem.W PyProof.Rows
set_option maxRecDepth 100000 in
set_option maxHeartbeats 0 in
theorem PySem.Challenge.cw_moodtree_k49_a_branch_is_what_is_picked_holds : PySem.Challenge.rw_moodtree_k49_a_branch_is_what_is_picked.Holds := by
 w_on; o_law; k_head; (case hw => w_witness2)
 k_fill
 refine Law.walk (l := PySem.Challenge.rw_moodtree_k49_a_branch_is_what_is_picked) rfl rfl (fun w h Y => PySem.W.km_in_of Y) (fun w h Y => PySem.W.km_tabs_of Y) ?F
 case F =>
   intro w mg fa h KX G hmg
   refine' Law.all_mk KX G hmg ?Dk ?yr ?yt ?yu ?yw ?yx ?yy ?k8 ?k9 ?nB ?pA ?nE ?nF ?IA ?Dl ?Dm ?Dn ?Dp ?Dq ?Dr ?nG ?lg ?lq ?IB (L2.bM ?bH ?aaB ?Ik) ?yz (L2.bM ?bw ?Rh ?xH) ?Ds (L2.bM ?eU ?V5 ?V6) ?rN (L2.bM ?Jm ?Jo ?Jp) ?yE (L2.bM ?fO ?Ri ?Rj) ?IE (L2.bM ?oA ?aaC ?aaD) ?yG (L2.bM ?dH ?Rk ?Rl) ?II (L2.bM ?ur ?aaE ?aaF) ?IK (L2.bM ?eL ?aaG ?aaH) ?Du (L2.bM ?iG ?V7 ?V8) ?IQ (L2.bM ?oF ?aaI ?aaJ) ?Dw (L2.bM ?bI ?V9 ?Wa) ?pB ?pC (L2.bM ?Gp ?Gq ?Gr) ?nI ?nJ (L2.bM ?D0 ?D3 ?D4) ?Dz (L2.bM ?dN ?Wb ?ni) ?DC (L2.bM ?qe ?Wc ?Wd) ?DF (L2.bM ?bJ ?Wf ?CT) ?DH (L2.bM ?Wg ?Wh ?Wi) ?DJ (L2.bM ?CJ ?Wj ?Wk) ?DL (L2.bM ?Wm ?Wn ?Wo) ?lu (L2.bM ?z9 ?Aa ?Ab) ?jS (L2.bM ?yW ?yX ?yZ) ?lz (L2.bM ?Ac ?Ad ?Ae) ?pD (L2.bM ?Gs ?Gu ?Gv) ?lB (L2.bM ?Af ?Ag ?Ah) ?pG (L2.bM ?Gw ?Gy ?Gz) ?uE (L2.bM ?MR ?MS ?MT) ?DN (L2.bM ?Wq ?Wr ?Ws) ?IV (L2.bM ?aaK ?aaL ?aaM) ?yI (L2.bM ?Rm ?Rn ?Ro) ?uG ?A7 ?A8 ?qC ?uH ?uI ?uJ ?rP (L2.bM ?Jq ?Jr ?Js) ?IX (L2.bM ?aaN ?aaO ?k_same) ?uK (L2.bM ?MV ?MX ?MY) ?pI (L2.bM ?GA ?GB ?GC) ?DR (L2.bM ?tF ?Wt ?Wu) ?uM (L2.bM ?MZ ?M0 ?M3) ?yK (L2.bM ?fj ?Rp ?Rq) ?Kw (L2.bM ?acY ?acZ ?ac0) ?QB ?DT ?QC ?QD ?DU ?yM ?QF ?IY ?QG ?nK ?IZ ?DV ?yN ?I0 ?Ja ?QI ?Jb ?pK ?Jc ?yO ?y_bool
   case Dk | yr | yt | yu | yw | yx | yy | k8 | k9 | nB | pA | nE | nF | IA | Dl | Dm | Dn | Dp | Dq | Dr | nG | lg | lq | IB | bH | aaB | Ik | yz | bw | Rh | xH | Ds | eU | V5 | V6 | rN | Jm | Jo | Jp | yE | fO | Ri | Rj | IE | oA | aaC | aaD | yG | dH | Rk | Rl | II | ur | aaE | aaF | IK | eL | aaG | aaH | Du | iG | V7 | V8 | IQ | oF | aaI | aaJ | Dw | bI | V9 | Wa | pB | pC | Gp | Gq | Gr | nI | nJ | D0 | D3 | D4 | Dz | dN | Wb | ni | DC | qe | Wc | Wd | DF | bJ | Wf | CT | DH | Wg | Wh | Wi | DJ | CJ | Wj | Wk | DL | Wm | Wn | Wo | lu | z9 | Aa | Ab | jS | yW | yX | yZ | lz | Ac | Ad | Ae | pD | Gs | Gu | Gv | lB | Af | Ag | Ah | pG | Gw | Gy | Gz | uE | MR | MS | MT | DN | Wq | Wr | Ws | IV | aaK | aaL | aaM | yI | Rm | Rn | Ro => k_is
   case uG => exact rfl
   case A7 => k_is
   case A8 => exact rfl
   case qC => kernel_rfl
   case uH => decide
   case uI => kernel_rfl
   case uJ => decide
   case rP | Jq | Jr | Js | IX | aaN | aaO | k_same | uK | MV | MX | MY | pI | GA | GB | GC | DR | tF | Wt | Wu | uM | MZ | M0 | M3 | yK | fj | Rp | Rq | Kw | acY | acZ | ac0 | QB | DT | QC | QD | DU | yM | QF | IY | QG | nK | IZ | DV | yN | I0 | Ja | QI | Jb | pK | Jc | yO | y_bool => k_is
