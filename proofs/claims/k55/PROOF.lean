import PyProof.Rows.All
import Wide.All
import OpenK.AllK
import Wide.FinOn
import Lean
import PyProof.EqAt
import PyProof.EqKinds
import PyProof.TupleCall
import PySem.Challenge.RW_moodtree_k55_a_table_written_back
set_option Elab.async false
set_option linter.all false
set_option maxRecDepth 100000
set_option maxHeartbeats 4000000
namespace L2
open PySem PySem.Spec PyProof.Rows
noncomputable abbrev ail := @List.mem_append_right
noncomputable abbrev aim := @wpAny_bind
noncomputable abbrev ain := @List.append_assoc
noncomputable abbrev aio := @List.length_map
noncomputable abbrev aip := @Nat.le_of_ble_eq_true
noncomputable abbrev aiq := @List.mem_cons_self
noncomputable abbrev air := @List.mem_append_left
noncomputable abbrev ais := @List.mem_cons_of_mem
noncomputable abbrev ait := @Nat.le_refl
noncomputable abbrev aiu := @if_neg
noncomputable abbrev aiv := @Heap.get?_push_of_some
noncomputable abbrev aiw := @List.mem_cons
noncomputable abbrev aix := @List.mem_append
noncomputable abbrev aiy := @Bool.false_ne_true
noncomputable abbrev aiz := @wpAny_pure
noncomputable abbrev aiA := @decide_eq_true
noncomputable abbrev aiB := @List.map_cons
noncomputable abbrev aiC := @if_pos
noncomputable abbrev aiD := @List.not_mem_nil
noncomputable abbrev aiE := @List.getElem?_map
noncomputable abbrev aiF := @Heap.lt_size
noncomputable abbrev aiG := @List.getElem?_eq_getElem
noncomputable abbrev aiH := @Option.map_eq_some_iff
noncomputable abbrev aiI := @List.mem_map
noncomputable abbrev aiJ := @List.size_toArray
noncomputable abbrev aiK := @List.append_nil
noncomputable abbrev aiL := @List.map_append
noncomputable abbrev aiM := @List.mem_of_getElem?
noncomputable abbrev aiN := @Option.some.inj
noncomputable abbrev aiO := @Bool.and_eq_true
noncomputable abbrev aiP := @List.cons_append
noncomputable abbrev aiQ := @List.map_map
noncomputable abbrev aiR := @Heap.get?_push_size
noncomputable abbrev aiS := @List.getElem?_eq_some_iff
noncomputable abbrev aiT := @of_decide_eq_true
noncomputable abbrev aiU := @List.length_append
noncomputable abbrev aiV := @Int.emod_lt_of_pos
noncomputable abbrev aiW := @List.nodup_append
noncomputable abbrev aiX := @Nat.ne_of_lt
noncomputable abbrev aiY := @List.lookup_cons
noncomputable abbrev aiZ := @PySem.W.mg_of
noncomputable abbrev ai0 := @Nat.lt_of_lt_of_le
noncomputable abbrev ai1 := @decide_eq_false
noncomputable abbrev ai2 := @List.perm_append_comm
noncomputable abbrev ai3 := @List.nodup_cons
noncomputable abbrev ai4 := @Int.emod_nonneg
noncomputable abbrev ai5 := @Nat.zero_le
noncomputable abbrev ai6 := @List.getD_eq_getElem?_getD
noncomputable abbrev ai7 := @List.length_cons
noncomputable abbrev ai8 := @List.Perm.append_left
noncomputable abbrev ai9 := @List.Sublist.append
noncomputable abbrev aja := @List.Sublist.refl
noncomputable abbrev ajb := @List.reverse_cons
noncomputable abbrev ajc := @List.length_range
noncomputable abbrev ajd := @List.mem_range
noncomputable abbrev aje := @Nat.le_trans
noncomputable abbrev ajf := @List.length_replicate
noncomputable abbrev ajg := @sizeLine_eq
noncomputable abbrev ajh := @List.all_eq_true
noncomputable abbrev aji := @List.sublist_append_right
noncomputable abbrev ajj := @Nat.le_of_lt
noncomputable abbrev ajk := @List.map_congr_left
noncomputable abbrev ajl := @decide_eq_true_eq
noncomputable abbrev ajm := @Bool.and_false
noncomputable abbrev ajn := @List.perm_middle
noncomputable abbrev ajo := @PySem.mem_of_lookup
noncomputable abbrev ajp := @wpAny_newObj_type
noncomputable abbrev ajq := @Int.toNat_natCast
noncomputable abbrev ajr := @List.length_take
noncomputable abbrev ajs := @wpAny_truthy_bool
noncomputable abbrev ajt := @List.take_add_one
noncomputable abbrev aju := @List.filterMap_cons
noncomputable abbrev ajv := @Bool.eq_iff_iff
noncomputable abbrev ajw := @List.nil_append
noncomputable abbrev ajx := @List.take_length
noncomputable abbrev ajy := @List.mem_singleton
noncomputable abbrev ajz := @Int.zero_add
noncomputable abbrev ajA := @List.any_cons
noncomputable abbrev ajB := @wpAny_mono
noncomputable abbrev ajC := @Bool.or_eq_false_iff
noncomputable abbrev ajD := @PySem.F.slot_dict_keyiterator_next
noncomputable abbrev ajE := @List.find?_cons
noncomputable abbrev ajF := @List.replicate_succ
noncomputable abbrev ajG := @Bool.false_and
noncomputable abbrev ajH := @Nat.lt_of_le_of_lt
noncomputable abbrev ajI := @List.nodup_nil
noncomputable abbrev ajJ := @of_decide_eq_false
noncomputable abbrev ajK := @PySem.W.mg_none_of
noncomputable abbrev ajL := @List.eq_of_mem_replicate
noncomputable abbrev ajM := @wpAny_typeNameOfWhole_keyiter
noncomputable abbrev ajN := @wpAny_callSpecial?_slot
noncomputable abbrev ajO := @beq_eq_false_iff_ne
noncomputable abbrev ajP := @Array.length_toList
noncomputable abbrev ajQ := @List.perm_iff_count
noncomputable abbrev ajR := @or_false
noncomputable abbrev ajS := @List.mem_flatMap
noncomputable abbrev ajT := @PyProof.Rows.callWith_type1
noncomputable abbrev ajU := @Obj.data_mapFields
noncomputable abbrev ajV := @List.mem_filter
noncomputable abbrev ajW := @wpAny_passesOwn
noncomputable abbrev ajX := @List.range_succ
noncomputable abbrev ajY := @Nat.lt_irrefl
noncomputable abbrev ajZ := @List.flatten_cons
noncomputable abbrev aj0 := @List.count_append
noncomputable abbrev aj1 := @lookup_relabel_local
noncomputable abbrev aj2 := @Ne.symm
noncomputable abbrev aj3 := @wpAny_call_entry
noncomputable abbrev aj4 := @F.called_set
noncomputable abbrev aj5 := @PyProof.Rows.slot_tuple_getitem
noncomputable abbrev aj6 := @PySem.F.plainAttrs_list
noncomputable abbrev aj7 := @Paired.length
noncomputable abbrev aj8 := @wpAny_holding
noncomputable abbrev aj9 := @wpAny_Call_Name_kw
noncomputable abbrev aka := @tupleKind_room_in1
noncomputable abbrev akb := @List.map_replicate
noncomputable abbrev akc := @List.getElem?_set_self
noncomputable abbrev akd := @wpAny_field
noncomputable abbrev ake := @Heap.get?_update_self
noncomputable abbrev akf := @Array.getElem?_toList
noncomputable abbrev akg := @beq_self_eq_true
noncomputable abbrev akh := @List.getElem?_append_right
noncomputable abbrev aki := @List.getElem?_range
noncomputable abbrev akj := @Heap.SameBut.update
noncomputable abbrev akk := @List.mem_of_find?_eq_some
noncomputable abbrev akl := @Array.getElem?_eq_getElem
noncomputable abbrev akm := @codeAny_mono
noncomputable abbrev akn := @if_false
noncomputable abbrev ako := @Bool.false_eq_true
noncomputable abbrev akp := @wpAny_comprehension_free
noncomputable abbrev akq := @beq_iff_eq
noncomputable abbrev akr := @Heap.size_push
noncomputable abbrev aks := @List.Perm.refl
noncomputable abbrev akt := @wpAny_setField
noncomputable abbrev aku := @F.plain_set_update_loop
noncomputable abbrev akv := @decide_eq_false_iff_not
noncomputable abbrev akw := @Option.isSome_map
noncomputable abbrev akx := @Nat.lt_succ_of_lt
noncomputable abbrev aky := @List.all_cons
noncomputable abbrev akz := @wpAny_attempt
noncomputable abbrev Key := Sum Int Str
noncomputable def Cy : Key -> Value -> Bool
 | .inl k, v => Value.isInt k v
 | .inr x, v => Value.isStrOf x v
noncomputable def adU (w : World) : Key -> Int
 | .inl k => hashInt k
 | .inr x => hashStr w x
theorem ef : ∀ {k : Key} {v : Value}, Cy k v = true -> (∃ i t, k = Sum.inl i /\ v = Value.int i t) \/ (∃ x t, k = Sum.inr x /\ v = Value.str x t)
 | .inl i, v, h => by
   obtain ⟨t, e⟩ := Value.isInt_shape (k := i) (v := v) h
   exact .inl ⟨i, t, rfl, e⟩
 | .inr x, v, h => by
   obtain ⟨t, e⟩ := Value.isStrOf_shape (x := x) (v := v) h
   exact .inr ⟨x, t, rfl, e⟩
theorem Ma (i : Int) (t : Tok) : Cy (.inl i) (.int i t) = true := by simp [Cy, Value.isInt]
theorem Mb (x : Str) (t : Tok) : Cy (.inr x) (.str x t) = true := by simp [Cy, Value.isStrOf]
theorem Xl (a b : Int) : decide ((Sum.inl a : Key) = Sum.inl b) = (a == b) := by
 by_cases e : a = b
 . subst e; simp
 . have h : ¬ (Sum.inl a : Key) = Sum.inl b := fun q => e (Sum.inl.inj q)
   rw [ai1 h]
   exact (ajO.mpr e).symm
theorem Xm (a b : Str) : decide ((Sum.inr a : Key) = Sum.inr b) = decide (a = b) := by
 by_cases e : a = b
 . subst e; simp
 . have h : ¬ (Sum.inr a : Key) = Sum.inr b := fun q => e (Sum.inr.inj q)
   rw [ai1 h, ai1 e]
theorem Xn (a : Int) (b : Str) : decide ((Sum.inl a : Key) = Sum.inr b) = false := ai1 (fun q => nomatch q)
theorem Xo (a : Str) (b : Int) : decide ((Sum.inr a : Key) = Sum.inl b) = false := ai1 (fun q => nomatch q)
noncomputable def fE (prog : Program) (w : World) : PySem.KeyKind prog w Key where
 is := Cy
 hash := adU w
 inj := fun v a b ha hb => by
   rcases ef ha with ⟨i, t, rfl, rfl⟩ | ⟨x, t, rfl, rfl⟩
   . rcases ef hb with ⟨j, u, rfl, e⟩ | ⟨y, u, rfl, e⟩
     . injection e with e1 _; rw [e1]
     . exact nomatch e
   . rcases ef hb with ⟨j, u, rfl, e⟩ | ⟨y, u, rfl, e⟩
     . exact nomatch e
     . injection e with e1 _; rw [e1]
 byValue := fun k v h => by
   rcases ef h with ⟨i, t, rfl, rfl⟩ | ⟨x, t, rfl, rfl⟩ <;> rfl
 pyHash := fun hv h => by
   rcases ef hv with ⟨i, t, rfl, rfl⟩ | ⟨x, t, rfl, rfl⟩
   . exact wpAny_pyHash_int h
   . exact wpAny_pyHash_str h
 eqBool := fun hu hv h => by
   rcases ef hu with ⟨i, t, rfl, rfl⟩ | ⟨x, t, rfl, rfl⟩
   . rcases ef hv with ⟨j, u, rfl, rfl⟩ | ⟨y, u, rfl, rfl⟩
     . rw [Xl] at h; exact wpAny_eqBool_int h
     . rw [Xn] at h; exact SeqAt.EqAt.int_str i t y u _ _ _ _ h
   . rcases ef hv with ⟨j, u, rfl, rfl⟩ | ⟨y, u, rfl, rfl⟩
     . rw [Xo] at h; exact SeqAt.EqAt.str_int x t j u _ _ _ _ h
     . rw [Xm] at h; exact wpAny_eqBool_str h
 «strs» := fun k x t v h => by
   rcases ef h with ⟨i, u, rfl, e⟩ | ⟨y, u, rfl, e⟩
   . exact nomatch e
   . injection e with e1 _
     subst e1
     cases v <;> rfl
theorem FI (prog : Program) (w : World) (i : Int) (t : Tok) : (fE prog w).is (.inl i) (.int i t) = true := Ma i t
theorem FJ (prog : Program) (w : World) (x : Str) (t : Tok) : (fE prog w).is (.inr x) (.str x t) = true := Mb x t
inductive V where
 | non | bl (b : Bool) | int (i : Int) | str (x : Str) | HQ (b : Array UInt8) | flt (b : UInt64) | ref (a : Addr) | ty (n : String)
 deriving DecidableEq
noncomputable def RelV : V -> Value -> Prop
 | .non, u => u = Value.none
 | .bl b, u => u = Value.bool b
 | .int i, u => ∃ t, u = Value.int i t
 | .str x, u => ∃ t, u = Value.str x t
 | .HQ b, u => ∃ t, u = Value.bytes b t
 | .flt b, u => ∃ t, u = Value.float b t
 | .ref a, u => u = Value.ref a
 | .ty n, u => u = Value.type n
noncomputable abbrev Vals : List V -> List Value -> Prop := Paired RelV
theorem Vals.length {xs : List V} {us : List Value} (r : Vals xs us) : xs.length = us.length := aj7 r
theorem Vals.get : ∀ {xs : List V} {us : List Value} {i : Nat} {x : V}, Vals xs us -> xs[i]? = some x -> ∃ u, us[i]? = some u /\ RelV x u
 | _, _, _, _, .nil, e => by simp at e
 | _, _, 0, _, .cons r _, e => by simp at e; subst e; exact ⟨_, rfl, r⟩
 | _, _, i + 1, x, .cons _ t, e => by
   obtain ⟨u, h1, h2⟩ := Vals.get (i := i) (x := x) t (by simpa using e)
   exact ⟨u, by simpa using h1, h2⟩
theorem Vals.set {x : V} {u : Value} (r : RelV x u) : ∀ {xs : List V} {us : List Value} (i : Nat), Vals xs us -> Vals (xs.set i x) (us.set i u)
 | _, _, _, .nil => .nil
 | _, _, 0, .cons _ t => .cons r t
 | _, _, i + 1, .cons q t => .cons q (Vals.set r i t)
theorem Vals.append : ∀ {xs ys : List V} {us ws : List Value}, Vals xs us -> Vals ys ws -> Vals (xs ++ ys) (us ++ ws)
 | _, _, _, _, .nil, s => s
 | _, _, _, _, .cons r t, s => .cons r (Vals.append t s)
theorem Vals.take : ∀ {xs : List V} {us : List Value} (n : Nat), Vals xs us -> Vals (xs.take n) (us.take n)
 | _, _, 0, _ => .nil
 | _, _, _ + 1, .nil => .nil
 | _, _, n + 1, .cons r t => .cons r (Vals.take n t)
theorem Vals.drop : ∀ {xs : List V} {us : List Value} (n : Nat), Vals xs us -> Vals (xs.drop n) (us.drop n)
 | _, _, 0, r => r
 | _, _, _ + 1, .nil => .nil
 | _, _, n + 1, .cons _ t => Vals.drop n t
noncomputable def sS : Option V -> Option Value -> Prop
 | some v, some u => RelV v u
 | none, none => True
 | _, _ => False
noncomputable def KV {κ : Type} : List (κ × V) -> List (κ × Value) -> Prop := Paired fun (p : κ × V) (q : κ × Value) => p.1 = q.1 /\ RelV p.2 q.2
noncomputable def kV : Key -> V
 | .inl i => .int i
 | .inr x => .str x
inductive HO where
 | lst (xs : List V)
 | tup (xs : List V)
 | dK (kvs : List (Key × V)) | dT (kvs : List (List Key × V))
 | set (S : Int -> Bool) (n : Nat)
 | ins (C dx : Addr) (fs : List (Str × V))
 | own (x : Addr)
 | xd (fs : List (Str × V))
 | met (f x : Addr)
 | rng (lo hi : Int)
 | cu (o : Obj) (u : HO)
 | WC (ps : Array Value)
 | tabs (q : Str)
 | WD (q : Str)
 | ext (φ : Heap -> Prop)
noncomputable abbrev Hp := Addr -> Option HO
noncomputable def upd (H : Hp) (a : Addr) (o : HO) : Hp := fun b => if b = a then some o else H b
theorem aE {H : Hp} {a : Addr} {o : HO} : upd H a o a = some o := by unfold upd; rw [aiC rfl]
theorem aj {H : Hp} {a b : Addr} {o : HO} (h : b ≠ a) : upd H a o b = H b := by unfold upd; rw [aiu h]
theorem WG {H : Hp} {a b : Addr} {o u : HO} (h : H a = some o) (h' : H b = some u) (d : o ≠ u) : a ≠ b := by
 intro e; subst e; rw [h] at h'; exact d (aiN h')
theorem bF {H : Hp} {a b : Addr} {o : HO} (h : H a = some o) (h' : H b = none) : a ≠ b := by
 intro e; subst e; rw [h] at h'; cases h'
section
variable (P : Program) (w : World)
noncomputable def dJ (H : Hp) (h : Heap) (a : Addr) : HO -> Prop
 | .lst xs => xs.length <= sizeLine /\ ∃ (its : List Value) (n : Nat), Vals xs its /\ h.get? a = some { cls := .type "list", data := .seq its.toArray n }
 | .tup xs => xs.length <= sizeLine /\ ∃ its : List Value, Vals xs its /\ IsTup h a its.toArray
 | .dK kvs => kvs.length <= sizeLine /\ (a == sysModules) = false /\ ∃ vs, KV kvs vs /\ h.DictOf (fE P w) a vs
 | .dT kvs => kvs.length <= sizeLine /\ (a == sysModules) = false /\ ∃ xs : List (List Key × Addr × Value),
     Paired (fun (p : List Key × V) (q : List Key × Addr × Value) => p.1 = q.1 /\ H q.2.1 = some (.tup (p.1.map kV)) /\ RelV p.2 q.2.2) kvs xs ∧
     ∃ o es ep, h.get? a = some o /\ o.ExactDict /\ o.data = .dict es ep /\ es.toList = xs.map (entryOfKey (tupleKind (fE P w))) /\ (xs.map (·.1)).Nodup
 | .set S n => h.SetOf (intKind P w) a S n
 | .ins C dx fs => H dx = some (.own a) /\ fs.length <= 1000 /\ dx ≠ a /\ h.get? a = some (PySem.W.instObj C dx) ∧
     ∃ mA, h.Ns1 dx mA /\ (∀ f, sS (fs.lookup f) (mA f)) /\ PySem.Within mA (fs.map (·.1))
 | .own _ => ∃ o, h.get? a = some o
 | .xd fs => ∃ mA, h.Ns1 a mA /\ ∀ f, sS (fs.lookup f) (mA f)
 | .rng lo hi => ∃ t u v, h.get? a = some { cls := .type "range", data := .fields #[.int lo t, .int hi u, .int 1 v] }
 | .cu o u => h.get? a = some o /\ dJ H h a u
 | .WC ps => h.get? a = some { cls := .none, data := .fields ps }
 | .tabs q => ∃ ps : Array Value, h.get? a = some { cls := .none, data := .fields ps } /\ TriplesOk ps.toList /\ ∀ pos cv, codeAmong pos ps.toList = some cv -> ∃ c, cv = .ref c /\ H c = some (.WD q)
 | .WD q => ∃ o vs t, h.get? a = some o /\ o.data = .fields vs /\ vs[1]? = some (.str q t)
 | .met f x => h.get? a = some (PySem.W.methodObj (.ref f) (.ref x))
 | .ext φ => φ h /\ (∃ o, h.get? a = some o) /\ ∀ h1 h2 : Heap, φ h1 -> (∀ o, h1.get? a = some o -> h2.get? a = some o) -> φ h2
noncomputable def uP (H : Hp) (h : Heap) : Prop := ∀ a o, H a = some o -> dJ P w H h a o
end
section
variable {P : Program} {w : World} {H H' : Hp} {h h' : Heap} {a : Addr} {o : HO}
theorem dJ.lt (x : dJ P w H h a o) : a < h.objs.size := by
 cases o with
 | lst xs => obtain ⟨_, _, _, _, e⟩ := x; exact aiF e
 | tup xs => obtain ⟨_, _, _, p⟩ := x; exact p.lt
 | dK kvs => obtain ⟨_, _, _, _, o, _, _, e, _⟩ := x; exact aiF e
 | dT kvs => obtain ⟨_, _, _, _, o, _, _, e, _⟩ := x; exact aiF e
 | set S n => obtain ⟨o, _, _, _, e, _⟩ := x; exact aiF e
 | ins C dx fs => obtain ⟨_, _, _, e, _⟩ := x; exact aiF e
 | own y => obtain ⟨_, e⟩ := x; exact aiF e
 | xd fs => obtain ⟨_, ⟨_, _, _, e, _⟩, _⟩ := x; exact aiF e
 | rng lo hi => obtain ⟨_, _, _, e⟩ := x; exact aiF e
 | cu ob u => obtain ⟨e, _⟩ := x; exact aiF e
 | WC ps => exact aiF (show h.get? a = some _ from x)
 | tabs q => obtain ⟨_, e, _⟩ := x; exact aiF e
 | WD q => obtain ⟨_, _, _, e, _⟩ := x; exact aiF e
 | met f y => exact aiF (show h.get? a = some _ from x)
 | ext φ => obtain ⟨_, ⟨_, e⟩, _⟩ := x; exact aiF e
theorem Paired.Xp {α β : Type} {F G : α -> β -> Prop} : ∀ {l₁ : List α} {l₂ : List β}, Paired F l₁ l₂ -> (∀ a b, F a b -> G a b) -> Paired G l₁ l₂
 | _, _, .nil, _ => .nil
 | _, _, .cons r t, f => .cons (f _ _ r) (Paired.Xp t f)
theorem dJ.Cb (x : dJ P w H h a o) (k : ∀ b u, (b = a \/ H b = some (.own a)) -> h.get? b = some u -> h'.get? b = some u)
   (ho : ∀ b, H b = some (.own a) -> H' b = some (.own a)) (ht : ∀ b xs, H b = some (.tup xs) -> H' b = some (.tup xs)) (oR : ∀ b q, H b = some (.WD q) -> H' b = some (.WD q) := by intro _ _ q; exact q) : dJ P w H' h' a o := by
 induction o with
 | lst xs => obtain ⟨z, its, n, r, e⟩ := x; exact ⟨z, its, n, r, k _ _ (.inl rfl) e⟩
 | tup xs => obtain ⟨z, its, r, ob, e, c⟩ := x; exact ⟨z, its, r, ob, k _ _ (.inl rfl) e, c⟩
 | dK kvs => obtain ⟨z, y, vs, r, ob, es, ep, e, c⟩ := x; exact ⟨z, y, vs, r, ob, es, ep, k _ _ (.inl rfl) e, c⟩
 | dT kvs =>
   obtain ⟨z, y, xs, r, ob, es, ep, e, c⟩ := x
   exact ⟨z, y, xs, Paired.Xp r fun p q z => ⟨z.1, ht _ _ z.2.1, z.2.2⟩, ob, es, ep, k _ _ (.inl rfl) e, c⟩
 | set S n => obtain ⟨ob, es, ep, t, e, c⟩ := x; exact ⟨ob, es, ep, t, k _ _ (.inl rfl) e, c⟩
 | ins C dx fs =>
   obtain ⟨d, z, ne, e, mA, ⟨od, es, ep, e2, c⟩, r⟩ := x
   exact ⟨ho _ d, z, ne, k _ _ (.inl rfl) e, mA, ⟨od, es, ep, k _ _ (.inr d) e2, c⟩, r⟩
 | own y => obtain ⟨ob, e⟩ := x; exact ⟨ob, k _ _ (.inl rfl) e⟩
 | xd fs => obtain ⟨mA, ⟨od, es, ep, e, c⟩, r⟩ := x; exact ⟨mA, ⟨od, es, ep, k _ _ (.inl rfl) e, c⟩, r⟩
 | rng lo hi => obtain ⟨t, u, v, e⟩ := x; exact ⟨t, u, v, k _ _ (.inl rfl) e⟩
 | cu ob u ih => obtain ⟨e, q⟩ := x; exact ⟨k _ _ (.inl rfl) e, ih q⟩
 | WC ps =>
   have e : h.get? a = some { cls := .none, data := .fields ps } := x
   show h'.get? a = some { cls := .none, data := .fields ps }
   exact k a _ (.inl rfl) e
 | met f y =>
   have e : h.get? a = some (PySem.W.methodObj (.ref f) (.ref y)) := x
   show h'.get? a = some (PySem.W.methodObj (.ref f) (.ref y))
   exact k a _ (.inl rfl) e
 | tabs q => obtain ⟨ps, e, tr, cs⟩ := x; exact ⟨ps, k _ _ (.inl rfl) e, tr, fun pos cv z => let ⟨c, e1, e2⟩ := cs pos cv z; ⟨c, e1, oR _ _ e2⟩⟩
 | WD q => obtain ⟨ob, vs, t, e, r⟩ := x; exact ⟨ob, vs, t, k _ _ (.inl rfl) e, r⟩
 | ext φ => obtain ⟨p, ⟨o, e⟩, st⟩ := x; exact ⟨st _ _ p fun o q => k _ _ (.inl rfl) q, ⟨o, k _ _ (.inl rfl) e⟩, st⟩
theorem uP.lt (x : uP P w H h) (e : H a = some o) : a < h.objs.size := (x a o e).lt
theorem uP.fresh (x : uP P w H h) (e : h.objs.size <= a) : H a = none := by
 cases q : H a with
 | none => rfl
 | some u => exact absurd (ai0 (x.lt q) e) (ajY _)
theorem uP.kept (x : uP P w H h) (k : ∀ b u, h.get? b = some u -> h'.get? b = some u) : uP P w H h' := fun a o e =>
 (x a o e).Cb (fun b u _ q => k b u q) (fun _ q => q) fun _ _ q => q
theorem uP.laid (x : uP P w H h) (k : ∀ b u, h.get? b = some u -> h'.get? b = some u) (hp : h.objs.size <= a) (new : dJ P w (upd H a o) h' a o) : uP P w (upd H a o) h' := fun b u e => by
 have hn := x.fresh hp
 by_cases hb : b = a
 . subst hb; rw [aE] at e; cases e; exact new
 . rw [aj hb] at e
   exact (x b u e).Cb (fun c v _ q => k c v q) (fun c q => by rw [aj (bF q hn)]; exact q) (fun c xs q => by rw [aj (bF q hn)]; exact q) fun c z q => by rw [aj (bF q hn)]; exact q
end
noncomputable def Rd (H : Hp) (a : Addr) (u : HO) : Prop := H a = some u \/ ∃ o, H a = some (.cu o u)
theorem Rd.ok {P : Program} {w : World} {H : Hp} {h : Heap} {a : Addr} {u : HO} (r : Rd H a u) (x : uP P w H h) : dJ P w H h a u := by
 rcases r with r | ⟨o, r⟩
 . exact x a u r
 . obtain ⟨_, q⟩ := x a _ r
   exact q
noncomputable def Mut : Option HO -> Prop
 | some (.lst _) => True
 | some (.dK _) => True
 | some (.dT _) => True
 | some (.set _ _) => True
 | some (.ins _ _ _) => True
 | some (.ext _) => True
 | some (.tabs _) => True
 | _ => False
section
variable {P : Program} {w : World} {H : Hp} {h h' : Heap} {x e : Addr} {o' : HO}
theorem uP.write (ok : uP P w H h) (mu : Mut (H x)) (he : e = x \/ H e = some (.own x)) (k : ∀ b u, b ≠ e -> h.get? b = some u -> h'.get? b = some u) (heo : ∃ u, h'.get? e = some u)
   (new : dJ P w (upd H x o') h' x o') : uP P w (upd H x o') h' := fun b u q => by
 have abg : ∀ c y, H c = some (.own y) -> c ≠ x := fun c y r z => by subst z; rw [r] at mu; exact mu
 have adW : ∀ c xs, H c = some (.tup xs) -> c ≠ x := fun c xs r z => by subst z; rw [r] at mu; exact mu
 have adX : ∀ c q, H c = some (.WD q) -> c ≠ x := fun c q r z => by subst z; rw [r] at mu; exact mu
 by_cases hb : b = x
 . subst hb; rw [aE] at q; cases q; exact new
 . rw [aj hb] at q
   by_cases Xq : b = e
   . have q' : H b = some (.own x) := by
       rcases he with z | z
       . exact absurd (Xq.trans z) hb
       . rw [Xq]; exact z
     rw [q] at q'; cases q'
     obtain ⟨v, hv⟩ := heo
     exact ⟨v, by rw [Xq]; exact hv⟩
   . refine (ok b u q).Cb (fun c v hc r => k c v ?_ r) (fun c r => by rw [aj (abg c b r)]; exact r) (fun c xs r => by rw [aj (adW c xs r)]; exact r) fun c z r => by rw [aj (adX c z r)]; exact r
     rcases hc with rfl | hc
     . exact Xq
     . rintro rfl
       rcases he with z | z
       . exact abg c b hc z
       . rw [hc] at z; cases z; exact hb rfl
end
structure Un (fs ex : List Addr) (H H' : Hp) (h h' : Heap) : Prop where
 keep : ∀ b o, h.get? b = some o -> H b = none -> b ∉ fs -> b ∉ ex -> h'.get? b = some o
 slot : ∀ b o, h.get? b = some o -> H b = none -> b ∈ fs -> b ∉ ex -> ∃ sl, h'.get? b = some { o with slots := sl }
 free : ∀ b o, h.get? b = some o -> H b = none -> b ∉ ex -> H' b = none
 there : ∀ b o, h.get? b = some o -> b ∉ ex -> ∃ o', h'.get? b = some o'
 Cd : ∀ b xs, H b = some (.tup xs) -> H' b = some (.tup xs)
 kD : ∀ b o u, H b = some (.cu o u) -> H' b = some (.cu o u)
 Ce : ∀ b ps, H b = some (.WC ps) -> ∃ more, H' b = some (.WC (ps ++ more))
section
variable {fs ex : List Addr} {H H1 : Hp} {h h1 h' : Heap} {a x e : Addr} {o : HO}
theorem Un.any (u : Un fs ex H H1 h h1) {b : Addr} {ob : Obj} (q : h.get? b = some ob) (n : H b = none) (hx : b ∉ ex) : ∃ sl, h1.get? b = some { ob with slots := sl } := by
 by_cases hb : b ∈ fs
 . exact u.slot b ob q n hb hx
 . exact ⟨ob.slots, u.keep b ob q n hb hx⟩
theorem Un.kept (k : ∀ b u, h.get? b = some u -> h'.get? b = some u) : Un fs ex H H h h' :=
 ⟨fun b ob q _ _ _ => k b ob q, fun b ob q _ _ _ => ⟨ob.slots, k b ob q⟩, fun _ _ _ n _ => n, fun b ob q _ => ⟨ob, k b ob q⟩, fun _ _ q => q, fun _ _ _ q => q, fun _ ps q => ⟨#[], by rw [q]; simp⟩⟩
theorem Un.refl : Un fs ex H H h h := Un.kept fun _ _ q => q
theorem Un.laid (k : ∀ b u, h.get? b = some u -> h'.get? b = some u) (hp : h.objs.size <= a) (hn : H a = none) : Un fs ex H (upd H a o) h h' where
 keep := fun b u q _ _ _ => k b u q
 slot := fun b u q _ _ _ => ⟨u.slots, k b u q⟩
 free := fun b u q n _ => by rw [aj (aiX (ai0 (aiF q) hp))]; exact n
 there := fun b u q _ => ⟨u, k b u q⟩
 Cd := fun b xs q => by rw [aj (bF q hn)]; exact q
 kD := fun b u xs q => by rw [aj (bF q hn)]; exact q
 Ce := fun b ps q => ⟨#[], by rw [aj (bF q hn), q]; simp⟩
theorem Un.write (mu : Mut (H x)) (he : e = x \/ H e = some (.own x)) (k : ∀ b u, b ≠ e -> h.get? b = some u -> h'.get? b = some u) (heo : ∃ u, h'.get? e = some u) : Un fs ex H (upd H x o) h h' := by
 have hx : ∀ b, H b = none -> b ≠ x := fun b n z => by subst z; rw [n] at mu; exact mu
 have hb : ∀ b, H b = none -> b ≠ e := fun b n z => by
   subst z
   rcases he with r | r
   . exact hx b n r
   . rw [n] at r; cases r
 have hm : ∀ b u, H b = some u -> ¬ Mut (some u) -> b ≠ x := fun b u q nm z => by subst z; rw [q] at mu; exact nm mu
 refine ⟨fun b u q n _ _ => k b u (hb b n) q, fun b u q n _ _ => ⟨u.slots, k b u (hb b n) q⟩, fun b u q n _ => by rw [aj (hx b n)]; exact n, fun b u q _ => ?_,
   fun b xs q => by rw [aj (hm b _ q fun z => z)]; exact q, fun b u xs q => by rw [aj (hm b _ q fun z => z)]; exact q, fun b ps q => ⟨#[], by rw [aj (hm b _ q fun z => z), q]; simp⟩⟩
 by_cases Xq : b = e
 . subst Xq; exact heo
 . exact ⟨u, k b u Xq q⟩
end
noncomputable def trk (h : Heap) (H : Hp) : List Addr := (List.range h.objs.size).filter fun a => (H a).isSome
noncomputable def Dd (h : Heap) (H : Hp) : Heap := PySem.W.hideAll h (trk h H)
theorem Mf (h : Heap) (H : Hp) : (Dd h H).objs.size = h.objs.size := PySem.W.hideAll_size _ _
theorem OX {h : Heap} {H : Hp} {b : Addr} {o : Obj} (e : h.get? b = some o) (n : H b = none) : (Dd h H).get? b = some o :=
 PySem.W.hideAll_get _ e fun hm => by
   have q : (H b).isSome = true := (ajV.mp hm).2
   rw [n] at q; simp at q
theorem Tv {h : Heap} {H : Hp} {b : Addr} {o : Obj} (e : (Dd h H).get? b = some o) : h.get? b = some o /\ H b = none := by
 have e' : h.get? b = some o := PySem.W.of_hideAll (trk h H) e
 refine ⟨e', ?_⟩
 cases q : H b with
 | none => rfl
 | some x =>
   have hm : b ∈ trk h H := ajV.mpr ⟨ajd.mpr (aiF e'), by simp [q]⟩
   have z : (Dd h H).get? b = none := PySem.W.hideAll_none (trk h H) hm
   rw [z] at e; cases e
noncomputable def Tw (g h : Heap) (L : Addr) : List (Addr × Obj) := (List.range h.objs.size).filterMap fun a => if a = L \/ (g.get? a).isSome = true then none else (h.get? a).map fun o => (a, o)
noncomputable def rest (g h : Heap) (L d : Addr) : List (Addr × Obj) := (Tw g h L).filter fun p => decide (p.1 ≠ d)
structure Mod (K : PySem.W.Frag) (mg : Str -> Option Value) (base : Heap) : Prop where
 kin : K.In base
 glob : base.Ns mainGlobals mg
 blt : ∃ mb, base.Ns builtinsNs mb /\ ∀ x : Str, x ≠ "__name__" -> mb x = bootBuiltins x
 nolimit : base.NoLimit
structure Cx where
 prog : Program
 w : World
 K : PySem.W.Frag
 mg : Str -> Option Value
 base : Heap
 A : Around
 N : List Str
 s₀ : Shared
 H₀ : Hp
 env : Env
 outer : List Env
 stack : List Env
 ex : List Addr
 fn : Str -> Bool
 calm : Bool
 pn : List (Addr × Obj)
 xe : Value -> Shared -> Prop
noncomputable def Ow (l : List Env) : List Addr := l.filterMap (·.frame)
noncomputable abbrev Cx.fs (X : Cx) : List Addr := Ow X.outer
noncomputable def Xr (sc : Scope) (x : Str) : Prop := sc.names.lookup x = some .local \/ sc.names.lookup x = some .cell \/ sc.names.lookup x = some .free
noncomputable def Loc (sc : Scope) (x : Str) : Prop := sc.names.lookup x = some .local \/ sc.names.lookup x = some .cell
noncomputable def Look (env : Env) (h : Heap) (m : Str -> Option Value) (x : Str) (u : Value) : Prop :=
 (env.kindOf x = some .local /\ m x = some u) \/ ((env.kindOf x = some .cell \/ env.kindOf x = some .free) /\ ∃ c, env.cells.lookup x = some c /\ h.IsCell c (some u))
structure Cx.Ok (X : Cx) : Prop where
 mod : Mod X.K X.mg X.base
 kind : X.env.scope.kind = .function
 glob : X.env.globals = mainGlobals
 blt : X.env.builtins = builtinsNs
 above : X.s₀.heap.objs.size <= X.env.locals
 inj : ∀ x y c, X.env.cells.lookup x = some c -> X.env.cells.lookup y = some c -> x = y
 has : ∀ x, (X.env.kindOf x = some .cell \/ X.env.kindOf x = some .free) -> ∃ c, X.env.cells.lookup x = some c
 cab : ∀ x c, X.fn x = true -> X.env.cells.lookup x = some c -> X.s₀.heap.objs.size <= c
 hd : X.calm = true -> X.A.handled = none
 frames : X.A.frames = some X.stack
 stk : X.stack = X.outer \/ (X.stack = X.env :: X.outer /\ X.env.frame = some X.env.locals)
 exf : ∀ b ∈ X.ex, b ≠ X.env.locals /\ ∀ x c, X.env.cells.lookup x = some c -> c ≠ b
 bs : ∀ b o, X.base.get? b = some o -> X.s₀.heap.get? b = some o /\ X.H₀ b = none
 Ox : X.base.objs.size <= X.s₀.heap.objs.size
 Mg : ∀ b o, X.base.get? b = some o -> b ∉ X.ex
 Tz : ∀ b ∈ X.ex, b ∉ X.fs
 wO : X.s₀.heap.FunFrames X.base X.outer
 WH : ∀ b ∈ X.fs, X.H₀ b = none
structure Inv (X : Cx) (pins : List (Addr × Obj)) (σ : List (Option V)) (H : Hp) (s : Shared) : Prop where
 ok : X.Ok
 os : s.os = X.s₀.os
 bare : AllBare s.gens
 base : Un X.fs X.ex X.H₀ H X.s₀.heap s.heap
 loc : ∃ m, s.heap.Ns X.env.locals m /\ ∀ (i : Nat) (x : Str) (v : V), X.N[i]? = some x -> σ[i]? = some (some v) -> Xr X.env.scope x -> ∃ u, RelV v u /\ Look X.env s.heap m x u
 cell : ∀ x c, X.env.cells.lookup x = some c -> ∃ v, s.heap.IsCell c v
 free : H X.env.locals = none
 oi : ∀ x c, X.env.cells.lookup x = some c -> H c = none
 pin : ∀ p ∈ X.pn ++ pins, s.heap.get? p.1 = some p.2 /\ H p.1 = none /\ p.1 ≠ X.env.locals /\ p.1 ∉ X.fs /\ ∀ v, p.2.data ≠ .cell v
 dw : uP X.prog X.w H s.heap
 len : σ.length = X.N.length
section
variable {X : Cx} {pins : List (Addr × Obj)} {σ : List (Option V)} {H H' : Hp} {s : Shared} {h' : Heap}
theorem Cx.Ok.adY (ok : X.Ok) {b : Addr} {o : Obj} (e : X.base.get? b = some o) : b ∉ X.fs := fun hb => by
 have := (ok.wO.mem hb).1
 rw [e] at this; cases this
theorem Inv.bs (I : Inv X pins σ H s) : ∀ b o, X.base.get? b = some o -> s.heap.get? b = some o /\ H b = none := fun b o e =>
 ⟨I.base.keep b o (I.ok.bs b o e).1 (I.ok.bs b o e).2 (I.ok.adY e) (I.ok.Mg b o e), I.base.free b o (I.ok.bs b o e).1 (I.ok.bs b o e).2 (I.ok.Mg b o e)⟩
theorem Inv.bk (I : Inv X pins σ H s) : ∀ b o, X.base.get? b = some o -> s.heap.get? b = some o := fun b o e => (I.bs b o e).1
theorem Inv.mod (I : Inv X pins σ H s) : Mod X.K X.mg X.base := I.ok.mod
theorem Inv.Oz (I : Inv X pins σ H s) : X.K.In s.heap := I.ok.mod.kin.keeps I.bk
theorem Inv.lt (I : Inv X pins σ H s) : X.env.locals < s.heap.objs.size := let ⟨_, hn, _⟩ := I.loc; hn.lt
theorem Inv.sz (I : Inv X pins σ H s) : X.s₀.heap.objs.size <= s.heap.objs.size := aje I.ok.above (ajj I.lt)
theorem Inv.adZ (I : Inv X pins σ H s) {a : Addr} (h : s.heap.objs.size <= a) : a ∉ X.fs := fun hb => by
 obtain ⟨_, o, ho, _⟩ := I.ok.wO.mem hb
 exact absurd (ai0 (aiF ho) (aje I.sz h)) (ajY _)
theorem Inv.Xs (I : Inv X pins σ H s) : ∀ x c, X.env.cells.lookup x = some c -> c ≠ X.env.locals := fun x c e z => by
 obtain ⟨v, o, ho, hd⟩ := I.cell x c e
 obtain ⟨m, ⟨o', es, ep, HD, OY, _⟩, _⟩ := I.loc
 rw [z, HD] at ho; cases ho; rw [OY] at hd; cases hd
theorem Inv.wO (I : Inv X pins σ H s) : s.heap.FunFrames X.base X.outer := by
 have all : ∀ (l : List Env), (∀ b ∈ Ow l, b ∈ X.fs) -> X.s₀.heap.FunFrames X.base l -> s.heap.FunFrames X.base l := by
   intro l
   induction l with
   | nil => intro _ _; trivial
   | cons env r ih =>
     intro hs hl
     obtain ⟨hk, ⟨L, o, hf, hn, ho, hd⟩, hr⟩ := hl
     have hL : L ∈ X.fs := hs L (by unfold Ow; rw [aju, hf]; exact aiq)
     obtain ⟨sl, e⟩ := I.base.slot L o ho (I.ok.WH L hL) hL fun z => I.ok.Tz L z hL
     exact ⟨hk, ⟨L, _, hf, hn, e, hd⟩, ih (fun b hb => hs b (by unfold Ow; rw [aju, hf]; exact ais _ hb)) hr⟩
 exact all X.outer (fun _ hb => hb) I.ok.wO
theorem Inv.stack (I : Inv X pins σ H s) : s.heap.FunFrames X.base X.stack := by
 rcases I.ok.stk with e | ⟨e, hf⟩
 . rw [e]; exact I.wO
 . rw [e]
   obtain ⟨m, hn, _⟩ := I.loc
   refine .cons (by rw [I.ok.kind]; decide) hf hn ?_ I.wO
   exact Heap.get?_none_of_le (aje I.ok.Ox I.ok.above)
theorem Inv.wQ (I : Inv X pins σ H s) : ∀ b ∈ Ow X.stack, b ∈ X.env.locals :: X.fs := fun b hb => by
 rcases I.ok.stk with e | ⟨e, hf⟩
 . rw [e] at hb; exact ais _ hb
 . rw [e] at hb
   unfold Ow at hb
   rw [aju, hf] at hb
   exact hb
theorem Inv.De (I : Inv X pins σ H s) : ∀ b ∈ Ow X.stack, H b = none := fun b hb => by
 rcases aiw.mp (I.wQ b hb) with e | hb
 . rw [e]; exact I.free
 . obtain ⟨_, o, ho, _⟩ := I.ok.wO.mem hb
   exact I.base.free b o ho (I.ok.WH b hb) fun z => I.ok.Tz b z hb
theorem Inv.step {g' : Array GenState} {t' : Nat} {d' : Drawn} {ch : List Addr} (I : Inv X pins σ H s)
   (WK : ∀ b ∈ ch, (b ∈ X.ex \/ X.s₀.heap.objs.size <= b) /\ b ≠ X.env.locals /\ (∀ x c, X.env.cells.lookup x = some c -> c ≠ b) /\ ∀ p ∈ X.pn ++ pins, p.1 ≠ b)
   (keep : ∀ b o, b ≠ X.env.locals -> b ∉ X.fs -> b ∉ ch -> s.heap.get? b = some o -> H b = none -> h'.get? b = some o)
   (slot : ∀ b o, b ≠ X.env.locals -> b ∈ X.fs -> b ∉ ch -> s.heap.get? b = some o -> H b = none -> ∃ sl, h'.get? b = some { o with slots := sl }) (free : ∀ b o, b ∉ ch -> s.heap.get? b = some o -> H b = none -> H' b = none)
   (there : ∀ b o, b ∉ ch -> s.heap.get? b = some o -> ∃ o', h'.get? b = some o')
   (Cd : ∀ b xs, H b = some (.tup xs) -> H' b = some (.tup xs)) (kD : ∀ b o u, H b = some (.cu o u) -> H' b = some (.cu o u)) (Ce : ∀ b ps, H b = some (.WC ps) -> ∃ more, H' b = some (.WC (ps ++ more)))
   (ns : ∀ m, s.heap.Ns X.env.locals m -> h'.Ns X.env.locals m) (dw : uP X.prog X.w H' h') (hg : AllBare g') :
   Inv X pins σ H' { s with heap := h', gens := g', drawn := d', toks := t' } := by
 have neL : ∀ b o, X.s₀.heap.get? b = some o -> b ≠ X.env.locals := fun b o e => aiX (ai0 (aiF e) I.ok.above)
 have neC : ∀ b o, X.s₀.heap.get? b = some o -> b ∉ X.ex -> b ∉ ch := fun b o e hx hb => by
   rcases (WK b hb).1 with z | z
   . exact hx z
   . exact absurd (ai0 (aiF e) z) (ajY _)
 have cellK : ∀ x c, X.env.cells.lookup x = some c -> ∀ v, s.heap.IsCell c v -> h'.IsCell c v := fun x c e v ⟨o, ho, hd⟩ => by
   have nch : c ∉ ch := fun z => (WK c z).2.2.1 x c e rfl
   by_cases hc : c ∈ X.fs
   . obtain ⟨sl, q⟩ := slot c o (I.Xs x c e) hc nch ho (I.oi x c e)
     exact ⟨_, q, hd⟩
   . exact ⟨o, keep c o (I.Xs x c e) hc nch ho (I.oi x c e), hd⟩
 refine ⟨I.ok, I.os, hg, ⟨fun b o e n hb hx => ?_, fun b o e n hb hx => ?_, fun b o e n hx => ?_, fun b o e hx => ?_, fun b xs e => Cd b xs (I.base.Cd b xs e), fun b o xs e => kD b o xs (I.base.kD b o xs e), fun b ps e => ?_⟩, ?_, fun x c e => ?_, ?_, fun x c e => ?_, fun p hp => ?_, dw, I.len⟩
 . exact keep b o (neL b o e) hb (neC b o e hx) (I.base.keep b o e n hb hx) (I.base.free b o e n hx)
 . obtain ⟨sl, e1⟩ := I.base.slot b o e n hb hx
   obtain ⟨sl', e2⟩ := slot b _ (neL b o e) hb (neC b o e hx) e1 (I.base.free b o e n hx)
   exact ⟨sl', e2⟩
 . obtain ⟨o', e1⟩ := I.base.there b o e hx
   exact free b o' (neC b o e hx) e1 (I.base.free b o e n hx)
 . obtain ⟨o', e1⟩ := I.base.there b o e hx
   exact there b o' (neC b o e hx) e1
 . obtain ⟨m1, e1⟩ := I.base.Ce b ps e
   obtain ⟨m2, e2⟩ := Ce b _ e1
   exact ⟨m1 ++ m2, by rw [e2, Array.append_assoc]⟩
 . obtain ⟨m, hn, hl⟩ := I.loc
   refine ⟨m, ns m hn, fun i x v e1 e2 e3 => ?_⟩
   obtain ⟨u, r, l⟩ := hl i x v e1 e2 e3
   refine ⟨u, r, ?_⟩
   rcases l with l | ⟨k, c, e, z⟩
   . exact .inl l
   . exact .inr ⟨k, c, e, cellK x c e _ z⟩
 . obtain ⟨v, z⟩ := I.cell x c e
   exact ⟨v, cellK x c e v z⟩
 . obtain ⟨m, ⟨o, _, _, ho, _⟩, _⟩ := I.loc
   exact free _ o (fun z => (WK _ z).2.1 rfl) ho I.free
 . obtain ⟨v, o, ho, hd⟩ := I.cell x c e
   exact free c o (fun z => (WK c z).2.2.1 x c e rfl) ho (I.oi x c e)
 . obtain ⟨e, n, ne, nf, d⟩ := I.pin p hp
   have nch : p.1 ∉ ch := fun z => (WK p.1 z).2.2.2 p hp rfl
   exact ⟨keep p.1 p.2 ne nf nch e n, free p.1 p.2 nch e n, ne, nf, d⟩
theorem Inv.un {t' : Nat} (I : Inv X pins σ H s) (u : Un X.fs [] H H' s.heap h') (dw : uP X.prog X.w H' h') : Inv X pins σ H' { s with heap := h', toks := t' } := by
 obtain ⟨m, ⟨o, es, ep, ho, r⟩, _⟩ := id I.loc
 obtain ⟨sl, hL⟩ := u.any ho I.free (by simp)
 exact I.step (g' := s.gens) (d' := s.drawn) (ch := []) (fun _ z => nomatch z) (fun b o _ hb _ e n => u.keep b o e n hb (by simp)) (fun b o _ hb _ e n => u.slot b o e n hb (by simp)) (fun b o _ e n => u.free b o e n (by simp)) (fun b o _ e => u.there b o e (by simp)) u.Cd u.kD u.Ce (fun m' hm => by
   obtain ⟨o', es', ep', HD, r'⟩ := hm
   rw [ho] at HD; cases HD
   exact ⟨_, es', ep', hL, r'⟩) dw I.bare
theorem Inv.call {g' : Array GenState} {t' : Nat} {d' : Drawn} {ch : List Addr} (I : Inv X pins σ H s) (u : Un (Ow X.stack) ch H H' s.heap h') (dw : uP X.prog X.w H' h') (hg : AllBare g')
   (WK : ∀ b ∈ ch, (b ∈ X.ex \/ X.s₀.heap.objs.size <= b) /\ b ≠ X.env.locals /\ (∀ x c, X.env.cells.lookup x = some c -> c ≠ b) /\ ∀ p ∈ X.pn ++ pins, p.1 ≠ b) :
   Inv X pins σ H' { s with heap := h', gens := g', drawn := d', toks := t' } := by
 obtain ⟨m, ⟨o, es, ep, ho, r⟩, _⟩ := id I.loc
 obtain ⟨sl, hL⟩ := u.any ho I.free fun z => (WK _ z).2.1 rfl
 exact I.step (ch := ch) WK (fun b o hL hb hc e n => u.keep b o e n (fun z => (aiw.mp (I.wQ b z)).elim hL hb) hc) (fun b o _ _ hc e n => u.any e n hc) (fun b o hc e n => u.free b o e n hc) (fun b o hc e => u.there b o e hc) u.Cd u.kD u.Ce (fun m' hm => by
   obtain ⟨o', es', ep', HD, r'⟩ := hm
   rw [ho] at HD; cases HD
   exact ⟨_, es', ep', hL, r'⟩) dw hg
theorem Inv.turned {t' : Nat} {it : Addr} (I : Inv X pins σ H s) (k : ∀ b o, b ≠ it -> s.heap.get? b = some o -> h'.get? b = some o) (hn : H it = none) (hL : it ≠ X.env.locals)
   (h1 : it ∈ X.ex \/ X.s₀.heap.objs.size <= it) (h2 : ∀ x c, X.env.cells.lookup x = some c -> c ≠ it) (h3 : ∀ p ∈ X.pn ++ pins, p.1 ≠ it) : Inv X pins σ H { s with heap := h', toks := t' } := by
 have nit : ∀ b u, H b = some u -> b ≠ it := fun b u e z => by rw [z, hn] at e; cases e
 refine I.step (g' := s.gens) (d' := s.drawn) (ch := [it]) (fun b hb => ?_) (fun b o _ _ hc e _ => k b o (fun z => hc (by simp [z])) e) (fun b o _ _ hc e _ => ⟨o.slots, k b o (fun z => hc (by simp [z])) e⟩) (fun _ _ _ _ n => n)
   (fun b o hc e => ⟨o, k b o (fun z => hc (by simp [z])) e⟩) (fun _ _ e => e) (fun _ _ _ e => e) (fun b ps e => ⟨#[], by rw [e]; simp⟩) (fun m hm => ?_) (fun b u e => ?_) I.bare
 . have e : b = it := by simpa using hb
   subst e
   exact ⟨h1, hL, h2, h3⟩
 . obtain ⟨o, es, ep, ho, r⟩ := hm
   exact ⟨o, es, ep, k _ o (aj2 hL) ho, r⟩
 . refine (I.dw b u e).Cb (fun c v hc q => k c v ?_ q) (fun _ q => q) fun _ _ q => q
   rcases hc with z | z
   . rw [z]; exact nit b u e
   . exact nit c _ z
theorem Inv.tok (I : Inv X pins σ H s) (t : Nat) : Inv X pins σ H { s with toks := t } := I.un (h' := s.heap) (t' := t) Un.refl I.dw
theorem Inv.kept {t' : Nat} (I : Inv X pins σ H s) (k : ∀ b u, s.heap.get? b = some u -> h'.get? b = some u) : Inv X pins σ H { s with heap := h', toks := t' } := I.un (Un.kept k) (I.dw.kept k)
theorem Inv.laid {a : Addr} {o : HO} {t' : Nat} (I : Inv X pins σ H s) (k : ∀ b u, s.heap.get? b = some u -> h'.get? b = some u) (hp : s.heap.objs.size <= a) (new : dJ X.prog X.w (upd H a o) h' a o) :
   Inv X pins σ (upd H a o) { s with heap := h', toks := t' } := I.un (Un.laid k hp (I.dw.fresh hp)) (I.dw.laid k hp new)
theorem Inv.write {x e : Addr} {o : HO} {t' : Nat} (I : Inv X pins σ H s) (mu : Mut (H x)) (he : e = x \/ H e = some (.own x)) (k : ∀ b u, b ≠ e -> s.heap.get? b = some u -> h'.get? b = some u) (heo : ∃ u, h'.get? e = some u)
   (new : dJ X.prog X.w (upd H x o) h' x o) : Inv X pins σ (upd H x o) { s with heap := h', toks := t' } := I.un (Un.write mu he k heo) (I.dw.write mu he k heo new)
theorem Inv.zC {Kr : List (Addr × Obj)} (I : Inv X pins σ H s) (h : ∀ p ∈ Kr, s.heap.get? p.1 = some p.2 /\ H p.1 = none /\ p.1 ≠ X.env.locals /\ p.1 ∉ X.fs /\ ∀ v, p.2.data ≠ .cell v) : Inv X Kr σ H s :=
 ⟨I.ok, I.os, I.bare, I.base, I.loc, I.cell, I.free, I.oi, fun p hp => (aix.mp hp).elim (fun z => I.pin p (air _ z)) (h p), I.dw, I.len⟩
theorem FL {N : List Str} (hN : N.Nodup) {i j : Nat} {x : Str} (a : N[i]? = some x) (b : N[j]? = some x) : i = j := by
 obtain ⟨h1, e1⟩ := aiS.mp a
 obtain ⟨h2, e2⟩ := aiS.mp b
 exact (List.getElem_inj hN).mp (e1.trans e2.symm)
theorem Mh {M : Model} {A : Around} {E : Value -> Shared -> Prop} {i : Nat} {x : Str} {v : V} {u : Value} {Q : Unit -> Shared -> Prop} (I : Inv X pins σ H s) (hN : X.N.Nodup) (hi : X.N[i]? = some x) (hx : Loc X.env.scope x) (r : RelV v u)
   (h : ∀ s', Inv X pins (σ.set i (some v)) H s' -> (∃ a, Heap.SameBut a s.heap s'.heap /\ (a = X.env.locals \/ X.env.cells.lookup x = some a)) -> Q () s') (hf : X.fn x = true \/ X.env.scope.names.lookup x = some .local := by first | exact .inl rfl | exact .inr rfl | assumption) : wpAny M A (storeName X.env x u) Q E s := by
 obtain ⟨m, hn, hl⟩ := id I.loc
 have ad0 : (X.env.scope.kind == .class || (X.env.scope.kind == .module && X.env.locals != X.env.globals)) = false := by rw [I.ok.kind]; rfl
 have hiσ : i < σ.length := by rw [I.len]; exact (aiS.mp hi).1
 have Xs := I.Xs
 have tracked : ∀ {a : Addr} {h' : Heap}, (∃ o, s.heap.get? a = some o /\ H a = none) -> Heap.SameBut a s.heap h' -> uP X.prog X.w H h' := fun {a h'} ha hs b ob e => by
   obtain ⟨_, _, WL⟩ := ha
   refine (I.dw b ob e).Cb (fun c w' hc q => (hs.2 c ?_).trans q) (fun _ q => q) fun _ _ q => q
   rintro rfl
   rcases hc with rfl | hc
   . rw [WL] at e; cases e
   . rw [WL] at hc; cases hc
 rcases hx with hk | hk
 . refine wpAny_storeName_local hk hn (fun h' hn' hs => ?_) ad0
   obtain ⟨oL, _, _, hoL, _⟩ := id hn
   refine h _ ⟨I.ok, I.os, I.bare, ⟨fun b o e n hb hx => ?_, fun b o e n hb hx => ?_, I.base.free, fun b o e hx => ?_, I.base.Cd, I.base.kD, I.base.Ce⟩, ⟨_, hn', fun j y v' e1 e2 e3 => ?_⟩, fun y c e => ?_, I.free, I.oi, fun p hp => ?_, tracked ⟨oL, hoL, I.free⟩ hs, by simpa using I.len⟩ ⟨_, hs, .inl rfl⟩
   . exact (hs.2 b (aiX (ai0 (aiF e) I.ok.above))).trans (I.base.keep b o e n hb hx)
   . obtain ⟨sl, e1⟩ := I.base.slot b o e n hb hx
     exact ⟨sl, (hs.2 b (aiX (ai0 (aiF e) I.ok.above))).trans e1⟩
   . obtain ⟨o', e1⟩ := I.base.there b o e hx
     exact ⟨o', (hs.2 b (aiX (ai0 (aiF e) I.ok.above))).trans e1⟩
   . by_cases hj : j = i
     . subst hj
       rw [hi] at e1; cases e1
       rw [akc hiσ] at e2
       cases e2
       exact ⟨u, r, .inl ⟨hk, by simp⟩⟩
     . rw [List.getElem?_set_ne (aj2 hj)] at e2
       obtain ⟨u', r', q⟩ := hl j y v' e1 e2 e3
       refine ⟨u', r', ?_⟩
       rcases q with ⟨k, e⟩ | ⟨k, c, e, z⟩
       . refine .inl ⟨k, ?_⟩
         have : y ≠ x := fun e => hj (FL hN e1 (e ▸ hi))
         simp [this, e]
       . exact .inr ⟨k, c, e, z.sameBut hs (Xs y c e)⟩
   . obtain ⟨w', z⟩ := I.cell y c e
     exact ⟨w', z.sameBut hs (Xs y c e)⟩
   . obtain ⟨e, n, ne, nf, d⟩ := I.pin p hp
     exact ⟨(hs.2 p.1 ne).trans e, n, ne, nf, d⟩
 . have hfn : X.fn x = true := by
     rcases hf with z | z
     . exact z
     . rw [z] at hk; cases hk
   obtain ⟨c, hc⟩ := I.ok.has x (.inl hk)
   obtain ⟨w', z⟩ := I.cell x c hc
   refine wpAny_storeName_cell I.ok.kind hk hc z (fun h' WM hs => ?_)
   obtain ⟨oc, hoc, ad3⟩ := id z
   refine h { s with heap := h' } ⟨I.ok, I.os, I.bare, ⟨fun b o e n hb hx => ?_, fun b o e n hb hx => ?_, I.base.free, fun b o e hx => ?_, I.base.Cd, I.base.kD, I.base.Ce⟩, ⟨m, hn.sameBut hs (Ne.symm (Xs x c hc)), fun j y v' e1 e2 e3 => ?_⟩, fun y c' e => ?_, I.free, I.oi, fun p hp => ?_, tracked ⟨oc, hoc, I.oi x c hc⟩ hs, by simpa using I.len⟩ ⟨c, hs, .inr hc⟩
   . exact (hs.2 b (aiX (ai0 (aiF e) (I.ok.cab x c hfn hc)))).trans (I.base.keep b o e n hb hx)
   . obtain ⟨sl, e1⟩ := I.base.slot b o e n hb hx
     exact ⟨sl, (hs.2 b (aiX (ai0 (aiF e) (I.ok.cab x c hfn hc)))).trans e1⟩
   . obtain ⟨o', e1⟩ := I.base.there b o e hx
     exact ⟨o', (hs.2 b (aiX (ai0 (aiF e) (I.ok.cab x c hfn hc)))).trans e1⟩
   . by_cases hj : j = i
     . subst hj
       rw [hi] at e1; cases e1
       rw [akc hiσ] at e2
       cases e2
       exact ⟨u, r, .inr ⟨.inl hk, c, hc, WM⟩⟩
     . rw [List.getElem?_set_ne (aj2 hj)] at e2
       obtain ⟨u', r', q⟩ := hl j y v' e1 e2 e3
       refine ⟨u', r', ?_⟩
       rcases q with q | ⟨k, c', e, z'⟩
       . exact .inl q
       . refine .inr ⟨k, c', e, z'.sameBut hs ?_⟩
         rintro rfl
         exact hj (FL hN e1 (I.ok.inj _ _ _ e hc ▸ hi))
   . by_cases hcc : c' = c
     . subst hcc; exact ⟨_, WM⟩
     . obtain ⟨w2, z2⟩ := I.cell y c' e
       exact ⟨w2, z2.sameBut hs hcc⟩
   . obtain ⟨e, n, ne, nf, d⟩ := I.pin p hp
     refine ⟨(hs.2 p.1 ?_).trans e, n, ne, nf, d⟩
     intro q
     rw [q, hoc] at e
     have q' : oc = p.2 := aiN e
     exact d w' (by rw [← q']; exact ad3)
theorem FN {M : Model} {A : Around} {E : Value -> Shared -> Prop} {i : Nat} {x : Str} {v : V} {u : Value} {Q : Unit -> Shared -> Prop} (I : Inv X pins σ H s) (hN : X.N.Nodup) (hi : X.N[i]? = some x) (hx : Loc X.env.scope x) (r : RelV v u)
   (h : ∀ s', Inv X pins (σ.set i (some v)) H s' -> Q () s') (hf : X.fn x = true \/ X.env.scope.names.lookup x = some .local := by first | exact .inl rfl | exact .inr rfl | assumption) : wpAny M A (storeName X.env x u) Q E s :=
 Mh I hN hi hx r (fun s' I' _ => h s' I') hf
end
noncomputable abbrev XK := Value -> Option Addr -> Hp -> Prop
noncomputable abbrev St := List (Option V)
noncomputable abbrev VK := V -> Hp -> Prop
noncomputable abbrev TE := St -> Hp -> VK -> Prop
noncomputable abbrev TT := St -> Hp -> (Bool -> Hp -> Prop) -> Prop
noncomputable abbrev TA := St -> Hp -> (List V -> Hp -> Prop) -> Prop
structure Ends where
 nx : St -> Hp -> Prop
 rt : VK
 bk : St -> Hp -> Prop := fun _ _ => False
 ct : St -> Hp -> Prop := fun _ _ => False
noncomputable abbrev TS := Ends -> St -> Hp -> Prop
noncomputable def EP (X : Cx) (pins : List (Addr × Obj)) (σ : St) (Q : VK) (u : Value) (s' : Shared) : Prop := ∃ v H', Inv X pins σ H' s' /\ RelV v u /\ Q v H'
noncomputable def TP (X : Cx) (pins : List (Addr × Obj)) (σ : St) (Q : Bool -> Hp -> Prop) (b : Bool) (s' : Shared) : Prop := ∃ H', Inv X pins σ H' s' /\ Q b H'
noncomputable def AP (X : Cx) (pins : List (Addr × Obj)) (σ : St) (Q : List V -> Hp -> Prop) (us : List Value) (s' : Shared) : Prop := ∃ vs H', Inv X pins σ H' s' /\ Vals vs us /\ Q vs H'
noncomputable def SP (X : Cx) (pins : List (Addr × Obj)) (D : Ends) (f : Flow) (s' : Shared) : Prop :=
 match f with
 | .next => ∃ σ' H', Inv X pins σ' H' s' /\ D.nx σ' H'
 | .brk => ∃ σ' H', Inv X pins σ' H' s' /\ D.bk σ' H'
 | .cont => ∃ σ' H', Inv X pins σ' H' s' /\ D.ct σ' H'
 | .ret u => ∃ v σ' H', Inv X pins σ' H' s' /\ RelV v u /\ D.rt v H'
noncomputable def PE (X : Cx) (e : Expr) (t : TE) : Prop :=
 ∀ (pins : List (Addr × Obj)) (s : Shared) (σ : St) (H : Hp) (Q : VK), Inv X pins σ H s -> t σ H Q -> wpAny (model X.prog X.w) X.A (eval e X.env) (EP X pins σ Q) X.xe s
noncomputable def PT (X : Cx) (e : Expr) (t : TT) : Prop :=
 ∀ (pins : List (Addr × Obj)) (s : Shared) (σ : St) (H : Hp) (Q : Bool -> Hp -> Prop), Inv X pins σ H s -> t σ H Q -> wpAny (model X.prog X.w) X.A (isTrue e X.env (eval e X.env)) (TP X pins σ Q) X.xe s
noncomputable def PW (X : Cx) (e : Expr) (t : TT) : Prop :=
 ∀ (whole : Sem Value) (pins : List (Addr × Obj)) (s : Shared) (σ : St) (H : Hp) (Q : Bool -> Hp -> Prop), Inv X pins σ H s -> t σ H Q -> wpAny (model X.prog X.w) X.A (isTrue e X.env whole) (TP X pins σ Q) X.xe s
noncomputable def PA (X : Cx) (es : List Expr) (t : TA) : Prop :=
 ∀ (pos : Pos) (pins : List (Addr × Obj)) (s : Shared) (σ : St) (H : Hp) (Q : List V -> Hp -> Prop), Inv X pins σ H s -> t σ H Q -> wpAny (model X.prog X.w) X.A (spliced (backTo pos (starEach es X.env))) (AP X pins σ Q) X.xe s
noncomputable def PS (X : Cx) (st : Stmt) (t : TS) : Prop :=
 ∀ (pins : List (Addr × Obj)) (s : Shared) (σ : St) (H : Hp) (D : Ends), Inv X pins σ H s -> t D σ H -> wpAny (model X.prog X.w) X.A (exec st X.env) (SP X pins D) X.xe s
noncomputable def Ks (X : Cx) (st : List Stmt) (t : TS) : Prop :=
 ∀ (pins : List (Addr × Obj)) (s : Shared) (σ : St) (H : Hp) (D : Ends), Inv X pins σ H s -> t D σ H -> wpAny (model X.prog X.w) X.A (execs st X.env) (SP X pins D) X.xe s
theorem cN {α : Type} {t : Sem α} {Q Q' : α -> Shared -> Prop} {M : Model} {A : Around} {E : Value -> Shared -> Prop} {s : Shared} (h : wpAny M A t Q E s) (hQ : ∀ a s, Q a s -> Q' a s) : wpAny M A t Q' E s := ajB h hQ fun _ _ x => x
section
variable {X : Cx}
noncomputable def ad4 (i : Nat) : TE := fun σ H Q => ∃ v, σ[i]? = some (some v) /\ Q v H
noncomputable def tC (v : V) : TE := fun _ H Q => Q v H
theorem jo {i : Nat} {x : Str} {pos : Pos} (hN : X.N[i]? = some x) (hv : Xr X.env.scope x) (hd : (x == ("__debug__" : Str)) = false := by decide) (oR : (x == ("__classdict__" : Str)) = false := by decide) : PE X (.Name x pos) (ad4 i) := by
 intro pins s σ H Q I h
 obtain ⟨v, e, h⟩ := h
 obtain ⟨m, hn, hl⟩ := I.loc
 obtain ⟨u, r, l⟩ := hl i x v hN e hv
 have fin : EP X pins σ Q u s := ⟨v, H, I, r, h⟩
 rcases l with ⟨hk, hm⟩ | ⟨hk, c, hc, yg⟩
 . exact wpAny_Name (wpAny_loadName_local I.ok.kind hk hn hm fin) hd
 . rcases hk with hk | hk
   . exact wpAny_Name (wpAny_loadName_cell I.ok.kind hk hc yg fin) hd
   . exact wpAny_Name (wpAny_loadName_free I.ok.kind hk hc yg fin oR) hd
theorem Xu {i j pos} : PE X (.Constant (.int i) j pos) (tC (.int i)) := fun _ _ _ H _ I h => wpAny_Constant_int ⟨.int i, H, I.tok _, ⟨_, rfl⟩, h⟩
theorem abm {b j pos} : PE X (.Constant (.bool b) j pos) (tC (.bl b)) := fun _ _ _ H _ I h => Constant_bool ⟨.bl b, H, I, rfl, h⟩
theorem Xv {x j pos} : PE X (.Constant (.str x) j pos) (tC (.str x)) := fun _ _ _ H _ I h => Calls.Constant_str ⟨.str x, H, I.tok _, ⟨_, rfl⟩, h⟩
noncomputable def Gl (X : Cx) (x : Str) : Prop := X.env.kindOf x = some .globalImplicit
theorem zE {E : Value -> Shared -> Prop} {pins : List (Addr × Obj)} {s : Shared} {σ : St} {H : Hp} {x : Str} {u : Value} {pos : Pos} {Q : Value -> Shared -> Prop} (I : Inv X pins σ H s) (hg : Gl X x) (hm : X.mg x = some u) (h : Q u s)
   (hd : (x == ("__debug__" : Str)) = false := by decide) : wpAny (model X.prog X.w) X.A (eval (.Name x pos) X.env) Q E s :=
 Calls.Name_function_global I.ok.kind hg (Calls.loadGlobal_global (by rw [I.ok.glob]; exact I.mod.glob.keeps I.bk) hm h) hd
theorem zU {E : Value -> Shared -> Prop} {pins : List (Addr × Obj)} {s : Shared} {σ : St} {H : Hp} {x : Str} {u : Value} {pos : Pos} {Q : Value -> Shared -> Prop} (I : Inv X pins σ H s) (hg : Gl X x) (hm : X.mg x = none) (hv : bootBuiltins x = some u) (h : Q u s)
   (hn : x ≠ "__name__" := by decide) (hd : (x == ("__debug__" : Str)) = false := by decide) : wpAny (model X.prog X.w) X.A (eval (.Name x pos) X.env) Q E s := by
 obtain ⟨mb, h1, h2⟩ := I.mod.blt
 exact Calls.Name_function_global I.ok.kind hg (Calls.loadGlobal_builtin (by rw [I.ok.glob]; exact I.mod.glob.keeps I.bk) hm (by rw [I.ok.blt]; exact h1.keeps I.bk) ((h2 x hn).trans hv) h) hd
theorem Df {x : Str} {v : V} {u : Value} {pos : Pos} (hg : Gl X x) (hm : X.mg x = some u) (r : RelV v u) (hd : (x == ("__debug__" : Str)) = false := by decide) : PE X (.Name x pos) (tC v) :=
 fun _ _ _ H _ I h => zE I hg hm ⟨v, H, I, r, h⟩ hd
variable {a b : Expr} {ta tb : TE} {pos : Pos}
noncomputable def PC (X : Cx) (op : CmpOp) (a b : Expr) (t : TE) : Prop :=
 ∀ (pins : List (Addr × Obj)) (s : Shared) (σ : St) (H : Hp) (Q : VK), Inv X pins σ H s -> t σ H Q →
   wpAny (model X.prog X.w) X.A (eval a X.env) (fun v s₁ => wpAny (model X.prog X.w) X.A (eval b X.env) (fun u s₂ => wpAny (model X.prog X.w) X.A (compareOp op v u) (EP X pins σ Q) X.xe s₂) X.xe s₁) X.xe s
theorem FP (b : Expr) {op : CmpOp} (h : op ≠ .In) (h2 : op ≠ .NotIn) : behindInMarks op b = false := by
 have e1 : (op == CmpOp.In) = false := by cases op <;> first | rfl | exact absurd rfl h
 have e2 : (op == CmpOp.NotIn) = false := by cases op <;> first | rfl | exact absurd rfl h2
 cases b <;> simp [behindInMarks, e1, e2]
noncomputable def abn (ta : TE) : TE := fun σ H Q => ta σ H fun x H1 => Q (.bl (!decide (x = .non))) H1
theorem RelV.OZ {x : V} {v : Value} (r : RelV x v) : (v == Value.none) = decide (x = .non) := by
 cases x with
 | non => cases r; rfl
 | bl _ => cases r; rfl
 | int _ => obtain ⟨t, rfl⟩ := r; rfl
 | str _ => obtain ⟨t, rfl⟩ := r; rfl
 | HQ _ => obtain ⟨t, rfl⟩ := r; rfl
 | flt _ => obtain ⟨t, rfl⟩ := r; rfl
 | ref _ => cases r; rfl
 | ty _ => cases r; rfl
theorem TF {j pos'} (ha : PE X a ta) : PC X .IsNot a (.Constant .none j pos') (abn ta) := by
 intro pins s σ H Q I h
 refine cN (ha pins s σ H _ I h) fun v s1 zz => ?_
 obtain ⟨x, H1, I1, r1, q1⟩ := zz
 exact Constant_none (isnot_none_gen ⟨.bl _, H1, I1, by rw [r1.OZ]; rfl, q1⟩)
noncomputable def tB (t : TE) : TT := fun σ H Q => t σ H fun x H1 => ∃ c, x = .bl c /\ Q c H1
theorem Xw {op : CmpOp} {t : TE} (h : PC X op a b t) (h1 : behindInMarks op b = false := by first | exact FP _ (by decide) (by decide) | rfl) : PE X (.Compare a [op] [b] pos) t := fun pins s σ H Q I hw => wpAny_Compare1 (h pins s σ H Q I hw) h1
theorem Xx {op : CmpOp} {t : TE} (h : PC X op a b t) (h1 : behindInMarks op b = false := by first | exact FP _ (by decide) (by decide) | rfl) : PT X (.Compare a [op] [b] pos) (tB t) := by
 intro pins s σ H Q I hw
 refine wpAny_isTrue_Compare1 (cN (h pins s σ H _ I hw) fun v s1 h1 => cN h1 fun u s2 h2 => cN h2 fun c s3 zz => ?_) h1
 obtain ⟨x, H1, I1, r1, q1⟩ := zz
 obtain ⟨d, rfl, q⟩ := q1
 cases r1
 exact ajs ⟨H1, I1, q⟩
theorem Xy {e : Expr} {t : TE} (h : PE X e t) (he : ∀ whole, isTrue e X.env whole = (do let v ← whole; standAt e.pos; holding [v] (truthy v)) := by intro _; rfl) : PT X e (tB t) := by
 intro pins s σ H Q I hw
 refine isTrue_plain (cN (h pins s σ H _ I hw) fun v s1 zz => ?_) (he _)
 obtain ⟨x, H1, I1, r1, q1⟩ := zz
 obtain ⟨d, rfl, q⟩ := q1
 cases r1
 exact ajs ⟨H1, I1, q⟩
variable {tA tB' : TT} {rest : List Expr}
noncomputable def ad5 (t u : TT) : TT := fun σ H Q => t σ H fun c H1 => if c = true then u σ H1 Q else Q false H1
noncomputable def tOr (t u : TT) : TT := fun σ H Q => t σ H fun c H1 => if c = true then Q true H1 else u σ H1 Q
noncomputable def ad6 (t : TT) : TT := fun σ H Q => t σ H fun c H1 => Q (!c) H1
theorem TH (ha : PT X a tA) : PW X (.BoolOp .And [a] pos) tA := by
 intro wh pins s σ H Q I h
 refine isTrue_and (cN (ha pins s σ H Q I h) fun c s1 e => ?_)
 cases c with
 | true => exact isTrue_and_nil e
 | false => exact e
theorem Xz (ha : PT X a tA) : PW X (.BoolOp .Or [a] pos) tA := by
 intro wh pins s σ H Q I h
 refine isTrue_or (cN (ha pins s σ H Q I h) fun c s1 e => ?_)
 cases c with
 | false => exact isTrue_or_nil e
 | true => exact e
theorem XA (ha : PT X a tA) (hb : PW X (.BoolOp .And (b :: rest) pos) tB') : PW X (.BoolOp .And (a :: b :: rest) pos) (ad5 tA tB') := by
 intro wh pins s σ H Q I h
 refine isTrue_and (cN (ha pins s σ H _ I h) fun c s1 zz => ?_)
 obtain ⟨H1, I1, q1⟩ := zz
 cases c with
 | true => exact hb wh pins s1 σ H1 Q I1 q1
 | false => exact ⟨H1, I1, q1⟩
theorem abo (ha : PT X a tA) (hb : PW X (.BoolOp .Or (b :: rest) pos) tB') : PW X (.BoolOp .Or (a :: b :: rest) pos) (tOr tA tB') := by
 intro wh pins s σ H Q I h
 refine isTrue_or (cN (ha pins s σ H _ I h) fun c s1 zz => ?_)
 obtain ⟨H1, I1, q1⟩ := zz
 cases c with
 | true => exact ⟨H1, I1, q1⟩
 | false => exact hb wh pins s1 σ H1 Q I1 q1
theorem XC (ha : PT X a tA) : PT X (.UnaryOp .Not a pos) (ad6 tA) := by
 intro pins s σ H Q I h
 exact isTrue_not (ha pins s σ H (fun c H1 => Q (!c) H1) I h)
noncomputable def abp (ta tb : TE) : TE := fun σ H Q => ta σ H fun x H1 => ∃ c, x = .bl c /\ if c = true then tb σ H1 Q else Q (.bl false) H1
noncomputable def ad7 (ta tb : TE) : TE := fun σ H Q => ta σ H fun x H1 => ∃ c, x = .bl c /\ if c = true then Q (.bl true) H1 else tb σ H1 Q
theorem XD {op} {t : TE} (h : PE X a t) : PE X (.BoolOp op [a] pos) t := fun pins s σ H Q I hw => BoolOp_one (h pins s σ H Q I hw)
theorem XE (ha : PE X a ta) (hb : PE X (.BoolOp .And (b :: rest) pos) tb) : PE X (.BoolOp .And (a :: b :: rest) pos) (abp ta tb) := by
 intro pins s σ H Q I h
 refine BoolOp_and (cN (ha pins s σ H _ I h) fun v s1 zz => ?_)
 obtain ⟨x, H1, I1, r1, q1⟩ := zz
 obtain ⟨c, rfl, q1⟩ := q1
 cases r1
 refine ajs ?_
 cases c with
 | true => exact hb pins s1 σ H1 Q I1 q1
 | false => exact ⟨.bl false, H1, I1, rfl, q1⟩
theorem abq (ha : PE X a ta) (hb : PE X (.BoolOp .Or (b :: rest) pos) tb) : PE X (.BoolOp .Or (a :: b :: rest) pos) (ad7 ta tb) := by
 intro pins s σ H Q I h
 refine BoolOp_or (cN (ha pins s σ H _ I h) fun v s1 zz => ?_)
 obtain ⟨x, H1, I1, r1, q1⟩ := zz
 obtain ⟨c, rfl, q1⟩ := q1
 cases r1
 refine ajs ?_
 cases c with
 | false => exact hb pins s1 σ H1 Q I1 q1
 | true => exact ⟨.bl true, H1, I1, rfl, q1⟩
end
noncomputable def qk (K : PySem.W.Frag) (H : Hp) (a : Addr) (xs : List V) : Prop :=
 Rd H a (.lst xs) ∨
   ∃ (o : Obj) (its : Array Value) (n : Nat), K.lookup a = some o /\ o.cls = .type "list" /\ o.dict = none /\ o.data = .seq its n /\ its.size <= sizeLine /\ Vals xs its.toList
noncomputable def qE (K : PySem.W.Frag) (H : Hp) (a : Addr) (xs : List V) : Prop :=
 Rd H a (.tup xs) ∨
   ∃ (o : Obj) (its : Array Value) (n : Nat), K.lookup a = some o /\ o.cls = .type "tuple" /\ o.data = .seq its n /\ its.size <= sizeLine /\ Vals xs its.toList
noncomputable def ad8 : Value -> Option V
 | .none => some .non
 | .bool b => some (.bl b)
 | .int i _ => some (.int i)
 | .str x _ => some (.str x)
 | .bytes b _ => some (.HQ b)
 | .float b _ => some (.flt b)
 | .ref a => some (.ref a)
 | .type n => some (.ty n)
 | _ => none
theorem RelV.abs {x : V} {u : Value} (r : RelV x u) : ad8 u = some x := by
 cases x with
 | non => cases r; rfl
 | bl _ => cases r; rfl
 | int _ => obtain ⟨t, rfl⟩ := r; rfl
 | str _ => obtain ⟨t, rfl⟩ := r; rfl
 | HQ _ => obtain ⟨t, rfl⟩ := r; rfl
 | flt _ => obtain ⟨t, rfl⟩ := r; rfl
 | ref _ => cases r; rfl
 | ty _ => cases r; rfl
theorem RelV.inj {x y : V} {u : Value} (r : RelV x u) (q : RelV y u) : x = y := aiN (r.abs.symm.trans q.abs)
theorem Vals.inj {xs ys : List V} {us : List Value} (h : Vals xs us) (q : Vals ys us) : xs = ys := by
 induction h generalizing ys with
 | nil => cases q; rfl
 | cons r _ i => cases q with
   | cons r' t' => rw [r.inj r', i t']
section
variable {X : Cx} {pins : List (Addr × Obj)} {σ : St} {H : Hp} {s : Shared} {a : Addr} {xs ys : List V}
theorem qk.of {K : PySem.W.Frag} (h : H a = some (.lst xs)) : qk K H a xs := .inl (.inl h)
theorem qE.of {K : PySem.W.Frag} (h : H a = some (.tup xs)) : qE K H a xs := .inl (.inl h)
theorem Inv.list (I : Inv X pins σ H s) (h : qk X.K H a xs) : ∃ its : List Value, Vals xs its /\ PlainL s.heap a its.toArray /\ xs.length <= sizeLine := by
 rcases h with h | ⟨o, its, n, hk, hc, hd, hs, hz, r⟩
 . obtain ⟨z, its, n, r, e⟩ := h.ok I.dw
   exact ⟨its, r, ⟨_, n, e, rfl, rfl, rfl⟩, z⟩
 . refine ⟨its.toList, r, ⟨o, n, I.Oz a o hk, hc, hd, by simpa using hs⟩, ?_⟩
   have e := r.length
   simp only [ajP] at e
   omega
theorem Inv.tuple (I : Inv X pins σ H s) (h : qE X.K H a xs) : ∃ its : List Value, Vals xs its /\ IsTup s.heap a its.toArray /\ xs.length <= sizeLine := by
 rcases h with h | ⟨o, its, n, hk, hc, hs, hz, r⟩
 . obtain ⟨z, its, r, p⟩ := h.ok I.dw
   exact ⟨its, r, p, z⟩
 . refine ⟨its.toList, r, ⟨o, I.Oz a o hk, hc, n, by simpa using hs⟩, ?_⟩
   have e := r.length
   simp only [ajP] at e
   omega
theorem Inv.FQ (I : Inv X pins σ H s) (h : qk X.K H a xs) (h' : qk X.K H a ys) : xs = ys := by
 obtain ⟨its, r, ⟨o, n, e, _, _, d⟩, _⟩ := I.list h
 obtain ⟨its', r', ⟨o', n', e', _, _, d'⟩, _⟩ := I.list h'
 rw [e] at e'; cases e'
 rw [d] at d'
 injection d' with d1 _
 have : its = its' := by simpa using congrArg Array.toList d1
 subst this
 exact r.inj r'
theorem Inv.Mi (I : Inv X pins σ H s) (h : qE X.K H a xs) (h' : qE X.K H a ys) : xs = ys := by
 obtain ⟨its, r, ⟨o, e, _, n, d⟩, _⟩ := I.tuple h
 obtain ⟨its', r', ⟨o', e', _, n', d'⟩, _⟩ := I.tuple h'
 rw [e] at e'; cases e'
 rw [d] at d'
 injection d' with d1 _
 have : its = its' := by simpa using congrArg Array.toList d1
 subst this
 exact r.inj r'
end
noncomputable abbrev Cx.wish (X : Cx) (E : Value -> Shared -> Prop) : Cx := { X with xe := E }
noncomputable abbrev Cx.TJ (X : Cx) : Cx := X.wish fun _ _ => False
theorem Cx.Ok.wish {X : Cx} (ok : X.Ok) (E : Value -> Shared -> Prop) : (X.wish E).Ok :=
 ⟨ok.mod, ok.kind, ok.glob, ok.blt, ok.above, ok.inj, ok.has, ok.cab, ok.hd, ok.frames, ok.stk, ok.exf, ok.bs, ok.Ox, ok.Mg, ok.Tz, ok.wO, ok.WH⟩
theorem Cx.Ok.qF {X : Cx} {E : Value -> Shared -> Prop} (ok : (X.wish E).Ok) : X.Ok :=
 ⟨ok.mod, ok.kind, ok.glob, ok.blt, ok.above, ok.inj, ok.has, ok.cab, ok.hd, ok.frames, ok.stk, ok.exf, ok.bs, ok.Ox, ok.Mg, ok.Tz, ok.wO, ok.WH⟩
section
variable {X : Cx} {pins : List (Addr × Obj)} {σ : St} {H : Hp} {s : Shared} {E : Value -> Shared -> Prop}
theorem Inv.wish (I : Inv X pins σ H s) (E : Value -> Shared -> Prop) : Inv (X.wish E) pins σ H s := ⟨I.ok.wish E, I.os, I.bare, I.base, I.loc, I.cell, I.free, I.oi, I.pin, I.dw, I.len⟩
theorem Inv.qF (I : Inv (X.wish E) pins σ H s) : Inv X pins σ H s := ⟨I.ok.qF, I.os, I.bare, I.base, I.loc, I.cell, I.free, I.oi, I.pin, I.dw, I.len⟩
theorem SP.qF {D : Ends} {f : Flow} {s' : Shared} (h : SP (X.wish E) pins D f s') : SP X pins D f s' := by
 cases f with
 | next => obtain ⟨σ', H', I, q⟩ := h; exact ⟨σ', H', I.qF, q⟩
 | brk => obtain ⟨σ', H', I, q⟩ := h; exact ⟨σ', H', I.qF, q⟩
 | cont => obtain ⟨σ', H', I, q⟩ := h; exact ⟨σ', H', I.qF, q⟩
 | ret u => obtain ⟨v, σ', H', I, r, q⟩ := h; exact ⟨v, σ', H', I.qF, r, q⟩
theorem Ks.TJ {st : List Stmt} {t : TS} (h : Ks X.TJ st t) : Ks X st t := fun pins s σ H D I hw =>
 ajB (h pins s σ H D (I.wish _) hw) (fun _ _ q => q.qF) fun _ _ z => False.elim z
end
section
variable {X : Cx} {st : Stmt} {rest : List Stmt} {t u : TS} {e : Expr} {te : TE} {pos : Pos}
noncomputable def abr : TS := fun D σ H => D.nx σ H
noncomputable def ad9 (t u : TS) : TS := fun D σ H => t { D with nx := u D } σ H
theorem TL : Ks X [] abr := fun _ _ σ H _ I h => wpAny_execs_nil ⟨σ, H, I, h⟩
theorem O1 (h1 : PS X st t) (h2 : Ks X rest u) : Ks X (st :: rest) (ad9 t u) := by
 intro pins s σ H D I h
 refine wpAny_execs_cons (cN (h1 pins s σ H { D with nx := u D } I h) fun f s1 q => ?_)
 cases f with
 | next =>
   obtain ⟨σ', H', I', q⟩ := q
   exact h2 pins s1 σ' H' D I' q
 | ret v => exact q
 | brk => exact q
 | cont => exact q
theorem Inv.quiet {pins : List (Addr × Obj)} {σ : St} {H : Hp} {s : Shared} (I : Inv X pins σ H s) : interactive X.env = false := by simp [interactive, I.ok.kind]
noncomputable def abt (te : TE) : TS := fun D σ H => te σ H fun _ H1 => D.nx σ H1
theorem zF (he : PE X e te) (hs : swapsWith e none pos.line X.env = pure false := by rfl) : PS X (.Expr e pos) (abt te) := by
 intro pins s σ H D I h
 exact wpAny_Expr_any (cN (he pins s σ H _ I h) fun v s1 ⟨x, H1, I1, r1, q1⟩ => ⟨σ, H1, I1, q1⟩) I.quiet hs
noncomputable def aea (te : TE) : TS := fun D σ H => te σ H D.rt
theorem O2 (he : PE X e te) : PS X (.Return (some e) pos) (aea te) := by
 intro pins s σ H D I h
 exact wpAny_Return_some (cN (he pins s σ H _ I h) fun v s1 ⟨x, H1, I1, r1, q1⟩ => ⟨x, σ, H1, I1, r1, q1⟩)
noncomputable def aeb (c : TT) (t u : TS) : TS := fun D σ H => c σ H fun b H1 => if b = true then t D σ H1 else u D σ H1
theorem WN {c : Expr} {a b : List Stmt} {tc : TT} (hc : PT X c tc) (ha : Ks X a t) (hb : Ks X b u) : PS X (.If c a b pos) (aeb tc t u) := by
 intro pins s σ H D I h
 refine wpAny_If (cN (hc pins s σ H _ I h) fun d s1 zz => ?_)
 obtain ⟨H1, I1, q1⟩ := zz
 cases d with
 | true => exact ha pins s1 σ H1 D I1 q1
 | false => exact hb pins s1 σ H1 D I1 q1
end
noncomputable abbrev TG := V -> St -> Hp -> (St -> Hp -> Prop) -> Prop
noncomputable abbrev XF := List V -> St -> Hp -> (St -> Hp -> Prop) -> Prop
noncomputable def PG (X : Cx) (target : Expr) (t : TG) : Prop :=
 ∀ (pins : List (Addr × Obj)) (s : Shared) (σ : St) (H : Hp) (v : V) (u : Value) (Q : St -> Hp -> Prop), Inv X pins σ H s -> RelV v u -> t v σ H Q →
   wpAny (model X.prog X.w) X.A (assign target X.env u) (fun _ s' => ∃ σ' H', Inv X pins σ' H' s' /\ Q σ' H') X.xe s
noncomputable def PGs (X : Cx) (ts : List Expr) (t : XF) : Prop :=
 ∀ (pins : List (Addr × Obj)) (s : Shared) (σ : St) (H : Hp) (vs : List V) (us : List Value) (Q : St -> Hp -> Prop), Inv X pins σ H s -> Vals vs us -> t vs σ H Q →
   wpAny (model X.prog X.w) X.A (assignInOrder ((assignEach ts X.env).map (·.2)) us) (fun _ s' => ∃ σ' H', Inv X pins σ' H' s' /\ Q σ' H') X.xe s
noncomputable abbrev XG := V -> V -> V -> Hp -> (Hp -> Prop) -> Prop
noncomputable def abu (X : Cx) (t : XG) : Prop :=
 ∀ (pins : List (Addr × Obj)) (s : Shared) (σ : St) (H : Hp) (o i v : V) (ov iv u : Value) (Q : Hp -> Prop), Inv X pins σ H s -> RelV o ov -> RelV i iv -> RelV v u -> t o i v H Q →
   wpAny (model X.prog X.w) X.A (setItem ov iv u) (fun _ s' => ∃ H', Inv X pins σ H' s' /\ Q H') X.xe s
section
variable {X : Cx} {pos : Pos}
noncomputable def uR (i : Nat) : TG := fun v σ H Q => Q (σ.set i (some v)) H
theorem m5 {i : Nat} {x : Str} (hN : X.N.Nodup) (hi : X.N[i]? = some x) (hx : Loc X.env.scope x) (hf : X.fn x = true \/ X.env.scope.names.lookup x = some .local := by first | exact .inl rfl | exact .inr rfl | assumption) : PG X (.Name x pos) (uR i) := by
 intro pins s σ H v u Q I r h
 exact wpAny_assign_Name (FN I hN hi hx r (fun s' I' => ⟨_, H, I', h⟩) hf)
noncomputable def XH : XF := fun vs σ H Q => vs = [] /\ Q σ H
noncomputable def FT (t : TG) (u : XF) : XF := fun vs σ H Q => ∃ v r, vs = v :: r /\ t v σ H fun σ' H' => u r σ' H' Q
theorem TN : PGs X [] XH := by
 intro pins s σ H vs us Q I r h
 obtain ⟨e, h⟩ := h
 subst e
 cases r
 exact assignInOrder_nil ⟨σ, H, I, h⟩
theorem FU {e : Expr} {es : List Expr} {t : TG} {u : XF} (h1 : PG X e t) (h2 : PGs X es u)
   (hs : (assignEach (e :: es) X.env).map (·.2) = assign e X.env :: (assignEach es X.env).map (·.2) := by rfl) : PGs X (e :: es) (FT t u) := by
 intro pins s σ H vs us Q I r h
 obtain ⟨v, vr, e1, h⟩ := h
 subst e1
 cases r with
 | cons r rr =>
   rw [hs]
   refine assignInOrder_cons (cN (h1 pins s σ H _ _ _ I r h) fun _ s1 zz => ?_)
   obtain ⟨σ1, H1, I1, q1⟩ := zz
   exact h2 pins s1 σ1 H1 _ _ Q I1 rr q1
noncomputable def XI (K : PySem.W.Frag) (n : Nat) (t : XF) : TG := fun v σ H Q => ∃ a xs, v = .ref a /\ qE K H a xs /\ xs.length = n /\ t xs σ H Q
theorem XJ {es : List Expr} {k : Nat} {t : XF} {n : Nat} (hc : X.calm = true) (h : PGs X es t)
   (hn : (assignEach es X.env).length = n := by rfl) (Mj : (assignEach es X.env).findIdx? (·.1) = none := by rfl) : PG X (.Tuple es k pos) (XI X.K n t) := by
 intro pins s σ H v u Q I r hw
 obtain ⟨a, xs, e1, hq, hl, hw⟩ := hw
 subst e1
 cases r
 obtain ⟨its, rv, ht, hz⟩ := I.tuple hq
 refine assign_Tuple_tuple (I.ok.hd hc) ht (by simp [hn, ← hl, rv.length]) Mj fun h' hx => ?_
 have I1 : Inv X pins σ H { s with heap := h' } := I.kept (t' := s.toks) fun b o e => hx b o (aiX (aiF e)) e
 exact h pins _ σ H xs _ Q I1 (by simpa using rv) hw
noncomputable def aec (to ti : TE) (t : XG) : TG := fun v σ H Q => to σ H fun o H1 => ti σ H1 fun i H2 => t o i v H2 fun H3 => Q σ H3
theorem XM {o i : Expr} {to ti : TE} {t : XG} (ho : PE X o to) (hi : PE X i ti) (hs : abu X t)
   (ha : ∀ v, assign (.Subscript o i pos) X.env v = (do
     let ov ← holding [v] (eval o X.env)
     let iv ← holding [v, ov] (eval i X.env)
     standAt pos
     holding [v, ov, iv] (setItem ov iv v)
     release [v, ov, iv] []) := by intro _; rfl) : PG X (.Subscript o i pos) (aec to ti t) := by
 intro pins s σ H v u Q I r h
 rw [ha]
 refine aim (aj8 (cN (ho pins s σ H _ I h) fun ov s1 zz => ?_))
 obtain ⟨x, H1, I1, r1, q1⟩ := zz
 refine aim (aj8 (cN (hi pins s1 σ H1 _ I1 q1) fun iv s2 zz => ?_))
 obtain ⟨y, H2, I2, r2, q2⟩ := zz
 refine aim (wpAny_standAt (aim (aj8 (cN (hs pins s2 σ H2 x y v ov iv u _ I2 r1 r2 r q2) fun _ s3 zz => ?_))))
 obtain ⟨H3, I3, q3⟩ := zz
 exact wpAny_release ⟨σ, H3, I3, q3⟩
noncomputable def abv (te : TE) (g : TG) : TS := fun D σ H => te σ H fun x H1 => g x σ H1 D.nx
theorem XO {tg e : Expr} {te : TE} {g : TG} (he : PE X e te) (hg : PG X tg g) (hs : swapsWithSole [tg] e pos.line X.env = pure false := by rfl) (hw : swappedStores [tg] e X.env = pure none := by rfl)
   (h1 : (assignEach [tg] X.env).map (·.2) = [assign tg X.env] := by rfl) : PS X (.Assign [tg] e pos) (abv te g) := by
 intro pins s σ H D I h
 refine wpAny_Assign_stores (cN (he pins s σ H _ I h) fun v s1 zz => ?_) hs hw
 obtain ⟨x, H1, I1, r1, q1⟩ := zz
 rw [h1]
 exact cN (hg pins s1 σ H1 x v _ I1 r1 q1) fun _ s2 q => q
theorem O4 {i : Nat} {x : Str} {e : Expr} {te : TE} {pos' : Pos} (hN : X.N.Nodup) (hi : X.N[i]? = some x) (hx : Loc X.env.scope x) (he : PE X e te) (hs : swapsWith e (some (.Name x pos')) pos.line X.env = pure false := by rfl) (hf : X.fn x = true \/ X.env.scope.names.lookup x = some .local := by first | exact .inl rfl | exact .inr rfl | assumption) :
   PS X (.Assign [.Name x pos'] e pos) (abv te (uR i)) := by
 intro pins s σ H D I h
 refine wpAny_Assign_Name (cN (he pins s σ H _ I h) fun v s1 zz => ?_) hs
 obtain ⟨y, H1, I1, r1, q1⟩ := zz
 exact FN I1 hN hi hx r1 (fun s2 I2 => ⟨_, H1, I2, q1⟩) hf
end
section
variable {X : Cx} {pos : Pos}
noncomputable def XQ (c : TT) (tb : TS) : TS := fun D σ H => ∃ W : Nat -> St -> Hp -> Prop, (∃ m, W m σ H) /\ ∀ m σ H, W m σ H →
 c σ H fun b H1 => if b = true then ∃ N : St -> Hp -> Prop, (∀ σ' H', N σ' H' -> ∃ m', m' < m /\ W m' σ' H') /\ tb { D with nx := N, ct := N, bk := D.nx } σ H1 else D.nx σ H1
theorem O5 {c : Expr} {body : List Stmt} {tc : TT} {tb : TS} (hp : PassesOwn (model X.prog X.w) X.A X.env X.xe) (hc : PT X c tc) (hb : Ks X body tb) : PS X (.While c body [] pos) (XQ tc tb) := by
 intro pins s σ H D I h
 obtain ⟨W, ⟨m0, w0⟩, turn⟩ := h
 refine wpAny_While (codeAny_whileLoop (fun n s' => ∃ σ' H', Inv X pins σ' H' s' /\ W n σ' H') ?_ m0 ⟨σ, H, I, w0⟩)
 rintro n s1 ⟨σ1, H1, I1, w1⟩
 refine ajW hp (cN (hc pins s1 σ1 H1 _ I1 (turn n σ1 H1 w1)) fun b s2 zz => ?_)
 obtain ⟨H2, I2, q2⟩ := zz
 cases b with
 | true =>
   obtain ⟨N, hN, q2⟩ := q2
   rw [aiC rfl]
   refine ajW hp (cN (hb pins s2 σ1 H2 _ I2 q2) fun f s3 q3 => ?_)
   cases f with
   | next =>
     obtain ⟨σ3, H3, I3, n3⟩ := q3
     obtain ⟨m', hm, w3⟩ := hN σ3 H3 n3
     exact ⟨m', hm, σ3, H3, I3, w3⟩
   | cont =>
     obtain ⟨σ3, H3, I3, n3⟩ := q3
     obtain ⟨m', hm, w3⟩ := hN σ3 H3 n3
     exact ⟨m', hm, σ3, H3, I3, w3⟩
   | brk => exact q3
   | ret v => exact q3
 | false =>
   rw [aiu aiy]
   exact wpAny_execs_nil ⟨σ1, H2, I2, q2⟩
end
structure It where
 go : Nat -> Hp -> Prop
 Td : Nat -> Hp -> V -> Hp -> Prop
 stop : Nat -> Hp -> Prop
noncomputable def sU (X : Cx) (pins : List (Addr × Obj)) (H : Hp) (b : Addr) : Prop :=
 H b = none /\ b ≠ X.env.locals /\ b ∉ X.fs /\ (b ∈ X.ex \/ X.s₀.heap.objs.size <= b) /\ (∀ x c, X.env.cells.lookup x = some c -> c ≠ b) /\ ∀ p ∈ X.pn ++ pins, p.1 ≠ b
theorem Inv.zV {X : Cx} {pins : List (Addr × Obj)} {σ : St} {H H' : Hp} {s : Shared} {b : Addr} (I : Inv X pins σ H s) (hb : s.heap.objs.size <= b) (hn : H' b = none) : sU X pins H' b := by
 refine ⟨hn, Nat.ne_of_gt (ai0 I.lt hb), I.adZ hb, .inr (aje I.sz hb), fun x c e z => ?_, fun p hp z => ?_⟩
 . obtain ⟨v, q⟩ := I.cell x c e
   exact absurd (ai0 q.lt (by rw [z]; exact hb)) (ajY _)
 . exact absurd (ai0 (aiF (I.pin p hp).1) (by rw [z]; exact hb)) (ajY _)
structure Turn (P : Program) (w : World) (K : PySem.W.Frag) (tg : Expr) (J : It) (fp : List Addr) (it : Addr) (tn : Nat -> Heap -> Prop) : Prop where
 mem : it ∈ fp
 obj : ∀ i h, tn i h -> ∀ b ∈ fp, ∃ o, h.get? b = some o /\ ∀ v, o.data ≠ .cell v
 keep : ∀ i h h', tn i h -> (∀ b ∈ fp, ∀ o, h.get? b = some o -> h'.get? b = some o) -> tn i h'
 item : ∀ (X : Cx), X.prog = P -> X.w = w -> X.K = K -> X.calm = true -> ∀ (i : Nat) (pins : List (Addr × Obj)) (s : Shared) (σ : St) (H : Hp) (E : Value -> Shared -> Prop), Inv X pins σ H s -> (∀ b ∈ fp, sU X pins H b) -> tn i s.heap -> J.go i H →
   wpAny (model P w) X.A (pyNext (.ref it)) (fun r s1 => ∃ u, r = some u ∧
     wpAny (model P w) X.A (letOwnedTupleGo tg (.ref it) u) (fun _ s2 => ∃ x H', Inv X pins σ H' s2 /\ RelV x u /\ J.Td i H x H' /\ tn (i + 1) s2.heap /\ ∀ b ∈ fp, H' b = none) E s1) E s
 done : ∀ (X : Cx), X.prog = P -> X.w = w -> X.K = K -> X.calm = true -> ∀ (i : Nat) (pins : List (Addr × Obj)) (s : Shared) (σ : St) (H : Hp) (E : Value -> Shared -> Prop), Inv X pins σ H s -> (∀ b ∈ fp, sU X pins H b) -> tn i s.heap -> J.stop i H →
   wpAny (model P w) X.A (pyNext (.ref it)) (fun r s1 => r = none /\ Inv X pins σ H s1) E s
 self : ∀ (A : Around) (i : Nat) (s : Shared) (Q : Value -> Shared -> Prop) (E : Value -> Shared -> Prop), tn i s.heap -> Q (.ref it) s -> wpAny (model P w) A (pyIter (.ref it)) Q E s
noncomputable abbrev TI := St -> Hp -> (It -> Hp -> Prop) -> Prop
noncomputable def PIE (X : Cx) (pins : List (Addr × Obj)) (σ : St) (tg : Expr) (R : It -> Hp -> Prop) (itv : Value) (s2 : Shared) : Prop :=
 ∃ (it : Addr) (fp : List Addr) (tn : Nat -> Heap -> Prop) (J : It) (H' : Hp), itv = .ref it /\ Inv X pins σ H' s2 /\ Turn X.prog X.w X.K tg J fp it tn /\ tn 0 s2.heap /\ (∀ b ∈ fp, sU X pins H' b) /\ R J H'
noncomputable def PI (X : Cx) (tg iter : Expr) (wi : TI) : Prop :=
 ∀ (pins : List (Addr × Obj)) (s : Shared) (σ : St) (H : Hp) (R : It -> Hp -> Prop), Inv X pins σ H s -> wi σ H R →
   wpAny (model X.prog X.w) X.A (eval iter X.env) (fun v s1 => wpAny (model X.prog X.w) X.A (pyIter v) (PIE X pins σ tg R) X.xe s1) X.xe s
theorem Cz {M : Model} {A : Around} {E : Value -> Shared -> Prop} {s : Shared} {tg : Expr} {it : Addr} {u : Value} {o : Obj} {n : String} {vs : Array Value} {Q : Unit -> Shared -> Prop} (ho : s.heap.get? it = some o) (hc : o.cls = .type n) (hd : o.data = .fields vs)
   (hn : ["enumerate", "zip", "dict_itemiterator", "dict_reverseitemiterator", "odict_iterator", "itertools.zip_longest", "itertools.pairwise"].contains n = false) (hQ : Q () s) : wpAny M A (letOwnedTupleGo tg (.ref it) u) Q E s := by
 unfold letOwnedTupleGo
 cases tg <;> first
   | exact aiz hQ
   | (cases u <;> first
       | exact aiz hQ
       | (refine aim (wpAny_load ho ?_)
          rw [hc, hd]
          show wpAny M A (if (["enumerate", "zip", "dict_itemiterator", "dict_reverseitemiterator", "odict_iterator", "itertools.zip_longest", "itertools.pairwise"].contains n && vs[0]? == some (rawInt _)) = true then _ else _) Q E s
          rw [aiu (by intro h; rw [hn, ajG] at h; cases h)]
          exact aiz hQ))
noncomputable def Itl (K : PySem.W.Frag) (a : Addr) : It :=
 ⟨fun i H => ∃ xs x, qk K H a xs /\ xs[i]? = some x, fun i H x H' => H' = H /\ ∀ xs, qk K H a xs -> xs[i]? = some x, fun i H => ∃ xs, qk K H a xs /\ xs.length <= i⟩
noncomputable def Itt (K : PySem.W.Frag) (a : Addr) : It :=
 ⟨fun i H => ∃ xs x, qE K H a xs /\ xs[i]? = some x, fun i H x H' => H' = H /\ ∀ xs, qE K H a xs -> xs[i]? = some x, fun i H => ∃ xs, qE K H a xs /\ xs.length <= i⟩
noncomputable def WO (lo : Int) (n : Nat) : It := ⟨fun i _ => i < n, fun i H x H' => H' = H /\ x = .int (lo + i), fun i _ => n <= i⟩
theorem Ml {P : Program} {w : World} {K : PySem.W.Frag} {tg : Expr} (a it : Addr) : Turn P w K tg (Itl K a) [it] it (fun i h => h.IsListIter it a i) where
 mem := by simp
 obj := fun i h st b hb => by
   have e : b = it := by simpa using hb
   subst e
   obtain ⟨o, e, c, d⟩ := st
   exact ⟨o, e, fun v z => by rw [d] at z; cases z⟩
 keep := fun i h h' st k => st.at fun o e => k it (by simp) o e
 item := by
   intro X hP hw hK hc i pins s σ H E I hf st hg
   subst hP hw hK
   obtain ⟨xs, x, hq, hx⟩ := hg
   obtain ⟨its, rv, p, hz⟩ := I.list hq
   obtain ⟨u, hu, ru⟩ := rv.get hx
   obtain ⟨f0, f1, f2, f3, f4, f5⟩ := hf it (by simp)
   refine wpAny_pyNext_list_item st p.isList (x := u) (by simpa using hu) fun h' FW sb => ?_
   have I1 : Inv X pins σ H { s with heap := h' } := I.turned (t' := s.toks) (fun b o hb e => (sb.2 b hb).trans e) f0 f1 f3 f4 f5
   obtain ⟨o, e, c, d⟩ := id FW
   exact ⟨u, rfl, Cz (s := { s with heap := h' }) e c d (by decide) ⟨x, H, I1, ru, ⟨rfl, fun ys hy => by rw [I.FQ hy hq]; exact hx⟩, FW, fun b hb => (hf b hb).1⟩⟩
 done := by
   intro X hP hw hK hc i pins s σ H E I hf st hg
   subst hP hw hK
   obtain ⟨xs, hq, hx⟩ := hg
   obtain ⟨its, rv, p, hz⟩ := I.list hq
   obtain ⟨f0, f1, f2, f3, f4, f5⟩ := hf it (by simp)
   have hl := rv.length
   exact wpAny_pyNext_list_end (I.ok.hd hc) st p.isList (by simp; omega) fun h' eb => ⟨rfl, I.turned (t' := s.toks) (fun b o hb e => eb b o hb e) f0 f1 f3 f4 f5⟩
 self := fun _ _ _ _ _ st h => wpAny_pyIter_listiter st h
theorem HR {P : Program} {w : World} {K : PySem.W.Frag} {tg : Expr} (a it : Addr) : Turn P w K tg (Itt K a) [it] it (fun i h => h.IsTupleIter it a i) where
 mem := by simp
 obj := fun i h st b hb => by
   have e : b = it := by simpa using hb
   subst e
   obtain ⟨o, e, c, d⟩ := st
   exact ⟨o, e, fun v z => by rw [d] at z; cases z⟩
 keep := fun i h h' st k => st.at fun o e => k it (by simp) o e
 item := by
   intro X hP hw hK hc i pins s σ H E I hf st hg
   subst hP hw hK
   obtain ⟨xs, x, hq, hx⟩ := hg
   obtain ⟨its, rv, p, hz⟩ := I.tuple hq
   obtain ⟨u, hu, ru⟩ := rv.get hx
   obtain ⟨f0, f1, f2, f3, f4, f5⟩ := hf it (by simp)
   refine wpAny_pyNext_tuple_item st (show s.heap.IsTuple a its.toArray from p) (x := u) (by simpa using hu) fun h' FW sb => ?_
   have I1 : Inv X pins σ H { s with heap := h' } := I.turned (t' := s.toks) (fun b o hb e => (sb.2 b hb).trans e) f0 f1 f3 f4 f5
   obtain ⟨o, e, c, d⟩ := id FW
   exact ⟨u, rfl, Cz (s := { s with heap := h' }) e c d (by decide) ⟨x, H, I1, ru, ⟨rfl, fun ys hy => by rw [I.Mi hy hq]; exact hx⟩, FW, fun b hb => (hf b hb).1⟩⟩
 done := by
   intro X hP hw hK hc i pins s σ H E I hf st hg
   subst hP hw hK
   obtain ⟨xs, hq, hx⟩ := hg
   obtain ⟨its, rv, p, hz⟩ := I.tuple hq
   obtain ⟨f0, f1, f2, f3, f4, f5⟩ := hf it (by simp)
   have hl := rv.length
   exact wpAny_pyNext_tuple_end (I.ok.hd hc) st (show s.heap.IsTuple a its.toArray from p) (by simp; omega) fun h' eb => ⟨rfl, I.turned (t' := s.toks) (fun b o hb e => eb b o hb e) f0 f1 f3 f4 f5⟩
 self := fun _ _ _ _ _ st h => wpAny_pyIter_tupleiter st h
theorem HS {P : Program} {w : World} {K : PySem.W.Frag} {tg : Expr} (it : Addr) (lo : Int) (n : Nat) : Turn P w K tg (WO lo n) [it] it (fun i h => IsRangeIter h it (lo + (i : Nat) * 1) ((n : Int) - (i : Nat)) 1) where
 mem := by simp
 obj := fun i h st b hb => by
   have e : b = it := by simpa using hb
   subst e
   exact ⟨_, st, fun v z => by
     have z' : Data.fields _ = Data.cell v := z
     cases z'⟩
 keep := fun i h h' st k => k it (by simp) _ st
 item := by
   intro X hP hw hK hc i pins s σ H E I hf st hg
   subst hP hw hK
   obtain ⟨f0, f1, f2, f3, f4, f5⟩ := hf it (by simp)
   have W := Walks.range (prog := X.prog) (w := X.w) (I.ok.hd hc) it lo 1 n
   refine W.item i s _ _ hg st fun v h' tk hv FW kk => ?_
   obtain ⟨t, rfl⟩ := hv
   have I1 : Inv X pins σ H { s with heap := h', toks := tk } := I.turned (fun b o hb e => kk b o (by simpa using hb) e) f0 f1 f3 f4 f5
   refine ⟨_, rfl, Cz (s := { s with heap := h', toks := tk }) (n := "range_iterator") FW rfl rfl (by decide) ⟨.int (lo + i), H, I1, ⟨t, ?_⟩, ⟨rfl, rfl⟩, FW, fun b hb => (hf b hb).1⟩⟩
   rw [Int.mul_one]
 done := by
   intro X hP hw hK hc i pins s σ H E I hf st hg
   subst hP hw hK
   obtain ⟨f0, f1, f2, f3, f4, f5⟩ := hf it (by simp)
   exact wpAny_pyNext_range_end (I.ok.hd hc) st (by have : n <= i := hg; omega) fun h' eb => ⟨rfl, I.turned (t' := s.toks) (fun b o hb e => eb b o hb e) f0 f1 f3 f4 f5⟩
 self := fun _ _ _ _ _ st h => wpAny_pyIter_rangeiter st h
section
variable {X : Cx} {tg : Expr}
noncomputable def abx (K : PySem.W.Frag) (tl : TE) : TI := fun σ H R => tl σ H fun x H1 => ∃ a, x = .ref a /\ (∃ xs, qk K H1 a xs) /\ R (Itl K a) H1
noncomputable def aee (K : PySem.W.Frag) (tl : TE) : TI := fun σ H R => tl σ H fun x H1 => ∃ a, x = .ref a /\ (∃ xs, qE K H1 a xs) /\ R (Itt K a) H1
theorem TQ {l : Expr} {tl : TE} (hl : PE X l tl) : PI X tg l (abx X.K tl) := by
 intro pins s σ H R I h
 refine cN (hl pins s σ H _ I h) fun v s1 zz => ?_
 obtain ⟨x, H1, I1, r1, q1⟩ := zz
 obtain ⟨a, e, ⟨xs, hq⟩, q⟩ := q1
 subst e
 cases r1
 obtain ⟨its, rv, p, hz⟩ := I1.list hq
 refine wpAny_pyIter_list p.isList ?_
 refine ⟨s1.heap.objs.size, [s1.heap.objs.size], _, _, H1, rfl, I1.kept (t' := s1.toks) fun b o e => aiv _ e, Ml a _, ⟨_, aiR _ rfl, rfl, rfl⟩, fun b hb => ?_, q⟩
 have e : b = s1.heap.objs.size := by simpa using hb
 subst e
 exact I1.zV (ait _) (I1.dw.fresh (ait _))
theorem XR {l : Expr} {tl : TE} (hl : PE X l tl) : PI X tg l (aee X.K tl) := by
 intro pins s σ H R I h
 refine cN (hl pins s σ H _ I h) fun v s1 zz => ?_
 obtain ⟨x, H1, I1, r1, q1⟩ := zz
 obtain ⟨a, e, ⟨xs, hq⟩, q⟩ := q1
 subst e
 cases r1
 obtain ⟨its, rv, p, hz⟩ := I1.tuple hq
 refine wpAny_pyIter_tuple (show s1.heap.IsTuple a its.toArray from p) ?_
 refine ⟨s1.heap.objs.size, [s1.heap.objs.size], _, _, H1, rfl, I1.kept (t' := s1.toks) fun b o e => aiv _ e, HR a _, ⟨_, aiR _ rfl, rfl, rfl⟩, fun b hb => ?_, q⟩
 have e : b = s1.heap.objs.size := by simpa using hb
 subst e
 exact I1.zV (ait _) (I1.dw.fresh (ait _))
theorem FY {pins : List (Addr × Obj)} {σ : St} {H : Hp} {s : Shared} {R : It -> Hp -> Prop} {E : Value -> Shared -> Prop} {lo hi : Int} {t u v : Tok} {tk : Nat} (I : Inv X pins σ H s) (h1 : -(2 ^ 62) <= lo) (h2 : lo < 2 ^ 62) (h3 : -(2 ^ 62) <= hi) (h4 : hi < 2 ^ 62)
   (q : R (WO lo (hi - lo).toNat) H) : wpAny (model X.prog X.w) X.A (pyIter (.ref s.heap.objs.size)) (PIE X pins σ tg R) E { s with heap := s.heap.push { cls := .type "range", data := .fields #[.int lo t, .int hi u, .int 1 v] }, toks := tk } := by
 refine wpAny_pyIter_range (IsRange.new ..) (small_one h1 h2 h3 h4) ?_
 have I1 : Inv X pins σ H { s with heap := s.heap.push { cls := .type "range", data := .fields #[.int lo t, .int hi u, .int 1 v] }, toks := tk } := I.kept fun b o e => aiv _ e
 refine ⟨(s.heap.push { cls := .type "range", data := .fields #[.int lo t, .int hi u, .int 1 v] }).objs.size, [(s.heap.push { cls := .type "range", data := .fields #[.int lo t, .int hi u, .int 1 v] }).objs.size], _, _, H, rfl,
   I1.kept (t' := tk) fun b o e => aiv _ e, HS _ lo (hi - lo).toNat, ?_, fun b hb => ?_, q⟩
 . have e1 : lo + ((0 : Nat) : Int) * 1 = lo := by simp
   have e2 : (((hi - lo).toNat : Nat) : Int) - ((0 : Nat) : Int) = Builtin.Range.rangeSize lo hi 1 := by rw [rangeSize_one]; split <;> omega
   show IsRangeIter _ _ (lo + ((0 : Nat) : Int) * 1) ((((hi - lo).toNat : Nat) : Int) - ((0 : Nat) : Int)) 1
   rw [e1, e2]
   exact aiR _ rfl
 . have e : b = (s.heap.push { cls := .type "range", data := .fields #[.int lo t, .int hi u, .int 1 v] }).objs.size := by simpa using hb
   subst e
   exact I1.zV (ait _) (I1.dw.fresh (ait _))
noncomputable def aby (ta : TA) : TI := fun σ H R => ta σ H fun vs H1 => ∃ j : Int, vs = [.int j] /\ -(2 ^ 62) <= j /\ j < 2 ^ 62 /\ R (WO 0 j.toNat) H1
noncomputable def abz (ta : TA) : TI := fun σ H R => ta σ H fun vs H1 => ∃ i j : Int, vs = [.int i, .int j] /\ (-(2 ^ 62) <= i /\ i < 2 ^ 62 /\ -(2 ^ 62) <= j /\ j < 2 ^ 62) /\ R (WO i (j - i).toNat) H1
theorem wR {a : Expr} {ta : TA} {p pos : Pos} (hg : Gl X "range") (hm : X.mg "range" = none) (ha : PA X [a] ta) (hs : starEach [a] X.env = [(false, eval a X.env)] := by rfl) : PI X tg (.Call (.Name "range" p) [a] [] pos) (aby ta) := by
 intro pins s σ H R I h
 refine Call_ (zU I hg hm boot_range (ajT (cN (ha pos pins s σ H _ I h) fun us s1 zz => ?_) hs rfl))
 obtain ⟨vs, H1, I1, r1, q1⟩ := zz
 obtain ⟨j, e, q1, q2, q⟩ := q1
 subst e
 cases r1 with
 | cons r rr =>
   cases rr
   obtain ⟨t, rfl⟩ := r
   exact call_range_1 (FY I1 (by omega) (by omega) q1 q2 (by simpa using q))
theorem Mm {a b : Expr} {ta : TA} {p pos : Pos} (hg : Gl X "range") (hm : X.mg "range" = none) (ha : PA X [a, b] ta) (hs : starEach [a, b] X.env = [(false, eval a X.env), (false, eval b X.env)] := by rfl) (HV : starEach [b] X.env = [(false, eval b X.env)] := by rfl) :
   PI X tg (.Call (.Name "range" p) [a, b] [] pos) (abz ta) := by
 intro pins s σ H R I h
 refine Call_ (zU I hg hm boot_range (ajT (cN (ha pos pins s σ H _ I h) fun us s1 zz => ?_) (by rw [hs, HV]) (by rw [HV]; rfl)))
 obtain ⟨vs, H1, I1, r1, q1⟩ := zz
 obtain ⟨i, j, e, ⟨q1, q2, q3, q4⟩, q⟩ := q1
 subst e
 cases r1 with
 | cons r rr =>
   cases rr with
   | cons r' rr =>
     cases rr
     obtain ⟨t, rfl⟩ := r
     obtain ⟨t', rfl⟩ := r'
     exact call_range_2 (FY I1 q1 q2 q3 q4 q)
noncomputable def aef (wi : TI) (g : TG) (tb : TS) : TS := fun D σ H => wi σ H fun J H1 => ∃ W : Nat -> Nat -> St -> Hp -> Prop, (∃ m, W 0 m σ H1) /\ ∀ i m σ H, W i m σ H →
 (J.stop i H /\ D.nx σ H) \/ (J.go i H /\ ∃ N : St -> Hp -> Prop, (∀ σ' H', N σ' H' -> ∃ m', m' < m /\ W (i + 1) m' σ' H') /\ ∀ x H', J.Td i H x H' -> g x σ H' fun σ2 H2 => tb { D with nx := N, ct := N, bk := D.nx } σ2 H2)
noncomputable def wU (fp : List Addr) (h : Heap) : List (Addr × Obj) := fp.filterMap fun b => (h.get? b).map fun o => (b, o)
theorem j3 {fp : List Addr} {h : Heap} {b : Addr} {o : Obj} (hb : b ∈ fp) (e : h.get? b = some o) : (b, o) ∈ wU fp h := List.mem_filterMap.mpr ⟨b, hb, by rw [e]; rfl⟩
theorem Mp {fp : List Addr} {h : Heap} {p : Addr × Obj} (hp : p ∈ wU fp h) : p.1 ∈ fp /\ h.get? p.1 = some p.2 := by
 obtain ⟨b, hb, e⟩ := List.mem_filterMap.mp hp
 cases q : h.get? b with
 | none => rw [q] at e; cases e
 | some o =>
   rw [q] at e
   have e' : (b, o) = p := aiN e
   subst e'
   exact ⟨hb, q⟩
theorem Inv.pinned {pins : List (Addr × Obj)} {σ : St} {H : Hp} {s : Shared} {fp : List Addr} (I : Inv X pins σ H s) (hf : ∀ b ∈ fp, sU X pins H b) (ho : ∀ b ∈ fp, ∃ o, s.heap.get? b = some o /\ ∀ v, o.data ≠ .cell v) : Inv X (pins ++ wU fp s.heap) σ H s :=
 I.zC fun p hp => (aix.mp hp).elim (fun z => I.pin p (ail _ z)) fun z => by
   obtain ⟨hb, e⟩ := Mp z
   obtain ⟨f0, f1, f2, _⟩ := hf p.1 hb
   obtain ⟨o, e', d⟩ := ho p.1 hb
   rw [e] at e'; cases e'
   exact ⟨e, f0, f1, f2, d⟩
theorem Inv.qG {pins pl : List (Addr × Obj)} {σ : St} {H : Hp} {s : Shared} (I : Inv X (pins ++ pl) σ H s) : Inv X pins σ H s := I.zC fun p hp => I.pin p (ail _ (air _ hp))
theorem Dg {iter : Expr} {body : List Stmt} {wi : TI} {g : TG} {tb : TS} {pos : Pos} (hp : PassesOwn (model X.prog X.w) X.A X.env X.xe) (hc : X.calm = true) (hi : PI X tg iter wi) (hg : PG X tg g) (hb : Ks X body tb)
   (hs : ∀ x, foldedSetIterable iter X.env x = pure x := by intro _; rfl) : PS X (.For tg iter body [] pos) (aef wi g tb) := by
 intro pins s σ H D I h
 refine wpAny_For (cN (hi pins s σ H _ I h) fun v s1 h1 => cN h1 fun itv s2 h2 => ?_) hs
 obtain ⟨it, fp, tn, J, H2, e, I2, T, st2, f2, W, ⟨m0, w0⟩, turn⟩ := h2
 subst e
 have stat : ∀ {H' : Hp}, (∀ b ∈ fp, H' b = none) -> ∀ b ∈ fp, sU X pins H' b := fun hn b hb => ⟨hn b hb, (f2 b hb).2⟩
 refine codeAny_forLoop_any (fun n s' => ∃ i σ' H', Inv X pins σ' H' s' /\ tn i s'.heap /\ (∀ b ∈ fp, H' b = none) /\ W i n σ' H') ?_ m0 ⟨0, σ, H2, I2, st2, fun b hb => (f2 b hb).1, w0⟩
 rintro n s3 ⟨i, σ3, H3, I3, WQ, fr3, w3⟩
 rcases turn i n σ3 H3 w3 with ⟨stop, qn⟩ | ⟨go, N, hN, step⟩
 . refine ajW hp (cN (T.done X rfl rfl rfl hc i pins s3 σ3 H3 X.xe I3 (stat fr3) WQ stop) fun r s4 zz => ?_)
   obtain ⟨hr, I4⟩ := zz
   subst hr
   exact wpAny_execs_nil ⟨σ3, H3, I4, qn⟩
 . refine ajW hp (cN (T.item X rfl rfl rfl hc i pins s3 σ3 H3 X.xe I3 (stat fr3) WQ go) fun r s4 zz => ?_)
   obtain ⟨u, hr, h4⟩ := zz
   subst hr
   refine ajW hp (cN h4 fun _ s5 zz => ?_)
   obtain ⟨x, H5, I5, r5, y5, TV, XS⟩ := zz
   have I5' := I5.pinned (stat XS) (T.obj _ _ TV)
   refine ajW hp (cN (hg _ s5 σ3 H5 x u _ I5' r5 (step x H5 y5)) fun _ s6 zz => ?_)
   obtain ⟨σ6, H6, I6, q6⟩ := zz
   refine ajW hp (cN (hb _ s6 σ6 H6 _ I6 q6) fun f s7 q7 => ?_)
   have again : ∀ {σ7 : St} {H7 : Hp}, Inv X (pins ++ wU fp s5.heap) σ7 H7 s7 -> N σ7 H7 -> ∃ m, m < n /\ ∃ i σ' H', Inv X pins σ' H' s7 /\ tn i s7.heap /\ (∀ b ∈ fp, H' b = none) /\ W i m σ' H' := fun {σ7 H7} I7 n7 => by
     obtain ⟨m', hm, w7⟩ := hN σ7 H7 n7
     refine ⟨m', hm, i + 1, σ7, H7, I7.qG, T.keep _ _ _ TV fun b hb o e => (I7.pin (b, o) (ail _ (ail _ (j3 hb e)))).1, fun b hb => ?_, w7⟩
     obtain ⟨o, e, d⟩ := T.obj _ _ TV b hb
     exact (I7.pin (b, o) (ail _ (ail _ (j3 hb e)))).2.1
   cases f with
   | next => obtain ⟨σ7, H7, I7, n7⟩ := q7; exact again I7 n7
   | cont => obtain ⟨σ7, H7, I7, n7⟩ := q7; exact again I7 n7
   | brk => obtain ⟨σ7, H7, I7, q7⟩ := q7; exact ⟨σ7, H7, I7.qG, q7⟩
   | ret v => obtain ⟨x7, σ7, H7, I7, r7, q7⟩ := q7; exact ⟨x7, σ7, H7, I7.qG, r7, q7⟩
end
theorem Mq {lo : Int} {n : Nat} {g : TG} {tb : TS} {D : Ends} {σ : St} {H : Hp} (Pv : Nat -> St -> Hp -> Prop) (h0 : Pv 0 σ H)
   (hs : ∀ i σ H, i < n -> Pv i σ H -> g (.int (lo + i)) σ H fun σ2 H2 => tb { D with nx := Pv (i + 1), ct := Pv (i + 1), bk := D.nx } σ2 H2) (hd : ∀ σ H, Pv n σ H -> D.nx σ H) :
   ∃ W : Nat -> Nat -> St -> Hp -> Prop, (∃ m, W 0 m σ H) /\ ∀ i m σ H, W i m σ H →
     ((WO lo n).stop i H /\ D.nx σ H) \/ ((WO lo n).go i H /\ ∃ N : St -> Hp -> Prop, (∀ σ' H', N σ' H' -> ∃ m', m' < m /\ W (i + 1) m' σ' H') /\ ∀ x H', (WO lo n).Td i H x H' -> g x σ H' fun σ2 H2 => tb { D with nx := N, ct := N, bk := D.nx } σ2 H2) := by
 refine ⟨fun i m σ H => m = n - i /\ i <= n /\ Pv i σ H, ⟨n, by simp, ai5 _, h0⟩, ?_⟩
 rintro i m σ H ⟨rfl, hi, p⟩
 by_cases oS : i < n
 . refine .inr ⟨oS, Pv (i + 1), fun σ' H' p' => ⟨n - (i + 1), by omega, rfl, oS, p'⟩, fun x H' y => ?_⟩
   obtain ⟨e, y⟩ := y
   subst e y
   exact hs i σ _ oS p
 . have e : i = n := by omega
   subst e
   exact .inl ⟨ait _, hd σ H p⟩
noncomputable abbrev R2 := V -> V -> Hp -> VK -> Prop
noncomputable def qC (X : Cx) (f : Value -> Value -> Sem Value) (r : R2) : Prop :=
 ∀ (pins : List (Addr × Obj)) (s : Shared) (σ : St) (H : Hp) (x y : V) (v u : Value) (Q : VK), Inv X pins σ H s -> RelV x v -> RelV y u -> r x y H Q →
   wpAny (model X.prog X.w) X.A (f v u) (EP X pins σ Q) X.xe s
noncomputable def UnR (X : Cx) (f : Value -> Sem Value) (r : V -> Hp -> VK -> Prop) : Prop :=
 ∀ (pins : List (Addr × Obj)) (s : Shared) (σ : St) (H : Hp) (x : V) (v : Value) (Q : VK), Inv X pins σ H s -> RelV x v -> r x H Q →
   wpAny (model X.prog X.w) X.A (f v) (EP X pins σ Q) X.xe s
noncomputable def tu (X : Cx) (f : Value) (r : List V -> Hp -> VK -> Prop) : Prop :=
 ∀ (pins : List (Addr × Obj)) (s : Shared) (σ : St) (H : Hp) (xs : List V) (us : List Value) (Q : VK), Inv X pins σ H s -> Vals xs us -> r xs H Q →
   wpAny (model X.prog X.w) X.A (call f us) (EP X pins σ Q) X.xe s
noncomputable def aeh (X : Cx) (r : V -> Hp -> (Bool -> Hp -> Prop) -> Prop) : Prop :=
 ∀ (pins : List (Addr × Obj)) (s : Shared) (σ : St) (H : Hp) (x : V) (v : Value) (Q : Bool -> Hp -> Prop), Inv X pins σ H s -> RelV x v -> r x H Q →
   wpAny (model X.prog X.w) X.A (truthy v) (TP X pins σ Q) X.xe s
noncomputable def tOp (r : R2) (ta tb : TE) : TE := fun σ H Q => ta σ H fun x H1 => tb σ H1 fun y H2 => r x y H2 Q
noncomputable def tUn (r : V -> Hp -> VK -> Prop) (ta : TE) : TE := fun σ H Q => ta σ H fun x H1 => r x H1 Q
noncomputable def rI (C : Int -> Int -> Prop) (g : Int -> Int -> V) : R2 := fun x y H Q => ∃ i j, x = .int i /\ y = .int j /\ C i j /\ Q (g i j) H
noncomputable def TX (g : Int -> Int -> V) : R2 := fun x y H Q => ∃ i j, x = .int i /\ y = .int j /\ Q (g i j) H
noncomputable def rU (g : Int -> V) : V -> Hp -> VK -> Prop := fun x H Q => ∃ i, x = .int i /\ Q (g i) H
section
variable {X : Cx} {a b : Expr} {ta tb : TE} {pos : Pos}
theorem XT (ha : PE X a ta) (hb : PE X b tb) {pins : List (Addr × Obj)} {s : Shared} {σ : St} {H : Hp} {R : V -> V -> Hp -> Prop} (I : Inv X pins σ H s)
   (h : ta σ H fun x H1 => tb σ H1 fun y H2 => R x y H2) {Q : Value -> Shared -> Prop} {f : Value -> Value -> Sem Value}
   (hf : ∀ v u s2 x y H2, Inv X pins σ H2 s2 -> RelV x v -> RelV y u -> R x y H2 -> wpAny (model X.prog X.w) X.A (f v u) Q X.xe s2) :
   wpAny (model X.prog X.w) X.A (eval a X.env) (fun v s₁ => wpAny (model X.prog X.w) X.A (eval b X.env) (fun u s₂ => wpAny (model X.prog X.w) X.A (f v u) Q X.xe s₂) X.xe s₁) X.xe s := by
 refine cN (ha pins s σ H _ I h) fun v s1 zz => ?_
 obtain ⟨x, H1, I1, r1, q1⟩ := zz
 refine cN (hb pins s1 σ H1 _ I1 q1) fun u s2 zz => ?_
 obtain ⟨y, H2, I2, r2, q2⟩ := zz
 exact hf v u s2 x y H2 I2 r1 r2 q2
theorem Ku {op : Operator} {r : R2} (ho : qC X (binaryOp op) r) (ha : PE X a ta) (hb : PE X b tb) : PE X (.BinOp a op b pos) (tOp r ta tb) := by
 intro pins s σ H Q I h
 exact wpAny_BinOp (XT ha hb I h fun v u s2 x y H2 I2 rx ry q => ho pins s2 σ H2 x y v u Q I2 rx ry q)
theorem abA {op : UnaryOp} {r : V -> Hp -> VK -> Prop} (ho : UnR X (unaryOp op) r) (ha : PE X a ta) : PE X (.UnaryOp op a pos) (tUn r ta) := by
 intro pins s σ H Q I h
 exact UnaryOp_ (cN (ha pins s σ H _ I h) fun v s1 ⟨x, H1, I1, r1, q1⟩ => ho pins s1 σ H1 x v Q I1 r1 q1)
theorem opI {f : Value -> Value -> Sem Value} {C : Int -> Int -> Prop} {g : Int -> Int -> Int}
   (rule : ∀ (i j : Int) (t u : Tok) (s : Shared) (Q : Value -> Shared -> Prop) (E : Value -> Shared -> Prop), C i j -> Q (.int (g i j) s.toks) { s with toks := s.toks + 1 } -> wpAny (model X.prog X.w) X.A (f (.int i t) (.int j u)) Q E s) :
   qC X f (rI C fun i j => .int (g i j)) := by
 intro pins s σ H x y v u Q I rx ry h
 obtain ⟨i, j, rfl, rfl, hc, q⟩ := h
 obtain ⟨t, rfl⟩ := rx
 obtain ⟨t', rfl⟩ := ry
 exact rule i j t t' s _ _ hc ⟨.int (g i j), H, I.tok _, ⟨_, rfl⟩, q⟩
theorem abC {f : Value -> Value -> Sem Value} {g : Int -> Int -> Int}
   (rule : ∀ (i j : Int) (t u : Tok) (s : Shared) (Q : Value -> Shared -> Prop) (E : Value -> Shared -> Prop), Q (.int (g i j) s.toks) { s with toks := s.toks + 1 } -> wpAny (model X.prog X.w) X.A (f (.int i t) (.int j u)) Q E s) :
   qC X f (TX fun i j => .int (g i j)) := by
 intro pins s σ H x y v u Q I rx ry h
 obtain ⟨i, j, rfl, rfl, q⟩ := h
 obtain ⟨t, rfl⟩ := rx
 obtain ⟨t', rfl⟩ := ry
 exact rule i j t t' s _ _ ⟨.int (g i j), H, I.tok _, ⟨_, rfl⟩, q⟩
theorem XU {f : Value -> Value -> Sem Value} {g : Int -> Int -> Bool}
   (rule : ∀ (i j : Int) (t u : Tok) (s : Shared) (Q : Value -> Shared -> Prop) (E : Value -> Shared -> Prop), Q (.bool (g i j)) s -> wpAny (model X.prog X.w) X.A (f (.int i t) (.int j u)) Q E s) :
   qC X f (TX fun i j => .bl (g i j)) := by
 intro pins s σ H x y v u Q I rx ry h
 obtain ⟨i, j, rfl, rfl, q⟩ := h
 obtain ⟨t, rfl⟩ := rx
 obtain ⟨t', rfl⟩ := ry
 exact rule i j t t' s _ _ ⟨.bl (g i j), H, I, rfl, q⟩
noncomputable def abD (i j : Int) : Prop := 0 < j /\ j < 1073741824
noncomputable def abE (i j : Int) : Prop := 0 <= j /\ j <= 1000000 /\ i.natAbs < 2 ^ 64
noncomputable def TY (i j : Int) : Prop := (-(2 ^ 64) < i /\ i < 2 ^ 64) \/ (-(2 ^ 64) < j /\ j < 2 ^ 64)
theorem TY.ok {i j : Int} (h : TY i j) : IntMulOk i j := by
 rcases h with ⟨h1, h2⟩ | ⟨h1, h2⟩
 . exact .of_left (intBits_le_64 h1 h2)
 . exact .of_right (intBits_le_64 h1 h2)
theorem O6 : qC X (binaryOp .Add) (TX fun i j => .int (i + j)) := abC fun _ _ _ _ _ _ _ q => add_int q
theorem O7 : qC X (binaryOp .Sub) (TX fun i j => .int (i - j)) := abC fun _ _ _ _ _ _ _ q => sub_int q
theorem XW : qC X (binaryOp .Mult) (rI TY fun i j => .int (i * j)) := opI fun _ _ _ _ _ _ _ hc q => mul_int q hc.ok
theorem T3 : qC X (binaryOp .FloorDiv) (rI abD fun i j => .int (i / j)) := opI fun i j _ _ _ _ _ hc q => by
 have h1 : (0 : Int) < j := hc.1
 have h2 : j < 1073741824 := hc.2
 exact floordiv_int (by omega) (by rw [Int.fdiv_eq_ediv_of_nonneg i (by omega)]; exact q) (.inl (PyProof.noPylong_small (by omega)))
theorem XY : qC X (binaryOp .Mod) (rI (fun _ j => 0 < j) fun i j => .int (i % j)) := opI fun i j _ _ _ _ _ hc q => by
 have h1 : (0 : Int) < j := hc
 exact mod_int' (by omega) (by rw [Int.fmod_eq_emod_of_nonneg i (by omega)]; exact q)
theorem XZ : qC X (binaryOp .Pow) (rI abE fun i j => .int (i ^ j.toNat)) := opI fun _ _ _ _ _ _ _ hc q => pow_int_small hc.1 hc.2.1 hc.2.2 q
theorem unI {f : Value -> Sem Value} {g : Int -> Int}
   (rule : ∀ (i : Int) (t : Tok) (s : Shared) (Q : Value -> Shared -> Prop) (E : Value -> Shared -> Prop), Q (.int (g i) s.toks) { s with toks := s.toks + 1 } -> wpAny (model X.prog X.w) X.A (f (.int i t)) Q E s) :
   UnR X f (rU fun i => .int (g i)) := by
 intro pins s σ H x v Q I rx h
 obtain ⟨i, rfl, q⟩ := h
 obtain ⟨t, rfl⟩ := rx
 exact rule i t s _ _ ⟨.int (g i), H, I.tok _, ⟨_, rfl⟩, q⟩
theorem X3 : UnR X (unaryOp .USub) (rU fun i => .int (-i)) := unI fun _ _ _ _ _ q => neg_int q
end
noncomputable def X4 : V -> V -> Bool
 | .non, .non => true | .non, .int _ => true | .int _, .non => true | .non, .bl _ => true | .bl _, .non => true | .non, .str _ => true | .str _, .non => true
 | .int _, .int _ => true | .bl _, .bl _ => true | .str _, .str _ => true | .HQ _, .HQ _ => true
 | .int _, .str _ => true | .str _, .int _ => true | .bl _, .str _ => true | .str _, .bl _ => true
 | _, _ => false
noncomputable def rEq : R2 := fun x y H Q => X4 x y = true /\ Q (.bl (decide (x = y))) H
noncomputable def rNe : R2 := fun x y H Q => X4 x y = true /\ Q (.bl (!decide (x = y))) H
theorem Kv {i j : Int} : decide (V.int i = V.int j) = (i == j) := by
 rw [ajv]
 simp
theorem O8 {i j : Bool} : decide (V.bl i = V.bl j) = (i == j) := by
 rw [ajv]
 simp
theorem Kw {i j : Str} : decide (V.str i = V.str j) = (i == j) := by
 rw [ajv]
 simp
theorem Kx {i j : Array UInt8} : decide (V.HQ i = V.HQ j) = (i.toList == j.toList) := by
 rw [ajv]
 cases i
 cases j
 simp
section
variable {X : Cx} {a b c : Expr} {ta tb tc : TE} {pos : Pos}
theorem cj {pins : List (Addr × Obj)} {σ : St} {H : Hp} {s : Shared} {Q : VK} {k k' : Bool} (I : Inv X pins σ H s) (q : Q (.bl k) H) (e : k = k') : EP X pins σ Q (.bool k') s := by
 subst e
 exact ⟨.bl k, H, I, rfl, q⟩
theorem Ky : qC X (compareOp .Eq) rEq := by
 intro pins s σ H x y v u Q I rx ry h
 obtain ⟨hs, q⟩ := h
 cases x with
 | non =>
   cases rx
   cases y with
   | non => cases ry; exact PySem.EqNone.eq_none_none (cj I q (by simp))
   | bl j => cases ry; exact PySem.EqNone.eq_none_bool (cj I q (by simp))
   | int j => obtain ⟨t', rfl⟩ := ry; exact PySem.EqNone.eq_none_int (cj I q (by simp))
   | str j => obtain ⟨t', rfl⟩ := ry; exact PySem.EqNone.eq_none_str (cj I q (by simp))
   | _ => exact absurd (show false = true from hs) aiy
 | bl i =>
   cases rx
   cases y with
   | non => cases ry; exact PySem.EqNone.eq_bool_none (cj I q (by simp))
   | bl j => cases ry; exact eq_bool (cj I q O8)
   | str j => obtain ⟨t', rfl⟩ := ry; exact PySem.EqMixed.eq_bool_str (cj I q (by simp))
   | _ => exact absurd (show false = true from hs) aiy
 | int i =>
   obtain ⟨t, rfl⟩ := rx
   cases y with
   | non => cases ry; exact PySem.EqNone.eq_int_none (cj I q (by simp))
   | int j => obtain ⟨t', rfl⟩ := ry; exact eq_int (cj I q Kv)
   | str j => obtain ⟨t', rfl⟩ := ry; exact PySem.EqMixed.eq_int_str (cj I q (by simp))
   | _ => exact absurd (show false = true from hs) aiy
 | str i =>
   obtain ⟨t, rfl⟩ := rx
   cases y with
   | non => cases ry; exact PySem.EqNone.eq_str_none (cj I q (by simp))
   | bl j => cases ry; exact PySem.EqMixed.eq_str_bool (cj I q (by simp))
   | int j => obtain ⟨t', rfl⟩ := ry; exact PySem.EqMixed.eq_str_int (cj I q (by simp))
   | str j => obtain ⟨t', rfl⟩ := ry; exact eq_str (cj I q Kw)
   | _ => exact absurd (show false = true from hs) aiy
 | HQ i =>
   obtain ⟨t, rfl⟩ := rx
   cases y with
   | HQ j => obtain ⟨t', rfl⟩ := ry; exact PySem.W.eq_bytes (cj I q Kx)
   | _ => exact absurd (show false = true from hs) aiy
 | _ => cases y <;> exact absurd (show false = true from hs) aiy
theorem WR : qC X (compareOp .NotEq) rNe := by
 intro pins s σ H x y v u Q I rx ry h
 obtain ⟨hs, q⟩ := h
 cases x with
 | non =>
   cases rx
   cases y with
   | non => cases ry; exact PySem.EqNone.ne_none_none (cj I q (by simp))
   | bl j => cases ry; exact PySem.EqNone.ne_none_bool (cj I q (by simp))
   | int j => obtain ⟨t', rfl⟩ := ry; exact PySem.EqNone.ne_none_int (cj I q (by simp))
   | str j => obtain ⟨t', rfl⟩ := ry; exact PySem.EqNone.ne_none_str (cj I q (by simp))
   | _ => exact absurd (show false = true from hs) aiy
 | bl i =>
   cases rx
   cases y with
   | non => cases ry; exact PySem.EqNone.ne_bool_none (cj I q (by simp))
   | bl j => cases ry; exact ne_bool (cj I q (congrArg not O8))
   | str j => obtain ⟨t', rfl⟩ := ry; exact PySem.EqMixed.ne_bool_str (cj I q (by simp))
   | _ => exact absurd (show false = true from hs) aiy
 | int i =>
   obtain ⟨t, rfl⟩ := rx
   cases y with
   | non => cases ry; exact PySem.EqNone.ne_int_none (cj I q (by simp))
   | int j => obtain ⟨t', rfl⟩ := ry; exact ne_int (cj I q (congrArg not Kv))
   | str j => obtain ⟨t', rfl⟩ := ry; exact PySem.EqMixed.ne_int_str (cj I q (by simp))
   | _ => exact absurd (show false = true from hs) aiy
 | str i =>
   obtain ⟨t, rfl⟩ := rx
   cases y with
   | non => cases ry; exact PySem.EqNone.ne_str_none (cj I q (by simp))
   | bl j => cases ry; exact PySem.EqMixed.ne_str_bool (cj I q (by simp))
   | int j => obtain ⟨t', rfl⟩ := ry; exact PySem.EqMixed.ne_str_int (cj I q (by simp))
   | str j => obtain ⟨t', rfl⟩ := ry; exact ne_str (cj I q (congrArg not Kw))
   | _ => exact absurd (show false = true from hs) aiy
 | HQ i =>
   obtain ⟨t, rfl⟩ := rx
   cases y with
   | HQ j => obtain ⟨t', rfl⟩ := ry; exact PySem.W.ne_bytes (cj I q (congrArg not Kx))
   | _ => exact absurd (show false = true from hs) aiy
 | _ => cases y <;> exact absurd (show false = true from hs) aiy
theorem Kz : qC X (compareOp .Lt) (TX fun i j => .bl (decide (i < j))) := XU fun _ _ _ _ _ _ _ q => lt_int q
theorem abF : qC X (compareOp .LtE) (TX fun i j => .bl (decide (i <= j))) := XU fun _ _ _ _ _ _ _ q => le_int q
theorem abG : qC X (compareOp .Gt) (TX fun i j => .bl (decide (j < i))) := XU fun _ _ _ _ _ _ _ q => gt_int q
theorem Dh : qC X (compareOp .NotIn) (fun x y H Q => ∃ i j, x = .str i /\ y = .str j /\ Q (.bl (!(!(Builtin.Str.occurrences j i 0 j.length 1).isEmpty))) H) := by
 intro pins s σ H x y v u Q I rx ry h
 obtain ⟨i, j, rfl, rfl, q⟩ := h
 obtain ⟨t, rfl⟩ := rx
 obtain ⟨t', rfl⟩ := ry
 exact notIn_str (cj I q rfl)
theorem nI (b : Expr) {op : CmpOp} (h : op ≠ .In := by decide) (h2 : op ≠ .NotIn := by decide) : behindInMarks op b = false := by
 have e1 : (op == CmpOp.In) = false := by cases op <;> first | rfl | exact absurd rfl h
 have e2 : (op == CmpOp.NotIn) = false := by cases op <;> first | rfl | exact absurd rfl h2
 cases b <;> simp [behindInMarks, e1, e2]
theorem rX {op : CmpOp} {r : R2} (ho : qC X (compareOp op) r) (ha : PE X a ta) (hb : PE X b tb) (hm : behindInMarks op b = false) : PE X (.Compare a [op] [b] pos) (tOp r ta tb) := by
 intro pins s σ H Q I h
 exact wpAny_Compare1 (XT ha hb I h fun v u s2 x y H2 I2 rx ry q => ho pins s2 σ H2 x y v u Q I2 rx ry q) hm
noncomputable def WT (t : TE) : TT := fun σ H Q => t σ H fun x H' => ∃ k, x = .bl k /\ Q k H'
theorem oU {op : CmpOp} {r : R2} (ho : qC X (compareOp op) r) (ha : PE X a ta) (hb : PE X b tb) (hm : behindInMarks op b = false) : PT X (.Compare a [op] [b] pos) (WT (tOp r ta tb)) := by
 intro pins s σ H Q I h
 refine wpAny_isTrue_Compare1 (cN (ha pins s σ H _ I h) fun v s1 ⟨x, H1, I1, r1, q1⟩ => cN (hb pins s1 σ H1 _ I1 q1) fun u s2 ⟨y, H2, I2, r2, q2⟩ =>
   cN (ho pins s2 σ H2 x y v u _ I2 r1 r2 q2) fun c s3 ⟨z, H3, I3, r3, k, e, q3⟩ => ?_) hm
 subst e
 cases r3
 exact ajs ⟨H3, I3, q3⟩
noncomputable def O9 (r r' : R2) (ta tb tc : TE) : TE := fun σ H Q => ta σ H fun x H1 => tb σ H1 fun y H2 => r x y H2 fun z H3 => ∃ k, z = .bl k ∧
 (if k = true then tc σ H3 fun w' H4 => r' y w' H4 Q else Q (.bl false) H3)
theorem Pa {op op' : CmpOp} {r r' : R2} (ho : qC X (compareOp op) r) (HD : qC X (compareOp op') r') (ha : PE X a ta) (hb : PE X b tb) (hc : PE X c tc)
   (hm : lastMarks [op, op'] [b, c] = false := by with_unfolding_all rfl) : PE X (.Compare a [op, op'] [b, c] pos) (O9 r r' ta tb tc) := by
 intro pins s σ H Q I h
 refine Compare_chain (cN (ha pins s σ H _ I h) fun v s1 ⟨x, H1, I1, r1, q1⟩ => chain_link (cN (hb pins s1 σ H1 _ I1 q1) fun u s2 ⟨y, H2, I2, r2, q2⟩ =>
   cN (ho pins s2 σ H2 x y v u _ I2 r1 r2 q2) fun d s3 ⟨z, H3, I3, r3, k, e, q3⟩ => ?_)) hm
 subst e
 cases r3
 refine ajs ?_
 cases k with
 | false => exact ite_ff ⟨.bl false, H3, I3, rfl, q3⟩
 | true => exact ite_tt (chain_last (cN (hc pins s3 σ H3 _ I3 q3) fun w' s4 ⟨z', H4, I4, r4, q4⟩ => HD pins s4 σ H4 y z' u w' Q I4 r2 r4 q4))
theorem Pb {op op' : CmpOp} {r r' : R2} (ho : qC X (compareOp op) r) (HD : qC X (compareOp op') r') (ha : PE X a ta) (hb : PE X b tb) (hc : PE X c tc)
   (hm : lastMarks [op, op'] [b, c] = false := by with_unfolding_all rfl) : PT X (.Compare a [op, op'] [b, c] pos) (WT (O9 r r' ta tb tc)) := by
 intro pins s σ H Q I h
 refine isTrue_chain (cN (ha pins s σ H _ I h) fun v s1 ⟨x, H1, I1, r1, q1⟩ => test_link (cN (hb pins s1 σ H1 _ I1 q1) fun u s2 ⟨y, H2, I2, r2, q2⟩ =>
   cN (ho pins s2 σ H2 x y v u _ I2 r1 r2 q2) fun d s3 ⟨z, H3, I3, r3, k, e, q3⟩ => ?_)) hm
 subst e
 cases r3
 refine ajs ?_
 cases k with
 | false =>
   obtain ⟨k', e', q'⟩ := q3
   cases e'
   exact ite_ff ⟨H3, I3, q'⟩
 | true =>
   refine ite_tt (test_last (cN (hc pins s3 σ H3 _ I3 q3) fun w' s4 ⟨z', H4, I4, r4, q4⟩ => cN (HD pins s4 σ H4 y z' u w' _ I4 r2 r4 q4) fun d' s5 zz => ?_))
   obtain ⟨z2, H5, I5, r5, k2, e2, q5⟩ := zz
   subst e2
   cases r5
   exact ajs ⟨H5, I5, q5⟩
noncomputable def abH (K : PySem.W.Frag) (x : V) (H : Hp) (k : Bool) : Prop :=
 match x with
 | .non => k = false
 | .bl b => k = b
 | .int i => k = (i != 0)
 | .str y => y.length <= sizeLine /\ k = ((y.length : Int) != 0)
 | .HQ y => y.size <= sizeLine /\ k = ((y.size : Int) != 0)
 | .ref p => (∃ xs, qk K H p xs /\ k = !xs.isEmpty) \/ (∃ xs, qE K H p xs /\ k = !xs.isEmpty) \/ ∃ kvs, H p = some (.dK kvs) /\ k = !kvs.isEmpty
 | _ => False
theorem HW {κ : Type} {kvs : List (κ × V)} {vs : List (κ × Value)} (r : KV kvs vs) : (!vs.isEmpty) = !kvs.isEmpty := by
 cases r <;> rfl
theorem zW {xs : List V} {its : List Value} (r : Vals xs its) : (!its.toArray.isEmpty) = !xs.isEmpty := by
 cases r <;> simp
theorem tR : (sizeLine : Nat) < 2 ^ 63 := by rw [ajg]; decide
theorem X5 : aeh X (fun x H Q => ∃ k, abH X.K x H k /\ Q k H) := by
 intro pins s σ H x v Q I rx h
 obtain ⟨k, e, q⟩ := h
 have hl := tR
 have hs : sizeLine = 16777216 := ajg
 cases x with
 | non =>
   cases rx
   have e' : k = false := e
   subst e'
   exact truthy_none ⟨H, I, q⟩
 | bl b =>
   cases rx
   have e' : k = b := e
   subst e'
   exact ajs ⟨H, I, q⟩
 | int i =>
   obtain ⟨t, rfl⟩ := rx
   have e' : k = (i != 0) := e
   subst e'
   exact PySem.P.truthy_int ⟨H, I, q⟩
 | str y =>
   obtain ⟨t, rfl⟩ := rx
   obtain ⟨hy, e'⟩ : y.length <= sizeLine /\ k = ((y.length : Int) != 0) := e
   subst e'
   exact PySem.P.truthy_str (by omega) ⟨H, I.tok _, q⟩
 | HQ y =>
   obtain ⟨t, rfl⟩ := rx
   obtain ⟨hy, e'⟩ : y.size <= sizeLine /\ k = ((y.size : Int) != 0) := e
   subst e'
   exact PySem.W.truthy_bytes (by omega) ⟨H, I.tok _, q⟩
 | ref p =>
   cases rx
   have e' : (∃ xs, qk X.K H p xs /\ k = !xs.isEmpty) \/ (∃ xs, qE X.K H p xs /\ k = !xs.isEmpty) \/ ∃ kvs, H p = some (.dK kvs) /\ k = !kvs.isEmpty := e
   rcases e' with ⟨xs, hx, e'⟩ | ⟨xs, hx, e'⟩ | ⟨kvs, hx, e'⟩
   . subst e'
     obtain ⟨its, r, pl, hz⟩ := I.list hx
     have hlen := r.length
     exact wpAny_truthy_list pl.isList (by simp only [aiJ]; omega) ⟨H, I.tok _, by rw [zW r]; exact q⟩
   . subst e'
     obtain ⟨its, r, pl, hz⟩ := I.tuple hx
     have hlen := r.length
     exact truthy_tuple pl (by simp only [aiJ]; omega) ⟨H, I.tok _, by rw [zW r]; exact q⟩
   . subst e'
     obtain ⟨hz, hS, vs, r, m⟩ : kvs.length <= sizeLine /\ (p == sysModules) = false /\ ∃ vs, KV kvs vs /\ s.heap.DictOf (fE X.prog X.w) p vs := I.dw p _ hx
     have hlen : kvs.length = vs.length := aj7 r
     exact wpAny_truthy_dict hS m (by omega) ⟨H, I.tok _, by rw [HW r]; exact q⟩
 | _ => exact (show False from e).elim
theorem Pg (ha : PE X a ta) (he : ∀ whole, isTrue a X.env whole = (do let v ← whole; standAt a.pos; holding [v] (truthy v))) :
   PT X a (fun σ H Q => ta σ H fun x H' => ∃ k, abH X.K x H' k /\ Q k H') := by
 intro pins s σ H Q I h
 exact isTrue_plain (cN (ha pins s σ H _ I h) fun v s1 ⟨x, H1, I1, r1, q1⟩ => X5 pins s1 σ H1 x v Q I1 r1 q1) (he _)
theorem zX : qC X (binaryOp .Add) (fun x y H Q => ∃ i j, x = .str i /\ y = .str j /\ i.length + j.length <= sizeLine /\ Q (.str (i ++ j)) H) := by
 intro pins s σ H x y v u Q I rx ry h
 obtain ⟨i, j, rfl, rfl, hz, q⟩ := h
 obtain ⟨t, rfl⟩ := rx
 obtain ⟨t', rfl⟩ := ry
 exact add_str (fun t' tk => ⟨.str (i ++ j), H, I.tok _, ⟨_, rfl⟩, q⟩) hz
theorem vals1 {x : V} {us : List Value} (r : Vals [x] us) : ∃ u, us = [u] /\ RelV x u := by
 cases r with
 | cons r1 r2 => cases r2; exact ⟨_, rfl, r1⟩
theorem uS : tu X (.type "str") (fun xs H Q => ∃ i, xs = [.int i] /\ i.natAbs.log2 < 1920 /\ Q (.str (toString i)) H) := by
 intro pins s σ H xs us Q I r h
 obtain ⟨i, rfl, hz, q⟩ := h
 obtain ⟨u, rfl, t, rfl⟩ := vals1 r
 exact PySem.P.str_of_int hz ⟨.str _, H, I.tok _, ⟨_, rfl⟩, q⟩
end
structure Mr (h : Heap) (x dx C : Addr) (mA : Str -> Option Value) : Prop where
 obj : h.get? x = some (PySem.W.instObj C dx)
 ns : h.Ns1 dx mA
 ne : dx ≠ x
theorem Ms {h : Heap} {dx : Addr} {mA : Str -> Option Value} (n : h.Ns1 dx mA) : ∃ od, h.get? dx = some od /\ ∀ name, PySem.W.lookIn name od = some (mA name) := by
 obtain ⟨o, es, ep, ho, hd, hk, _, hm⟩ := n
 refine ⟨o, ho, fun name => ?_⟩
 have e := hm name
 unfold nsFind findBy at e
 rw [← Array.find?_toList] at e
 unfold PySem.W.lookIn
 rw [hd]
 dsimp only
 split
 . rename_i y q
   rw [q] at e
   exact congrArg some e
 . rename_i q
   rw [q] at e
   have a : es.toList.any (·.refKey) = false := by
     rw [List.any_eq_false]
     intro y hy
     obtain ⟨z, t, T4⟩ := hk y (Array.mem_toList_iff.mp hy)
     simp [DictEntry.refKey, T4]
   have a' : ¬ es.toList.any (·.refKey) = true := by rw [a]; exact aiy
   rw [aiu a']
   exact congrArg some e
theorem Mr.look {h : Heap} {x dx C : Addr} {mA : Str -> Option Value} (I : Mr h x dx C mA) : ∃ od, PySem.W.InstAt h x (PySem.W.instObj C dx) C (some od) /\ ∀ name, PySem.W.lookIn name od = some (mA name) :=
 let ⟨od, ho, hl⟩ := Ms I.ns
 ⟨od, ⟨I.obj, rfl, rfl, ho⟩, hl⟩
section
variable {prog : Program} {w : World} {A : Around} {E : Value -> Shared -> Prop} {s : Shared} {K : PySem.W.Frag} {x dx C f : Addr} {mA : Str -> Option Value} {name : Str} {v : Value}
theorem get_map {expr : Bool} {Q : Value -> Shared -> Prop} (X : K.In s.heap) (I : Mr s.heap x dx C mA) (hg : PySem.W.plainGet K C name = true) (hh : PySem.W.hasDictIn K C = true)
   (ha : PySem.W.findIn K (.ref C) name = some none) (hv : mA name = some v) (hv' : PySem.W.handedIn v = true) (h : Q v { s with toks := s.toks + 1 }) :
   wpAny (model prog w) A (getAttr (.ref x) name expr) Q E s := by
 obtain ⟨od, J, hl⟩ := I.look
 exact PySem.W.get_value X J (PySem.W.plainGet_of hg).1 (PySem.W.findObj_own hh ha rfl (by rw [hl, hv])) hv' h
theorem T5 {ns : List Str} {Q : Unit -> Shared -> Prop} (X : K.In s.heap) (I : Mr s.heap x dx C mA)
   (hs : PySem.W.findIn K (.ref C) "__setattr__" = some (some (.builtin "object.__setattr__"))) (hp : PySem.W.plainOver K C = true) (ht : PySem.W.takerIn K C name = some none) (hh : PySem.W.hasDictIn K C = true)
   (hw : PySem.Within mA ns) (hsz : ns.length <= sizeLine)
   (h : ∀ h', Mr h' x dx C (fun y => if y = name then some v else mA y) -> Heap.SameBut dx s.heap h' -> Q () { s with heap := h', toks := s.toks + 2 }) :
   wpAny (model prog w) A (setAttr (.ref x) name v) Q E s := by
 obtain ⟨od, J, hl⟩ := I.look
 refine PySem.W.set_plain X J hs (PySem.W.osa_open (s := { s with toks := s.toks + 1 }) (r := none) X J hp ht fun b => ?_)
 obtain ⟨cd, hc, OY⟩ := PySem.W.any_some hh
 have hx : s.heap.get? x = some ⟨.ref C, some dx, .plain, #[]⟩ := I.obj
 refine aim (aiz (aim (aim (wpAny_loadPart hx (aim (PySem.W.Looks.here (s := { s with toks := s.toks + 1 }) (PySem.W.looks_clsIn X hc) ?_))))))
 rw [OY]
 refine aiz (a := some dx) (aim (aiz (aim ?_)))
 refine wpAny_nsSet1 (s := { s with toks := s.toks + 1 }) I.ns fun h' hn2 HV => ?_
 obtain ⟨oD, esD, epD, hoD, hdD, hcD⟩ := hn2.count (PySem.Within.cons name v hw)
 refine aim (wpAny_lookBehind hoD (by rw [hdD]; exact pastItsLine_dict (aje hcD (by rw [ai7]; omega))) ?_)
 exact aiz (h _ ⟨(HV.2 _ (aj2 I.ne)).trans I.obj, hn2, I.ne⟩ HV)
theorem Ph {R : Result -> Shared -> Prop} {vs : List Value} {kw : List (Str × Value)} (X : K.In s.heap) (hm : PySem.W.makesIn K C = true)
   (hi : PySem.W.findIn K (.ref C) "__init__" = some (some (.ref f))) (hf : PySem.W.typeIn K (.ref f) = some (.type "function"))
   (h : codeAny (model prog w) (A.under (.builtin "type.__call__" ⟨.ref C :: vs, kw⟩)) (.call (.ref f) ⟨.ref (s.heap.objs.size + 1) :: vs, kw⟩) (PySem.W.InitBack (s.heap.objs.size + 1) R)
     { s with heap := (s.heap.push PySem.W.emptyDict).push (PySem.W.instObj C s.heap.objs.size) }) :
   codeAny (model prog w) A (.call (.ref C) ⟨vs, kw⟩) R s := by
 obtain ⟨hh, g, d, t, os⟩ := s
 exact PySem.W.make_core (PySem.W.makes_of X hm) (PySem.W.looks_findIn X hi) (fun self => PySem.W.bind_fn X self hf) (.inl rfl) h
end
noncomputable def lX (f : Str) (v : V) : List (Str × V) -> List (Str × V)
 | [] => [(f, v)]
 | (g, x) :: r => if g = f then (g, v) :: r else (g, x) :: lX f v r
theorem yh (f g : Str) (v : V) : ∀ fs : List (Str × V), (lX f v fs).lookup g = if g = f then some v else fs.lookup g
 | [] => by
   show List.lookup g [(f, v)] = _
   by_cases h : g = f
   . have hb : (g == f) = true := akq.mpr h
     simp only [List.lookup, hb, aiC h]
   . have hb : (g == f) = false := ajO.mpr h
     simp only [List.lookup, hb, aiu h]
 | (k, x) :: r => by
   have ih := yh f g v r
   rw [show lX f v ((k, x) :: r) = (if k = f then (k, v) :: r else (k, x) :: lX f v r) from rfl]
   by_cases hk : k = f
   . rw [aiC hk]
     by_cases h : g = k
     . have hb : (g == k) = true := akq.mpr h
       simp only [List.lookup, hb, aiC (h.trans hk)]
     . have hb : (g == k) = false := ajO.mpr h
       simp only [List.lookup, hb, aiu (fun e : g = f => h (e.trans hk.symm))]
   . rw [aiu hk]
     by_cases h : g = k
     . have hb : (g == k) = true := akq.mpr h
       simp only [List.lookup, hb, aiu (fun e : g = f => hk (h.symm.trans e))]
     . have hb : (g == k) = false := ajO.mpr h
       simp only [List.lookup, hb]
       exact ih
theorem wV (f : Str) (v : V) : ∀ fs : List (Str × V), f ∈ (lX f v fs).map (·.1) /\ ∀ g, g ∈ fs.map (·.1) -> g ∈ (lX f v fs).map (·.1)
 | [] => ⟨by simp [lX], fun g h => by simp at h⟩
 | (k, x) :: r => by
   obtain ⟨i1, i2⟩ := wV f v r
   rw [show lX f v ((k, x) :: r) = (if k = f then (k, v) :: r else (k, x) :: lX f v r) from rfl]
   by_cases hk : k = f
   . rw [aiC hk]
     subst hk
     exact ⟨by simp, fun g h => by simpa using h⟩
   . rw [aiu hk]
     refine ⟨?_, fun g h => ?_⟩
     . rw [aiB]
       exact ais _ i1
     . rw [aiB] at h ⊢
       rcases aiw.mp h with e | e
       . exact aiw.mpr (.inl e)
       . exact ais _ (i2 g e)
theorem yi (f : Str) (v : V) : ∀ fs : List (Str × V), (lX f v fs).length <= fs.length + 1
 | [] => by simp [lX]
 | (k, x) :: r => by
   have ih := yi f v r
   rw [show lX f v ((k, x) :: r) = (if k = f then (k, v) :: r else (k, x) :: lX f v r) from rfl]
   by_cases hk : k = f
   . rw [aiC hk, ai7, ai7]; omega
   . rw [aiu hk, ai7, ai7]; omega
theorem sS.some_of {v : V} {o : Option Value} (r : sS (some v) o) : ∃ u, o = some u /\ RelV v u := by
 cases o with
 | none => exact (show False from r).elim
 | some u => exact ⟨u, rfl, r⟩
theorem Mt {v : V} {u : Value} (r : RelV v u) : PySem.W.handedIn u = true := by
 cases v with
 | non => cases (show u = Value.none from r); rfl
 | bl b => cases (show u = Value.bool b from r); rfl
 | int i => obtain ⟨t, e⟩ := (show ∃ t, u = Value.int i t from r); cases e; rfl
 | str x => obtain ⟨t, e⟩ := (show ∃ t, u = Value.str x t from r); cases e; rfl
 | HQ b => obtain ⟨t, e⟩ := (show ∃ t, u = Value.bytes b t from r); cases e; rfl
 | flt b => obtain ⟨t, e⟩ := (show ∃ t, u = Value.float b t from r); cases e; rfl
 | ref a => cases (show u = Value.ref a from r); rfl
 | ty n => cases (show u = Value.type n from r); rfl
section
variable {P : Program} {w : World} {H : Hp} {h : Heap} {a C dx : Addr} {fs : List (Str × V)}
theorem KC (dw : uP P w H h) (e : H a = some (.ins C dx fs)) : ∃ mA, Mr h a dx C mA /\ (∀ f, sS (fs.lookup f) (mA f)) /\ PySem.Within mA (fs.map (·.1)) /\ fs.length <= 1000 /\ H dx = some (.own a) := by
 obtain ⟨d, z, ne, ob, mA, n, r, q⟩ := (show dJ P w H h a (.ins C dx fs) from dw a _ e)
 exact ⟨mA, ⟨ob, n, ne⟩, r, q, z, d⟩
end
structure nJ (K : PySem.W.Frag) (C : Addr) : Prop where
 pg : PySem.W.plainGet K C Str.empty = true
 hd : PySem.W.hasDictIn K C = true
 po : PySem.W.plainOver K C = true
 sa : PySem.W.findIn K (.ref C) "__setattr__" = some (some (.builtin "object.__setattr__"))
theorem nJ.get {K : PySem.W.Frag} {C : Addr} (c : nJ K C) (f : Str) : PySem.W.plainGet K C f = true := c.pg
noncomputable def aC (K : PySem.W.Frag) (C : Addr) (f : Str) : Prop := PySem.W.findIn K (.ref C) f = some none
theorem aC.abI {K : PySem.W.Frag} {C : Addr} {f : Str} (n : aC K C f) : PySem.W.takerIn K C f = some none := by
 unfold PySem.W.takerIn
 rw [show PySem.W.findIn K (.ref C) f = some none from n]
 rfl
section
variable {X : Cx} {pins : List (Addr × Obj)} {σ : St} {H : Hp} {s : Shared} {a C dx : Addr} {fs : List (Str × V)} {f : Str} {v : V} {A : Around} {E : Value -> Shared -> Prop}
theorem HX {b : Bool} {Q : Value -> Shared -> Prop} (I : Inv X pins σ H s) (e : H a = some (.ins C dx fs)) (c : nJ X.K C) (n : aC X.K C f) (l : fs.lookup f = some v)
   (h : ∀ u s', Inv X pins σ H s' -> RelV v u -> Q u s') : wpAny (model X.prog X.w) A (getAttr (.ref a) f b) Q E s := by
 obtain ⟨mA, O, r, _, _, _⟩ := KC I.dw e
 obtain ⟨u, hu, ru⟩ := sS.some_of (v := v) (o := mA f) (by rw [← l]; exact r f)
 exact get_map I.Oz O (c.get f) c.hd n hu (Mt ru) (h u _ (I.tok _) ru)
theorem HY {y : V} {u : Value} {Q : Unit -> Shared -> Prop} (I : Inv X pins σ H s) (e : H a = some (.ins C dx fs)) (c : nJ X.K C) (n : aC X.K C f) (hl : fs.length < 1000) (ry : RelV y u)
   (h : ∀ s', Inv X pins σ (upd H a (.ins C dx (lX f y fs))) s' -> Q () s') : wpAny (model X.prog X.w) A (setAttr (.ref a) f u) Q E s := by
 obtain ⟨mA, O, r, wi, _, ho⟩ := KC I.dw e
 have hz : (fs.map (·.1)).length <= sizeLine := by rw [aio, ajg]; omega
 refine T5 I.Oz O c.sa c.po n.abI c.hd wi hz fun h' O' sb => h _ ?_
 have hd : ∃ o, h'.get? dx = some o := let ⟨o, _, _, e', _⟩ := O'.ns; ⟨o, e'⟩
 refine I.write (x := a) (e := dx) (by rw [e]; exact True.intro) (.inr ho) (fun b q hb z => (sb.2 b hb).trans z) hd ?_
 refine ⟨by rw [aj O.ne]; exact ho, ?_, O.ne, O'.obj, _, O'.ns, fun g => ?_, fun g hg => ?_⟩
 . have := yi f y fs; omega
 . show sS ((lX f y fs).lookup g) (if g = f then some u else mA g)
   rw [yh]
   by_cases q : g = f
   . rw [aiC q, aiC q]; exact ry
   . rw [aiu q, aiu q]; exact r g
 . by_cases q : g = f
   . rw [q]; exact (wV f y fs).1
   . refine (wV f y fs).2 g (wi g fun z => hg ?_)
     show (if g = f then some u else mA g) = none
     rw [aiu q]; exact z
theorem Inv.made (I : Inv X pins σ H s) : Inv X pins σ (upd (upd H s.heap.objs.size (.own (s.heap.objs.size + 1))) (s.heap.objs.size + 1) (.ins C s.heap.objs.size []))
   { s with heap := (s.heap.push PySem.W.emptyDict).push (PySem.W.instObj C s.heap.objs.size) } := by
 have e1 : (s.heap.push PySem.W.emptyDict).get? s.heap.objs.size = some PySem.W.emptyDict := aiR s.heap rfl
 have e2 : ((s.heap.push PySem.W.emptyDict).push (PySem.W.instObj C s.heap.objs.size)).get? (s.heap.objs.size + 1) = some (PySem.W.instObj C s.heap.objs.size) := by
   have := aiR (s.heap.push PySem.W.emptyDict) (o := PySem.W.instObj C s.heap.objs.size) rfl
   rwa [akr] at this
 have e3 : (s.heap.push PySem.W.emptyDict).Ns s.heap.objs.size (fun _ => none) := ⟨PySem.W.emptyDict, #[], _, e1, rfl, (fun e he => absurd he (by simp)), fun _ => rfl⟩
 have I1 := I.laid (a := s.heap.objs.size) (o := .own (s.heap.objs.size + 1)) (h' := s.heap.push PySem.W.emptyDict) (t' := s.toks) (fun b u q => aiv _ q) (ait _) ⟨_, e1⟩
 refine I1.laid (a := s.heap.objs.size + 1) (o := .ins C s.heap.objs.size []) (t' := s.toks) (fun b u q => aiv _ q) (Nat.le_of_eq (akr _ _)) ?_
 have ne : s.heap.objs.size ≠ s.heap.objs.size + 1 := aiX (Nat.lt_succ_self _)
 refine ⟨by rw [aj ne, aE], ai5 _, ne, e2, fun _ => none, (Heap.Ns1.of_empty e3).at fun o q => aiv _ q, fun _ => True.intro, fun y hy => absurd rfl hy⟩
theorem T6 {prog : Program} {w : World} {env : Env} {e : Expr} {f : Str} {pos : Pos} {s : Shared} {Q : Value -> Shared -> Prop} (hb : attributeBase e f env (eval e env) = eval e env)
   (h : wpAny (model prog w) A (eval e env) (fun o s₁ => wpAny (model prog w) A (getAttr o f true) Q E s₁) E s) : wpAny (model prog w) A (eval (.Attribute e f pos) env) Q E s :=
 Attribute_any_ h (by rw [arm_eval_Attribute, hb])
end
noncomputable def aei (K : PySem.W.Frag) (ta : TE) (f : Str) : TE := fun σ H Q => ta σ H fun x H1 => ∃ a C dx fs v, x = .ref a /\ H1 a = some (.ins C dx fs) /\ nJ K C /\ aC K C f /\ fs.lookup f = some v /\ Q v H1
noncomputable def aej (K : PySem.W.Frag) (ta tv : TE) (f : Str) : TS := fun D σ H => tv σ H fun y H1 => ta σ H1 fun x H2 => ∃ a C dx fs, x = .ref a /\ H2 a = some (.ins C dx fs) /\ nJ K C /\ aC K C f /\ fs.length < 1000 ∧
 D.nx σ (upd H2 a (.ins C dx (lX f y fs)))
section
variable {X : Cx} {o e value : Expr} {f : Str} {pos pos' : Pos} {ta tv : TE}
theorem HZ (he : PE X e ta) (hb : attributeBase e f X.env (eval e X.env) = eval e X.env) : PE X (.Attribute e f pos) (aei X.K ta f) := by
 intro pins s σ H Q I h
 refine T6 hb (cN (he pins s σ H _ I h) fun u s1 zz => ?_)
 obtain ⟨x, H1, I1, rx, a, C, dx, fs, v, ex, ea, c, n, l, q⟩ := zz
 subst ex
 obtain rfl : u = Value.ref a := rx
 exact HX I1 ea c n l fun u' s2 I2 ru => ⟨v, H1, I2, ru, q⟩
theorem X6 (ha : PE X o ta) (hv : PE X value tv) (hs : swapsWith value (some (.Attribute o f pos')) pos.line X.env = pure false) : PS X (.Assign [.Attribute o f pos'] value pos) (aej X.K ta tv f) := by
 intro pins s σ H D I h
 refine plainObj_wpAny_Assign_Attribute (cN (hv pins s σ H _ I h) fun u s1 ⟨y, H1, I1, ry, q⟩ => cN (ha pins s1 σ H1 _ I1 q) fun ov s2 zz => ?_) hs
 obtain ⟨x, H2, I2, rx, a, C, dx, fs, ex, ea, c, n, l, q2⟩ := zz
 subst ex
 obtain rfl : ov = Value.ref a := rx
 exact HY I2 ea c n l ry fun s3 I3 => ⟨σ, _, I3, q2⟩
end
structure gA (k : Nat) (A : Around) : Prop where
 hd : A.handled = none
 dp : A.depth + 3 * k + 5 < recursionLimit
 un : A.units + 16 * k + 200 < cLine
theorem gA.mono {j k : Nat} {A : Around} (r : gA k A) (h : j <= k) : gA j A := ⟨r.hd, by have := r.dp; omega, by have := r.un; omega⟩
theorem gA.deeper {k : Nat} {A : Around} (r : gA (k + 1) A) (env : Env) : gA k (A.deeper env) :=
 ⟨r.hd, by have := r.dp; show A.depth + 1 + 3 * k + 5 < _; omega, by have := r.un; show A.units + 3 + 16 * k + 200 < _; omega⟩
theorem gA.in1 {k : Nat} {A : Around} (r : gA (k + 1) A) : gA k A.in1 :=
 ⟨r.hd, by have := r.dp; show A.depth + 3 * k + 5 < _; omega, by have := r.un; show A.units + 1 + 16 * k + 200 < _; omega⟩
theorem Ic {A : Around} {C : Addr} {us : List Value} {kw : List (Str × Value)} : (A.under (.builtin "type.__call__" ⟨.ref C :: us, kw⟩)).depth = A.depth + 1 := by
 first | rfl | simp [Around.under, Code.weight, Code.isCreation, Code.isGuard, Code.isCaller, Code.frames, Code.isFrame, guardIds]
theorem Ie {A : Around} {C : Addr} {us : List Value} {kw : List (Str × Value)} : (A.under (.builtin "type.__call__" ⟨.ref C :: us, kw⟩)).units = A.units + 1 := by
 first | rfl | simp [Around.under, Code.cUnits, Code.frames, Code.isFrame]
theorem gA.make {k : Nat} {A : Around} (r : gA (k + 1) A) (C : Addr) (us : List Value) (kw : List (Str × Value)) : gA k (A.under (.builtin "type.__call__" ⟨.ref C :: us, kw⟩)) :=
 ⟨r.hd, by have := r.dp; rw [Ic]; omega, by have := r.un; rw [Ie]; omega⟩
theorem gA.depth {k : Nat} {A : Around} (r : gA k A) : A.depth < recursionLimit := by have := r.dp; omega
theorem gA.units {k : Nat} {A : Around} (r : gA k A) : A.units + 64 < cLine := by have := r.un; omega
noncomputable def abJ : TA := fun _ H Q => Q [] H
noncomputable def abK (ta : TE) (tr : TA) : TA := fun σ H Q => ta σ H fun x H1 => tr σ H1 fun xs H2 => Q (x :: xs) H2
section
variable {X : Cx} {e : Expr} {es : List Expr} {te : TE} {t : TA} {pos : Pos}
theorem dM : PA X [] abJ := fun _ _ _ _ H Q I h => Calls.spliced_nil ⟨[], H, I, .nil, h⟩
theorem bG (ha : PE X e te) (hr : PA X es t) (hs : starEach (e :: es) X.env = (false, eval e X.env) :: starEach es X.env := by rfl) : PA X (e :: es) (abK te t) := by
 intro pos pins s σ H Q I h
 rw [hs]
 show wpAny _ _ (spliced ((false, eval e X.env) :: backTo pos (starEach es X.env))) _ _ s
 refine Calls.spliced_cons (cN (ha pins s σ H _ I h) fun u s1 zz => ?_)
 obtain ⟨x, H1, I1, r1, q1⟩ := zz
 exact cN (hr pos pins s1 σ H1 _ I1 q1) fun us s2 ⟨xs, H2, I2, r2, q2⟩ => ⟨x :: xs, H2, I2, .cons r1 r2, q2⟩
noncomputable def aek (t : TA) : TE := fun σ H Q => t σ H fun xs H1 => xs.length <= sizeLine /\ ∀ p, H1 p = none -> Q (.ref p) (upd H1 p (.tup xs))
noncomputable def ael (t : TA) : TE := fun σ H Q => t σ H fun xs H1 => xs.length <= sizeLine /\ ∀ p, H1 p = none -> Q (.ref p) (upd H1 p (.lst xs))
theorem Pj {x1} (h : PA X es t) : PE X (.Tuple es x1 pos) (aek t) := by
 intro pins s σ H Q I hq
 refine wpAny_Tuple_spliced (cN (h pos pins s σ H _ I hq) fun us s1 ⟨xs, H1, I1, r, z, q⟩ => ⟨by rw [← r.length]; exact z, ?_⟩)
 have hf : H1 s1.heap.objs.size = none := I1.dw.fresh (ait _)
 refine ⟨.ref s1.heap.objs.size, upd H1 s1.heap.objs.size (.tup xs), I1.laid (t' := s1.toks) (fun b u e => aiv _ e) (ait _) ?_, rfl, q _ hf⟩
 exact ⟨z, us, r, ⟨_, aiR _ rfl, rfl, _, rfl⟩⟩
theorem Pk (h : PA X es t) : PE X (.List es pos) (ael t) := by
 intro pins s σ H Q I hq
 refine wpAny_List_spliced (cN (h pos pins s σ H _ I hq) fun us s1 ⟨xs, H1, I1, r, z, q⟩ => ⟨by rw [← r.length]; exact z, ?_⟩)
 have hf : H1 s1.heap.objs.size = none := I1.dw.fresh (ait _)
 refine ⟨.ref s1.heap.objs.size, upd H1 s1.heap.objs.size (.lst xs), I1.laid (t' := s1.toks) (fun b u e => aiv _ e) (ait _) ?_, rfl, q _ hf⟩
 exact ⟨z, us, 0, r, aiR _ rfl⟩
end
noncomputable abbrev Sp := List V -> Hp -> VK -> XK -> Prop
noncomputable abbrev Pn := List Env -> Hp -> Shared -> XK -> Value -> Shared -> Prop
structure Cg (P : Program) (w : World) (K : PySem.W.Frag) (mg : Str -> Option Value) (base : Heap) (A : Around) (outer : List Env) (s : Shared) (H : Hp) : Prop where
 frames : A.frames = some outer
 mod : Mod K mg base
 bs : ∀ b o, base.get? b = some o -> s.heap.get? b = some o /\ H b = none
 Ox : base.objs.size <= s.heap.objs.size
 wO : s.heap.FunFrames base outer
 WH : ∀ b ∈ Ow outer, H b = none
 dw : uP P w H s.heap
 bare : AllBare s.gens
noncomputable def CE (outer : List Env) (P : Program) (w : World) (H : Hp) (s : Shared) (Q : VK) (u : Value) (s' : Shared) : Prop :=
 ∃ v H', s'.os = s.os /\ AllBare s'.gens /\ Un (Ow outer) [] H H' s.heap s'.heap /\ uP P w H' s'.heap /\ RelV v u /\ Q v H'
noncomputable def CR (CX : Pn) (outer : List Env) (P : Program) (w : World) (H : Hp) (s : Shared) (Q : VK) (E : XK) (r : Result) (s' : Shared) : Prop :=
 match r with
 | .ok (.ret u) => CE outer P w H s Q u s'
 | .ok _ => False
 | .error e => CX outer H s E e s'
structure iE (P : Program) (w : World) (K : PySem.W.Frag) (mg : Str -> Option Value) (base : Heap) (CX : Pn) (k : Nat) (f : Addr) (fd : FuncData) (ps : List Str) (sp : Sp) : Prop where
 len : ∀ vs H Q E, sp vs H Q E -> vs.length = ps.length
 run : ∀ (A : Around) (outer : List Env) (s : Shared) (H : Hp) (args : Args) (us : List Value) (vs : List V) (Q : VK) (E : XK), gA k A -> Cg P w K mg base A outer s H -> BindsTo s fd args (ps.zip us) -> Vals vs us -> sp vs H Q E →
   codeAny (model P w) A (.call (.ref f) args) (CR CX outer P w H s Q E) s
theorem iE.imp {P : Program} {w : World} {K : PySem.W.Frag} {mg : Str -> Option Value} {base : Heap} {CX : Pn} {k : Nat} {f : Addr} {fd : FuncData} {ps : List Str} {sp sp' : Sp} (F : iE P w K mg base CX k f fd ps sp)
   (h : ∀ vs H Q E, sp' vs H Q E -> sp vs H Q E) : iE P w K mg base CX k f fd ps sp' :=
 ⟨fun vs H Q E q => F.len vs H Q E (h _ _ _ _ q), fun A outer s H args us vs Q E hr he hb hv hs => F.run A outer s H args us vs Q E hr he hb hv (h _ _ _ _ hs)⟩
theorem Cg.make {P : Program} {w : World} {K : PySem.W.Frag} {mg : Str -> Option Value} {base : Heap} {A : Around} {outer : List Env} {s : Shared} {H : Hp} (e : Cg P w K mg base A outer s H) (C : Addr) (us : List Value) (kw : List (Str × Value)) :
   Cg P w K mg base (A.under (.builtin "type.__call__" ⟨.ref C :: us, kw⟩)) outer s H := ⟨by first | exact e.frames | (simpa [Around.under, Code.envs, Code.isFrame, pushEnvs] using e.frames), e.mod, e.bs, e.Ox, e.wO, e.WH, e.dw, e.bare⟩
theorem Cg.in1 {P : Program} {w : World} {K : PySem.W.Frag} {mg : Str -> Option Value} {base : Heap} {A : Around} {outer : List Env} {s : Shared} {H : Hp} (e : Cg P w K mg base A outer s H) :
   Cg P w K mg base A.in1 outer s H := ⟨e.frames, e.mod, e.bs, e.Ox, e.wO, e.WH, e.dw, e.bare⟩
section
variable {X : Cx} {pins : List (Addr × Obj)} {σ : St} {H : Hp} {s s' : Shared}
theorem Inv.abL (I : Inv X pins σ H s) : Cg X.prog X.w X.K X.mg X.base X.A X.stack s H :=
 ⟨I.ok.frames, I.ok.mod, I.bs, aje I.ok.Ox I.sz, I.stack, I.De, I.dw, I.bare⟩
theorem Inv.after {Q : VK} {u : Value} (I : Inv X pins σ H s) (h : CE X.stack X.prog X.w H s Q u s') : EP X pins σ Q u s' := by
 obtain ⟨v, H', os, bare, un, dw, r, q⟩ := h
 obtain ⟨hh, g, d, t, os'⟩ := s'
 obtain rfl : os' = s.os := os
 exact ⟨v, H', I.call (h' := hh) (g' := g) (d' := d) (t' := t) (ch := []) un dw bare (fun b z => absurd z (by simp)), r, q⟩
end
noncomputable def WU (sp : Sp) (FZ : List V) (E : XK) (t : TA) : TE := fun σ H Q => t σ H fun vs H1 => sp (vs ++ FZ) H1 Q E
noncomputable def abM (C : Addr) (sp : Sp) (FZ : List V) (E : XK) (t : TA) : TE := fun σ H Q => t σ H fun vs H1 => ∀ x dx, H1 x = none -> H1 dx = none -> dx ≠ x →
 sp (.ref x :: (vs ++ FZ)) (upd (upd H1 dx (.own x)) x (.ins C dx [])) (fun v H2 => v = .non /\ Q (.ref x) H2) E
noncomputable def Binds (K : PySem.W.Frag) (fd : FuncData) (ps : List Str) (ds : List Value) : Prop :=
 ∀ (s : Shared) (us : List Value), K.In s.heap -> (us ++ ds).length = ps.length -> BindsTo s fd ⟨us, []⟩ (ps.zip (us ++ ds))
theorem Binds.all {K : PySem.W.Frag} {fd : FuncData} {ps : List Str} (h : ∀ us : List Value, us.length = ps.length -> bindArgs fd ⟨us, []⟩ = pure (ps.zip us)) : Binds K fd ps [] := fun s us _ hl => by
 rw [aiK] at hl ⊢
 exact .of_eq (h us hl)
noncomputable def Passes (CX : Pn) (X : Cx) (E : XK) : Prop := ∀ (pins : List (Addr × Obj)) (σ : St) (H : Hp) (s : Shared) (e : Value) (s' : Shared), Inv X pins σ H s -> CX X.stack H s E e s' -> X.xe e s'
section
variable {X : Cx} {CX : Pn} {k : Nat} {f C : Addr} {fd : FuncData} {ps : List Str} {sp : Sp} {FZ : List V} {ds : List Value} {E : XK} {x : Str} {p pos : Pos} {e : Expr} {es : List Expr} {t : TA}
theorem Pp {pins : List (Addr × Obj)} {σ : St} {H : Hp} {s : Shared} {Q : VK} {us : List Value} {vs : List V} (F : iE X.prog X.w X.K X.mg X.base CX k f fd ps sp) (hr : gA k X.A) (hb : Binds X.K fd ps ds) (hd : Vals FZ ds) (hx : Passes CX X E)
   (I : Inv X pins σ H s) (r : Vals vs us) (h : sp (vs ++ FZ) H Q E) : wpAny (model X.prog X.w) X.A (call (.ref f) us) (EP X pins σ Q) X.xe s := by
 have r2 : Vals (vs ++ FZ) (us ++ ds) := r.append hd
 have hl : (us ++ ds).length = ps.length := by rw [← r2.length]; exact F.len _ _ _ _ h
 refine wpAny_call (akm (F.run X.A X.stack s H ⟨us, []⟩ (us ++ ds) (vs ++ FZ) Q E hr I.abL (hb s us I.Oz hl) r2 h) fun r s' hq => ?_)
 cases r with
 | error e => exact hx pins σ H s e s' I hq
 | ok fl =>
   cases fl with
   | ret u => exact I.after hq
   | next => exact False.elim hq
   | brk => exact False.elim hq
   | cont => exact False.elim hq
theorem Di (F : iE X.prog X.w X.K X.mg X.base CX k f fd ps sp) (hr : gA k X.A) (hg : Gl X x) (hm : X.mg x = some (.ref f)) (hk : PySem.W.keepIn X.K (.ref f) = true) (hb : Binds X.K fd ps ds) (hd : Vals FZ ds) (hx : Passes CX X E)
   (ha : PA X (e :: es) t) (uT : (x == ("__debug__" : Str)) = false := by decide) (he : starEach (e :: es) X.env = (false, eval e X.env) :: starEach es X.env := by rfl) (qH : (backTo pos (starEach es X.env)).any (·.1) = false := by rfl) :
   PE X (.Call (.Name x p) (e :: es) [] pos) (WU sp FZ E t) := by
 intro pins s σ H Q I h
 refine aj9 (zE I hg hm ?_ uT)
 refine PySem.W.callWith_K (h₀ := X.base) I.ok.mod.kin hk (cN (ha pos pins s σ H _ I h) fun us s1 ⟨vs, H1, I1, r, q⟩ => ⟨I1.Oz, ?_⟩) he qH
 exact Pp F hr hb hd hx I1 r q
theorem Pq (F : iE X.prog X.w X.K X.mg X.base CX k f fd ps sp) (hr : gA k X.A) (hg : Gl X x) (hm : X.mg x = some (.ref f)) (hk : PySem.W.keepIn X.K (.ref f) = true) (hb : Binds X.K fd ps ds) (hd : Vals FZ ds) (hx : Passes CX X E)
   (uT : (x == ("__debug__" : Str)) = false := by decide) : PE X (.Call (.Name x p) [] [] pos) (WU sp FZ E abJ) := by
 intro pins s σ H Q I h
 refine aj9 (zE I hg hm ?_ uT)
 exact PySem.W.callWith_K0 I.Oz hk (Pp (us := []) F hr hb hd hx I .nil h)
structure Mk (K : PySem.W.Frag) (C f : Addr) : Prop where
 makes : PySem.W.makesIn K C = true
 init : PySem.W.findIn K (.ref C) "__init__" = some (some (.ref f))
 fn : PySem.W.isFn K (.ref f) = true
 kp : PySem.W.keepIn K (.ref C) = true
theorem Pr {pins : List (Addr × Obj)} {σ : St} {H : Hp} {s : Shared} {Q : VK} {us : List Value} {vs : List V} (M : Mk X.K C f) (F : iE X.prog X.w X.K X.mg X.base CX k f fd ps sp) (hr : gA (k + 1) X.A) (hb : Binds X.K fd ps ds) (hd : Vals FZ ds)
   (hx : Passes CX X E) (I : Inv X pins σ H s) (r : Vals vs us)
   (h : ∀ x dx, H x = none -> H dx = none -> dx ≠ x -> sp (.ref x :: (vs ++ FZ)) (upd (upd H dx (.own x)) x (.ins C dx [])) (fun v H2 => v = .non /\ Q (.ref x) H2) E) :
   wpAny (model X.prog X.w) X.A (call (.ref C) us) (EP X pins σ Q) X.xe s := by
 have hq := h (s.heap.objs.size + 1) s.heap.objs.size (I.dw.fresh (Nat.le_succ _)) (I.dw.fresh (ait _)) (aiX (Nat.lt_succ_self _))
 have I2 := Inv.made (C := C) I
 have r2 : Vals (V.ref (s.heap.objs.size + 1) :: (vs ++ FZ)) (Value.ref (s.heap.objs.size + 1) :: (us ++ ds)) := .cons rfl (r.append hd)
 have hl : (Value.ref (s.heap.objs.size + 1) :: us ++ ds).length = ps.length := by
   have e := r2.length
   rw [F.len _ _ _ _ hq] at e
   exact e.symm
 refine wpAny_call (Ph (f := f) I.Oz M.makes M.init (akq.mp M.fn) (akm (F.run _ X.stack _ _ ⟨Value.ref (s.heap.objs.size + 1) :: us, []⟩ (Value.ref (s.heap.objs.size + 1) :: (us ++ ds)) _ _ E (hr.make C us [])
   (I2.abL.make C us []) (hb _ (Value.ref (s.heap.objs.size + 1) :: us) I2.Oz hl) r2 hq) fun r s' hq' => ?_))
 cases r with
 | error e => exact hx pins σ _ _ e s' I2 hq'
 | ok fl =>
   cases fl with
   | ret u =>
     obtain ⟨v, H', I3, rv, ev, q3⟩ := I2.after hq'
     subst ev
     exact ⟨rv, ⟨V.ref (s.heap.objs.size + 1), H', I3, rfl, q3⟩⟩
   | next => exact False.elim hq'
   | brk => exact False.elim hq'
   | cont => exact False.elim hq'
theorem KD (M : Mk X.K C f) (F : iE X.prog X.w X.K X.mg X.base CX k f fd ps sp) (hr : gA (k + 1) X.A) (hg : Gl X x) (hm : X.mg x = some (.ref C)) (hb : Binds X.K fd ps ds) (hd : Vals FZ ds) (hx : Passes CX X E)
   (ha : PA X (e :: es) t) (uT : (x == ("__debug__" : Str)) = false := by decide) (he : starEach (e :: es) X.env = (false, eval e X.env) :: starEach es X.env := by rfl) (qH : (backTo pos (starEach es X.env)).any (·.1) = false := by rfl) :
   PE X (.Call (.Name x p) (e :: es) [] pos) (abM C sp FZ E t) := by
 intro pins s σ H Q I h
 refine aj9 (zE I hg hm ?_ uT)
 refine PySem.W.callWith_K (h₀ := X.base) I.ok.mod.kin M.kp (cN (ha pos pins s σ H _ I h) fun us s1 ⟨vs, H1, I1, r, q⟩ => ⟨I1.Oz, ?_⟩) he qH
 exact Pr M F hr hb hd hx I1 r q
end
structure aM (N P : List Str) (sc : Scope) : Prop where
 kind : sc.kind = .function
 co : sc.isCoroutine = false
 gen : sc.isGenerator = false
 nd : N.Nodup
 pre : N.take P.length = P
 par : ∀ x ∈ P, sc.names.lookup x = some .local \/ sc.names.lookup x = some .cell
 X7 : ∀ y ∈ sc.names, y.2 ≠ .free
theorem CB {kindOf : Str -> Option NameKind} {x : Str} : ∀ {binds : List (Str × Value)} {m : Str -> Option Value}, (∀ v, (x, v) ∉ binds) -> bindL kindOf binds m x = m x
 | [], _, _ => rfl
 | (n, v) :: r, m, h => by
   unfold bindL
   rw [CB fun w hw => h w (ais _ hw)]
   split
   . have : x ≠ n := by rintro rfl; exact h v aiq
     simp [this]
   . rfl
theorem CD {kindOf : Str -> Option NameKind} {x : Str} : ∀ {binds : List (Str × Value)} {m : Str -> Option Value}, (∀ v, (x, v) ∉ binds) -> bindC kindOf binds m x = m x
 | [], _, _ => rfl
 | (n, v) :: r, m, h => by
   unfold bindC
   rw [CD fun w hw => h w (ais _ hw)]
   split
   . rfl
   . have : x ≠ n := by rintro rfl; exact h v aiq
     simp [this]
theorem CF {kindOf : Str -> Option NameKind} {x : Str} {v : Value} : ∀ {P : List Str} {vs : List Value} {i : Nat} {m : Str -> Option Value}, P.Nodup -> P[i]? = some x -> vs[i]? = some v -> kindOf x = some .local →
   bindL kindOf (P.zip vs) m x = some v
 | [], _, _, _, _, h, _, _ => by simp at h
 | _ :: _, [], _, _, _, _, h, _ => by simp at h
 | p :: P, w :: vs, 0, m, nd, h1, h2, hk => by
   simp at h1 h2; subst h1; subst h2
   show bindL kindOf ((p, w) :: P.zip vs) m p = _
   unfold bindL
   rw [CB fun v hv => (ai3.mp nd).1 (List.of_mem_zip hv).1, aiC hk]
   simp
 | p :: P, w :: vs, i + 1, m, nd, h1, h2, hk => by
   show bindL kindOf ((p, w) :: P.zip vs) m x = _
   unfold bindL
   exact CF (i := i) (List.nodup_cons.mp nd).2 (by simpa using h1) (by simpa using h2) hk
theorem CG {kindOf : Str -> Option NameKind} {x : Str} {v : Value} : ∀ {P : List Str} {vs : List Value} {i : Nat} {m : Str -> Option Value}, P.Nodup -> P[i]? = some x -> vs[i]? = some v -> kindOf x ≠ some .local →
   bindC kindOf (P.zip vs) m x = some v
 | [], _, _, _, _, h, _, _ => by simp at h
 | _ :: _, [], _, _, _, _, h, _ => by simp at h
 | p :: P, w :: vs, 0, m, nd, h1, h2, hk => by
   simp at h1 h2; subst h1; subst h2
   show bindC kindOf ((p, w) :: P.zip vs) m p = _
   unfold bindC
   rw [CD fun v hv => (ai3.mp nd).1 (List.of_mem_zip hv).1, aiu hk]
   simp
 | p :: P, w :: vs, i + 1, m, nd, h1, h2, hk => by
   show bindC kindOf ((p, w) :: P.zip vs) m x = _
   unfold bindC
   exact CG (i := i) (List.nodup_cons.mp nd).2 (by simpa using h1) (by simpa using h2) hk
noncomputable def start (N : List Str) (vs : List V) : St := vs.map some ++ List.replicate (N.length - vs.length) none
noncomputable def zY (CX : Pn) (P : Program) (w : World) (K : PySem.W.Frag) (mg : Str -> Option Value) (base : Heap) (N : List Str) (qual : Str) (scope : Scope) (f : Addr) (cd : Value) (A : Around) (outer : List Env) (s : Shared) (H : Hp) (E : XK) : Cx where
 prog := P
 w := w
 K := K
 mg := mg
 base := base
 A := A.deeper (envOfC qual scope s.heap.objs.size f cd)
 N := N
 s₀ := s
 H₀ := H
 env := envOfC qual scope s.heap.objs.size f cd
 outer := outer
 stack := envOfC qual scope s.heap.objs.size f cd :: outer
 ex := []
 calm := true
 fn := fun _ => true
 pn := []
 xe := fun e s' => wpAny (model P w) (A.deeper (envOfC qual scope s.heap.objs.size f cd)) (leaving (envOfC qual scope s.heap.objs.size f cd) e) (fun _ s'' => CX outer H s E e s'') (fun e' s'' => CX outer H s E e' s'') s'
theorem F0 {sc : Scope} {n : Nat} {x : Str} (h : sc.names.lookup x = some .cell) : ∃ c, (cellsFrom n sc.names []).lookup x = some c := by
 have q := PySem.W.cellsFrom_some sc.names n [] (.inl h)
 exact Option.isSome_iff_exists.mp q
theorem Mu {CX : Pn} {P : Program} {w : World} {K : PySem.W.Frag} {mg : Str -> Option Value} {base : Heap} {N ps : List Str} {qual : Str} {scope : Scope} {f : Addr} {cd : Value} {A : Around} {outer : List Env} {s s1 : Shared} {H : Hp} {E : XK} {us : List Value} {vs : List V}
   (S : aM N ps scope) (hd : A.handled = none) (e0 : Cg P w K mg base A outer s H) (hl : vs.length = ps.length) (r : Vals vs us)
   (x : InCallC s s.heap.objs.size (bindL (envOfC qual scope s.heap.objs.size f cd).kindOf (ps.zip us) fun _ => none) (cellsFrom (s.heap.objs.size + 1) scope.names []) (bindC (envOfC qual scope s.heap.objs.size f cd).kindOf (ps.zip us) fun _ => none) s1) :
   Inv (zY CX P w K mg base N qual scope f cd A outer s H E) [] (start N vs) H s1 := by
 have qH : ps.length <= N.length := by have := congrArg List.length S.pre; rw [ajr] at this; omega
 obtain ⟨h1, tk, rfl, hk⟩ := x.done
 have noA : ∀ b : Addr, b ∉ (zY CX P w K mg base N qual scope f cd A outer s H E).ex := fun b z => absurd (show b ∈ ([] : List Addr) from z) (by simp)
 refine ⟨⟨e0.mod, S.kind, rfl, rfl, ait _, fun y z c h1 h2 => ?_, fun y hy => ?_, fun y c _ h => ?_, fun _ => hd, Around.frames_deeper e0.frames, .inr ⟨rfl, rfl⟩, fun b z => absurd z (noA b), e0.bs, e0.Ox, fun b _ _ => noA b, fun b z => absurd z (noA b), e0.wO, e0.WH⟩,
   rfl, e0.bare, Un.kept hk, ⟨_, x.toInCall.ns, fun i y v h1 h2 h3 => ?_⟩, fun y c h => ⟨_, x.cell y c h⟩, e0.dw.fresh (ait _), fun y c h => ?_, fun p hp => absurd (show p ∈ ([] : List (Addr × Obj)) from hp) (by simp), e0.dw.kept hk, ?_⟩
 . exact name_of_addr x.apart (ajo h1) (ajo h2)
 . have hy : scope.names.lookup y = some .cell \/ scope.names.lookup y = some .free := hy
   rcases hy with hy | hy
   . exact F0 hy
   . exact absurd rfl (S.X7 _ (ajo hy))
 . exact ajj (x.above y c (ajo h))
 . have hi : i < vs.length := by
     unfold start at h2
     by_cases hi : i < vs.length
     . exact hi
     . rw [List.getElem?_append_right (by simpa using hi)] at h2
       rw [List.getElem?_replicate] at h2
       split at h2 <;> cases h2
   have ha : vs[i]? = some v := by
     unfold start at h2
     rw [List.getElem?_append_left (by simpa using hi), List.getElem?_map] at h2
     cases e : vs[i]? with
     | none => rw [e] at h2; cases h2
     | some a => rw [e] at h2; cases h2; rfl
   obtain ⟨u, hu, rv⟩ := r.get ha
   have hp : ps[i]? = some y := by
     rw [← S.pre, List.getElem?_take_of_lt (by omega)]; exact h1
   have ndP : ps.Nodup := by rw [← S.pre]; exact S.nd.sublist (List.take_sublist _ _)
   refine ⟨u, rv, ?_⟩
   rcases S.par y (aiM hp) with k | k
   . exact .inl ⟨k, CF ndP hp hu k⟩
   . obtain ⟨c, e⟩ := F0 (n := s.heap.objs.size + 1) k
     refine .inr ⟨.inl k, c, e, ?_⟩
     have q := x.cell y c e
     rw [CG ndP hp hu (by show scope.names.lookup y ≠ _; rw [k]; decide)] at q
     exact q
 . exact e0.dw.fresh (ajj (x.above y c (ajo h)))
 . unfold start
   show _ = N.length
   rw [aiU, aio, ajf]
   omega
theorem abP {CX : Pn} {P : Program} {w : World} {K : PySem.W.Frag} {mg : Str -> Option Value} {base : Heap} {k : Nat} {f : Addr} {name qual : Str} {params : Arguments} {body : List Stmt} {scope : Scope} {dV kV doc pm kh ct oc : Value} {an od : Option Addr}
   {T7 : Array (Option Value)} {N ps : List Str} {sp : Sp} (lk : K.lookup f = some ⟨oc, od, .func (PySem.W.fnOf name qual params body scope dV kV doc pm an kh ct), T7⟩) (oR : PySem.W.codeIn K kh qual = true) (S : aM N ps scope)
   (len : ∀ vs H Q E, sp vs H Q E -> vs.length = ps.length)
   (Pu : ∀ (A : Around) (outer : List Env) (s : Shared) (H : Hp) (vs : List V) (Q : VK) (E : XK), gA k (A.deeper (envOfC qual scope s.heap.objs.size f kh)) -> sp vs H Q E →
     ∃ t, Ks (zY CX P w K mg base N qual scope f kh A outer s H E) body t /\ t { nx := fun _ H' => Q .non H', rt := Q } (start N vs) H) :
   iE P w K mg base CX (k + 1) f (PySem.W.fnOf name qual params body scope dV kV doc pm an kh ct) ps sp := by
 refine ⟨len, fun A outer s H args us vs Q E hr e0 hb r WV => ?_⟩
 have hl := len _ _ _ _ WV
 have KX : K.In s.heap := e0.mod.kin.keeps fun b o e => (e0.bs b o e).1
 have lim : s.heap.NoLimit := e0.mod.nolimit.keeps fun b o e => (e0.bs b o e).1
 have zZ : ∀ y ∈ ps.zip us, scope.names.lookup y.1 = some .local \/ (scope.names.lookup y.1 = some .cell /\ ((cellsFrom (s.heap.objs.size + 1) scope.names []).lookup y.1).isSome = true) := fun ⟨n, v⟩ hy => by
   rcases S.par n (List.of_mem_zip hy).1 with q | q
   . exact .inl q
   . exact .inr ⟨q, PySem.W.cellsFrom_some _ _ _ (.inl q)⟩
 refine codeAny_call_function hr.depth (KX _ _ lk) rfl S.co S.gen rfl (PySem.W.codeRec_of KX oR) (hb _ _ _ _ ?_)
 refine wpAny_newFunctionEnv_cells S.kind zZ fun env he s1 x => ?_
 subst he
 refine ⟨lim.keeps x.toInCall.keep, codeAny_func ?_⟩
 obtain ⟨t, ht, hq⟩ := Pu A outer s H vs Q E (hr.deeper _) WV
 have I : Inv (zY CX P w K mg base N qual scope f kh A outer s H E) [] (start N vs) H s1 := Mu S hr.hd e0 hl r x
 refine ajB (ht [] s1 (start N vs) H _ I hq) (fun fl s' hs => ?_) fun e s' hs => hs
 have fin : ∀ {σ' : St} {H' : Hp} {v : V} {u : Value}, Inv (zY CX P w K mg base N qual scope f kh A outer s H E) [] σ' H' s' -> RelV v u -> Q v H' -> CE outer P w H s Q u s' :=
   fun {σ' H' v u} J rv q => ⟨v, H', J.os, J.bare, J.base, J.dw, rv, q⟩
 cases fl with
 | ret u =>
   obtain ⟨v, σ', H', J, rv, q⟩ := hs
   exact fin J rv q
 | next =>
   obtain ⟨σ', H', J, q⟩ := hs
   exact fin (v := V.non) (u := Value.none) J rfl q
 | brk =>
   obtain ⟨_, _, _, q⟩ := hs
   exact False.elim q
 | cont =>
   obtain ⟨_, _, _, q⟩ := hs
   exact False.elim q
section
variable {X : Cx} {x : Str} {p pos : Pos} {e : Expr} {es : List Expr} {t : TA} {id T : String} {r : List V -> Hp -> VK -> Prop}
noncomputable def tCB (r : List V -> Hp -> VK -> Prop) (t : TA) : TE := fun σ H Q => t σ H fun vs H1 => r vs H1 Q
theorem z6 (hc : tu X (.builtin id) r) (hg : Gl X x) (hm : X.mg x = none) (hv : bootBuiltins x = some (.builtin id)) (ha : PA X (e :: es) t) (hn : x ≠ "__name__" := by decide) (uT : (x == ("__debug__" : Str)) = false := by decide)
   (he : starEach (e :: es) X.env = (false, eval e X.env) :: starEach es X.env := by rfl) (qH : (backTo pos (starEach es X.env)).any (·.1) = false := by rfl) : PE X (.Call (.Name x p) (e :: es) [] pos) (tCB r t) := by
 intro pins s σ H Q I h
 refine aj9 (zU I hg hm hv ?_ hn uT)
 exact PyProof.Rows.callWith_builtin1 (cN (ha pos pins s σ H _ I h) fun us s1 ⟨vs, H1, I1, r1, q1⟩ => hc pins s1 σ H1 vs us Q I1 r1 q1) he qH
theorem ji (hc : tu X (.type T) r) (hg : Gl X x) (hm : X.mg x = none) (hv : bootBuiltins x = some (.type T)) (ha : PA X (e :: es) t) (hn : x ≠ "__name__" := by decide) (uT : (x == ("__debug__" : Str)) = false := by decide)
   (he : starEach (e :: es) X.env = (false, eval e X.env) :: starEach es X.env := by rfl) (qH : (backTo pos (starEach es X.env)).any (·.1) = false := by rfl) : PE X (.Call (.Name x p) (e :: es) [] pos) (tCB r t) := by
 intro pins s σ H Q I h
 refine aj9 (zU I hg hm hv ?_ hn uT)
 exact ajT (cN (ha pos pins s σ H _ I h) fun us s1 ⟨vs, H1, I1, r1, q1⟩ => hc pins s1 σ H1 vs us Q I1 r1 q1) he qH
end
end L2
namespace HT
open PySem PyProof.Rows
section
variable {prog : Program} {w : World} {A : Around} {E : Value -> Shared -> Prop} {s : Shared}
noncomputable def iF (n d : Nat) : Option Int -> Nat
 | none => d
 | some v => if v < 0 then (v + (n : Int)).toNat else min v.toNat n
theorem X8 (n d : Nat) (hd : d <= n) (o : Option Int) : iF n d o <= n := by
 cases o with
 | none => exact hd
 | some v =>
   show (if v < 0 then (v + (n : Int)).toNat else min v.toNat n) <= n
   by_cases hv : v < 0
   . rw [if_pos hv]; omega
   . rw [if_neg hv]; exact Nat.min_le_right _ _
theorem KG (v : Int) (n d : Nat) : (if v < 0 then max (v + (n : Int)) 0 else min v (n : Int)) = ((iF n d (some v) : Nat) : Int) := by
 show (if v < 0 then max (v + (n : Int)) 0 else min v (n : Int)) = (((if v < 0 then (v + (n : Int)).toNat else min v.toNat n) : Nat) : Int)
 by_cases hv : v < 0
 . simp only [if_pos hv]; omega
 . simp only [if_neg hv]; omega
theorem Ig (lo hi : Option Int) (n : Nat) : Builtin.Slice.sliceAdjust lo hi 1 (n : Int) = (((iF n 0 lo : Nat) : Int), ((iF n n hi : Nat) : Int)) := by
 have h1 : ¬ ((1 : Int) < 0) := by omega
 unfold Builtin.Slice.sliceAdjust
 simp only [h1, if_false]
 refine Prod.ext ?_ ?_
 . cases lo with
   | none => rfl
   | some v => exact KG v n 0
 . cases hi with
   | none => rfl
   | some v => exact KG v n n
theorem Ih (i j : Nat) : Builtin.Slice.slicePlaces (i : Int) (j : Int) 1 = j - i := by
 unfold Builtin.Slice.slicePlaces
 have h1 : (1 : Int) > 0 := by omega
 simp only [h1, if_true, Int.ediv_one]
 split <;> omega
theorem z7 {v : Value} {o : Option Int} {Q : Option Int -> Shared -> Prop} (p : IsPart v o) (h : Q o s) : wpAny (model prog w) A (Builtin.Slice.slicePartIndex v) Q E s := by
 cases p with
 | none => exact slicePart_none h
 | int i t => exact slicePart_int h
theorem wW {sl : Addr} {vl vu : Value} {lo hi : Option Int} {n : Nat} {Q : Int × Int × Nat -> Shared -> Prop} (hs : s.heap.IsSliceOf sl vl vu .none) (pl : IsPart vl lo) (pu : IsPart vu hi)
   (h : Q (((iF n 0 lo : Nat) : Int), 1, iF n n hi - iF n 0 lo) s) : wpAny (model prog w) A (Builtin.Slice.sliceApplied (.ref sl) (pure (n : Int))) Q E s := by
 obtain ⟨os, X9, hcs, hds⟩ := id hs
 unfold Builtin.Slice.sliceApplied Builtin.Slice.sliceFields
 refine wpAny_bind (wpAny_bind (wpAny_field X9 hds (x := vl) rfl (wpAny_bind (wpAny_field X9 hds (x := vu) rfl (wpAny_bind (wpAny_field X9 hds (x := .none) rfl (wpAny_pure ?_)))))))
 refine wpAny_bind (slicePart_none ?_)
 show wpAny _ _ (if ((1 : Int) == 0) = true then _ else _) _ _ s
 rw [if_neg (by decide)]
 refine wpAny_bind (z7 pl (wpAny_bind (z7 pu (wpAny_bind (wpAny_pure ?_)))))
 show wpAny _ _ (match Builtin.Slice.sliceAdjust lo hi 1 (n : Int) with | (lo, hi) => pure (lo, (1 : Int), Builtin.Slice.slicePlaces lo hi 1)) _ _ s
 rw [Ig lo hi n]
 show wpAny _ _ (pure (((iF n 0 lo : Nat) : Int), (1 : Int), Builtin.Slice.slicePlaces ((iF n 0 lo : Nat) : Int) ((iF n n hi : Nat) : Int) 1)) _ _ s
 rw [Ih]
 exact wpAny_pure h
theorem Pw (xs : Array Value) (i k : Nat) : ((List.range k).filterMap fun (m : Nat) => xs[((i : Int) + (m : Int) * 1).toNat]?).toArray = ((xs.toList.drop i).take k).toArray := by
 have e : (fun (m : Nat) => xs[((i : Int) + (m : Int) * 1).toNat]?) = fun m => xs[i + m]? := by
   funext m
   have : ((i : Int) + (m : Int) * 1).toNat = i + m := by omega
   rw [this]
 rw [e]
 have := pick_run xs i k
 rw [List.filterMap_map] at this
 have e2 : ((fun x => xs[x]?) ∘ fun x => i + x) = fun m => xs[i + m]? := rfl
 rw [e2] at this
 rw [this]
theorem uU {t sl : Addr} {items : Array Value} {vl vu : Value} {lo hi : Option Int} {Q : Value -> Shared -> Prop} (ht : IsTup s.heap t items) (hs : s.heap.IsSliceOf sl vl vu .none) (pl : IsPart vl lo) (pu : IsPart vu hi)
   (hw : ¬ (iF items.size 0 lo = 0 /\ iF items.size items.size hi = items.size))
   (h : Q (.ref s.heap.objs.size) { s with heap := s.heap.push { cls := .type "tuple", data := .seq ((items.toList.drop (iF items.size 0 lo)).take (iF items.size items.size hi - iF items.size 0 lo)).toArray } })
   (hsz : items.size <= sizeLine) : wpAny (model prog w) A (getItem (.ref t) (.ref sl)) Q E s := by
 have KH : sizeOk (.seq ((items.toList.drop (iF items.size 0 lo)).take (iF items.size items.size hi - iF items.size 0 lo)).toArray) := by
   show ((items.toList.drop (iF items.size 0 lo)).take (iF items.size items.size hi - iF items.size 0 lo)).toArray.size <= sizeLine
   rw [List.size_toArray, List.length_take, List.length_drop, Array.length_toList]
   omega
 have hj : iF items.size items.size hi <= items.size := X8 _ _ (Nat.le_refl _) hi
 obtain ⟨os, X9, hcs, hds⟩ := id hs
 have hTs : s.TypeIs (.ref sl) "slice" := ⟨os, X9, hcs⟩
 unfold getItem
 try with_reducible refine wpAny_holding ?_
 first | refine wpAny_bind (wpAny_pure ?_) | skip
 refine wpAny_bind (wpAny_sequenceKey ht.typeIs (by decide) ?_)
 refine wpAny_bind (wpAny_callSpecial?_slot (name := Str.ofString "__getitem__") ht.typeIs PyProof.Rows.slot_tuple_getitem
   (wpAny_call_entry PyProof.Rows.slot_tuple_getitem ht.typeIs entry_tuple_getitem ?_ (args_tuple_getitem _ _)))
 show wpAny _ _ (Builtin.Tuple.tupleItemsOf (.ref t) >>= _) _ _ s
 refine wpAny_bind (tupleItemsOf_ ht ?_)
 refine wpAny_bind (wpAny_typeOf hTs ?_)
 rw [if_pos (by decide)]
 refine wpAny_bind (wW hs pl pu ?_)
 have hno : ¬ ((((iF items.size 0 lo : Nat) : Int) == 0 && (1 : Int) == 1 && (iF items.size items.size hi - iF items.size 0 lo) == items.size) = true) := by
   intro q
   rw [Bool.and_eq_true, Bool.and_eq_true] at q
   have q1 : ((iF items.size 0 lo : Nat) : Int) = 0 := eq_of_beq q.1.1
   have q2 : iF items.size items.size hi - iF items.size 0 lo = items.size := eq_of_beq q.2
   exact hw ⟨by omega, by omega⟩
 show wpAny _ _ (if (((iF items.size 0 lo : Nat) : Int) == 0 && (1 : Int) == 1 && (iF items.size items.size hi - iF items.size 0 lo) == items.size) = true then _ else _) _ _ s
 rw [if_neg hno, Pw]
 first
   | exact wpAny_bind (m := Builtin.Tuple.tupleExact _) (wpAny_newObj_type (wpAny_pure ⟨_, rfl, wpAny_pure h⟩) KH)
   | exact wpAny_bind (m := Builtin.Tuple.tupleExact _) (wpAny_newObj_type (wpAny_bind (wpAny_pure (wpAny_pure ⟨_, rfl, wpAny_pure h⟩))) KH)
   | exact wpAny_bind (wpAny_bind (m := Builtin.Tuple.tupleExact _) (wpAny_newObj_type (wpAny_pure (wpAny_pure ⟨_, rfl, wpAny_pure h⟩)) KH))
   | exact wpAny_bind (wpAny_bind (m := Builtin.Tuple.tupleExact _) (wpAny_newObj_type (wpAny_pure ⟨_, rfl, wpAny_pure h⟩) KH))
end
end HT
namespace L2
open PySem PySem.Spec PyProof.Rows
noncomputable abbrev TO := St -> Hp -> (Option Int -> Hp -> Prop) -> Prop
noncomputable def PO (X : Cx) (e : Option Expr) (t : TO) : Prop :=
 ∀ (pins : List (Addr × Obj)) (s : Shared) (σ : St) (H : Hp) (Q : Option Int -> Hp -> Prop), Inv X pins σ H s -> t σ H Q →
   wpAny (model X.prog X.w) X.A (evalPart e X.env) (fun u s' => ∃ o H', Inv X pins σ H' s' /\ IsPart u o /\ Q o H') X.xe s
noncomputable def T8 : TO := fun _ H Q => Q none H
noncomputable def abQ (t : TE) : TO := fun σ H Q => t σ H fun x H1 => ∃ i, x = .int i /\ Q (some i) H1
section
variable {X : Cx} {e : Expr} {te : TE} {lo hi : Option Expr} {tl th : TO} {pos p2 : Pos}
theorem KJ : PO X none T8 := by
 intro pins s σ H Q I h
 rw [evalPart_none]
 exact aiz ⟨none, H, I, .none, h⟩
theorem KL (h : PE X e te) : PO X (some e) (abQ te) := by
 intro pins s σ H Q I hw
 rw [evalPart_some]
 refine cN (h pins s σ H _ I hw) fun u s1 zz => ?_
 obtain ⟨x, H1, I1, r1, q1⟩ := zz
 obtain ⟨i, rfl, q⟩ := q1
 obtain ⟨t, rfl⟩ := r1
 exact ⟨some i, H1, I1, .int i t, q⟩
noncomputable def SlR (X : Cx) (r : V -> Option Int -> Option Int -> Hp -> VK -> Prop) : Prop :=
 ∀ (pins : List (Addr × Obj)) (s : Shared) (σ : St) (H : Hp) (x : V) (v vl vu : Value) (lo hi : Option Int) (sl : Addr) (Q : VK), Inv X pins σ H s -> RelV x v -> s.heap.IsSliceOf sl vl vu .none -> IsPart vl lo -> IsPart vu hi -> r x lo hi H Q →
   ∃ T id, typeLookup (.type T) "__getitem__" = pure (some (.builtin id)) /\ s.TypeIs v T /\ wpAny (model X.prog X.w) X.A (getItem v (.ref sl)) (EP X pins σ Q) X.xe s
noncomputable def tSl (r : V -> Option Int -> Option Int -> Hp -> VK -> Prop) (te : TE) (tl th : TO) : TE := fun σ H Q => te σ H fun x H1 => tl σ H1 fun l H2 => th σ H2 fun u H3 => r x l u H3 Q
theorem z8 {r : V -> Option Int -> Option Int -> Hp -> VK -> Prop} (hr : SlR X r) (he : PE X e te) (hl : PO X lo tl) (hu : PO X hi th) : PE X (.Subscript e (.Slice lo hi none p2) pos) (tSl r te tl th) := by
 intro pins s σ H Q I h
 refine Subscript_ (cN (he pins s σ H _ I h) fun v s1 zz => ?_)
 obtain ⟨x, H1, I1, r1, q1⟩ := zz
 refine wpAny_Slice (cN (hl pins s1 σ H1 _ I1 q1) fun vl s2 ⟨l, H2, I2, pl, q2⟩ => cN (hu pins s2 σ H2 _ I2 q2) fun vu s3 zz => ?_)
 obtain ⟨u, H3, I3, pu, q3⟩ := zz
 rw [evalPart_none]
 refine aiz ?_
 have I4 : Inv X pins σ H3 { s3 with heap := s3.heap.push { cls := .type "slice", data := .fields #[vl, vu, .none] } } := I3.kept (t' := s3.toks) fun b ob q => aiv _ q
 obtain ⟨T, id, hT, ht, hg⟩ := hr pins { s3 with heap := s3.heap.push { cls := .type "slice", data := .fields #[vl, vu, .none] } } σ H3 x v vl vu l u s3.heap.objs.size Q I4 r1 (Heap.IsSliceOf.new ..) pl pu q3
 show wpAny (model X.prog X.w) X.A (subscriptTail e (.Slice lo hi none p2) v (.ref s3.heap.objs.size)) (EP X pins σ Q) X.xe { s3 with heap := s3.heap.push { cls := .type "slice", data := .fields #[vl, vu, .none] } }
 exact tail_any (ops := [.ref s3.heap.objs.size, v]) ht hT hg (by with_unfolding_all rfl)
noncomputable def F2 (xs : List V) (lo hi : Option Int) : List V := (xs.drop (HT.iF xs.length 0 lo)).take (HT.iF xs.length xs.length hi - HT.iF xs.length 0 lo)
theorem yj (xs : List V) (lo hi : Option Int) : (F2 xs lo hi).length <= xs.length := by
 unfold F2
 rw [ajr, List.length_drop]
 omega
noncomputable def aeo (K : PySem.W.Frag) : V -> Option Int -> Option Int -> Hp -> VK -> Prop := fun x lo hi H Q => ∃ a xs, x = .ref a /\ qE K H a xs ∧
 ¬ (HT.iF xs.length 0 lo = 0 /\ HT.iF xs.length xs.length hi = xs.length) /\ ∀ p, H p = none -> Q (.ref p) (upd H p (.tup (F2 xs lo hi)))
theorem Yb : SlR X (aeo X.K) := by
 intro pins s σ H x v vl vu lo hi sl Q I rx hs pl pu h
 obtain ⟨a, xs, rfl, hx, hw, q⟩ := h
 cases rx
 obtain ⟨its, r, ht, hz⟩ := I.tuple hx
 have hlen : its.toArray.size = xs.length := by rw [aiJ]; exact r.length.symm
 refine ⟨"tuple", _, aj5.lookup, ht.typeIs, ?_⟩
 refine HT.uU ht hs pl pu (by rw [hlen]; exact hw) ?_ (by rw [hlen]; exact hz)
 rw [hlen]
 refine ⟨.ref s.heap.objs.size, _, I.laid (t' := s.toks) (o := .tup (F2 xs lo hi)) (fun b ob q => aiv _ q) (ait _) ?_, rfl, q _ (I.dw.fresh (ait _))⟩
 exact ⟨aje (yj xs lo hi) hz, _, (r.drop (HT.iF xs.length 0 lo)).take (HT.iF xs.length xs.length hi - HT.iF xs.length 0 lo), IsTup.new _ _⟩
end
noncomputable def OB (n : Nat) (i : Int) : Option Nat := if 0 <= i then (if i < n then some i.toNat else none) else if -(n : Int) <= i then some (i + n).toNat else none
noncomputable def yk {α : Type} (xs : List α) (i : Int) : Option α := (OB xs.length i).bind fun j => xs[j]?
theorem zG {n : Nat} {i : Int} {j : Nat} (h : OB n i = some j) : seqIndex? i n = some j /\ j < n /\ -(n : Int) <= i /\ i < n := by
 unfold OB at h
 by_cases h0 : 0 <= i
 . rw [aiC h0] at h
   by_cases h1 : i < n
   . rw [aiC h1] at h
     have e : i.toNat = j := aiN h
     exact ⟨by rw [seqIndex_of h0 h1, e], by omega, by omega, h1⟩
   . rw [aiu h1] at h; cases h
 . rw [aiu h0] at h
   by_cases h1 : -(n : Int) <= i
   . rw [aiC h1] at h
     have e : (i + n).toNat = j := aiN h
     exact ⟨by rw [seqIndex_neg (by omega) h1, e], by omega, h1, by omega⟩
   . rw [aiu h1] at h; cases h
theorem Dj {α : Type} {xs : List α} {i : Int} {v : α} (h : yk xs i = some v) : ∃ j, seqIndex? i xs.length = some j /\ xs[j]? = some v /\ j < xs.length /\ -(xs.length : Int) <= i /\ i < xs.length := by
 unfold yk at h
 cases e : OB xs.length i with
 | none => rw [e] at h; cases h
 | some j =>
   rw [e] at h
   obtain ⟨h1, h2, h3, h4⟩ := zG e
   exact ⟨j, h1, h, h2, h3, h4⟩
theorem aW {α : Type} {xs : List α} {j : Nat} {v : α} (h : xs[j]? = some v) : yk xs (j : Int) = some v := by
 have hj : j < xs.length := (aiS.mp h).1
 have e : OB xs.length (j : Int) = some j := by
   unfold OB
   rw [aiC (by omega), aiC (by omega)]; simp
 unfold yk; rw [e]; exact h
noncomputable def oV (b : Expr) : Prop := ∀ o i, subscripted b false o i = operate [o, i] (getItem o i)
noncomputable def IxR (X : Cx) (r : R2) : Prop :=
 ∀ (value slice : Expr) (pins : List (Addr × Obj)) (s : Shared) (σ : St) (H : Hp) (x y : V) (v u : Value) (Q : VK), Inv X pins σ H s -> RelV x v -> RelV y u -> r x y H Q →
   subscripted slice false v u = operate [v, u] (getItem v u) -> wpAny (model X.prog X.w) X.A (subscriptTail value slice v u) (EP X pins σ Q) X.xe s
noncomputable def MtR (X : Cx) (id : String) (r : V -> List V -> Hp -> VK -> Prop) : Prop :=
 ∀ (pins : List (Addr × Obj)) (s : Shared) (σ : St) (H : Hp) (x : V) (xs : List V) (v : Value) (us : List Value) (Q : VK), Inv X pins σ H s -> RelV x v -> Vals xs us -> r x xs H Q →
   wpAny (model X.prog X.w) X.A (call (.builtin id) (v :: us)) (EP X pins σ Q) X.xe s
section
variable {X : Cx} {a b : Expr} {ta tb : TE} {pos : Pos}
theorem CH {r : R2} (hr : IxR X r) (ha : PE X a ta) (hb : PE X b tb) (hs : oV b) : PE X (.Subscript a b pos) (tOp r ta tb) := by
 intro pins s σ H Q I h
 exact Subscript_ (XT ha hb I h fun v u s2 x y H2 I2 rx ry q => hr a b pins s2 σ H2 x y v u Q I2 rx ry q (hs _ _))
noncomputable def aep (K : PySem.W.Frag) : R2 := fun x y H Q => ∃ p xs i v, x = .ref p /\ y = .int i /\ qk K H p xs /\ yk xs i = some v /\ Q v H
noncomputable def aeq (K : PySem.W.Frag) : R2 := fun x y H Q => ∃ p xs i v, x = .ref p /\ y = .int i /\ qE K H p xs /\ yk xs i = some v /\ Q v H
noncomputable def aer : R2 := fun x y H Q => ∃ z i c, x = .str z /\ y = .int i /\ z.length <= sizeLine /\ yk z.cps.toList i = some c /\ Q (.str ⟨#[c]⟩) H
theorem Dl : IxR X (aep X.K) := by
 intro value slice pins s σ H x y v u Q I rx ry h hs
 obtain ⟨p, xs, i, z, rfl, rfl, hq, he, q⟩ := h
 cases rx
 obtain ⟨t, rfl⟩ := ry
 obtain ⟨its, r, pl, hz⟩ := I.list hq
 obtain ⟨j, h1, h2, h3, h4, h5⟩ := Dj he
 obtain ⟨w, ew, F3⟩ := r.get h2
 have hl := r.length
 have hn := tR
 have fin : EP X pins σ Q w s := ⟨z, H, I, F3, q⟩
 by_cases h0 : 0 <= i
 . have hj : i.toNat = j := by
     rw [seqIndex_of h0 h5] at h1
     exact aiN h1
   exact item_listR pl.isList h0 (by omega) (by rw [hj]; simpa using ew) fin hs
 . have hj : (i + (its.toArray.size : Int)).toNat = j := by
     rw [seqIndex_neg (by omega) h4] at h1
     rw [aiJ, ← hl]
     exact aiN h1
   exact subscriptTail_builtinR (x := w) pl.isList.typeIs slot_list_getitem.lookup
     (wpAny_getItem_list_neg (Q := fun r s' => r = w /\ EP X pins σ Q r s') pl.isList (by omega) (by rw [List.size_toArray] <;> omega) (by omega) (by rw [hj]; simpa using ew) ⟨rfl, fin⟩) hs
theorem Px : IxR X (aeq X.K) := by
 intro value slice pins s σ H x y v u Q I rx ry h hs
 obtain ⟨p, xs, i, z, rfl, rfl, hq, he, q⟩ := h
 cases rx
 obtain ⟨t, rfl⟩ := ry
 obtain ⟨its, r, pl, hz⟩ := I.tuple hq
 obtain ⟨j, h1, h2, h3, h4, h5⟩ := Dj he
 obtain ⟨w, ew, F3⟩ := r.get h2
 have hl := r.length
 have hn := tR
 have fin : EP X pins σ Q w s := ⟨z, H, I, F3, q⟩
 exact subscriptTail_builtinR (x := w) pl.typeIs slot_tuple_getitem.lookup
   (getItem_tuple (j := j) (Q := fun r s' => r = w /\ EP X pins σ Q r s') pl (by omega) (by omega) (by rw [List.size_toArray, ← hl]; exact h1) (by simpa using ew) ⟨rfl, fin⟩) hs
theorem Yc : IxR X aer := by
 intro value slice pins s σ H x y v u Q I rx ry h hs
 obtain ⟨z, i, c, rfl, rfl, hz, he, q⟩ := h
 obtain ⟨t, rfl⟩ := rx
 obtain ⟨t', rfl⟩ := ry
 obtain ⟨j, h1, h2, h3, h4, h5⟩ := Dj he
 have hl : z.cps.toList.length = z.length := by simp [Str.length]
 rw [hl] at h1 h4 h5
 have hn := tR
 exact tail_any (typeIs_str s z t) slot_str_getitem.lookup (getItem_str (c := c) (by
   have e1 : decide (i < -(2 ^ 63 : Int)) = false := ai1 (by omega)
   have e2 : decide (i ≥ 2 ^ 63) = false := ai1 (by omega)
   rw [e1, e2, Bool.or_false]) (by rw [h1]; simpa using h2) ⟨.str ⟨#[c]⟩, H, I.tok _, ⟨_, rfl⟩, q⟩) hs
theorem Ii (its : List Value) (n j : Nat) (u : Value) : Obj.mapSeq (·.setIfInBounds j u) { cls := .type "list", data := .seq its.toArray n } = { cls := .type "list", data := .seq (its.set j u).toArray n } := by
 simp [Obj.mapSeq]
theorem Inv.lst {pins : List (Addr × Obj)} {σ : St} {H : Hp} {s : Shared} {p : Addr} {xs : List V} (I : Inv X pins σ H s) (h : H p = some (.lst xs)) :
   ∃ (its : List Value) (n : Nat), Vals xs its /\ s.heap.get? p = some { cls := .type "list", data := .seq its.toArray n } /\ xs.length <= sizeLine := by
 obtain ⟨z, its, n, r, e⟩ := I.dw p _ h
 exact ⟨its, n, r, e, z⟩
theorem Inv.Yd {pins : List (Addr × Obj)} {σ : St} {H : Hp} {s : Shared} {p : Addr} {xs ys : List V} {its its' : List Value} {n n' : Nat} {f : Obj -> Obj} (I : Inv X pins σ H s) (h : H p = some (.lst xs))
   (ho : s.heap.get? p = some { cls := .type "list", data := .seq its.toArray n }) (hf : f { cls := .type "list", data := .seq its.toArray n } = { cls := .type "list", data := .seq its'.toArray n' }) (r : Vals ys its') (hz : ys.length <= sizeLine) (t : Nat) :
   Inv X pins σ (upd H p (.lst ys)) { s with heap := s.heap.update p f, toks := t } := by
 have e : (s.heap.update p f).get? p = some { cls := .type "list", data := .seq its'.toArray n' } := by
   rw [ake f ho (by rw [hf] <;> rfl), hf]
 refine I.write (x := p) (e := p) (by rw [h]; trivial) (.inl rfl) (fun b u hb q => (Heap.get?_update_other _ _ (aj2 hb)).trans q) ⟨_, e⟩ ?_
 exact ⟨hz, its', n', r, e⟩
noncomputable def abR : V -> V -> V -> Hp -> (Hp -> Prop) -> Prop := fun o i v H Q => ∃ p xs k j, o = .ref p /\ i = .int k /\ H p = some (.lst xs) /\ OB xs.length k = some j /\ Q (upd H p (.lst (xs.set j v)))
theorem set_list : abu X abR := by
 intro pins s σ H o i v ov iv u Q I ro ri rv h
 obtain ⟨p, xs, k, j, rfl, rfl, hp, hj, q⟩ := h
 cases ro
 obtain ⟨t, rfl⟩ := ri
 obtain ⟨its, n, r, ho, hz⟩ := I.lst hp
 obtain ⟨h1, h2, h3, h4⟩ := zG hj
 have hl := r.length
 have hn := tR
 have I' : Inv X pins σ (upd H p (.lst (xs.set j v))) { s with heap := s.heap.update p (Obj.mapSeq (·.setIfInBounds j u)) } :=
   I.Yd hp ho (Ii its n j u) (r.set rv j) (by rw [List.length_set]; exact hz) s.toks
 by_cases h0 : 0 <= k
 . have hk : k.toNat = j := by
     rw [seqIndex_of h0 h4] at h1
     exact aiN h1
   exact PySem.W.ki_setAt ho h0 (by omega) (by rw [aiJ, ← hl]; exact h4) (by rw [hk]; exact ⟨_, I', q⟩)
 . have hk : (k + (its.toArray.size : Int)).toNat = j := by
     rw [seqIndex_neg (by omega) h3] at h1
     rw [aiJ, ← hl]
     exact aiN h1
   exact PySem.W.ki_setBack ho (by omega) (by rw [aiJ, ← hl]; exact h3) (by omega) (by rw [hk]; exact ⟨_, I', q⟩)
theorem Dm (lo hi : Option Int) (n : Nat) : (sliceBounds lo hi none n).1 = ((HT.iF n 0 lo : Nat) : Int) /\ (sliceBounds lo hi none n).2.1 = ((HT.iF n n hi : Nat) : Int) /\ (sliceBounds lo hi none n).2.2 = 1 := by
 refine ⟨?_, ?_, rfl⟩
 . cases lo with
   | none => simp [sliceBounds, HT.iF]
   | some i =>
     simp only [sliceBounds, HT.iF, Option.getD_none, show (1 : Int) > 0 by decide, if_true]
     by_cases h : i < 0
     . simp only [h, if_true] <;> omega
     . simp only [h, akn] <;> omega
 . cases hi with
   | none => simp [sliceBounds, HT.iF]
   | some i =>
     simp only [sliceBounds, HT.iF, Option.getD_none, show (1 : Int) > 0 by decide, if_true]
     by_cases h : i < 0
     . simp only [h, if_true] <;> omega
     . simp only [h, akn] <;> omega
theorem Ci (its : List Value) (lo hi : Option Int) : slicePick its.toArray lo hi none = ((its.drop (HT.iF its.length 0 lo)).take (HT.iF its.length its.length hi - HT.iF its.length 0 lo)).toArray := by
 obtain ⟨h1, h2, h3⟩ := Dm lo hi its.toArray.size
 unfold slicePick
 rw [h1, h2, h3]
 simp only [sliceRange_one, pick_run, aiJ] <;> rfl
noncomputable def aes (K : PySem.W.Frag) : V -> Option Int -> Option Int -> Hp -> VK -> Prop := fun x lo hi H Q => ∃ a xs, x = .ref a /\ qk K H a xs /\ ∀ p, H p = none -> Q (.ref p) (upd H p (.lst (F2 xs lo hi)))
theorem KN : SlR X (aes X.K) := by
 intro pins s σ H x v vl vu lo hi sl Q I rx hs pl pu h
 obtain ⟨a, xs, rfl, hx, q⟩ := h
 cases rx
 obtain ⟨its, r, ht, hz⟩ := I.list hx
 have hlen := r.length
 refine ⟨"list", _, slot_list_getitem.lookup, ht.isList.typeIs, ?_⟩
 refine wpAny_getItem_list_slice ht.isList hs pl pu .none (by simp) ?_ (by rw [aiJ] <;> omega)
 rw [Ci, ← hlen]
 refine ⟨.ref s.heap.objs.size, _, I.laid (t' := s.toks) (o := .lst (F2 xs lo hi)) (fun b ob q => aiv _ q) (ait _) ?_, rfl, q _ (I.dw.fresh (ait _))⟩
 exact ⟨aje (yj xs lo hi) hz, _, 0, (r.drop (HT.iF xs.length 0 lo)).take (HT.iF xs.length xs.length hi - HT.iF xs.length 0 lo), aiR _ rfl⟩
noncomputable def tD : V -> Bool
 | .non => true
 | .bl _ => true
 | .int _ => true
 | .str _ => true
 | _ => false
noncomputable def Py : V -> V -> Bool
 | .non, .non => true
 | .bl a, .bl b => a == b
 | .bl a, .int b => (if a then 1 else 0) == b
 | .int a, .bl b => a == (if b then 1 else 0)
 | .int a, .int b => a == b
 | .str a, .str b => a == b
 | _, _ => false
theorem Ye {A : Around} {s : Shared} {y x : V} {u v : Value} (ry : RelV y u) (rx : RelV x v) (fy : tD y = true) (fx : tD x = true) : SeqAt.EqAt A s u v (Py y x) := by
 cases y with
 | non =>
   cases ry
   cases x with
   | non => cases rx; exact SeqAt.EqAt.same _
   | bl b => cases rx; exact SeqAt.EqAt.none_bool b
   | int b => obtain ⟨t, rfl⟩ := rx; exact SeqAt.EqAt.none_int b t
   | str b => obtain ⟨t, rfl⟩ := rx; exact SeqAt.EqAt.none_str b t
   | _ => exact absurd (show false = true from fx) aiy
 | bl a =>
   cases ry
   cases x with
   | non => cases rx; exact SeqAt.EqAt.bool_none a
   | bl b => cases rx; exact SeqAt.EqAt.bool_bool a b
   | int b => obtain ⟨t, rfl⟩ := rx; exact SeqAt.EqAt.bool_int a b t
   | str b => obtain ⟨t, rfl⟩ := rx; exact SeqAt.EqAt.bool_str a b t
   | _ => exact absurd (show false = true from fx) aiy
 | int a =>
   obtain ⟨t', rfl⟩ := ry
   cases x with
   | non => cases rx; exact SeqAt.EqAt.int_none a t'
   | bl b => cases rx; exact SeqAt.EqAt.int_bool a t' b
   | int b => obtain ⟨t, rfl⟩ := rx; exact SeqAt.EqAt.int_int a t' b t
   | str b => obtain ⟨t, rfl⟩ := rx; exact SeqAt.EqAt.int_str a t' b t
   | _ => exact absurd (show false = true from fx) aiy
 | str a =>
   obtain ⟨t', rfl⟩ := ry
   cases x with
   | non => cases rx; exact SeqAt.EqAt.str_none a t'
   | bl b => cases rx; exact SeqAt.EqAt.str_bool a t' b
   | int b => obtain ⟨t, rfl⟩ := rx; exact SeqAt.EqAt.str_int a t' b t
   | str b => obtain ⟨t, rfl⟩ := rx; exact SeqAt.EqAt.str_str a t' b t
   | _ => exact absurd (show false = true from fx) aiy
 | _ => exact absurd (show false = true from fy) aiy
noncomputable def Ij (x : V) (u : Value) : Bool := match u with
 | .none => Py .non x
 | .bool b => Py (.bl b) x
 | .int i _ => Py (.int i) x
 | .str z _ => Py (.str z) x
 | _ => false
theorem Pz {x y : V} {u : Value} (r : RelV y u) (f : tD y = true) : Ij x u = Py y x := by
 cases y with
 | non => cases r; rfl
 | bl b => cases r; rfl
 | int i => obtain ⟨t, rfl⟩ := r; rfl
 | str z => obtain ⟨t, rfl⟩ := r; rfl
 | _ => exact absurd (show false = true from f) aiy
theorem uV {x : V} : ∀ {xs : List V} {us : List Value}, Vals xs us -> xs.all tD = true -> us.any (Ij x) = xs.any fun y => Py y x
 | _, _, .nil, _ => rfl
 | y :: xs, u :: us, .cons r t, f => by
   rw [aky, aiO] at f
   rw [ajA, ajA, Pz r f.1, uV t f.2]
theorem qI {A : Around} {s : Shared} {x : V} {v : Value} (rx : RelV x v) (fx : tD x = true) : ∀ {xs : List V} {us : List Value}, Vals xs us -> xs.all tD = true -> ∀ u ∈ us, SeqAt.EqAt A s u v (Ij x u)
 | _, _, .nil, _ => fun u hu => by cases hu
 | y :: xs, u :: us, .cons r t, f => fun u' hu => by
   rw [aky, aiO] at f
   rcases aiw.mp hu with rfl | hu
   . rw [Pz r f.1]; exact Ye r rx f.1 fx
   . exact qI rx fx t f.2 u' hu
noncomputable def WW (x : V) (xs : List V) : Bool := xs.any fun y => Py y x
noncomputable def rIn (K : PySem.W.Frag) (neg : Bool) : R2 := fun x y H Q => ∃ p xs, y = .ref p /\ (qk K H p xs \/ qE K H p xs) /\ tD x = true /\ xs.all tD = true /\ Q (.bl (if neg then !WW x xs else WW x xs)) H
theorem rY : qC X (compareOp .In) (rIn X.K false) := by
 intro pins s σ H x y v u Q I rx ry h
 obtain ⟨p, xs, rfl, hq, fx, fs, q⟩ := h
 cases ry
 rcases hq with hq | hq
 . obtain ⟨its, r, pl, hz⟩ := I.list hq
   refine SeqAt.in_listAt (Ij x) pl.isList (fun w hw => qI rx fx r fs w (by simpa using hw)) ⟨.bl _, H, I, rfl, ?_⟩
   rw [show its.toArray.any (Ij x) = its.any (Ij x) by simp, uV r fs]
   exact q
 . obtain ⟨its, r, pl, hz⟩ := I.tuple hq
   refine SeqAt.in_tupleAt (Ij x) pl (fun w hw => qI rx fx r fs w (by simpa using hw)) ⟨.bl _, H, I, rfl, ?_⟩
   rw [show its.toArray.any (Ij x) = its.any (Ij x) by simp, uV r fs]
   exact q
theorem lG : qC X (compareOp .NotIn) (rIn X.K true) := by
 intro pins s σ H x y v u Q I rx ry h
 obtain ⟨p, xs, rfl, hq, fx, fs, q⟩ := h
 cases ry
 rcases hq with hq | hq
 . obtain ⟨its, r, pl, hz⟩ := I.list hq
   refine SeqAt.notIn_listAt (Ij x) pl.isList (fun w hw => qI rx fx r fs w (by simpa using hw)) ⟨.bl _, H, I, rfl, ?_⟩
   rw [show its.toArray.any (Ij x) = its.any (Ij x) by simp, uV r fs]
   exact q
 . obtain ⟨its, r, pl, hz⟩ := I.tuple hq
   refine SeqAt.notIn_tupleAt (Ij x) pl (fun w hw => qI rx fx r fs w (by simpa using hw)) ⟨.bl _, H, I, rfl, ?_⟩
   rw [show its.toArray.any (Ij x) = its.any (Ij x) by simp, uV r fs]
   exact q
theorem Dn : tu X (.builtin "len") (fun xs H Q => ∃ p ys, xs = [.ref p] /\ (qk X.K H p ys \/ qE X.K H p ys) /\ Q (.int ys.length) H) := by
 intro pins s σ H xs us Q I r h
 obtain ⟨p, ys, rfl, hq, q⟩ := h
 obtain ⟨u, rfl, rx⟩ := vals1 r
 cases rx
 have hn := tR
 rcases hq with hq | hq
 . obtain ⟨its, r', pl, hz⟩ := I.list hq
   have hlen := r'.length
   exact Calls.call_len_list pl.isList (by simp only [aiJ] <;> omega) ⟨.int ys.length, H, I.tok _, ⟨s.toks + 1, by rw [aiJ, hlen]⟩, q⟩
 . obtain ⟨its, r', pl, hz⟩ := I.tuple hq
   have hlen := r'.length
   exact len_tuple pl (by simp only [aiJ] <;> omega) ⟨.int ys.length, H, I.tok _, ⟨s.toks + 1, by rw [aiJ, hlen]⟩, q⟩
theorem Dp : tu X (.builtin "len") (fun xs H Q => ∃ z, xs = [.str z] /\ z.length <= sizeLine /\ Q (.int z.length) H) := by
 intro pins s σ H xs us Q I r h
 obtain ⟨z, rfl, hz, q⟩ := h
 obtain ⟨u, rfl, t, rfl⟩ := vals1 r
 have hn := tR
 exact len_str (by omega) ⟨.int z.length, H, I.tok _, ⟨_, rfl⟩, q⟩
theorem Dq : tu X (.type "list") (fun xs H Q => ∃ p ys, xs = [.ref p] /\ (qk X.K H p ys \/ qE X.K H p ys) /\ ∀ l, H l = none -> Q (.ref l) (upd H l (.lst ys))) := by
 intro pins s σ H xs us Q I r h
 obtain ⟨p, ys, rfl, hq, q⟩ := h
 obtain ⟨u, rfl, rx⟩ := vals1 r
 cases rx
 have fin : ∀ (its : List Value), Vals ys its -> ys.length <= sizeLine -> ∀ (h' : Heap) (c' : Nat), (∀ b o', s.heap.get? b = some o' -> h'.get? b = some o') →
     h'.get? s.heap.objs.size = some { cls := .type "list", dict := none, data := .seq its.toArray c', slots := #[] } -> EP X pins σ Q (.ref s.heap.objs.size) { s with heap := h' } := fun its r' hz h' c' kp e =>
   ⟨.ref s.heap.objs.size, _, I.laid (t' := s.toks) kp (ait _) (show dJ X.prog X.w _ h' _ (.lst ys) from ⟨hz, its, c', r', e⟩), rfl, q _ (I.dw.fresh (ait _))⟩
 rcases hq with hq | hq
 . obtain ⟨its, r', pl, hz⟩ := I.list hq
   have hlen := r'.length
   obtain ⟨o, ho, hc, n, hd⟩ := pl.isList
   exact call_list_seq p (.inl rfl) ho hc hd (fun h' c' kp e => fin its r' hz h' c' kp e) (by simp only [aiJ] <;> omega)
 . obtain ⟨its, r', pl, hz⟩ := I.tuple hq
   have hlen := r'.length
   obtain ⟨o, ho, hc, n, hd⟩ := pl
   exact call_list_seq p (.inr rfl) ho hc hd (fun h' c' kp e => fin its r' hz h' c' kp e) (by simp only [aiJ] <;> omega)
theorem nK : tu X (.type "tuple") (fun xs H Q => ∃ p ys, xs = [.ref p] /\ ((qk X.K H p ys /\ ∀ l, H l = none -> Q (.ref l) (upd H l (.tup ys))) \/ (qE X.K H p ys /\ Q (.ref p) H))) := by
 intro pins s σ H xs us Q I r h
 obtain ⟨p, ys, rfl, h⟩ := h
 obtain ⟨u, rfl, rx⟩ := vals1 r
 cases rx
 rcases h with ⟨hq, q⟩ | ⟨hq, q⟩
 . obtain ⟨its, r', pl, hz⟩ := I.list hq
   have hlen := r'.length
   refine call_tuple_list pl.isList (fun h' kp => ?_) (by simp only [aiJ] <;> omega)
   have I1 : Inv X pins σ H { s with heap := h' } := I.kept (t' := s.toks) kp
   have I2 : Inv X pins σ (upd H h'.objs.size (.tup ys)) { s with heap := h'.push { cls := .type "tuple", data := .seq its.toArray } } :=
     I1.laid (t' := s.toks) (fun b o e => aiv _ e) (ait _) (show dJ X.prog X.w _ _ _ (.tup ys) from ⟨hz, its, r', IsTup.new _ _⟩)
   exact ⟨.ref h'.objs.size, _, I2, rfl, q _ (I1.dw.fresh (ait _))⟩
 . obtain ⟨its, r', pl, hz⟩ := I.tuple hq
   exact call_tuple_same pl ⟨.ref p, H, I, rfl, q⟩
noncomputable def tyV (K : PySem.W.Frag) (T : String) (x : V) (H : Hp) : Prop := match x with
 | .str _ => T = "str"
 | .int _ => T = "int"
 | .ref p => (T = "list" /\ ∃ xs, qk K H p xs) \/ (T = "tuple" /\ ∃ o, K.lookup p = some o /\ o.cls = .type "tuple" /\ o.dict = none) ∨
     (T = "dict" /\ ((∃ kvs, H p = some (.dK kvs)) \/ ∃ kvs, H p = some (.dT kvs))) \/ (T = "set" /\ ∃ S n, H p = some (.set S n))
 | _ => False
theorem PB {pins : List (Addr × Obj)} {σ : St} {H : Hp} {s : Shared} {T : String} {x : V} {v : Value} (I : Inv X pins σ H s) (r : RelV x v) (ty : tyV X.K T x H) :
   s.TypeIs v T /\ ∀ a, v = .ref a -> ∃ ob, s.heap.get? a = some ob /\ ob.dict = none := by
 cases x with
 | str z =>
   obtain ⟨t, rfl⟩ := r
   cases (show T = "str" from ty)
   exact ⟨typeIs_str s z t, fun _ e => nomatch e⟩
 | int i =>
   obtain ⟨t, rfl⟩ := r
   cases (show T = "int" from ty)
   exact ⟨typeIs_int s i t, fun _ e => nomatch e⟩
 | ref p =>
   cases r
   rcases ty with ⟨rfl, xs, hq⟩ | ⟨rfl, o, hk, hc, hd⟩ | ⟨rfl, hk⟩ | ⟨rfl, S, n, hk⟩
   . obtain ⟨its, _, pl, _⟩ := I.list hq
     refine ⟨pl.isList.typeIs, fun a e => ?_⟩
     cases e
     obtain ⟨o, n, e, c, hd, _⟩ := pl
     exact ⟨o, e, hd⟩
   . refine ⟨⟨o, I.Oz p o hk, hc⟩, fun a e => ?_⟩
     cases e
     exact ⟨o, I.Oz _ o hk, hd⟩
   . have z : ∃ o, s.heap.get? p = some o /\ o.ExactDict := by
       rcases hk with ⟨kvs, hk⟩ | ⟨kvs, hk⟩
       . obtain ⟨_, _, _, _, o, _, _, e, ex, _⟩ := I.dw p _ hk
         exact ⟨o, e, ex⟩
       . obtain ⟨_, _, _, _, o, _, _, e, ex, _⟩ := I.dw p _ hk
         exact ⟨o, e, ex⟩
     obtain ⟨o, e, ex⟩ := z
     refine ⟨⟨o, e, ex.1⟩, fun a e2 => ?_⟩
     cases e2
     exact ⟨o, e, ex.2.1⟩
   . obtain ⟨o, _, _, _, e, ex, _⟩ := I.dw p _ hk
     refine ⟨⟨o, e, ex.1⟩, fun a e2 => ?_⟩
     cases e2
     exact ⟨o, e, ex.2.1⟩
 | _ => exact False.elim ty
noncomputable def aev (K : PySem.W.Frag) (T : String) (r : V -> List V -> Hp -> VK -> Prop) (to : TE) : TE := fun σ H Q => to σ H fun x H1 => tyV K T x H1 /\ r x [] H1 Q
noncomputable def tBM (K : PySem.W.Frag) (T : String) (r : V -> List V -> Hp -> VK -> Prop) (to : TE) (t : TA) : TE := fun σ H Q => to σ H fun x H1 => tyV K T x H1 /\ t σ H1 fun xs H2 => r x xs H2 Q
variable {o e : Expr} {es : List Expr} {to : TE} {t : TA} {name : Str} {apos Dr : Pos} {T id : String} {r : V -> List V -> Hp -> VK -> Prop}
theorem Yg (pa : PlainAttrs T) (slot : Slot T name id) (hty : typeOf (.builtin id) = pure (.type "method_descriptor")) (hm : MtR X id r) (ho : PE X o to)
   (oj : attributeBase o name X.env (eval o X.env) = eval o X.env := by rfl) (hline : (apos.endLine == Dr.line) = true := by rfl) : PE X (.Call (.Attribute o name apos) [] [] Dr) (aev X.K T r to) := by
 intro pins s σ H Q I h
 refine wpAny_Call_method0_late oj hline (cN (ho pins s σ H _ I h) fun v s1 zz => ?_)
 obtain ⟨x, H1, I1, r1, ty, q1⟩ := zz
 obtain ⟨h1, h2⟩ := PB I1 r1 ty
 exact ⟨T, id, pa, slot, hty, h1, h2, Calls.callWith_builtin rfl (PySem.evalArgs_none (hm pins s1 σ H1 x [] v [] Q I1 r1 .nil q1))⟩
theorem PD (pa : PlainAttrs T) (slot : Slot T name id) (hty : typeOf (.builtin id) = pure (.type "method_descriptor")) (hm : MtR X id r) (ho : PE X o to) (ha : PA X (e :: es) t)
   (oj : attributeBase o name X.env (eval o X.env) = eval o X.env := by rfl)
   (Ds : ((backTo Dr (starEach (e :: es) X.env)).all (fun x => !x.1) && (backToKw Dr (keywordEach [] X.env)).all (fun x => x.1.isSome)
     && decide ((e :: es).length + ([] : List Keyword).length + (if ([] : List Keyword).isEmpty then 0 else 1) < 30)) = true := by rfl)
   (hline : (apos.endLine == Dr.line) = true := by rfl) (hs : starEach (e :: es) X.env = (false, eval e X.env) :: starEach es X.env := by rfl) (Yh : (backTo Dr (starEach es X.env)).any (·.1) = false := by rfl) :
   PE X (.Call (.Attribute o name apos) (e :: es) [] Dr) (tBM X.K T r to t) := by
 intro pins s σ H Q I h
 refine wpAny_Call_method_late oj Ds hline rfl (cN (ho pins s σ H _ I h) fun v s1 zz => ?_)
 obtain ⟨x, H1, I1, r1, ty, q1⟩ := zz
 obtain ⟨h1, h2⟩ := PB I1 r1 ty
 refine ⟨T, id, pa, slot, hty, h1, h2, ?_⟩
 have hA := ha Dr pins s1 σ H1 _ I1 q1
 rw [hs] at hA ⊢
 refine Calls.callWith_builtin (by show (false || (backTo Dr (starEach es X.env)).any (·.1)) = false; rw [Yh] <;> rfl) (Calls.evalArgs_plain ?_)
 exact cN hA fun us s2 ⟨vs, H2, I2, r2, q2⟩ => hm pins s2 σ H2 x vs v us Q I2 r1 r2 q2
end
noncomputable def MtM (X : Cx) (id : String) (r : V -> List V -> Hp -> VK -> Prop) : Prop :=
 ∀ (pins : List (Addr × Obj)) (s : Shared) (σ : St) (H : Hp) (x : V) (xs : List V) (v : Value) (us : List Value) (Q : VK), Inv X pins σ H s -> RelV x v -> Vals xs us -> r x xs H Q →
   wpAny (model X.prog X.w) X.A (call (.builtin id) (v :: us)) (EP X pins σ Q) X.xe s
theorem Vals.one {x : V} {us : List Value} (h : Vals [x] us) : ∃ u, us = [u] /\ RelV x u := by
 cases h with
 | cons r h => cases h; exact ⟨_, rfl, r⟩
theorem Vals.zero : ∀ {us : List Value}, Vals [] us -> us = []
 | _, .nil => rfl
theorem Vals.dropLast {xs : List V} {us : List Value} (h : Vals xs us) : Vals xs.dropLast us.dropLast := by
 induction h with
 | nil => exact .nil
 | cons r t ih =>
   cases t with
   | nil => exact .nil
   | cons q t' => exact .cons r ih
theorem Vals.rep {xs : List V} {us : List Value} (h : Vals xs us) : ∀ k : Nat, Vals (List.replicate k xs).flatten (List.replicate k us).flatten
 | 0 => .nil
 | k + 1 => by
   rw [ajF, ajF, ajZ, ajZ]
   exact Vals.append h (Vals.rep h k)
theorem Ik {α : Type} (l : List α) : l.eraseIdx (l.length - 1) = l.dropLast := by
 induction l with
 | nil => rfl
 | cons a r ih =>
   cases r with
   | nil => rfl
   | cons b r =>
     have e : (a :: b :: r).length - 1 = ((b :: r).length - 1) + 1 := by
       have h1 : (a :: b :: r).length = r.length + 2 := rfl
       have h2 : (b :: r).length = r.length + 1 := rfl
       omega
     rw [e, List.eraseIdx_cons_succ, ih]
     all_goals rfl
theorem foldl_rep (its : List Value) : ∀ (k : Nat) (acc : List Value),
   List.foldl (fun x1 x2 => x1 ++ x2) acc.toArray (List.replicate k its.toArray) = (acc ++ (List.replicate k its).flatten).toArray
 | 0, acc => by simp
 | k + 1, acc => by
   have e : acc.toArray ++ its.toArray = (acc ++ its).toArray := by simp
   have e2 : (acc ++ its) ++ (List.replicate k its).flatten = acc ++ (List.replicate (k + 1) its).flatten := by
     rw [ajF, ajZ, ain]
   rw [← e2, ← foldl_rep its k (acc ++ its), ← e, ajF, List.foldl_cons]
section
variable {X : Cx} {pins : List (Addr × Obj)} {σ : St} {H : Hp} {s : Shared} {l : Addr} {xs ys : List V}
theorem Inv.Yi {its its' : List Value} {n : Nat} {f : Array Value -> Array Value} {t' : Nat} (I : Inv X pins σ H s) (hH : H l = some (.lst xs))
   (e : s.heap.get? l = some { cls := .type "list", data := .seq its.toArray n }) (hf : f its.toArray = its'.toArray) (hv : Vals ys its') (hz : ys.length <= sizeLine) :
   Inv X pins σ (upd H l (.lst ys)) { s with heap := s.heap.update l (Obj.mapSeq f), toks := t' } := by
 have q := PySem.IsL.update e f
 rw [hf] at q
 refine I.write (x := l) (e := l) (by rw [hH]; exact trivial) (.inl rfl) (fun b' u hb hu => (Heap.get?_update_other s.heap (Obj.mapSeq f) (aj2 hb)).trans hu) ⟨_, q⟩ ?_
 exact ⟨hz, its', _, hv, q⟩
theorem Inv.abS {its : List Value} {t' : Nat} (I : Inv X pins σ H s) (hv : Vals ys its) (hz : ys.length <= sizeLine) :
   Inv X pins σ (upd H s.heap.objs.size (.lst ys)) { s with heap := s.heap.push { cls := .type "list", data := .seq its.toArray }, toks := t' } :=
 I.laid (fun _ _ q => aiv _ q) (ait _) ⟨hz, its, 0, hv, aiR _ rfl⟩
theorem Inv.fresh (I : Inv X pins σ H s) : H s.heap.objs.size = none := I.dw.fresh (ait _)
theorem Inv.T9 (I : Inv X pins σ H s) (hH : H l = some (.lst xs)) : xs.length <= sizeLine /\ ∃ (its : List Value) (n : Nat), Vals xs its /\ xs.length = its.length /\ s.heap.get? l = some { cls := .type "list", data := .seq its.toArray n } := by
 obtain ⟨z, its, n, r, e⟩ := I.dw l _ hH
 exact ⟨z, its, n, r, r.length, e⟩
theorem F4 {n : Nat} (h : n <= sizeLine) : Builtin.List.listTooLong n = false := by
 unfold Builtin.List.listTooLong
 exact ai1 (by omega)
end
section
variable {X : Cx}
noncomputable def Ua : V -> List V -> Hp -> VK -> Prop := fun x vs H Q => ∃ l xs y, x = .ref l /\ vs = [y] /\ H l = some (.lst xs) /\ xs.length < sizeLine /\ Q .non (upd H l (.lst (xs ++ [y])))
theorem rZ : MtM X "list.append" Ua := by
 intro pins s σ H x vs v us Q I rx rv h
 obtain ⟨l, xs, y, rfl, rfl, hH, hz, q⟩ := h
 cases rx
 obtain ⟨u, rfl, ru⟩ := rv.one
 obtain ⟨z, its, n, r, hl, e⟩ := I.T9 hH
 refine call_meets F.slot_list_append ⟨_, e, rfl⟩ F.entry_list_append (F.args_list_append_2 _ _) (PySem.list_append l its.toArray n u (by rw [aiJ]; omega)) ⟨e, ?_⟩
 refine ⟨.non, _, I.Yi (its' := its ++ [u]) hH e (by simp) (r.append (.cons ru .nil)) ?_, rfl, q⟩
 rw [aiU, List.length_singleton]
 omega
noncomputable def Ub : V -> List V -> Hp -> VK -> Prop := fun x vs H Q => ∃ l b xs zs, x = .ref l /\ vs = [.ref b] /\ H l = some (.lst xs) /\ H b = some (.lst zs) /\ xs.length + zs.length <= sizeLine /\ Q .non (upd H l (.lst (xs ++ zs)))
theorem Mv : MtM X "list.extend" Ub := by
 intro pins s σ H x vs v us Q I rx rv h
 obtain ⟨l, b, xs, zs, rfl, rfl, hH, hB, hz, q⟩ := h
 cases rx
 obtain ⟨u, rfl, ru⟩ := rv.one
 cases ru
 obtain ⟨z, its, n, r, hl, e⟩ := I.T9 hH
 obtain ⟨z2, F5, n2, r2, hl2, e2⟩ := I.T9 hB
 have hsz : its.toArray.size + F5.toArray.size <= sizeLine := by rw [aiJ, aiJ]; omega
 have PF : ¬ (!its.toArray.isEmpty && Builtin.List.listTooLong (its.toArray.size + F5.toArray.size)) = true := by
   rw [F4 hsz, ajm]
   exact aiy
 refine call_meets F.slot_list_extend ⟨_, e, rfl⟩ F.entry_list_extend (F.args_list_extend_2 _ _)
   (AutoSeq1.list_extend_list_list_0 l its.toArray n b F5.toArray n2 PF (by rw [aiJ]; omega) (by omega)) ⟨e, e2, ?_⟩
 refine ⟨.non, _, I.Yi (its' := its ++ F5) hH e (by simp) (r.append r2) ?_, rfl, q⟩
 rw [aiU]
 omega
noncomputable def aez : V -> List V -> Hp -> VK -> Prop := fun x vs H Q => ∃ l xs y, x = .ref l /\ vs = [] /\ H l = some (.lst xs) /\ xs[xs.length - 1]? = some y /\ Q y (upd H l (.lst xs.dropLast))
theorem Yj : MtM X "list.pop" aez := by
 intro pins s σ H x vs v us Q I rx rv h
 obtain ⟨l, xs, y, rfl, rfl, hH, hy, q⟩ := h
 cases rx
 have hus := rv.zero
 subst hus
 obtain ⟨z, its, n, r, hl, e⟩ := I.T9 hH
 obtain ⟨u, hu, ru⟩ := r.get hy
 have Yk : its.toArray[its.toArray.size - 1]? = some u := by
   show its.toArray[its.length - 1]? = some u
   rw [← akf, ← hl]
   exact hu
 refine call_meets F.slot_list_pop ⟨_, e, rfl⟩ F.entry_list_pop (F.args_list_pop_1 _) (MeetsSeq.list_pop_last l its.toArray n u Yk (by rw [aiJ]; omega)) ⟨e, ?_⟩
 refine ⟨y, _, I.Yi (its' := its.dropLast) hH e ?_ r.dropLast ?_, ru, q⟩
 . show its.toArray.eraseIdxIfInBounds (its.toArray.size - 1) = its.dropLast.toArray
   rw [aiJ, List.eraseIdxIfInBounds_toArray, Ik]
 . rw [List.length_dropLast]
   omega
theorem len_rep {α : Type} (xs : List α) (k : Nat) : (List.replicate k xs).flatten.length = k * xs.length := by
 induction k with
 | zero => simp
 | succ k ih => rw [ajF, ajZ, aiU, ih, Nat.succ_mul, Nat.add_comm]
end
end L2
namespace Att
open PySem PySem.W PySem.Calls PyProof.Rows
theorem yH {P : Params} {h : Heap} : ∀ (ns : List Int) (vs : List Value), WellAll P h vs (ns.map WData.int) -> IntsAre vs ns := by
 intro ns
 induction ns with
 | nil =>
   intro vs w
   rw [List.map_nil] at w
   cases w
   exact .nil
 | cons n ns ih =>
   intro vs w
   rw [List.map_cons] at w
   cases w with
   | cons a b =>
     cases a
     exact .cons _ _ (ih _ b)
theorem Mw {l : OpenLaw} {n : Nat} (hn : l.most = some n) {P : Params} {h : Heap} {args : List WData} {vals : List Value}
   (Uc : l.row.toRowW.claim.pre args = true) (hwl : WellAll P h vals args) :
   ∃ a vs ns, vals = [Value.ref a] /\ args = [WData.list (ns.map WData.int)] /\ h.get? a = some { cls := .type "list", data := .seq vs.toArray } /\ IntsAre vs ns /\ ns.length <= n := by
 have hsh : WShape.hasAll [] args [.list .int] = true := (pre_splitW Uc).1
 have hc : l.pre.holds [] { args := args } = true := (pre_splitW Uc).2
 obtain ⟨d, r, rfl, h1, h2⟩ := hasAllW_cons hsh
 obtain rfl := hasAllW_nil h2
 obtain ⟨xs, rfl, h3⟩ := hasW_list h1
 obtain ⟨ns, rfl⟩ := items_int h3
 have hlen : ns.length <= n := by
   unfold OpenLaw.pre at hc
   have h4 : (WTm.not (.lt (.lit (.int (n : Int))) (.len (.arg 0)))).holds [] { args := [.list (ns.map .int)] } = true := by
     have h4 := (holds_andW hc).1
     rw [hn] at h4
     exact h4
   have h5 := condW_of h4 (w_not (w_lt w_lit (w_len_list (w_arg rfl))))
   rw [List.length_map] at h5
   refine Nat.le_of_not_lt fun q => ?_
   have q' : (n : Int) < ((ns.length : Nat) : Int) := by omega
   first
     | (rw [decide_eq_true q'] at h5; exact absurd h5 (by decide))
     | (simp at h5; omega)
 cases hwl with
 | cons w1 w2 =>
   cases w2
   cases w1 with
   | list ho Mx => exact ⟨_, _, ns, rfl, rfl, ho, yH ns _ Mx, hlen⟩
theorem My (l : OpenLaw) (args : List WData) : l.row.toRowW.claim.post args (.bool true) args = true :=
 postW_of (r := l.row.toRowW) (X := (true == true))
   (show WShape.has [] (.bool true) .bool = true by first | rfl | decide | simp [WShape.has, WShape.arms, WShape.armsAll])
   (show (WTm.eq .res (.lit (.bool true))).value [] { args := args, res := some (.bool true), after := args } = some (.bool (true == true)) from w_eq_bool (w_res rfl) w_lit) rfl
theorem F6 {l : OpenLaw} {n : Nat} {q : Program} {loose : List Str} {XP : (Str -> Option Value) -> Heap -> Prop} {YP : World -> Heap -> Prop} {d : DefRec}
   (hn : l.most = some n) (hdf : d.params.defaults = [])
   (call : ∀ (w : World) (s₀ s₁ : Shared) (mg mb : Str -> Option Value) (fa : Addr) (o : Obj) (pm cd doc : Value) (a : Addr) (vs : List Value) (ns : List Int),
     Ground q loose [] XP w s₀ mg mb s₁.heap -> YP w s₁.heap →
     s₁.heap.get? fa = some o -> o.data = .func (docDef d.name d.params d.body d.scope pm cd doc) -> s₁.heap.CodeRec cd d.name -> mg d.name = some (.ref fa) →
     s₁.heap.get? a = some { cls := .type "list", data := .seq vs.toArray } -> IntsAre vs ns -> ns.length <= n -> s₁.gens = #[] →
     codeAny (model l.prog w) callerA (.call (.ref fa) ⟨[.ref a], []⟩) (fun r s' => r = .ok (.ret (.bool true)) /\ OldK s₁.heap s'.heap /\ s'.os = s₁.os /\ AllBare s'.gens) s₁) :
   WalkO q loose XP YP l.row.toRowW d [] (fun f vs => PySem.call f vs) := by
 intro w s₀ s₁ mg mb G Y fa o pm cd doc dV kV ho hd oR hD hmg hg args vals as Uc hlay hrd hwl hlo
 obtain rfl : dV = .none := Dflts.none hD hdf
 obtain rfl : kV = .none := Dflts.noKw hD
 obtain ⟨a, vs, ns, rfl, rfl, Yl, hints, hlen⟩ := Mw hn Uc hwl
 refine enter_call (codeAny_mono (call w s₀ s₁ mg mb fa o pm cd doc a vs ns G Y ho (fd_plain hd) oR hmg Yl hints hlen hg) fun r s' hq => ?_)
 obtain ⟨rfl, h2, h3, h4⟩ := hq
 exact ⟨.inl ⟨.bool true, .bool true, [], rfl, fun _ => rfl, .bool true, My l _, fun _ => ⟨List.Pairwise.nil, fun _ hm => (nomatch hm)⟩⟩, h2, h3, h4⟩
section
noncomputable def ledger (h : Heap) (L d : Addr) : List (Addr × Obj) := (List.range h.objs.size).filterMap fun a => if a = L \/ a = d then none else (h.get? a).map fun o => (a, o)
end
end Att
namespace L2
open PySem PySem.Spec PyProof.Rows
theorem CJ : ∀ {vs : List Value} {ns : List Int}, IntsAre vs ns -> Vals (ns.map V.int) vs
 | _, _, .nil => .nil
 | _, _, .cons n t h => .cons ⟨t, rfl⟩ (CJ h)
noncomputable def Only (H : Hp) : Prop := ∀ b, H b = none \/ ∃ o xs, H b = some (.cu o (.lst xs))
theorem PJ {P : Program} {w : World} {K : PySem.W.Frag} {mg mb : Str -> Option Value} {CX : Pn} {k : Nat} {fa a : Addr} {fd : FuncData} {x : Str} {sp : Sp} {s₁ : Shared} {vs : List Value} {ns : List Int}
   (KX : K.In s₁.heap) (hns : s₁.heap.Ns mainGlobals mg) (hb : s₁.heap.Ns builtinsNs mb) (hbb : ∀ x : Str, x ≠ "__name__" -> mb x = bootBuiltins x) (aeB : s₁.heap.NoLimit) (hg : s₁.gens = #[])
   (ha : s₁.heap.get? a = some { cls := .type "list", data := .seq vs.toArray }) (hi : IntsAre vs ns) (hl : ns.length <= sizeLine) (hr : gA k callerA)
   (F : ∀ base : Heap, K.In base -> base.Ns mainGlobals mg -> iE P w K mg base CX k fa fd [x] sp) (abV : ∀ (s : Shared) (u : Value), BindsTo s fd ⟨[u], []⟩ [(x, u)])
   (WV : ∀ H : Hp, Only H -> qk K H a (ns.map V.int) -> sp [.ref a] H (fun v _ => v = .bl true) fun _ _ _ => False)
   (hCX : ∀ H e s', CX [] H s₁ (fun _ _ _ => False) e s' -> False) :
   codeAny (model P w) callerA (.call (.ref fa) ⟨[.ref a], []⟩) (fun r s' => r = .ok (.ret (.bool true)) /\ OldK s₁.heap s'.heap /\ s'.os = s₁.os /\ AllBare s'.gens) s₁ := by
 have rv := CJ hi
 have aeD := hi.length
 have core : ∀ H : Hp, Only H -> qk K H a (ns.map V.int) -> uP P w H s₁.heap -> (∀ b, H b ≠ none -> b = a) -> (H a ≠ none -> K.lookup a = none) →
     codeAny (model P w) callerA (.call (.ref fa) ⟨[.ref a], []⟩) (fun r s' => r = .ok (.ret (.bool true)) /\ OldK s₁.heap s'.heap /\ s'.os = s₁.os /\ AllBare s'.gens) s₁ := by
   intro H hO hS dw hA hK
   have KP : ∀ {b : Addr} {o : Obj}, s₁.heap.get? b = some o -> H b = none -> (Dd s₁.heap H).get? b = some o := fun e n => OX e n
   have noA : ∀ {b : Addr} {o : Obj} {es : Array DictEntry} {ep : Nat}, s₁.heap.get? b = some o -> o.data = .dict es ep -> H b = none := fun {b o es ep} e d => by
     cases q : H b with
     | none => rfl
     | some u =>
       have e' : b = a := hA b (by rw [q]; simp)
       subst e'
       rw [ha] at e; cases e
       have d' : Data.seq vs.toArray _ = Data.dict es ep := d
       cases d'
   have nsK : ∀ {b : Addr} {m : Str -> Option Value}, s₁.heap.Ns b m -> (Dd s₁.heap H).Ns b m := fun {b m} ⟨o, es, ep, e, d, r⟩ => ⟨o, es, ep, KP e (noA e d), d, r⟩
   have hKb : K.In (Dd s₁.heap H) := fun b o e => KP (KX b o e) (by
     cases q : H b with
     | none => rfl
     | some u =>
       have e' : b = a := hA b (by rw [q]; simp)
       subst e'
       rw [hK (by rw [q]; simp)] at e; cases e)
   have hM : Mod K mg (Dd s₁.heap H) := ⟨hKb, nsK hns, ⟨mb, nsK hb, hbb⟩, let ⟨mc, h1, h2⟩ := aeB; ⟨mc, nsK h1, h2⟩⟩
   have e0 : Cg P w K mg (Dd s₁.heap H) callerA [] s₁ H := ⟨rfl, hM, fun b o e => Tv e, Nat.le_of_eq (Mf _ _), trivial, fun b hb => absurd (show b ∈ ([] : List Addr) from hb) (by simp), dw, .of_eq hg⟩
   refine akm ((F _ hKb (nsK hns)).run callerA [] s₁ H ⟨[.ref a], []⟩ [.ref a] [.ref a] _ _ hr e0 (abV s₁ (.ref a)) (.cons rfl .nil) (WV H hO hS)) fun r s' h => ?_
   cases r with
   | error e => exact (hCX H e s' h).elim
   | ok fl =>
     cases fl with
     | next => exact False.elim h
     | brk => exact False.elim h
     | cont => exact False.elim h
     | ret u =>
       obtain ⟨v, H', os, bare, un, aeE, r', q⟩ := h
       have q' : v = .bl true := q
       subst q'
       obtain rfl : u = Value.bool true := r'
       refine ⟨rfl, OldK.of_keep fun b o e => ?_, os, bare⟩
       cases q : H b with
       | none => exact un.keep b o e q (by intro z; exact absurd (show b ∈ ([] : List Addr) from z) (by simp)) (by simp)
       | some u =>
         rcases hO b with z | ⟨ob, xs, z⟩
         . rw [q] at z; cases z
         . have z2 := un.kD b ob _ z
           obtain ⟨e1, _⟩ := dw b _ z
           obtain ⟨e2, _⟩ := aeE b _ z2
           rw [e] at e1; cases e1
           exact e2
 cases hk : K.lookup a with
 | some o =>
   have e := KX a o hk
   rw [ha] at e
   cases e
   refine core (fun _ => none) (fun _ => .inl rfl) (.inr ⟨_, vs.toArray, _, hk, rfl, rfl, rfl, by rw [List.size_toArray, aeD]; exact hl, by simpa using rv⟩) (fun b u z => by have z' : (none : Option HO) = some u := z; cases z') (fun b z => absurd rfl z) fun z => absurd rfl z
 | none =>
   refine core (fun b => if b = a then some (.cu { cls := .type "list", data := .seq vs.toArray } (.lst (ns.map V.int))) else none) (fun b => ?_) (.inl (.inr ⟨{ cls := .type "list", data := .seq vs.toArray }, aiC rfl⟩)) (fun b u z => ?_) (fun b z => ?_) fun _ => hk
   . by_cases hb : b = a
     . exact .inr ⟨_, _, aiC hb⟩
     . exact .inl (aiu hb)
   . by_cases hb : b = a
     . have z' := (aiC hb).symm.trans z
       cases z'
       subst hb
       exact ⟨ha, by rw [aio]; exact hl, vs, _, rv, ha⟩
     . have z' := (aiu hb).symm.trans z
       cases z'
   . by_cases hb : b = a
     . exact hb
     . exact absurd (aiu hb) z
theorem Ud {l : PySem.W.OpenLaw} {n k : Nat} {q : Program} {loose : List Str} {XP : (Str -> Option Value) -> Heap -> Prop} {YP : World -> Heap -> Prop} {d : DefRec} {K : Params -> PySem.W.Frag} {CX : World -> Pn} {sp : World -> Sp} {x : Str}
   (hn : l.most = some n) (hn2 : n <= sizeLine) (hdf : d.params.defaults = []) (hr : gA k callerA)
   (hY : ∀ (w : World) (h : Heap), YP w h -> (K w.params).In h)
   (F : ∀ (w : World) (mg : Str -> Option Value) (fa : Addr) (h : Heap), (K w.params).In h -> h.Ns mainGlobals mg -> mg d.name = some (.ref fa) →
     ∃ fd : FuncData, (∀ (s : Shared) (u : Value), BindsTo s fd ⟨[u], []⟩ [(x, u)]) ∧
       ∀ base : Heap, (K w.params).In base -> base.Ns mainGlobals mg -> iE l.prog w (K w.params) mg base (CX w) k fa fd [x] (sp w))
   (WV : ∀ (w : World) (H : Hp) (a : Addr) (ns : List Int), ns.length <= n -> Only H -> qk (K w.params) H a (ns.map V.int) -> sp w [.ref a] H (fun v _ => v = .bl true) fun _ _ _ => False)
   (hCX : ∀ (w : World) (H : Hp) (s : Shared) (e : Value) (s' : Shared), CX w [] H s (fun _ _ _ => False) e s' -> False) :
   PySem.W.WalkO q loose XP YP l.row.toRowW d [] (fun f vs => PySem.call f vs) := by
 refine Att.F6 hn hdf fun w s₀ s₁ mg mb fa o pm cd doc a vs ns G Y ho hd oR hmg Yl hints hlen hg => ?_
 have KX := hY w _ Y
 obtain ⟨fd, hb, hF⟩ := F w mg fa _ KX G.T.g hmg
 exact PJ KX G.T.g G.T.b G.T.builtins G.T.nolimit hg Yl hints (aje hlen hn2) hr hF hb (fun H hO hS => WV w H a ns hlen hO hS) fun H e s' => hCX w H s₁ e s'
noncomputable def inClass (s : Stmt) (j : Nat) : Stmt := match s with
 | .ClassDef _ _ _ body _ _ _ _ _ _ _ => body.getD j (.Pass ⟨0, 0, 0, 0⟩)
 | _ => .Pass ⟨0, 0, 0, 0⟩
noncomputable def uW (s : Stmt) : Arguments := match s with
 | .FunctionDef _ a _ _ _ _ _ _ _ _ => a
 | _ => { posonlyargs := [], args := [], vararg := none, kwonlyargs := [], kw_defaults := [], kwarg := none, defaults := [] }
noncomputable def dU (s : Stmt) : List Stmt := match s with
 | .FunctionDef _ _ b _ _ _ _ _ _ _ => b
 | _ => []
noncomputable def ak (s : Stmt) : Scope := match s with
 | .FunctionDef _ _ _ _ _ _ sc _ _ _ => sc
 | _ => { kind := .function, names := [], isGenerator := false, isCoroutine := false }
noncomputable abbrev uQ : Pn := fun _ _ _ _ _ _ => False
noncomputable abbrev E0 : XK := fun _ _ _ => False
theorem CK {X : Cx} : Passes uQ X E0 := fun _ _ _ _ _ _ _ h => h.elim
structure nL (K : PySem.W.Frag) (x qual : Str) (st : Stmt) (f : Addr) (fd : FuncData) : Prop where
 ex : ∃ (oc : Value) (od : Option Addr) (kV doc pm : Value) (an : Option Addr) (kh ct : Value) (T7 : Array (Option Value)),
   fd = PySem.W.fnOf x qual (uW st) (dU st) (ak st) .none kV doc pm an kh ct /\ K.lookup f = some ⟨oc, od, .func fd, T7⟩ /\ PySem.W.codeIn K kh qual = true
 kp : PySem.W.keepIn K (.ref f) = true
section
variable {P : Program} {w : World} {K : PySem.W.Frag} {mg : Str -> Option Value} {base : Heap}
theorem nL.ok {x qual : Str} {st : Stmt} {f : Addr} {fd : FuncData} {N ps : List Str} {k : Nat} {sp : Sp} (F : nL K x qual st f fd) (S : aM N ps (ak st)) (len : ∀ vs H Q E, sp vs H Q E -> vs.length = ps.length)
   (Pu : ∀ (kh : Value) (A : Around) (outer : List Env) (s : Shared) (H : Hp) (vs : List V) (Q : VK) (E : XK), gA k (A.deeper (envOfC qual (ak st) s.heap.objs.size f kh)) -> sp vs H Q E →
     ∃ t, Ks (zY uQ P w K mg base N qual (ak st) f kh A outer s H E).TJ (dU st) t /\ t { nx := fun _ H' => Q .non H', rt := Q } (start N vs) H) : iE P w K mg base uQ (k + 1) f fd ps sp := by
 obtain ⟨oc, od, kV, doc, pm, an, kh, ct, T7, rfl, lk, oR⟩ := F.ex
 refine abP lk oR S len fun A outer s H vs Q E hr WV => ?_
 obtain ⟨t, h, q⟩ := Pu kh A outer s H vs Q E hr WV
 exact ⟨t, h.TJ, q⟩
theorem nL.binds {x qual : Str} {st : Stmt} {f : Addr} {fd : FuncData} {ps : List Str} (F : nL K x qual st f fd)
   (h : ∀ (kV doc pm : Value) (an : Option Addr) (kh ct : Value) (us : List Value), us.length = ps.length -> bindArgs (PySem.W.fnOf x qual (uW st) (dU st) (ak st) .none kV doc pm an kh ct) ⟨us, []⟩ = pure (ps.zip us)) : Binds K fd ps [] := by
 obtain ⟨oc, od, kV, doc, pm, an, kh, ct, T7, rfl, lk, oR⟩ := F.ex
 exact .all (h kV doc pm an kh ct)
theorem bS {x qual : Str} {st : Stmt} {f : Addr} {oc : Value} {od an : Option Addr} {T7 : Array (Option Value)} {kV doc pm kh ct : Value} (l : K.lookup f = some ⟨oc, od, .func (PySem.W.fnOf x qual (uW st) (dU st) (ak st) .none kV doc pm an kh ct), T7⟩)
   (c : PySem.W.codeIn K kh qual = true) (k : PySem.W.keepIn K (.ref f) = true) : nL K x qual st f (PySem.W.fnOf x qual (uW st) (dU st) (ak st) .none kV doc pm an kh ct) := ⟨⟨oc, od, kV, doc, pm, an, kh, ct, T7, rfl, l, c⟩, k⟩
end
theorem cU {n : Nat} (h : n <= 1000) : n < sizeLine := ajH h (by decide)
theorem Il {A B : Prop} (h : B) : if false = true then A else B := by
 rw [aiu aiy]
 exact h
theorem Im {A B : Prop} (h : A) : if true = true then A else B := by
 rw [aiC rfl]
 exact h
noncomputable def aB (H H' : Hp) : Prop := ∀ b o, H b = some o -> H' b = some o
theorem aB.refl (H : Hp) : aB H H := fun _ _ h => h
theorem aB.trans {H H1 H2 : Hp} (a : aB H H1) (b : aB H1 H2) : aB H H2 := fun c o h => b c o (a c o h)
theorem aB.free {H H' : Hp} (e : aB H H') {l : Addr} (h : H' l = Option.none) : H l = Option.none := by
 cases q : H l with
 | none => rfl
 | some o =>
   rw [e l o q] at h
   cases h
theorem aB.seq {K : PySem.W.Frag} {H H' : Hp} {a : Addr} {xs : List V} (e : aB H H') (h : qk K H a xs) : qk K H' a xs := by
 rcases h with (h | ⟨o, h⟩) | h
 . exact .inl (.inl (e _ _ h))
 . exact .inl (.inr ⟨o, e _ _ h⟩)
 . exact .inr h
section
variable {κ : Type} [DecidableEq κ]
noncomputable def iL (kvs : List (κ × V)) (k : κ) : Option V := (kvs.find? fun kv => decide (kv.1 = k)).map (·.2)
noncomputable def putK (kvs : List (κ × V)) (k : κ) (v : V) : List (κ × V) :=
 if (kvs.any fun kv => decide (kv.1 = k)) = true then kvs.map (fun kv => if kv.1 = k then (kv.1, v) else kv) else kvs ++ [(k, v)]
theorem om {p : κ × V} {r : List (κ × V)} {k : κ} (e : p.1 = k) : iL (p :: r) k = some p.2 := by simp [iL, ajE, e]
theorem lY {p : κ × V} {r : List (κ × V)} {k : κ} (e : ¬ p.1 = k) : iL (p :: r) k = iL r k := by simp [iL, ajE, e]
theorem uX (k : κ) : ∀ kvs : List (κ × V), (kvs.any fun kv => decide (kv.1 = k)) = (iL kvs k).isSome
 | [] => rfl
 | p :: r => by
   rw [ajA]
   by_cases e : p.1 = k
   . simp only [om e, aiA e, Bool.true_or, Option.isSome_some]
   . rw [lY e, ai1 e, Bool.false_or]; exact uX k r
theorem ym (kvs : List (κ × V)) (k : κ) (v : V) : (putK kvs k v).length <= kvs.length + 1 := by
 unfold putK
 split
 . rw [aio]; omega
 . rw [aiU, ai7, List.length_nil]; omega
theorem PK {kvs : List (κ × V)} {k : κ} (v : V) (h : iL kvs k = none) : putK kvs k v = kvs ++ [(k, v)] := by
 unfold putK
 rw [uX, h]
 exact aiu (by decide)
theorem sS.r6 {o : Option V} {u : Option Value} (r : sS o u) : o.isSome = u.isSome := by
 cases o with
 | none => cases u with
   | none => rfl
   | some _ => exact (show False from r).elim
 | some _ => cases u with
   | none => exact (show False from r).elim
   | some _ => rfl
theorem sS.getD {o : Option V} {u : Option Value} {d : V} {d' : Value} (r : sS o u) (rd : RelV d d') : RelV (o.getD d) (u.getD d') := by
 cases o with
 | none => cases u with
   | none => exact rd
   | some _ => exact (show False from r).elim
 | some _ => cases u with
   | none => exact (show False from r).elim
   | some _ => exact r
theorem KV.val {kvs : List (κ × V)} {vs : List (κ × Value)} (r : KV kvs vs) (k : κ) : sS (iL kvs k) (valueAt vs k) := by
 unfold KV at r
 induction r with
 | nil => exact True.intro
 | @cons p q ps qs h t ih =>
   obtain ⟨h1, h2⟩ := h
   by_cases e : p.1 = k
   . have e' : q.1 = k := h1.symm.trans e
     have b : valueAt (q :: qs) k = some q.2 := by simp [valueAt, ajE, e']
     rw [om e, b]; exact h2
   . have e' : ¬ q.1 = k := fun z => e (h1.trans z)
     have b : valueAt (q :: qs) k = valueAt qs k := by simp [valueAt, ajE, e']
     rw [lY e, b]; exact ih
theorem KV.any {kvs : List (κ × V)} {vs : List (κ × Value)} (r : KV kvs vs) (k : κ) : (kvs.any fun kv => decide (kv.1 = k)) = vs.any fun kv => decide (kv.1 = k) := by
 unfold KV at r
 induction r with
 | nil => rfl
 | cons h t ih => rw [ajA, ajA, ih, h.1]
theorem KV.repl {kvs : List (κ × V)} {vs : List (κ × Value)} (r : KV kvs vs) (k : κ) {y : V} {u : Value} (ry : RelV y u) :
   KV (kvs.map fun kv => if kv.1 = k then (kv.1, y) else kv) (vs.map fun kv => if kv.1 = k then (kv.1, u) else kv) := by
 unfold KV at r ⊢
 induction r with
 | nil => exact .nil
 | @cons p q ps qs h t ih =>
   rw [aiB, aiB]
   refine .cons ?_ ih
   obtain ⟨h1, h2⟩ := h
   by_cases e : p.1 = k
   . rw [aiC e, aiC (h1.symm.trans e)]; exact ⟨h1, ry⟩
   . rw [aiu e, aiu (fun z => e (h1.trans z))]; exact ⟨h1, h2⟩
theorem KV.put {kvs : List (κ × V)} {vs : List (κ × Value)} (r : KV kvs vs) (k : κ) {y : V} {u : Value} (ry : RelV y u) : KV (putK kvs k y) (stored vs k u) := by
 unfold putK stored
 rw [r.any k]
 by_cases e : (vs.any fun kv => decide (kv.1 = k)) = true
 . rw [aiC e, aiC e]; exact r.repl k ry
 . rw [aiu e, aiu e]; exact Paired.snoc r ⟨rfl, ry⟩
theorem KV.length {kvs : List (κ × V)} {vs : List (κ × Value)} (r : KV kvs vs) : kvs.length = vs.length := aj7 r
end
theorem KQ {P : Program} {w : World} {k : Key} {u : Value} (r : RelV (kV k) u) : (fE P w).is k u = true := by
 cases k with
 | inl i => obtain ⟨t, e⟩ := (show ∃ t, u = Value.int i t from r); subst e; exact FI P w i t
 | inr x => obtain ⟨t, e⟩ := (show ∃ t, u = Value.str x t from r); subst e; exact FJ P w x t
theorem wX {P : Program} {w : World} : ∀ {ks : List Key} {us : List Value}, Vals (ks.map kV) us -> ItemsAre (fE P w) ks us
 | [], _, r => by rw [List.map_nil] at r; cases r; exact .nil
 | k :: ks, _, r => by
   rw [aiB] at r
   cases r with
   | cons h t => exact .cons (KQ h) (wX t)
noncomputable abbrev KT (H : Hp) : List (List Key × V) -> List (List Key × Addr × Value) -> Prop := Paired fun p q => p.1 = q.1 /\ H q.2.1 = some (.tup (p.1.map kV)) /\ RelV p.2 q.2.2
theorem KT.val {H : Hp} {kvs : List (List Key × V)} {xs : List (List Key × Addr × Value)} (r : KT H kvs xs) (k : List Key) : sS (iL kvs k) ((atKey xs k).map (·.2)) := by
 induction r with
 | nil => exact True.intro
 | @cons p q ps qs h t ih =>
   obtain ⟨h1, _, h2⟩ := h
   by_cases e : p.1 = k
   . have e' : q.1 = k := h1.symm.trans e
     have b : atKey (q :: qs) k = some q.2 := by simp [atKey, ajE, e']
     rw [om e, b]; exact h2
   . have e' : ¬ q.1 = k := fun z => e (h1.trans z)
     have b : atKey (q :: qs) k = atKey qs k := by simp [atKey, ajE, e']
     rw [lY e, b]; exact ih
theorem KT.repl {H : Hp} {kvs : List (List Key × V)} {xs : List (List Key × Addr × Value)} (r : KT H kvs xs) (k : List Key) {y : V} {u : Value} (ry : RelV y u) :
   KT H (kvs.map fun kv => if kv.1 = k then (kv.1, y) else kv) (xs.map (putAt k u)) := by
 induction r with
 | nil => exact .nil
 | @cons p q ps qs h t ih =>
   rw [aiB, aiB]
   refine .cons ?_ ih
   obtain ⟨h1, h2, h3⟩ := h
   unfold putAt
   by_cases e : p.1 = k
   . rw [aiC e, aiC (h1.symm.trans e)]; exact ⟨h1, h2, ry⟩
   . rw [aiu e, aiu (fun z => e (h1.trans z))]; exact ⟨h1, h2, h3⟩
theorem KT.put {H : Hp} {kvs : List (List Key × V)} {xs : List (List Key × Addr × Value)} (r : KT H kvs xs) (k : List Key) {b : Addr} {y : V} {u : Value} (hb : H b = some (.tup (k.map kV))) (ry : RelV y u) :
   KT H (putK kvs k y) (storedH xs k b u) := by
 have e : (kvs.any fun kv => decide (kv.1 = k)) = (atKey xs k).isSome := by
   rw [uX, (r.val k).r6, akw]
 unfold putK storedH
 rw [e]
 by_cases q : (atKey xs k).isSome = true
 . rw [aiC q, aiC q]; exact r.repl k ry
 . rw [aiu q, aiu q]; exact Paired.snoc r ⟨rfl, hb, ry⟩
theorem KT.keeps {H H' : Hp} {kvs : List (List Key × V)} {xs : List (List Key × Addr × Value)} (r : KT H kvs xs) (ht : ∀ b ys, H b = some (.tup ys) -> H' b = some (.tup ys)) : KT H' kvs xs :=
 Paired.Xp r fun _ _ z => ⟨z.1, ht _ _ z.2.1, z.2.2⟩
section
variable {P : Program} {w : World} {H : Hp} {h : Heap} {a : Addr}
theorem PL {u : HO} (ok : uP P w H h) (e : Rd H a u) : dJ P w H h a u := e.ok ok
theorem KR {kvs : List (Key × V)} (ok : uP P w H h) (e : Rd H a (.dK kvs)) : kvs.length <= sizeLine /\ (a == sysModules) = false /\ ∃ vs, KV kvs vs /\ h.DictOf (fE P w) a vs :=
 show dJ P w H h a (.dK kvs) from PL ok e
theorem abW {kvs : List (Key × V)} (ok : uP P w H h) (e : H a = some (.dK kvs)) : kvs.length <= sizeLine /\ (a == sysModules) = false /\ ∃ vs, KV kvs vs /\ h.DictOf (fE P w) a vs := KR ok (.inl e)
theorem Dt {ks : List Key} (ok : uP P w H h) (e : H a = some (.tup (ks.map kV))) : (tupleKind (fE P w)).is h ks a := by
 obtain ⟨_, its, r, o, h1, h2, n, h3⟩ := (show dJ P w H h a (.tup (ks.map kV)) from ok a _ e)
 exact ⟨o, its.toArray, n, h1, h2, h3, by simpa using wX r⟩
theorem z9 {kvs : List (List Key × V)} (ok : uP P w H h) (e : Rd H a (.dT kvs)) : kvs.length <= sizeLine /\ (a == sysModules) = false ∧
   ∃ xs, KT H kvs xs /\ h.DictOfH (tupleKind (fE P w)) a xs := by
 obtain ⟨z, y, xs, r, o, es, ep, h1, h2, h3, h4, h5⟩ := (show dJ P w H h a (.dT kvs) from PL ok e)
 refine ⟨z, y, xs, r, o, es, ep, h1, h2, h3, h4, fun x hx => ?_, h5⟩
 have all : ∀ {l : List (List Key × V)} {m : List (List Key × Addr × Value)}, KT H l m -> ∀ x ∈ m, (tupleKind (fE P w)).is h x.1 x.2.1 := by
   intro l m q
   induction q with
   | nil => intro x hx; exact nomatch hx
   | @cons p q ps qs hq t ih =>
     intro x hx
     rcases aiw.mp hx with e | hx
     . subst e
       exact Dt ok (by rw [← hq.1]; exact hq.2.1)
     . exact ih x hx
 exact all r x hx
theorem WX {kvs : List (List Key × V)} (ok : uP P w H h) (e : H a = some (.dT kvs)) : kvs.length <= sizeLine /\ (a == sysModules) = false ∧
   ∃ xs, KT H kvs xs /\ h.DictOfH (tupleKind (fE P w)) a xs := z9 ok (.inl e)
end
noncomputable def yI (H : Hp) (a : Addr) (y : V) (r : Option V) : Prop :=
 (∃ kvs k, Rd H a (.dK kvs) /\ y = kV k /\ r = iL kvs k) \/ ∃ kvs k b, Rd H a (.dT kvs) /\ y = .ref b /\ H b = some (.tup (k.map kV)) /\ r = iL kvs k
noncomputable def Du (H : Hp) (a : Addr) (y v : V) (H' : Hp) : Prop :=
 (∃ kvs k, H a = some (.dK kvs) /\ y = kV k /\ kvs.length < sizeLine /\ H' = upd H a (.dK (putK kvs k v))) ∨
 ∃ kvs k b, H a = some (.dT kvs) /\ y = .ref b /\ H b = some (.tup (k.map kV)) /\ kvs.length < sizeLine /\ H' = upd H a (.dT (putK kvs k v))
theorem yI.k {H : Hp} {a : Addr} {kvs : List (Key × V)} {k : Key} (e : H a = some (.dK kvs)) : yI H a (kV k) (iL kvs k) := .inl ⟨kvs, k, .inl e, rfl, rfl⟩
theorem Du.k {H : Hp} {a : Addr} {kvs : List (Key × V)} {k : Key} {v : V} (e : H a = some (.dK kvs)) (hl : kvs.length < sizeLine) : Du H a (kV k) v (upd H a (.dK (putK kvs k v))) := .inl ⟨kvs, k, e, rfl, hl, rfl⟩
theorem Du.t {H : Hp} {a b : Addr} {kvs : List (List Key × V)} {k : List Key} {v : V} (e : H a = some (.dT kvs)) (eb : H b = some (.tup (k.map kV))) (hl : kvs.length < sizeLine) :
   Du H a (.ref b) v (upd H a (.dT (putK kvs k v))) := .inr ⟨kvs, k, b, e, rfl, eb, hl, rfl⟩
section
variable {X : Cx} {pins : List (Addr × Obj)} {σ : St} {H : Hp} {s : Shared} {a : Addr} {y v : V} {u r : Value} {o : Option V} {A : Around} {E : Value -> Shared -> Prop}
theorem Inv.big (I : Inv X pins σ H s) : sysModules < s.heap.objs.size := by
 have h : mainGlobals < s.heap.objs.size := (I.mod.glob.keeps I.bk).lt
 exact Nat.lt_trans (by decide) h
theorem Mz {Q : Value -> Shared -> Prop} (hu : A.units + 1 < cLine) (I : Inv X pins σ H s) (g : yI H a y (some v)) (ry : RelV y u) (h : ∀ w' s', Inv X pins σ H s' -> RelV v w' -> Q w' s') :
   wpAny (model X.prog X.w) A (getItem (.ref a) u) Q E s := by
 rcases g with ⟨kvs, k, e, ey, l⟩ | ⟨kvs, k, b, e, ey, eb, l⟩
 . subst ey
   obtain ⟨z, hd, vs, rel, dd⟩ := KR I.dw e
   obtain ⟨w', hw, F3⟩ := sS.some_of (v := v) (o := valueAt vs k) (by rw [l]; exact rel.val k)
   exact wpAny_getItem_of (KQ ry) dd.mapOf hw (h w' _ (I.tok _) F3)
 . subst ey
   cases (show u = Value.ref b from ry)
   obtain ⟨z, hd, xs, rel, dd⟩ := z9 I.dw e
   obtain ⟨w', hw, F3⟩ := sS.some_of (v := v) (o := (atKey xs k).map (·.2)) (by rw [l]; exact rel.val k)
   obtain ⟨p, hp, hp2⟩ := aiH.mp hw
   refine wpAny_getItem_heap (aka hu) (Dt I.dw eb) dd hp ?_
   rw [hp2]
   exact h w' _ (I.tok _) F3
theorem aeG {Q : Value -> Shared -> Prop} (hu : A.units + 1 < cLine) (I : Inv X pins σ H s) (g : yI H a y o) (ry : RelV y u) (h : ∀ s', Inv X pins σ H s' -> Q (.bool o.isSome) s') :
   wpAny (model X.prog X.w) A (compareOp .In u (.ref a)) Q E s := by
 rcases g with ⟨kvs, k, e, ey, l⟩ | ⟨kvs, k, b, e, ey, eb, l⟩
 . subst ey
   obtain ⟨z, hd, vs, rel, dd⟩ := KR I.dw e
   refine wpAny_in_of (KQ ry) hd dd.mapOf ?_
   rw [← (rel.val k).r6, ← l]
   exact h _ (I.tok _)
 . subst ey
   cases (show u = Value.ref b from ry)
   obtain ⟨z, hd, xs, rel, dd⟩ := z9 I.dw e
   refine wpAny_in_heap (aka hu) (Dt I.dw eb) hd dd ?_
   have q := (rel.val k).r6
   rw [akw] at q
   rw [← q, ← l]
   exact h _ (I.tok _)
theorem Dv {h' : Heap} {t' : Nat} {ob : HO} (I : Inv X pins σ H s) (mu : Mut (H a)) (hs : Heap.SameBut a s.heap h') (he : ∃ q, h'.get? a = some q) (new : dJ X.prog X.w (upd H a ob) h' a ob) :
   Inv X pins σ (upd H a ob) { s with heap := h', toks := t' } :=
 I.write (x := a) (e := a) mu (.inl rfl) (fun b q hb z => (hs.2 b hb).trans z) he new
theorem Ym {P : Program} {w : World} {H' : Hp} {h' : Heap} {kvs : List (Key × V)} {vs : List (Key × Value)} (z : kvs.length <= sizeLine) (hd : (a == sysModules) = false) (rel : KV kvs vs) (dd : h'.DictOf (fE P w) a vs) :
   dJ P w H' h' a (.dK kvs) := ⟨z, hd, vs, rel, dd⟩
theorem MA {H' : Hp} {Q : Unit -> Shared -> Prop} (hu : A.units + 1 < cLine) (I : Inv X pins σ H s) (g : Du H a y v H') (ry : RelV y u) (rv : RelV v r) (h : ∀ s', Inv X pins σ H' s' -> Q () s') :
   wpAny (model X.prog X.w) A (setItem (.ref a) u r) Q E s := by
 rcases g with ⟨kvs, k, e, ey, l, eH⟩ | ⟨kvs, k, b, e, ey, eb, l, eH⟩
 . subst ey eH
   obtain ⟨z, hd, vs, rel, dd⟩ := abW I.dw e
   have hz : vs.length <= sizeLine := by rw [← rel.length]; exact z
   have hl : (putK kvs k v).length <= sizeLine := by have := ym kvs k v; omega
   refine wpAny_setItem_pairs (hsz := hz) (KQ ry) dd fun h' dd' hs => h _ ?_
   have he : ∃ q, h'.get? a = some q := let ⟨q, _, _, hq, _⟩ := dd'; ⟨q, hq⟩
   exact Dv I (by rw [e]; exact True.intro) hs he (Ym hl hd (rel.put k rv) dd')
 . subst ey eH
   cases (show u = Value.ref b from ry)
   obtain ⟨z, hd, xs, rel, dd⟩ := WX I.dw e
   have hz : xs.length <= sizeLine := by rw [← aj7 rel]; exact z
   have hl : (putK kvs k v).length <= sizeLine := by have := ym kvs k v; omega
   refine wpAny_setItem_heap (hsz := hz) (aka hu) (Dt I.dw eb) dd fun h' dd' hs => h _ ?_
   obtain ⟨q, es, ep, hq, h2, h3, h4, _, h5⟩ := dd'
   refine Dv I (by rw [e]; exact True.intro) hs ⟨q, hq⟩ ⟨hl, hd, _, (rel.put k eb rv).keeps fun c ys ec => ?_, q, es, ep, hq, h2, h3, h4, h5⟩
   rw [aj (WG ec e (fun z => nomatch z))]
   exact ec
end
noncomputable def MB (i : Expr) : Prop := ∀ ov iv, subscripted i false ov iv = operate [ov, iv] (getItem ov iv)
theorem KS {prog : Program} {w : World} {A : Around} {E : Value -> Shared -> Prop} {s : Shared} {env : Env} {value slice : Expr} {pos : Pos} {T id : String} {Q : Value -> Shared -> Prop}
   (hl : typeLookup (.type T) "__getitem__" = pure (some (.builtin id))) (hs : MB slice)
   (h : wpAny (model prog w) A (eval value env) (fun o s₁ => wpAny (model prog w) A (eval slice env) (fun i s₂ => s₂.TypeIs o T /\ wpAny (model prog w) A (getItem o i) Q E s₂) E s₁) E s) :
   wpAny (model prog w) A (eval (.Subscript value slice pos) env) Q E s := by
 refine Subscript_ (ajB h (fun o s₁ h₁ => ajB h₁ (fun i s₂ h₂ => ?_) fun _ _ x => x) fun _ _ x => x)
 obtain ⟨hT, h₂⟩ := h₂
 unfold subscriptTail
 refine aim ?_
 rw [getitemInPython_of_ne hT.not_modules]
 refine aim (wpAny_specialOf hT hl ?_)
 have fin : wpAny (model prog w) A (subscripted slice false o i) (fun r s₃ => wpAny (model prog w) A (letTemporaryGo value o r >>= fun _ => pure r) Q E s₃) E s₂ := by
   rw [hs o i]
   exact wpAny_operating (ajB h₂ (fun r s₃ h₃ => aim (wpAny_letTemporaryGo (aiz h₃))) fun _ _ x => x)
 first
   | exact aiz (aim fin)
   | exact aim (aiz (aim fin))
   | exact aim fin
theorem F7 {X : Cx} {pins : List (Addr × Obj)} {σ : St} {H : Hp} {s : Shared} {a : Addr} {y : V} {o : Option V} (I : Inv X pins σ H s) (g : yI H a y o) : s.TypeIs (.ref a) "dict" := by
 rcases g with ⟨kvs, k, e, _, _⟩ | ⟨kvs, k, b, e, _, _, _⟩
 . obtain ⟨_, _, vs, _, dd⟩ := KR I.dw e
   exact dd.typeIs
 . obtain ⟨_, _, xs, _, dd⟩ := z9 I.dw e
   exact dd.typeIs
noncomputable def abX (td ty : TE) : TE := fun σ H Q => td σ H fun x H1 => ty σ H1 fun y H2 => ∃ a v, x = .ref a /\ yI H2 a y (some v) /\ Q v H2
noncomputable def aeH (ty td : TE) : TE := fun σ H Q => ty σ H fun y H1 => td σ H1 fun x H2 => ∃ a o, x = .ref a /\ yI H2 a y o /\ Q (.bl o.isSome) H2
noncomputable def abY (td ty tv : TE) : TS := fun D σ H => tv σ H fun v H1 => td σ H1 fun x H2 => ty σ H2 fun y H3 => ∃ a H4, x = .ref a /\ Du H3 a y v H4 /\ D.nx σ H4
section
variable {X : Cx} {o i value : Expr} {pos pos' : Pos} {td ty tv : TE}
theorem KW (hu : X.A.units + 1 < cLine) (ho : PE X o td) (hi : PE X i ty) (hs : MB i) : PE X (.Subscript o i pos) (abX td ty) := by
 intro pins s σ H Q I h
 refine KS PySem.F.slot_dict_getitem.lookup hs (cN (ho pins s σ H _ I h) fun u s1 ⟨x, H1, I1, rx, q1⟩ => cN (hi pins s1 σ H1 _ I1 q1) fun iv s2 zz => ?_)
 obtain ⟨y, H2, I2, ry, a, v, ex, g, q2⟩ := zz
 subst ex
 obtain rfl : u = Value.ref a := rx
 exact ⟨F7 I2 g, Mz hu I2 g ry fun w' s3 I3 F3 => ⟨v, H2, I3, F3, q2⟩⟩
theorem Yn (hu : X.A.units + 1 < cLine) (hi : PE X i ty) (ho : PE X o td) : PC X .In i o (aeH ty td) := by
 intro pins s σ H Q I h
 refine cN (hi pins s σ H _ I h) fun iv s1 ⟨y, H1, I1, ry, q1⟩ => cN (ho pins s1 σ H1 _ I1 q1) fun u s2 zz => ?_
 obtain ⟨x, H2, I2, rx, a, ov, ex, g, q2⟩ := zz
 subst ex
 obtain rfl : u = Value.ref a := rx
 exact aeG hu I2 g ry fun s3 I3 => ⟨.bl ov.isSome, H2, I3, rfl, q2⟩
theorem Dw (hu : X.A.units + 1 < cLine) (ho : PE X o td) (hi : PE X i ty) (hv : PE X value tv) (hs : swapsWith value (some (.Subscript o i pos')) pos.line X.env = pure false) :
   PS X (.Assign [.Subscript o i pos'] value pos) (abY td ty tv) := by
 intro pins s σ H D I h
 refine wpAny_Assign_Subscript (cN (hv pins s σ H _ I h) fun r s1 ⟨v, H1, I1, rv, q1⟩ => cN (ho pins s1 σ H1 _ I1 q1) fun u s2 ⟨x, H2, I2, rx, q2⟩ => cN (hi pins s2 σ H2 _ I2 q2) fun iv s3 zz => ?_) hs
 obtain ⟨y, H3, I3, ry, a, H4, ex, g, q3⟩ := zz
 subst ex
 obtain rfl : u = Value.ref a := rx
 exact MA hu I3 g ry rv fun s4 I4 => ⟨σ, H4, I4, q3⟩
end
theorem PN {P : Program} {w : World} {H : Hp} (h : Heap) (hb : sysModules < h.objs.size) : dJ P w H (h.push { cls := .type "dict", data := .dict #[] }) h.objs.size (.dK []) :=
 ⟨ai5 _, ajO.mpr (aj2 (aiX hb)), [], .nil, Heap.DictOf.new h⟩
theorem PR {P : Program} {w : World} {H : Hp} (h : Heap) (hb : sysModules < h.objs.size) : dJ P w H (h.push { cls := .type "dict", data := .dict #[] }) h.objs.size (.dT []) :=
 ⟨ai5 _, ajO.mpr (aj2 (aiX hb)), [], .nil, _, #[], 0, aiR _ rfl, ⟨rfl, rfl, rfl⟩, rfl, rfl, ajI⟩
noncomputable def Yo : TE := fun _ H Q => ∀ p, H p = none -> Q (.ref p) (upd H p (.dK []))
noncomputable def Yp : TE := fun _ H Q => ∀ p, H p = none -> Q (.ref p) (upd H p (.dT []))
section
variable {X : Cx} {pos : Pos}
theorem PV : PE X (.Dict [] [] pos) Yo := fun pins s σ H Q I h =>
 wpAny_Dict_empty ⟨.ref s.heap.objs.size, _, I.laid (a := s.heap.objs.size) (o := .dK []) (t' := s.toks) (fun _ _ q => aiv _ q) (ait _) (PN s.heap I.big), rfl, h _ (I.dw.fresh (ait _))⟩
theorem PX : PE X (.Dict [] [] pos) Yp := fun pins s σ H Q I h =>
 wpAny_Dict_empty ⟨.ref s.heap.objs.size, _, I.laid (a := s.heap.objs.size) (o := .dT []) (t' := s.toks) (fun _ _ q => aiv _ q) (ait _) (PR s.heap I.big), rfl, h _ (I.dw.fresh (ait _))⟩
end
end L2
namespace L3
open PySem PySem.Spec PyProof.Rows L2
inductive D where
 | non | bl (b : Bool) | int (i : Int) | str (x : Str)
 | tup (ds : List D) | lst (ds : List D) | ins (c : Str) (fs : List (Str × D)) | mY (kvs : List (Key × D))
 | dct (kvs : List (List Key × D))
 | any
 | val (v : V)
inductive T where
 | sh (d : D) | tup (ts : List T) | lst (ts : List T) | ins (c : Str) (fs : List (Str × T)) | mY (kvs : List (Key × D)) | dct (kvs : List (List Key × T))
 | pin (x : Addr) (t : T)
mutual
noncomputable def T.cu : T -> D
 | .sh d => d
 | .tup ts => .tup (kD ts)
 | .lst ts => .lst (kD ts)
 | .ins c fs => .ins c (mZ fs)
 | .mY kvs => .mY kvs
 | .dct kvs => .dct (uY kvs)
 | .pin _ t => t.cu
noncomputable def T.kD : List T -> List D
 | [] => []
 | t :: ts => t.cu :: T.kD ts
noncomputable def T.mZ : List (Str × T) -> List (Str × D)
 | [] => []
 | (x, t) :: fs => (x, t.cu) :: T.mZ fs
noncomputable def T.uY : List (List Key × T) -> List (List Key × D)
 | [] => []
 | (x, t) :: fs => (x, t.cu) :: T.uY fs
end
variable (K : PySem.W.Frag) (CL : Str -> Addr)
mutual
inductive aZ (Z : Hp) : D -> V -> Prop where
 | non : aZ Z .non .non
 | bl (b : Bool) : aZ Z (.bl b) (.bl b)
 | int (i : Int) : aZ Z (.int i) (.int i)
 | str (x : Str) : aZ Z (.str x) (.str x)
 | any (v : V) : aZ Z .any v
 | val (v : V) : aZ Z (.val v) v
 | tup {a : Addr} {vs : List V} {ds : List D} : qE K Z a vs -> aF Z ds vs -> aZ Z (.tup ds) (.ref a)
 | lst {a : Addr} {vs : List V} {ds : List D} : qk K Z a vs -> aF Z ds vs -> aZ Z (.lst ds) (.ref a)
 | ins {a dx : Addr} {c : Str} {gs : List (Str × V)} {fs : List (Str × D)} : Z a = some (.ins (CL c) dx gs) -> lZ Z fs gs -> aZ Z (.ins c fs) (.ref a)
 | mY {a : Addr} {gs : List (Key × V)} {fs : List (Key × D)} : Z a = some (.dK gs) -> bA Z fs gs -> aZ Z (.mY fs) (.ref a)
 | dct {a : Addr} {gs : List (List Key × V)} {fs : List (List Key × D)} : Rd Z a (.dT gs) -> fM Z fs gs -> aZ Z (.dct fs) (.ref a)
inductive aF (Z : Hp) : List D -> List V -> Prop where
 | nil : aF Z [] []
 | cons {d : D} {v : V} {ds : List D} {vs : List V} : aZ Z d v -> aF Z ds vs -> aF Z (d :: ds) (v :: vs)
inductive lZ (Z : Hp) : List (Str × D) -> List (Str × V) -> Prop where
 | nil : lZ Z [] []
 | cons {x : Str} {d : D} {v : V} {ds : List (Str × D)} {vs : List (Str × V)} : aZ Z d v -> lZ Z ds vs -> lZ Z ((x, d) :: ds) ((x, v) :: vs)
inductive bA (Z : Hp) : List (Key × D) -> List (Key × V) -> Prop where
 | nil : bA Z [] []
 | cons {x : Key} {d : D} {v : V} {ds : List (Key × D)} {vs : List (Key × V)} : aZ Z d v -> bA Z ds vs -> bA Z ((x, d) :: ds) ((x, v) :: vs)
inductive fM (Z : Hp) : List (List Key × D) -> List (List Key × V) -> Prop where
 | nil : fM Z [] []
 | cons {x : List Key} {d : D} {v : V} {ds : List (List Key × D)} {vs : List (List Key × V)} : aZ Z d v -> fM Z ds vs -> fM Z ((x, d) :: ds) ((x, v) :: vs)
end
mutual
inductive bu (H Z : Hp) : T -> V -> List Addr -> Prop where
 | sh {d : D} {v : V} : aZ K CL Z d v -> bu H Z (.sh d) v []
 | tup {a : Addr} {vs : List V} {ts : List T} {fp : List Addr} : Z a = some (.tup vs) -> aG H Z ts vs fp -> bu H Z (.tup ts) (.ref a) fp
 | lst {a : Addr} {vs : List V} {ts : List T} {fp : List Addr} : H a = some (.lst vs) -> aG H Z ts vs fp -> bu H Z (.lst ts) (.ref a) (a :: fp)
 | ins {a dx : Addr} {c : Str} {gs : List (Str × V)} {fs : List (Str × T)} {fp : List Addr} : H a = some (.ins (CL c) dx gs) -> cz H Z fs gs fp -> bu H Z (.ins c fs) (.ref a) (a :: fp)
 | mY {a : Addr} {gs : List (Key × V)} {kvs : List (Key × D)} : H a = some (.dK gs) -> bA K CL Z kvs gs -> bu H Z (.mY kvs) (.ref a) [a]
 | dct {a : Addr} {gs : List (List Key × V)} {kvs : List (List Key × T)} {fp : List Addr} : H a = some (.dT gs) -> cA H Z kvs gs fp -> bu H Z (.dct kvs) (.ref a) (a :: fp)
 | pin {x : Addr} {t : T} {fp : List Addr} : bu H Z t (.ref x) fp -> bu H Z (.pin x t) (.ref x) fp
inductive aG (H Z : Hp) : List T -> List V -> List Addr -> Prop where
 | nil : aG H Z [] [] []
 | cons {t : T} {v : V} {ts : List T} {vs : List V} {fp gp : List Addr} : bu H Z t v fp -> aG H Z ts vs gp -> aG H Z (t :: ts) (v :: vs) (fp ++ gp)
inductive cz (H Z : Hp) : List (Str × T) -> List (Str × V) -> List Addr -> Prop where
 | nil : cz H Z [] [] []
 | cons {x : Str} {t : T} {v : V} {ts : List (Str × T)} {vs : List (Str × V)} {fp gp : List Addr} : bu H Z t v fp -> cz H Z ts vs gp -> cz H Z ((x, t) :: ts) ((x, v) :: vs) (fp ++ gp)
inductive cA (H Z : Hp) : List (List Key × T) -> List (List Key × V) -> List Addr -> Prop where
 | nil : cA H Z [] [] []
 | cons {x : List Key} {t : T} {v : V} {ts : List (List Key × T)} {vs : List (List Key × V)} {fp gp : List Addr} : bu H Z t v fp -> cA H Z ts vs gp -> cA H Z ((x, t) :: ts) ((x, v) :: vs) (fp ++ gp)
end
inductive cG (H Z : Hp) : List (Option T) -> L2.St -> List Addr -> Prop where
 | nil : cG H Z [] [] []
 | skip {o : Option V} {δ : List (Option T)} {σ : L2.St} {fp : List Addr} : cG H Z δ σ fp -> cG H Z (none :: δ) (o :: σ) fp
 | cons {t : T} {v : V} {δ : List (Option T)} {σ : L2.St} {fp gp : List Addr} : bu K CL H Z t v fp -> cG H Z δ σ gp -> cG H Z (some t :: δ) (some v :: σ) (fp ++ gp)
section
variable {K : PySem.W.Frag} {CL : Str -> Addr}
theorem Rd.mono {H H' : Hp} {a : Addr} {u : HO} (e : aB H H') (h : Rd H a u) : Rd H' a u := h.imp (e _ _) fun ⟨o, q⟩ => ⟨o, e _ _ q⟩
theorem aB.KY {H H' : Hp} {a : Addr} {xs : List V} (e : aB H H') (h : qE K H a xs) : qE K H' a xs := by
 rcases h with (h | ⟨o, h⟩) | h
 . exact .inl (.inl (e _ _ h))
 . exact .inl (.inr ⟨o, e _ _ h⟩)
 . exact .inr h
theorem aZ.mono {Z Z' : Hp} (e : aB Z Z') {d : D} {v : V} (h : aZ K CL Z d v) : aZ K CL Z' d v :=
 aZ.rec (motive_1 := fun d v _ => aZ K CL Z' d v) (motive_2 := fun d v _ => aF K CL Z' d v) (motive_3 := fun d v _ => lZ K CL Z' d v) (motive_4 := fun d v _ => bA K CL Z' d v) (motive_5 := fun d v _ => fM K CL Z' d v)
   .non .bl .int .str .any .val (fun h _ r => .tup (aB.KY e h) r) (fun h _ r => .lst (e.seq h) r) (fun h _ r => .ins (e _ _ h) r) (fun h _ r => .mY (e _ _ h) r) (fun h _ r => .dct (Rd.mono e h) r) .nil (fun _ _ h r => .cons h r) .nil (fun _ _ h r => .cons h r) .nil (fun _ _ h r => .cons h r) .nil (fun _ _ h r => .cons h r) h
theorem bA.mono {Z Z' : Hp} (e : aB Z Z') {d : List (Key × D)} {v : List (Key × V)} (h : bA K CL Z d v) : bA K CL Z' d v :=
 bA.rec (motive_1 := fun d v _ => aZ K CL Z' d v) (motive_2 := fun d v _ => aF K CL Z' d v) (motive_3 := fun d v _ => lZ K CL Z' d v) (motive_4 := fun d v _ => bA K CL Z' d v) (motive_5 := fun d v _ => fM K CL Z' d v)
   .non .bl .int .str .any .val (fun h _ r => .tup (aB.KY e h) r) (fun h _ r => .lst (e.seq h) r) (fun h _ r => .ins (e _ _ h) r) (fun h _ r => .mY (e _ _ h) r) (fun h _ r => .dct (Rd.mono e h) r) .nil (fun _ _ h r => .cons h r) .nil (fun _ _ h r => .cons h r) .nil (fun _ _ h r => .cons h r) .nil (fun _ _ h r => .cons h r) h
theorem fM.mono {Z Z' : Hp} (e : aB Z Z') {d : List (List Key × D)} {v : List (List Key × V)} (h : fM K CL Z d v) : fM K CL Z' d v :=
 fM.rec (motive_1 := fun d v _ => aZ K CL Z' d v) (motive_2 := fun d v _ => aF K CL Z' d v) (motive_3 := fun d v _ => lZ K CL Z' d v) (motive_4 := fun d v _ => bA K CL Z' d v) (motive_5 := fun d v _ => fM K CL Z' d v)
   .non .bl .int .str .any .val (fun h _ r => .tup (aB.KY e h) r) (fun h _ r => .lst (e.seq h) r) (fun h _ r => .ins (e _ _ h) r) (fun h _ r => .mY (e _ _ h) r) (fun h _ r => .dct (Rd.mono e h) r) .nil (fun _ _ h r => .cons h r) .nil (fun _ _ h r => .cons h r) .nil (fun _ _ h r => .cons h r) .nil (fun _ _ h r => .cons h r) h
theorem bu.mono {H H' Z Z' : Hp} (e : aB Z Z') {t : T} {v : V} {fp : List Addr} (k : ∀ a ∈ fp, H' a = H a) (h : bu K CL H Z t v fp) : bu K CL H' Z' t v fp :=
 bu.rec (motive_1 := fun t v fp _ => (∀ a ∈ fp, H' a = H a) -> bu K CL H' Z' t v fp) (motive_2 := fun t v fp _ => (∀ a ∈ fp, H' a = H a) -> aG K CL H' Z' t v fp) (motive_3 := fun t v fp _ => (∀ a ∈ fp, H' a = H a) -> cz K CL H' Z' t v fp) (motive_4 := fun t v fp _ => (∀ a ∈ fp, H' a = H a) -> cA K CL H' Z' t v fp)
   (fun h _ => .sh (h.mono e)) (fun h _ r k => .tup (e _ _ h) (r k)) (fun h _ r k => .lst ((k _ aiq).trans h) (r fun a ha => k a (ais _ ha))) (fun h _ r k => .ins ((k _ aiq).trans h) (r fun a ha => k a (ais _ ha))) (fun h f k => .mY ((k _ aiq).trans h) (bA.mono e f)) (fun h _ r k => .dct ((k _ aiq).trans h) (r fun a ha => k a (ais _ ha))) (fun _ r k => .pin (r k)) (fun _ => .nil) (fun _ _ h r k => .cons (h fun a ha => k a (air _ ha)) (r fun a ha => k a (ail _ ha))) (fun _ => .nil) (fun _ _ h r k => .cons (h fun a ha => k a (air _ ha)) (r fun a ha => k a (ail _ ha))) (fun _ => .nil) (fun _ _ h r k => .cons (h fun a ha => k a (air _ ha)) (r fun a ha => k a (ail _ ha))) h k
theorem aG.mono {H H' Z Z' : Hp} (e : aB Z Z') {t : List T} {v : List V} {fp : List Addr} (k : ∀ a ∈ fp, H' a = H a) (h : aG K CL H Z t v fp) : aG K CL H' Z' t v fp :=
 aG.rec (motive_1 := fun t v fp _ => (∀ a ∈ fp, H' a = H a) -> bu K CL H' Z' t v fp) (motive_2 := fun t v fp _ => (∀ a ∈ fp, H' a = H a) -> aG K CL H' Z' t v fp) (motive_3 := fun t v fp _ => (∀ a ∈ fp, H' a = H a) -> cz K CL H' Z' t v fp) (motive_4 := fun t v fp _ => (∀ a ∈ fp, H' a = H a) -> cA K CL H' Z' t v fp)
   (fun h _ => .sh (h.mono e)) (fun h _ r k => .tup (e _ _ h) (r k)) (fun h _ r k => .lst ((k _ aiq).trans h) (r fun a ha => k a (ais _ ha))) (fun h _ r k => .ins ((k _ aiq).trans h) (r fun a ha => k a (ais _ ha))) (fun h f k => .mY ((k _ aiq).trans h) (bA.mono e f)) (fun h _ r k => .dct ((k _ aiq).trans h) (r fun a ha => k a (ais _ ha))) (fun _ r k => .pin (r k)) (fun _ => .nil) (fun _ _ h r k => .cons (h fun a ha => k a (air _ ha)) (r fun a ha => k a (ail _ ha))) (fun _ => .nil) (fun _ _ h r k => .cons (h fun a ha => k a (air _ ha)) (r fun a ha => k a (ail _ ha))) (fun _ => .nil) (fun _ _ h r k => .cons (h fun a ha => k a (air _ ha)) (r fun a ha => k a (ail _ ha))) h k
theorem cz.mono {H H' Z Z' : Hp} (e : aB Z Z') {t : List (Str × T)} {v : List (Str × V)} {fp : List Addr} (k : ∀ a ∈ fp, H' a = H a) (h : cz K CL H Z t v fp) : cz K CL H' Z' t v fp :=
 cz.rec (motive_1 := fun t v fp _ => (∀ a ∈ fp, H' a = H a) -> bu K CL H' Z' t v fp) (motive_2 := fun t v fp _ => (∀ a ∈ fp, H' a = H a) -> aG K CL H' Z' t v fp) (motive_3 := fun t v fp _ => (∀ a ∈ fp, H' a = H a) -> cz K CL H' Z' t v fp) (motive_4 := fun t v fp _ => (∀ a ∈ fp, H' a = H a) -> cA K CL H' Z' t v fp)
   (fun h _ => .sh (h.mono e)) (fun h _ r k => .tup (e _ _ h) (r k)) (fun h _ r k => .lst ((k _ aiq).trans h) (r fun a ha => k a (ais _ ha))) (fun h _ r k => .ins ((k _ aiq).trans h) (r fun a ha => k a (ais _ ha))) (fun h f k => .mY ((k _ aiq).trans h) (bA.mono e f)) (fun h _ r k => .dct ((k _ aiq).trans h) (r fun a ha => k a (ais _ ha))) (fun _ r k => .pin (r k)) (fun _ => .nil) (fun _ _ h r k => .cons (h fun a ha => k a (air _ ha)) (r fun a ha => k a (ail _ ha))) (fun _ => .nil) (fun _ _ h r k => .cons (h fun a ha => k a (air _ ha)) (r fun a ha => k a (ail _ ha))) (fun _ => .nil) (fun _ _ h r k => .cons (h fun a ha => k a (air _ ha)) (r fun a ha => k a (ail _ ha))) h k
theorem cA.mono {H H' Z Z' : Hp} (e : aB Z Z') {t : List (List Key × T)} {v : List (List Key × V)} {fp : List Addr} (k : ∀ a ∈ fp, H' a = H a) (h : cA K CL H Z t v fp) : cA K CL H' Z' t v fp :=
 cA.rec (motive_1 := fun t v fp _ => (∀ a ∈ fp, H' a = H a) -> bu K CL H' Z' t v fp) (motive_2 := fun t v fp _ => (∀ a ∈ fp, H' a = H a) -> aG K CL H' Z' t v fp) (motive_3 := fun t v fp _ => (∀ a ∈ fp, H' a = H a) -> cz K CL H' Z' t v fp) (motive_4 := fun t v fp _ => (∀ a ∈ fp, H' a = H a) -> cA K CL H' Z' t v fp)
   (fun h _ => .sh (h.mono e)) (fun h _ r k => .tup (e _ _ h) (r k)) (fun h _ r k => .lst ((k _ aiq).trans h) (r fun a ha => k a (ais _ ha))) (fun h _ r k => .ins ((k _ aiq).trans h) (r fun a ha => k a (ais _ ha))) (fun h f k => .mY ((k _ aiq).trans h) (bA.mono e f)) (fun h _ r k => .dct ((k _ aiq).trans h) (r fun a ha => k a (ais _ ha))) (fun _ r k => .pin (r k)) (fun _ => .nil) (fun _ _ h r k => .cons (h fun a ha => k a (air _ ha)) (r fun a ha => k a (ail _ ha))) (fun _ => .nil) (fun _ _ h r k => .cons (h fun a ha => k a (air _ ha)) (r fun a ha => k a (ail _ ha))) (fun _ => .nil) (fun _ _ h r k => .cons (h fun a ha => k a (air _ ha)) (r fun a ha => k a (ail _ ha))) h k
theorem bu.there {H Z : Hp} {t : T} {v : V} {fp : List Addr} (h : bu K CL H Z t v fp) : ∀ a ∈ fp, ∃ o, H a = some o :=
 bu.rec (motive_1 := fun t v fp _ => ∀ a ∈ fp, ∃ o, H a = some o) (motive_2 := fun t v fp _ => ∀ a ∈ fp, ∃ o, H a = some o) (motive_3 := fun t v fp _ => ∀ a ∈ fp, ∃ o, H a = some o) (motive_4 := fun t v fp _ => ∀ a ∈ fp, ∃ o, H a = some o)
   (fun _ a ha => absurd ha aiD) (fun _ _ r => r) (fun h _ r a ha => (aiw.mp ha).elim (fun q => ⟨_, q ▸ h⟩) (r a)) (fun h _ r a ha => (aiw.mp ha).elim (fun q => ⟨_, q ▸ h⟩) (r a)) (fun h _ a ha => (aiw.mp ha).elim (fun q => ⟨_, q ▸ h⟩) (fun q => absurd q aiD)) (fun h _ r a ha => (aiw.mp ha).elim (fun q => ⟨_, q ▸ h⟩) (r a)) (fun _ r => r) (fun a ha => absurd ha aiD) (fun _ _ h r a ha => (aix.mp ha).elim (h a) (r a)) (fun a ha => absurd ha aiD) (fun _ _ h r a ha => (aix.mp ha).elim (h a) (r a)) (fun a ha => absurd ha aiD) (fun _ _ h r a ha => (aix.mp ha).elim (h a) (r a)) h
theorem aG.there {H Z : Hp} {t : List T} {v : List V} {fp : List Addr} (h : aG K CL H Z t v fp) : ∀ a ∈ fp, ∃ o, H a = some o :=
 aG.rec (motive_1 := fun t v fp _ => ∀ a ∈ fp, ∃ o, H a = some o) (motive_2 := fun t v fp _ => ∀ a ∈ fp, ∃ o, H a = some o) (motive_3 := fun t v fp _ => ∀ a ∈ fp, ∃ o, H a = some o) (motive_4 := fun t v fp _ => ∀ a ∈ fp, ∃ o, H a = some o)
   (fun _ a ha => absurd ha aiD) (fun _ _ r => r) (fun h _ r a ha => (aiw.mp ha).elim (fun q => ⟨_, q ▸ h⟩) (r a)) (fun h _ r a ha => (aiw.mp ha).elim (fun q => ⟨_, q ▸ h⟩) (r a)) (fun h _ a ha => (aiw.mp ha).elim (fun q => ⟨_, q ▸ h⟩) (fun q => absurd q aiD)) (fun h _ r a ha => (aiw.mp ha).elim (fun q => ⟨_, q ▸ h⟩) (r a)) (fun _ r => r) (fun a ha => absurd ha aiD) (fun _ _ h r a ha => (aix.mp ha).elim (h a) (r a)) (fun a ha => absurd ha aiD) (fun _ _ h r a ha => (aix.mp ha).elim (h a) (r a)) (fun a ha => absurd ha aiD) (fun _ _ h r a ha => (aix.mp ha).elim (h a) (r a)) h
theorem bu.cu {H Z Z' : Hp} (e : aB Z Z') {t : T} {v : V} {fp : List Addr} (k : ∀ a ∈ fp, Z' a = H a) (h : bu K CL H Z t v fp) : aZ K CL Z' t.cu v :=
 bu.rec (motive_1 := fun t v fp _ => (∀ a ∈ fp, Z' a = H a) -> aZ K CL Z' t.cu v) (motive_2 := fun t v fp _ => (∀ a ∈ fp, Z' a = H a) -> aF K CL Z' (T.kD t) v) (motive_3 := fun t v fp _ => (∀ a ∈ fp, Z' a = H a) -> lZ K CL Z' (T.mZ t) v) (motive_4 := fun t v fp _ => (∀ a ∈ fp, Z' a = H a) -> fM K CL Z' (T.uY t) v)
   (fun h _ => by rw [T.cu]; exact h.mono e) (fun h _ r k => by rw [T.cu]; exact .tup (qE.of (e _ _ h)) (r k)) (fun h _ r k => by rw [T.cu]; exact .lst (qk.of ((k _ aiq).trans h)) (r fun a ha => k a (ais _ ha))) (fun h _ r k => by rw [T.cu]; exact .ins ((k _ aiq).trans h) (r fun a ha => k a (ais _ ha))) (fun h f k => by rw [T.cu]; exact .mY ((k _ aiq).trans h) (bA.mono e f)) (fun h _ r k => by rw [T.cu]; exact .dct (.inl ((k _ aiq).trans h)) (r fun a ha => k a (ais _ ha))) (fun _ r k => by rw [T.cu]; exact r k) (fun _ => by rw [T.kD]; exact .nil) (fun _ _ h r k => by rw [T.kD]; exact .cons (h fun a ha => k a (air _ ha)) (r fun a ha => k a (ail _ ha))) (fun _ => by rw [T.mZ]; exact .nil) (fun _ _ h r k => by rw [T.mZ]; exact .cons (h fun a ha => k a (air _ ha)) (r fun a ha => k a (ail _ ha))) (fun _ => by rw [T.uY]; exact .nil) (fun _ _ h r k => by rw [T.uY]; exact .cons (h fun a ha => k a (air _ ha)) (r fun a ha => k a (ail _ ha))) h k
theorem aF.ind {Z : Hp} {P : List D -> List V -> Prop} (n : P [] []) (c : ∀ {d : D} {v : V} {ds : List D} {vs : List V}, aZ K CL Z d v -> aF K CL Z ds vs -> P ds vs -> P (d :: ds) (v :: vs)) {ds : List D} {vs : List V} (h : aF K CL Z ds vs) : P ds vs :=
 aF.rec (motive_1 := fun _ _ _ => True) (motive_2 := fun d v _ => P d v) (motive_3 := fun _ _ _ => True) (motive_4 := fun _ _ _ => True) (motive_5 := fun _ _ _ => True)
   trivial (fun _ => trivial) (fun _ => trivial) (fun _ => trivial) (fun _ => trivial) (fun _ => trivial) (fun _ _ _ => trivial) (fun _ _ _ => trivial) (fun _ _ _ => trivial) (fun _ _ _ => trivial) (fun _ _ _ => trivial) n (fun a b _ i => c a b i) trivial (fun _ _ _ _ => trivial) trivial (fun _ _ _ _ => trivial) trivial (fun _ _ _ _ => trivial) h
theorem bA.ind {Z : Hp} {P : List (Key × D) -> List (Key × V) -> Prop} (n : P [] []) (c : ∀ {x : Key} {d : D} {v : V} {ds : List (Key × D)} {vs : List (Key × V)}, aZ K CL Z d v -> bA K CL Z ds vs -> P ds vs -> P ((x, d) :: ds) ((x, v) :: vs)) {ds : List (Key × D)} {vs : List (Key × V)} (h : bA K CL Z ds vs) : P ds vs :=
 bA.rec (motive_1 := fun _ _ _ => True) (motive_2 := fun _ _ _ => True) (motive_3 := fun _ _ _ => True) (motive_4 := fun d v _ => P d v) (motive_5 := fun _ _ _ => True)
   trivial (fun _ => trivial) (fun _ => trivial) (fun _ => trivial) (fun _ => trivial) (fun _ => trivial) (fun _ _ _ => trivial) (fun _ _ _ => trivial) (fun _ _ _ => trivial) (fun _ _ _ => trivial) (fun _ _ _ => trivial) trivial (fun _ _ _ _ => trivial) trivial (fun _ _ _ _ => trivial) n (fun a b _ i => c a b i) trivial (fun _ _ _ _ => trivial) h
theorem fM.ind {Z : Hp} {P : List (List Key × D) -> List (List Key × V) -> Prop} (n : P [] []) (c : ∀ {x : List Key} {d : D} {v : V} {ds : List (List Key × D)} {vs : List (List Key × V)}, aZ K CL Z d v -> fM K CL Z ds vs -> P ds vs -> P ((x, d) :: ds) ((x, v) :: vs)) {ds : List (List Key × D)} {vs : List (List Key × V)} (h : fM K CL Z ds vs) : P ds vs :=
 fM.rec (motive_1 := fun _ _ _ => True) (motive_2 := fun _ _ _ => True) (motive_3 := fun _ _ _ => True) (motive_4 := fun _ _ _ => True) (motive_5 := fun d v _ => P d v)
   trivial (fun _ => trivial) (fun _ => trivial) (fun _ => trivial) (fun _ => trivial) (fun _ => trivial) (fun _ _ _ => trivial) (fun _ _ _ => trivial) (fun _ _ _ => trivial) (fun _ _ _ => trivial) (fun _ _ _ => trivial) trivial (fun _ _ _ _ => trivial) trivial (fun _ _ _ _ => trivial) trivial (fun _ _ _ _ => trivial) n (fun a b _ i => c a b i) h
theorem aG.ind {H Z : Hp} {P : List T -> List V -> List Addr -> Prop} (n : P [] [] []) (c : ∀ {t : T} {v : V} {ts : List T} {vs : List V} {fp gp : List Addr}, bu K CL H Z t v fp -> aG K CL H Z ts vs gp -> P ts vs gp -> P (t :: ts) (v :: vs) (fp ++ gp)) {ts : List T} {vs : List V} {fp : List Addr} (h : aG K CL H Z ts vs fp) : P ts vs fp :=
 aG.rec (motive_1 := fun _ _ _ _ => True) (motive_2 := fun d v f _ => P d v f) (motive_3 := fun _ _ _ _ => True) (motive_4 := fun _ _ _ _ => True)
   (fun _ => trivial) (fun _ _ _ => trivial) (fun _ _ _ => trivial) (fun _ _ _ => trivial) (fun _ _ => trivial) (fun _ _ _ => trivial) (fun _ _ => trivial) n (fun a b _ i => c a b i) trivial (fun _ _ _ _ => trivial) trivial (fun _ _ _ _ => trivial) h
theorem cz.ind {H Z : Hp} {P : List (Str × T) -> List (Str × V) -> List Addr -> Prop} (n : P [] [] []) (c : ∀ {x : Str} {t : T} {v : V} {ts : List (Str × T)} {vs : List (Str × V)} {fp gp : List Addr}, bu K CL H Z t v fp -> cz K CL H Z ts vs gp -> P ts vs gp -> P ((x, t) :: ts) ((x, v) :: vs) (fp ++ gp)) {ts : List (Str × T)} {vs : List (Str × V)} {fp : List Addr} (h : cz K CL H Z ts vs fp) : P ts vs fp :=
 cz.rec (motive_1 := fun _ _ _ _ => True) (motive_2 := fun _ _ _ _ => True) (motive_3 := fun d v f _ => P d v f) (motive_4 := fun _ _ _ _ => True)
   (fun _ => trivial) (fun _ _ _ => trivial) (fun _ _ _ => trivial) (fun _ _ _ => trivial) (fun _ _ => trivial) (fun _ _ _ => trivial) (fun _ _ => trivial) trivial (fun _ _ _ _ => trivial) n (fun a b _ i => c a b i) trivial (fun _ _ _ _ => trivial) h
theorem cA.ind {H Z : Hp} {P : List (List Key × T) -> List (List Key × V) -> List Addr -> Prop} (n : P [] [] []) (c : ∀ {x : List Key} {t : T} {v : V} {ts : List (List Key × T)} {vs : List (List Key × V)} {fp gp : List Addr}, bu K CL H Z t v fp -> cA K CL H Z ts vs gp -> P ts vs gp -> P ((x, t) :: ts) ((x, v) :: vs) (fp ++ gp)) {ts : List (List Key × T)} {vs : List (List Key × V)} {fp : List Addr} (h : cA K CL H Z ts vs fp) : P ts vs fp :=
 cA.rec (motive_1 := fun _ _ _ _ => True) (motive_2 := fun _ _ _ _ => True) (motive_3 := fun _ _ _ _ => True) (motive_4 := fun d v f _ => P d v f)
   (fun _ => trivial) (fun _ _ _ => trivial) (fun _ _ _ => trivial) (fun _ _ _ => trivial) (fun _ _ => trivial) (fun _ _ _ => trivial) (fun _ _ => trivial) trivial (fun _ _ _ _ => trivial) trivial (fun _ _ _ _ => trivial) n (fun a b _ i => c a b i) h
theorem aF.length {Z : Hp} {d : List D} {v : List V} (h : aF K CL Z d v) : d.length = v.length :=
 aF.ind (P := fun d v => d.length = v.length) rfl (fun _ _ i => congrArg (· + 1) i) h
theorem aG.length {H Z : Hp} {d : List T} {v : List V} {fp : List Addr} (h : aG K CL H Z d v fp) : d.length = v.length :=
 aG.ind (P := fun d v _ => d.length = v.length) rfl (fun _ _ i => congrArg (· + 1) i) h
theorem cG.length {H Z : Hp} {d : List (Option T)} {v : L2.St} {fp : List Addr} (h : cG K CL H Z d v fp) : d.length = v.length := by
 induction h with
 | nil => rfl
 | skip _ i => exact congrArg (· + 1) i
 | cons _ _ i => exact congrArg (· + 1) i
theorem aF.get {Z : Hp} : ∀ {ds : List D} {vs : List V} {i : Nat} {d : D}, aF K CL Z ds vs -> ds[i]? = some d -> ∃ v, vs[i]? = some v /\ aZ K CL Z d v
 | _, _, _, _, .nil, e => by simp at e
 | _, _, 0, _, .cons r _, e => by simp at e; subst e; exact ⟨_, rfl, r⟩
 | _, _, i + 1, d, .cons _ t, e => by
   obtain ⟨u, h1, h2⟩ := aF.get (i := i) (d := d) t (by simpa using e)
   exact ⟨u, by simpa using h1, h2⟩
theorem aF.Ue {Z : Hp} : ∀ {ds : List D} {vs : List V} {i : Nat} {v : V}, aF K CL Z ds vs -> vs[i]? = some v -> ∃ d, ds[i]? = some d /\ aZ K CL Z d v
 | _, _, _, _, .nil, e => by simp at e
 | _, _, 0, _, .cons r _, e => by simp at e; subst e; exact ⟨_, rfl, r⟩
 | _, _, i + 1, d, .cons _ t, e => by
   obtain ⟨u, h1, h2⟩ := aF.Ue (i := i) (v := d) t (by simpa using e)
   exact ⟨u, by simpa using h1, h2⟩
theorem cG.get {H Z : Hp} : ∀ {δ : List (Option T)} {σ : L2.St} {fp : List Addr} {i : Nat} {t : T}, cG K CL H Z δ σ fp -> δ[i]? = some (some t) →
   ∃ v f1 f2 f3, σ[i]? = some (some v) /\ fp = f1 ++ (f2 ++ f3) /\ bu K CL H Z t v f2 ∧
     (∀ {H' Z' : Hp} {t' : T} {v' : V} {g : List Addr}, aB Z Z' -> (∀ a ∈ f1 ++ f3, H' a = H a) -> bu K CL H' Z' t' v' g -> cG K CL H' Z' (δ.set i (some t')) (σ.set i (some v')) (f1 ++ (g ++ f3))) ∧
     (∀ {o : Option V}, cG K CL H Z (δ.set i none) (σ.set i o) (f1 ++ f3)) := by
 intro δ σ fp i t h
 have mono : ∀ {H H' Z Z' : Hp} {δ : List (Option T)} {σ : L2.St} {fp : List Addr}, aB Z Z' -> (∀ a ∈ fp, H' a = H a) -> cG K CL H Z δ σ fp -> cG K CL H' Z' δ σ fp := by
   intro H H' Z Z' δ σ fp e k r
   induction r with
   | nil => exact .nil
   | skip _ ih => exact .skip (ih k)
   | cons r _ ih => exact .cons (r.mono e fun a ha => k a (air _ ha)) (ih fun a ha => k a (ail _ ha))
 induction h generalizing i with
 | nil => intro e; simp at e
 | @skip o δ σ fp r ih =>
   cases i with
   | zero => intro e; simp at e
   | succ i =>
     intro e
     obtain ⟨v, f1, f2, f3, h1, h2, h3, h4, h5⟩ := ih (i := i) (by simpa using e)
     exact ⟨v, f1, f2, f3, by simpa using h1, h2, h3, fun e k q => .skip (h4 e k q), .skip h5⟩
 | @cons t0 v0 δ σ fp gp r0 r ih =>
   cases i with
   | zero =>
     intro e
     simp at e
     subst e
     refine ⟨v0, [], fp, gp, rfl, rfl, r0, fun {H' Z' t' v' g} e k q => cG.cons (fp := g) (gp := gp) q (mono (fp := gp) e (fun a ha => k a (by simpa using ha)) r), .skip (by simpa using r)⟩
   | succ i =>
     intro e
     obtain ⟨v, f1, f2, f3, h1, h2, h3, h4, h5⟩ := ih (i := i) (by simpa using e)
     refine ⟨v, fp ++ f1, f2, f3, by simpa using h1, by rw [h2, List.append_assoc], h3, fun {H' Z' t' v' g} e k q => ?_, fun {o} => ?_⟩
     . rw [ain]
       exact .cons (r0.mono e fun a ha => k a (by simp [ha])) (h4 e (fun a ha => k a (by rw [ain]; exact ail _ ha)) q)
     . rw [ain]
       exact .cons r0 h5
theorem cG.mono {H H' Z Z' : Hp} {δ : List (Option T)} {σ : L2.St} {fp : List Addr} (e : aB Z Z') (k : ∀ a ∈ fp, H' a = H a) (r : cG K CL H Z δ σ fp) : cG K CL H' Z' δ σ fp := by
 induction r with
 | nil => exact .nil
 | skip _ ih => exact .skip (ih k)
 | cons r _ ih => exact .cons (r.mono e fun a ha => k a (air _ ha)) (ih fun a ha => k a (ail _ ha))
theorem cG.there {H Z : Hp} {δ : List (Option T)} {σ : L2.St} {fp : List Addr} (r : cG K CL H Z δ σ fp) : ∀ a ∈ fp, ∃ o, H a = some o := by
 induction r with
 | nil => intro a ha; cases ha
 | skip _ ih => exact ih
 | cons r _ ih => exact fun a ha => (aix.mp ha).elim (r.there a) (ih a)
theorem cG.put {H Z : Hp} {δ : List (Option T)} {σ : L2.St} {fp : List Addr} (r : cG K CL H Z δ σ fp) {t : T} {v : V} {g : List Addr} (q : bu K CL H Z t v g) :
   ∀ {i : Nat}, i < δ.length -> ∃ f, cG K CL H Z (δ.set i (some t)) (σ.set i (some v)) f /\ ∃ f', f'.Sublist fp /\ f.Perm (g ++ f') := by
 induction r with
 | nil => intro i hi; simp at hi
 | @skip o δ σ fp r ih =>
   intro i hi
   cases i with
   | zero => exact ⟨g ++ fp, .cons q r, fp, aja _, aks _⟩
   | succ i =>
     obtain ⟨f, h1, f', h2, h3⟩ := ih (i := i) (by simpa using hi)
     exact ⟨f, .skip h1, f', h2, h3⟩
 | @cons t0 v0 δ σ fp gp r0 r ih =>
   intro i hi
   cases i with
   | zero => exact ⟨g ++ gp, .cons q r, gp, aji _ _, aks _⟩
   | succ i =>
     obtain ⟨f, h1, f', h2, h3⟩ := ih (i := i) (by simpa using hi)
     refine ⟨fp ++ f, .cons r0 h1, fp ++ f', ai9 (aja _) h2, ?_⟩
     refine (ai8 fp h3).trans ?_
     rw [← ain, ← ain]
     exact List.Perm.append_right f' ai2
end
noncomputable def F8 (X : Cx) (e : Expr) : TE := fun σ H Q => ∀ (pins : List (Addr × Obj)) (s : Shared), Inv X pins σ H s -> wpAny (model X.prog X.w) X.A (eval e X.env) (EP X pins σ Q) X.xe s
noncomputable def PY (X : Cx) (e : Expr) : TT := fun σ H Q => ∀ (pins : List (Addr × Obj)) (s : Shared), Inv X pins σ H s -> wpAny (model X.prog X.w) X.A (isTrue e X.env (eval e X.env)) (TP X pins σ Q) X.xe s
noncomputable def Io (X : Cx) (es : List Expr) : TA := fun σ H Q => ∀ (pos : Pos) (pins : List (Addr × Obj)) (s : Shared), Inv X pins σ H s -> wpAny (model X.prog X.w) X.A (spliced (backTo pos (starEach es X.env))) (AP X pins σ Q) X.xe s
noncomputable def PZ (X : Cx) (st : Stmt) : TS := fun D σ H => ∀ (pins : List (Addr × Obj)) (s : Shared), Inv X pins σ H s -> wpAny (model X.prog X.w) X.A (exec st X.env) (SP X pins D) X.xe s
noncomputable def Yq (X : Cx) (st : List Stmt) : TS := fun D σ H => ∀ (pins : List (Addr × Obj)) (s : Shared), Inv X pins σ H s -> wpAny (model X.prog X.w) X.A (execs st X.env) (SP X pins D) X.xe s
section
variable {X : Cx}
theorem cg {e : Expr} : PE X e (F8 X e) := fun pins s _ _ _ I h => h pins s I
theorem WY {e : Expr} : PT X e (PY X e) := fun pins s _ _ _ I h => h pins s I
theorem HF {e : List Expr} : PA X e (Io X e) := fun pos pins s _ _ _ I h => h pos pins s I
theorem psS {e : Stmt} : PS X e (PZ X e) := fun pins s _ _ _ I h => h pins s I
theorem MC {e : List Stmt} : Ks X e (Yq X e) := fun pins s _ _ _ I h => h pins s I
theorem bY {e : Expr} {t : TE} (h : PE X e t) {σ : L2.St} {H : Hp} {Q : VK} (q : t σ H Q) : F8 X e σ H Q := fun pins s I => h pins s σ H Q I q
theorem yJ {e : Expr} {t : TT} (h : PT X e t) {σ : L2.St} {H : Hp} {Q : Bool -> Hp -> Prop} (q : t σ H Q) : PY X e σ H Q := fun pins s I => h pins s σ H Q I q
theorem Aa {e : List Expr} {t : TA} (h : PA X e t) {σ : L2.St} {H : Hp} {Q : List V -> Hp -> Prop} (q : t σ H Q) : Io X e σ H Q := fun pos pins s I => h pos pins s σ H Q I q
theorem nM {e : Stmt} {t : TS} (h : PS X e t) {σ : L2.St} {H : Hp} {D : Ends} (q : t D σ H) : PZ X e D σ H := fun pins s I => h pins s σ H D I q
theorem abZ {e : List Stmt} {t : TS} (h : Ks X e t) {σ : L2.St} {H : Hp} {D : Ends} (q : t D σ H) : Yq X e D σ H := fun pins s I => h pins s σ H D I q
end
noncomputable def notStar : Expr -> Bool
 | .Starred _ _ => false
 | _ => true
theorem aY {e : Expr} {es : List Expr} {env : Env} (h : notStar e = true) : starEach (e :: es) env = (false, eval e env) :: starEach es env := by
 cases e <;> first | rfl | (cases h)
structure Bx where
 B : Hp
 Z : Hp
noncomputable def mh : HO -> Bool
 | .tup _ => true
 | .cu _ _ => true
 | _ => false
noncomputable def KZ (x : Str) : Bool := x.cps[0]? == some 35
noncomputable def aeI (x : Str) : Str := ⟨x.cps.extract 1 x.cps.size⟩
noncomputable def oW (CL : Str -> Addr) (Z : Hp) : Prop := ∀ x, KZ x = true -> CL x ≠ 0 -> Z (CL x) = some (.tabs (aeI x))
structure aO (K : PySem.W.Frag) (CL : Str -> Addr) (b : Bx) (H Z : Hp) (δ : List (Option T)) (σ : L2.St) (ts : List T) (vs : List V) : Prop where
 rep : ∃ fp gp, cG K CL H Z δ σ fp /\ aG K CL H Z ts vs gp /\ (fp ++ gp).Nodup /\ ∀ a ∈ fp ++ gp, Z a = none /\ b.B a = none
 bh : aB b.B H
 zz : aB b.Z Z
 zh : aB Z H
 new : ∀ a o, Z a = some o -> b.Z a = none -> b.B a = none
 tp : ∀ a o, H a = some o -> mh o = true -> Z a = some o
 tab : oW CL b.Z
section
variable {K : PySem.W.Frag} {CL : Str -> Addr} {b : Bx} {H Z Z' : Hp} {δ : List (Option T)} {σ : L2.St} {ts : List T} {vs : List V} {t : T} {v : V}
theorem oW.mono {A B : Hp} (h : oW CL A) (e : aB A B) : oW CL B := fun x hx h0 => e _ _ (h x hx h0)
theorem aO.P0 (S : aO K CL b H Z δ σ ts vs) : oW CL Z := S.tab.mono S.zz
theorem aO.Ug (S : aO K CL b H Z δ σ ts vs) : oW CL H := S.P0.mono S.zh
theorem Ip {A B : Hp} (e : aB A B) {a : Addr} (h : B a = none) : A a = none := e.free h
theorem aB.upd {H : Hp} {p : Addr} {o : HO} (h : H p = none) : aB H (upd H p o) := fun b u e => by rw [aj (bF e h)]; exact e
theorem aO.view (S : aO K CL b H Z δ σ (t :: ts) (v :: vs)) : aZ K CL H t.cu v := by
 obtain ⟨fp, gp, _, r, _, _⟩ := S.rep
 cases r with
 | cons r _ => exact r.cu S.zh fun _ _ => rfl
theorem aO.pop (S : aO K CL b H Z δ σ (t :: ts) (v :: vs)) : aO K CL b H Z δ σ ts vs := by
 obtain ⟨fp, gp, e, r, nd, k⟩ := S.rep
 cases r with
 | @cons _ _ _ _ f1 f2 r1 r2 =>
   refine ⟨⟨fp, f2, e, r2, nd.sublist (ai9 (aja _) (aji _ _)), fun a ha => k a ?_⟩, S.bh, S.zz, S.zh, S.new, S.tp, S.tab⟩
   rcases aix.mp ha with h | h
   . exact air _ h
   . exact ail _ (ail _ h)
theorem aO.push {d : D} (S : aO K CL b H Z δ σ ts vs) (r : aZ K CL Z d v) : aO K CL b H Z δ σ (.sh d :: ts) (v :: vs) := by
 obtain ⟨fp, gp, e, r2, nd, k⟩ := S.rep
 exact ⟨⟨fp, [] ++ gp, e, .cons (.sh r) r2, nd, k⟩, S.bh, S.zz, S.zh, S.new, S.tp, S.tab⟩
theorem aO.Ab (S : aO K CL b H Z δ σ (t :: ts) (v :: vs)) : ∃ Z', aB Z Z' /\ aO K CL b H Z' δ σ (.sh t.cu :: ts) (v :: vs) := by
 classical
 obtain ⟨fp, gp, e, r, nd, k⟩ := S.rep
 cases r with
 | @cons _ _ _ _ f1 f2 r1 r2 =>
   have nZ : ∀ a ∈ f1, Z a = none /\ b.B a = none := fun a ha => k a (ail _ (air _ ha))
   have sz : aB Z (fun a => if a ∈ f1 then H a else Z a) := fun a o q => by
     by_cases ha : a ∈ f1
     . rw [(nZ a ha).1] at q; cases q
     . show (if a ∈ f1 then H a else Z a) = some o
       rw [aiu ha]; exact q
   have nd1 := aiW.mp nd
   have dj : ∀ a ∈ fp ++ f2, a ∉ f1 := fun a ha h1 => by
     rcases aix.mp ha with h | h
     . exact nd1.2.2 a h a (air _ h1) rfl
     . exact (aiW.mp nd1.2.1).2.2 a h1 a h rfl
   refine ⟨fun a => if a ∈ f1 then H a else Z a, sz, ⟨⟨fp, [] ++ f2, e.mono sz (fun _ _ => rfl), .cons (.sh (r1.cu sz fun a ha => aiC ha)) (r2.mono sz fun _ _ => rfl), ?_, fun a ha => ?_⟩, S.bh, S.zz.trans sz, fun a o q => ?_, fun a o q z => ?_, fun a o q i => ?_, S.tab⟩⟩
   . exact nd.sublist (ai9 (aja _) (aji _ _))
   . have Yr : a ∈ fp ++ f2 := ha
     refine ⟨?_, (k a ?_).2⟩
     . show (if a ∈ f1 then H a else Z a) = none
       rw [aiu (dj a Yr)]
       refine (k a ?_).1
       rcases aix.mp Yr with h | h
       . exact air _ h
       . exact ail _ (ail _ h)
     . rcases aix.mp Yr with h | h
       . exact air _ h
       . exact ail _ (ail _ h)
   . have q' : (if a ∈ f1 then H a else Z a) = some o := q
     by_cases ha : a ∈ f1
     . rw [aiC ha] at q'; exact q'
     . rw [aiu ha] at q'; exact S.zh a o q'
   . have q' : (if a ∈ f1 then H a else Z a) = some o := q
     by_cases ha : a ∈ f1
     . exact (nZ a ha).2
     . rw [aiu ha] at q'; exact S.new a o q' z
   . exact sz a o (S.tp a o q i)
theorem aO.move {i : Nat} (S : aO K CL b H Z δ σ ts vs) (hi : δ[i]? = some (some t)) : ∃ v, σ[i]? = some (some v) /\ aO K CL b H Z (δ.set i none) σ (t :: ts) (v :: vs) := by
 obtain ⟨fp, gp, e, r, nd, k⟩ := S.rep
 obtain ⟨v, f1, f2, f3, hv, ql, rt, _, del⟩ := e.get hi
 subst ql
 have aeJ : σ.set i (some v) = σ := by
   apply List.ext_getElem?
   intro j
   rw [List.getElem?_set]
   split
   . rename_i h; subst h
     split
     . exact hv.symm
     . rename_i h2; rw [List.getElem?_eq_none (by omega)]
   . rfl
 have hp : ((f1 ++ (f2 ++ f3)) ++ gp).Perm ((f1 ++ f3) ++ (f2 ++ gp)) := by
   have h1 : (f2 ++ f3).Perm (f3 ++ f2) := ai2
   have h2 := (ai8 f1 h1).append_right gp
   simp only [ain] at h2 ⊢
   exact h2
 refine ⟨v, hv, ⟨⟨f1 ++ f3, f2 ++ gp, ?_, .cons rt r, hp.nodup_iff.mp nd, fun a ha => k a (hp.mem_iff.mpr ha)⟩, S.bh, S.zz, S.zh, S.new, S.tp, S.tab⟩⟩
 have := del (o := some v)
 rwa [aeJ] at this
theorem aO.look {i : Nat} (S : aO K CL b H Z δ σ ts vs) (hi : δ[i]? = some (some t)) : ∃ v, σ[i]? = some (some v) /\ aZ K CL H t.cu v := by
 obtain ⟨fp, gp, e, r, nd, k⟩ := S.rep
 obtain ⟨v, f1, f2, f3, hv, ql, rt, _, _⟩ := e.get hi
 exact ⟨v, hv, rt.cu S.zh fun _ _ => rfl⟩
theorem aO.P1 {i : Nat} {d : D} (S : aO K CL b H Z δ σ ts vs) (hi : δ[i]? = some (some (.sh d))) : ∃ v, σ[i]? = some (some v) /\ aZ K CL Z d v := by
 obtain ⟨fp, gp, e, r, nd, k⟩ := S.rep
 obtain ⟨v, f1, f2, f3, hv, ql, rt, _, _⟩ := e.get hi
 cases rt with
 | sh h => exact ⟨v, hv, h⟩
theorem aO.set {i : Nat} (S : aO K CL b H Z δ σ (t :: ts) (v :: vs)) (hi : i < δ.length) : aO K CL b H Z (δ.set i (some t)) (σ.set i (some v)) ts vs := by
 obtain ⟨fp, gp, e, r, nd, k⟩ := S.rep
 cases r with
 | @cons _ _ _ _ f1 f2 r1 r2 =>
   obtain ⟨f, h1, f', h2, h3⟩ := e.put r1 hi
   have hp : (f ++ f2).Perm (f' ++ (f1 ++ f2)) := by
     refine (h3.append_right f2).trans ?_
     rw [← ain]
     exact ai2.append_right f2
   have P4 : (f' ++ (f1 ++ f2)).Sublist (fp ++ (f1 ++ f2)) := ai9 h2 (aja _)
   exact ⟨⟨f, f2, h1, r2, hp.nodup_iff.mpr (nd.sublist P4), fun a ha => k a (P4.subset (hp.mem_iff.mp ha))⟩, S.bh, S.zz, S.zh, S.new, S.tp, S.tab⟩
end
mutual
noncomputable def D.kX : D -> Bool
 | .tup ds => D.bK ds
 | .lst _ => false
 | .ins _ _ => false
 | .mY _ => false
 | .dct _ => false
 | .any => false
 | _ => true
noncomputable def D.bK : List D -> Bool
 | [] => true
 | d :: ds => d.kX && D.bK ds
end
mutual
noncomputable def T.clean : T -> Bool
 | .sh d => d.kX
 | .tup ts => T.gB ts
 | .lst ts => T.gB ts
 | .ins _ fs => T.bw fs
 | .mY kvs => D.bK (kvs.map (·.2))
 | .dct kvs => T.jq kvs
 | .pin _ t => t.clean
noncomputable def T.gB : List T -> Bool
 | [] => true
 | t :: ts => t.clean && T.gB ts
noncomputable def T.bw : List (Str × T) -> Bool
 | [] => true
 | (_, t) :: ts => t.clean && T.bw ts
noncomputable def T.jq : List (List Key × T) -> Bool
 | [] => true
 | (_, t) :: ts => t.clean && T.jq ts
end
noncomputable def bR (X : Cx) (CL : Str -> Addr) (b : Bx) (e : Expr) (δ : List (Option T)) (t : T) (δ' : List (Option T)) : Prop :=
 ∀ (H Z : Hp) (σ : L2.St) (ts : List T) (vs : List V) (Q : VK), aO X.K CL b H Z δ σ ts vs -> (∀ v H' Z', aB Z Z' -> aB H H' -> aO X.K CL b H' Z' δ' σ (t :: ts) (v :: vs) -> Q v H') -> F8 X e σ H Q
noncomputable def cF (X : Cx) (CL : Str -> Addr) (b : Bx) (e : Expr) (δ : List (Option T)) (d : D) (δ' : List (Option T)) : Prop :=
 ∀ (H Z : Hp) (σ : L2.St) (ts : List T) (vs : List V) (Q : VK), aO X.K CL b H Z δ σ ts vs -> (∀ v H' Z', aB Z Z' -> aB H H' -> aO X.K CL b H' Z' δ' σ ts vs -> aZ X.K CL H' d v -> Q v H') -> F8 X e σ H Q
noncomputable def r9 (X : Cx) (CL : Str -> Addr) (b : Bx) (e : Expr) (δ : List (Option T)) (p : Bool) (δ' : List (Option T)) : Prop :=
 ∀ (H Z : Hp) (σ : L2.St) (ts : List T) (vs : List V) (Q : Bool -> Hp -> Prop), aO X.K CL b H Z δ σ ts vs -> (∀ H' Z', aB Z Z' -> aB H H' -> aO X.K CL b H' Z' δ' σ ts vs -> Q p H') -> PY X e σ H Q
noncomputable def HG (X : Cx) (CL : Str -> Addr) (b : Bx) (es : List Expr) (δ : List (Option T)) (tl : List T) (δ' : List (Option T)) : Prop :=
 ∀ (H Z : Hp) (σ : L2.St) (ts : List T) (vs : List V) (Q : List V -> Hp -> Prop), aO X.K CL b H Z δ σ ts vs →
   (∀ us H' Z', us.length = tl.length -> aB Z Z' -> aB H H' -> aO X.K CL b H' Z' δ' σ (tl.reverse ++ ts) (us.reverse ++ vs) -> Q us H') -> Io X es σ H Q
noncomputable def Uh (X : Cx) (CL : Str -> Addr) (b : Bx) (es : List Expr) (δ : List (Option T)) (ds : List D) (δ' : List (Option T)) : Prop :=
 ∀ (H Z : Hp) (σ : L2.St) (ts : List T) (vs : List V) (Q : List V -> Hp -> Prop), aO X.K CL b H Z δ σ ts vs →
   (∀ us H' Z', aB Z Z' -> aB H H' -> aO X.K CL b H' Z' δ' σ ts vs -> aF X.K CL H' ds us -> Q us H') -> Io X es σ H Q
structure eo where
 nx : List (Option T) -> Prop
 rt : T -> List (Option T) -> Prop
 bk : List (Option T) -> Prop := fun _ => False
 ct : List (Option T) -> Prop := fun _ => False
structure Meets (K : PySem.W.Frag) (CL : Str -> Addr) (b : Bx) (Z : Hp) (ts : List T) (vs : List V) (D : eo) (E : Ends) : Prop where
 nx : ∀ δ' σ' H' Z', aB Z Z' -> aO K CL b H' Z' δ' σ' ts vs -> D.nx δ' -> E.nx σ' H'
 rt : ∀ t v H' Z' δ' σ', aB Z Z' -> aO K CL b H' Z' δ' σ' (t :: ts) (v :: vs) -> D.rt t δ' -> E.rt v H'
 bk : ∀ δ' σ' H' Z', aB Z Z' -> aO K CL b H' Z' δ' σ' ts vs -> D.bk δ' -> E.bk σ' H'
 ct : ∀ δ' σ' H' Z', aB Z Z' -> aO K CL b H' Z' δ' σ' ts vs -> D.ct δ' -> E.ct σ' H'
noncomputable def MD (X : Cx) (CL : Str -> Addr) (b : Bx) (st : Stmt) (δ : List (Option T)) (D : eo) : Prop :=
 ∀ (H Z : Hp) (σ : L2.St) (ts : List T) (vs : List V) (E : Ends), aO X.K CL b H Z δ σ ts vs -> Meets X.K CL b Z ts vs D E -> PZ X st E σ H
noncomputable def e9 (X : Cx) (CL : Str -> Addr) (b : Bx) (st : List Stmt) (δ : List (Option T)) (D : eo) : Prop :=
 ∀ (H Z : Hp) (σ : L2.St) (ts : List T) (vs : List V) (E : Ends), aO X.K CL b H Z δ σ ts vs -> Meets X.K CL b Z ts vs D E -> Yq X st E σ H
section
variable {K : PySem.W.Frag} {CL : Str -> Addr} {b : Bx} {H H' Z Z' : Hp} {δ : List (Option T)} {σ : L2.St} {ts : List T} {vs : List V} {t : T} {v : V}
theorem Meets.mono {D : eo} {E : Ends} (M : Meets K CL b Z ts vs D E) (e : aB Z Z') : Meets K CL b Z' ts vs D E :=
 ⟨fun _ _ _ _ s => M.nx _ _ _ _ (e.trans s), fun _ _ _ _ _ _ s => M.rt _ _ _ _ _ _ (e.trans s), fun _ _ _ _ s => M.bk _ _ _ _ (e.trans s), fun _ _ _ _ s => M.ct _ _ _ _ (e.trans s)⟩
theorem K0 {a : Addr} {xs : List V} (zh : ∀ a o, H a = some o -> mh o = true -> Z a = some o) (h : qE K H a xs) : qE K Z a xs := by
 rcases h with (h | ⟨o, h⟩) | h
 . exact .inl (.inl (zh _ _ h rfl))
 . exact .inl (.inr ⟨o, zh _ _ h rfl⟩)
 . exact .inr h
theorem aZ.kX (zh : ∀ a o, H a = some o -> mh o = true -> Z a = some o) {d : D} {v : V} (k : d.kX = true) (h : aZ K CL H d v) : aZ K CL Z d v :=
 aZ.rec (motive_1 := fun d v _ => d.kX = true -> aZ K CL Z d v) (motive_2 := fun d v _ => D.bK d = true -> aF K CL Z d v) (motive_3 := fun d v _ => True) (motive_4 := fun d v _ => True) (motive_5 := fun d v _ => True)
   (fun _ => .non) (fun b _ => .bl b) (fun b _ => .int b) (fun b _ => .str b) (fun _ k => by rw [D.kX] at k; cases k) (fun b _ => .val b) (fun h _ r k => .tup (K0 zh h) (r (by rw [D.kX] at k; exact k))) (fun _ _ _ k => by rw [D.kX] at k; cases k) (fun _ _ _ k => by rw [D.kX] at k; cases k) (fun _ _ _ k => by rw [D.kX] at k; cases k) (fun _ _ _ k => by rw [D.kX] at k; cases k) (fun _ => .nil) (fun _ _ h r k => by rw [D.bK, aiO] at k; exact .cons (h k.1) (r k.2)) trivial (fun _ _ _ _ => trivial) trivial (fun _ _ _ _ => trivial) trivial (fun _ _ _ _ => trivial) h k
theorem aF.kX (zh : ∀ a o, H a = some o -> mh o = true -> Z a = some o) {d : List D} {v : List V} (k : D.bK d = true) (h : aF K CL H d v) : aF K CL Z d v :=
 aF.rec (motive_1 := fun d v _ => d.kX = true -> aZ K CL Z d v) (motive_2 := fun d v _ => D.bK d = true -> aF K CL Z d v) (motive_3 := fun d v _ => True) (motive_4 := fun d v _ => True) (motive_5 := fun d v _ => True)
   (fun _ => .non) (fun b _ => .bl b) (fun b _ => .int b) (fun b _ => .str b) (fun _ k => by rw [D.kX] at k; cases k) (fun b _ => .val b) (fun h _ r k => .tup (K0 zh h) (r (by rw [D.kX] at k; exact k))) (fun _ _ _ k => by rw [D.kX] at k; cases k) (fun _ _ _ k => by rw [D.kX] at k; cases k) (fun _ _ _ k => by rw [D.kX] at k; cases k) (fun _ _ _ k => by rw [D.kX] at k; cases k) (fun _ => .nil) (fun _ _ h r k => by rw [D.bK, aiO] at k; exact .cons (h k.1) (r k.2)) trivial (fun _ _ _ _ => trivial) trivial (fun _ _ _ _ => trivial) trivial (fun _ _ _ _ => trivial) h k
theorem bA.clean {Z1 : Hp} (zi : ∀ {d : D} {v : V}, d.kX = true -> aZ K CL Z1 d v -> aZ K CL Z d v) {kvs : List (Key × D)} {gs : List (Key × V)} (k : D.bK (kvs.map (·.2)) = true) (h : bA K CL Z1 kvs gs) : bA K CL Z kvs gs :=
 bA.ind (P := fun kvs gs => D.bK (kvs.map (·.2)) = true -> bA K CL Z kvs gs) (fun _ => .nil) (fun h _ i k => by rw [aiB, D.bK, aiO] at k; exact .cons (zi k.1 h) (i k.2)) h k
theorem bu.clean {Z1 : Hp} (zh : ∀ a xs, Z1 a = some (.tup xs) -> Z a = some (.tup xs)) (zi : ∀ {d : D} {v : V}, d.kX = true -> aZ K CL Z1 d v -> aZ K CL Z d v) {t : T} {v : V} {fp : List Addr} (k : t.clean = true) (h : bu K CL H Z1 t v fp) : bu K CL H Z t v fp :=
 bu.rec (motive_1 := fun t v fp _ => t.clean = true -> bu K CL H Z t v fp) (motive_2 := fun t v fp _ => T.gB t = true -> aG K CL H Z t v fp) (motive_3 := fun t v fp _ => T.bw t = true -> cz K CL H Z t v fp) (motive_4 := fun t v fp _ => T.jq t = true -> cA K CL H Z t v fp)
   (fun h k => .sh (zi (by rw [T.clean] at k; exact k) h)) (fun h _ r k => .tup (zh _ _ h) (r (by rw [T.clean] at k; exact k))) (fun h _ r k => .lst h (r (by rw [T.clean] at k; exact k))) (fun h _ r k => .ins h (r (by rw [T.clean] at k; exact k))) (fun h f k => .mY h (bA.clean zi (by rw [T.clean] at k; exact k) f)) (fun h _ r k => .dct h (r (by rw [T.clean] at k; exact k))) (fun _ r k => .pin (r (by rw [T.clean] at k; exact k))) (fun _ => .nil) (fun _ _ h r k => by rw [T.gB, aiO] at k; exact .cons (h k.1) (r k.2)) (fun _ => .nil) (fun _ _ h r k => by rw [T.bw, aiO] at k; exact .cons (h k.1) (r k.2)) (fun _ => .nil) (fun _ _ h r k => by rw [T.jq, aiO] at k; exact .cons (h k.1) (r k.2)) h k
theorem aO.back {W W' : Hp} {fp : List Addr} (S : aO K CL b H Z δ σ ts vs) (hh : aB H H') (zw : aB Z W) (ww : aB W W') (wh : aB W' H') (new : ∀ a o, W' a = some o -> W a = none -> H a = none)
   (tp : ∀ a o, H' a = some o -> mh o = true -> W' a = some o) (r : bu K CL H' W' t v fp) (nd : fp.Nodup) (own : ∀ a ∈ fp, W' a = none /\ H a = none) (c : W = Z \/ t.clean = true) :
   ∃ Z', aB Z Z' /\ aO K CL b H' Z' δ σ (t :: ts) (v :: vs) := by
 classical
 let Z' : Hp := fun a => if (H a).isSome = true then Z a else W' a
 have zs : ∀ {a : Addr} {o : HO}, H a = some o -> Z' a = Z a := fun {a o} e => by
   show (if (H a).isSome = true then Z a else W' a) = Z a
   rw [aiC (by rw [e]; rfl)]
 have zn : ∀ {a : Addr}, H a = none -> Z' a = W' a := fun {a} e => by
   show (if (H a).isSome = true then Z a else W' a) = W' a
   rw [aiu (by rw [e]; simp)]
 have sz : aB Z Z' := fun a o q => by rw [zs (S.zh a o q)]; exact q
 have zw' : ∀ a o, Z' a = some o -> W' a = some o := fun a o q => by
   cases e : H a with
   | none => rw [zn e] at q; exact q
   | some u => rw [zs e] at q; exact ww a o (zw a o q)
 have ztp : ∀ a o, H' a = some o -> mh o = true -> Z' a = some o := fun a o q i => by
   cases e : H a with
   | none => rw [zn e]; exact tp a o q i
   | some u =>
     rw [zs e]
     have := hh a u e
     rw [q] at this; cases this
     exact S.tp a o e i
 have r' : bu K CL H' Z' t v fp := by
   rcases c with c | c
   . have : Z' = W' := by
       funext a
       cases e : H a with
       | none => exact zn e
       | some u =>
         rw [zs e]
         cases q : W' a with
         | none =>
           cases q2 : Z a with
           | none => rfl
           | some o => rw [ww a o (zw a o q2)] at q; cases q
         | some o =>
           cases q2 : W a with
           | none => rw [new a o q q2] at e; cases e
           | some o2 =>
             have := ww a o2 q2
             rw [q] at this; cases this
             rw [← c]; exact q2
     rw [this]; exact r
   . refine bu.clean (fun a xs h => ?_) (fun {d v} k h => ?_) c r
     . exact ztp a _ (wh a _ h) rfl
     . exact aZ.kX (H := H') ztp k (h.mono wh)
 obtain ⟨f0, g0, e0, r0, Ys, k0⟩ := S.rep
 have old : ∀ a ∈ f0 ++ g0, ∃ o, H a = some o := fun a ha => (aix.mp ha).elim (e0.there a) (r0.there a)
 have keep : ∀ a ∈ f0 ++ g0, H' a = H a := fun a ha => by
   obtain ⟨o, e⟩ := old a ha
   rw [e]; exact hh a o e
 refine ⟨Z', sz, ⟨⟨f0, fp ++ g0, e0.mono sz (fun a ha => keep a (air _ ha)), .cons r' (r0.mono sz fun a ha => keep a (ail _ ha)), ?_, fun a ha => ?_⟩, S.bh.trans hh, S.zz.trans sz, fun a o q => wh a o (zw' a o q), fun a o q z => ?_, ztp, S.tab⟩⟩
 . have hp : (f0 ++ (fp ++ g0)).Perm (fp ++ (f0 ++ g0)) := by
     rw [← ain, ← ain]
     exact ai2.append_right g0
   refine hp.nodup_iff.mpr (aiW.mpr ⟨nd, Ys, fun a ha c hc e => ?_⟩)
   subst e
   obtain ⟨o, q⟩ := old a hc
   rw [(own a ha).2] at q; cases q
 . have : a ∈ f0 ++ g0 \/ a ∈ fp := by
     simp only [aix] at ha ⊢
     rcases ha with h | h | h
     . exact .inl (.inl h)
     . exact .inr h
     . exact .inl (.inr h)
   rcases this with h | h
   . obtain ⟨o, q⟩ := old a h
     exact ⟨by rw [zs q]; exact (k0 a h).1, (k0 a h).2⟩
   . exact ⟨by rw [zn (own a h).2]; exact (own a h).1, S.bh.free (own a h).2⟩
 . cases e : H a with
   | none => exact S.bh.free e
   | some u => rw [zs e] at q; exact S.new a o q z
end
section
variable {X : Cx} {CL : Str -> Addr} {b : Bx} {δ δ1 δ2 : List (Option T)} {e e1 e2 : Expr} {t : T} {d d1 d2 : D} {pos : Pos}
theorem WZ (h : bR X CL b e δ t δ1) : cF X CL b e δ t.cu δ1 := fun H Z σ ts vs Q S k => h H Z σ ts vs Q S fun v H' Z' z s S' => k v H' Z' z s S'.pop S'.view
theorem ah (h : bR X CL b e δ (.sh d) δ1) : cF X CL b e δ d δ1 := by have := WZ h; rwa [T.cu] at this
theorem gT (h : cF X CL b e δ d δ1) (i : d.kX = true) : bR X CL b e δ (.sh d) δ1 := fun H Z σ ts vs Q S k => h H Z σ ts vs Q S fun v H' Z' z s S' r => k v H' Z' z s (S'.push (aZ.kX S'.tp i r))
theorem Dy (h : bR X CL b e δ t δ1) : bR X CL b e δ (.sh t.cu) δ1 := fun H Z σ ts vs Q S k => h H Z σ ts vs Q S fun v H' Z' z s S' => by
 obtain ⟨Z2, z2, S2⟩ := S'.Ab
 exact k v H' Z2 (z.trans z2) s S2
theorem ai {i : Int} {j : Nat} : bR X CL b (.Constant (.int i) j pos) δ (.sh (.int i)) δ := fun H Z σ ts vs Q S k => bY Xu (k _ _ Z (.refl _) (.refl _) (S.push (.int i)))
theorem fB {i : Bool} {j : Nat} : bR X CL b (.Constant (.bool i) j pos) δ (.sh (.bl i)) δ := fun H Z σ ts vs Q S k => bY abm (k _ _ Z (.refl _) (.refl _) (S.push (.bl i)))
theorem b7 {x : Str} {j : Nat} : bR X CL b (.Constant (.str x) j pos) δ (.sh (.str x)) δ := fun H Z σ ts vs Q S k => bY Xv (k _ _ Z (.refl _) (.refl _) (S.push (.str x)))
section
variable (i : Nat) {x : Str} (hi : X.N[i]? = some x := by rfl) (hv : Xr X.env.scope x := by first | exact Or.inl rfl | exact Or.inr (Or.inl rfl) | exact Or.inr (Or.inr rfl)) (hd : (x == ("__debug__" : Str)) = false := by decide) (oR : (x == ("__classdict__" : Str)) = false := by decide)
include hi hv hd oR
theorem Yt (h : δ[i]? = some (some (.sh d)) := by rfl) : bR X CL b (.Name x pos) δ (.sh d) δ := fun H Z σ ts vs Q S k => by
 obtain ⟨v, e, r⟩ := S.P1 h
 exact bY (jo hi hv hd oR) ⟨v, e, k v H Z (.refl _) (.refl _) (S.push r)⟩
theorem Ui (h : δ[i]? = some (some t) := by rfl) : bR X CL b (.Name x pos) δ t (δ.set i none) := fun H Z σ ts vs Q S k => by
 obtain ⟨v, e, S'⟩ := S.move h
 exact bY (jo hi hv hd oR) ⟨v, e, k v H Z (.refl _) (.refl _) S'⟩
theorem Yu (h : δ[i]? = some (some t) := by rfl) : cF X CL b (.Name x pos) δ t.cu δ := fun H Z σ ts vs Q S k => by
 obtain ⟨v, e, r⟩ := S.look h
 exact bY (jo hi hv hd oR) ⟨v, e, k v H Z (.refl _) (.refl _) S r⟩
end
noncomputable def OD : D -> Option V
 | .non => some .non
 | .bl b => some (.bl b)
 | .int i => some (.int i)
 | .str x => some (.str x)
 | _ => none
theorem aZ.sc {K : PySem.W.Frag} {Z : Hp} {d : D} {v w : V} (r : aZ K CL Z d v) (h : OD d = some w) : v = w := by
 cases r <;> first | (exact aiN h) | (cases h)
theorem K1 {K : PySem.W.Frag} {Z : Hp} {d : D} {w : V} (h : OD d = some w) : aZ K CL Z d w := by
 cases d <;> first | (cases h; constructor) | (cases h)
theorem qJ {op : Operator} {r : R2} {w1 w2 w : V} (ho : qC X (binaryOp op) r) (h1 : cF X CL b e1 δ d1 δ1) (h2 : cF X CL b e2 δ1 d2 δ2) (s1 : OD d1 = some w1) (s2 : OD d2 = some w2) (s3 : OD d = some w)
   (hr : ∀ (H : Hp) (Q : VK), Q w H -> r w1 w2 H Q) : bR X CL b (.BinOp e1 op e2 pos) δ (.sh d) δ2 := fun H Z σ ts vs Q S k => by
 refine bY (Ku ho cg cg) (h1 H Z σ ts vs _ S fun v1 H1 Z1 z1 k1 S1 r1 => h2 H1 Z1 σ ts vs _ S1 fun v2 H2 Z2 z2 k2 S2 r2 => ?_)
 rw [r1.sc s1, r2.sc s2]
 exact hr H2 Q (k w H2 Z2 (z1.trans z2) (k1.trans k2) (S2.push (K1 s3)))
theorem iG {i j : Int} (h1 : cF X CL b e1 δ (.int i) δ1) (h2 : cF X CL b e2 δ1 (.int j) δ2) : bR X CL b (.BinOp e1 .Add e2 pos) δ (.sh (.int (i + j))) δ2 := qJ O6 h1 h2 rfl rfl rfl fun _ _ q => ⟨i, j, rfl, rfl, q⟩
theorem Dz {i j : Int} (h1 : cF X CL b e1 δ (.int i) δ1) (h2 : cF X CL b e2 δ1 (.int j) δ2) : bR X CL b (.BinOp e1 .Sub e2 pos) δ (.sh (.int (i - j))) δ2 := qJ O7 h1 h2 rfl rfl rfl fun _ _ q => ⟨i, j, rfl, rfl, q⟩
theorem Ac {i j : Int} (h1 : cF X CL b e1 δ (.int i) δ1) (h2 : cF X CL b e2 δ1 (.int j) δ2) (c : TY i j) : bR X CL b (.BinOp e1 .Mult e2 pos) δ (.sh (.int (i * j))) δ2 := qJ XW h1 h2 rfl rfl rfl fun _ _ q => ⟨i, j, rfl, rfl, c, q⟩
theorem oX {i j : Int} (h1 : cF X CL b e1 δ (.int i) δ1) (h2 : cF X CL b e2 δ1 (.int j) δ2) (c : 0 < j) : bR X CL b (.BinOp e1 .Mod e2 pos) δ (.sh (.int (i % j))) δ2 := qJ XY h1 h2 rfl rfl rfl fun _ _ q => ⟨i, j, rfl, rfl, c, q⟩
theorem DB {i j : Int} (h1 : cF X CL b e1 δ (.int i) δ1) (h2 : cF X CL b e2 δ1 (.int j) δ2) (c : abD i j) : bR X CL b (.BinOp e1 .FloorDiv e2 pos) δ (.sh (.int (i / j))) δ2 := qJ T3 h1 h2 rfl rfl rfl fun _ _ q => ⟨i, j, rfl, rfl, c, q⟩
theorem nO {i j : Int} (h1 : cF X CL b e1 δ (.int i) δ1) (h2 : cF X CL b e2 δ1 (.int j) δ2) (c : abE i j) : bR X CL b (.BinOp e1 .Pow e2 pos) δ (.sh (.int (i ^ j.toNat))) δ2 := qJ XZ h1 h2 rfl rfl rfl fun _ _ q => ⟨i, j, rfl, rfl, c, q⟩
theorem P5 {x y : Str} (h1 : cF X CL b e1 δ (.str x) δ1) (h2 : cF X CL b e2 δ1 (.str y) δ2) (c : x.length + y.length <= sizeLine) : bR X CL b (.BinOp e1 .Add e2 pos) δ (.sh (.str (x ++ y))) δ2 := qJ zX h1 h2 rfl rfl rfl fun _ _ q => ⟨x, y, rfl, rfl, c, q⟩
theorem yo {op : CmpOp} {r : R2} {p : Bool} {w1 w2 : V} (ho : qC X (compareOp op) r) (h1 : cF X CL b e1 δ d1 δ1) (h2 : cF X CL b e2 δ1 d2 δ2) (s1 : OD d1 = some w1) (s2 : OD d2 = some w2)
   (hr : ∀ (H : Hp) (Q : VK), Q (.bl p) H -> r w1 w2 H Q) (hm : behindInMarks op e2 = false) : r9 X CL b (.Compare e1 [op] [e2] pos) δ p δ2 /\ bR X CL b (.Compare e1 [op] [e2] pos) δ (.sh (.bl p)) δ2 := by
 constructor
 . intro H Z σ ts vs Q S k
   refine yJ (oU ho cg cg hm) (h1 H Z σ ts vs _ S fun v1 H1 Z1 z1 k1 S1 r1 => h2 H1 Z1 σ ts vs _ S1 fun v2 H2 Z2 z2 k2 S2 r2 => ?_)
   rw [r1.sc s1, r2.sc s2]
   exact hr H2 _ ⟨p, rfl, k H2 Z2 (z1.trans z2) (k1.trans k2) S2⟩
 . intro H Z σ ts vs Q S k
   refine bY (rX ho cg cg hm) (h1 H Z σ ts vs _ S fun v1 H1 Z1 z1 k1 S1 r1 => h2 H1 Z1 σ ts vs _ S1 fun v2 H2 Z2 z2 k2 S2 r2 => ?_)
   rw [r1.sc s1, r2.sc s2]
   exact hr H2 _ (k _ H2 Z2 (z1.trans z2) (k1.trans k2) (S2.push (.bl p)))
theorem ab1 {w1 w2 : V} (h1 : cF X CL b e1 δ d1 δ1) (h2 : cF X CL b e2 δ1 d2 δ2) (s1 : OD d1 = some w1) (s2 : OD d2 = some w2) (sc : X4 w1 w2 = true) :
   r9 X CL b (.Compare e1 [.Eq] [e2] pos) δ (decide (w1 = w2)) δ2 /\ bR X CL b (.Compare e1 [.Eq] [e2] pos) δ (.sh (.bl (decide (w1 = w2)))) δ2 := yo Ky h1 h2 s1 s2 (fun _ _ q => ⟨sc, q⟩) (nI _)
theorem wY {i j : Int} (h1 : cF X CL b e1 δ (.int i) δ1) (h2 : cF X CL b e2 δ1 (.int j) δ2) : r9 X CL b (.Compare e1 [.Eq] [e2] pos) δ (decide (i = j)) δ2 /\ bR X CL b (.Compare e1 [.Eq] [e2] pos) δ (.sh (.bl (decide (i = j)))) δ2 :=
 yo Ky h1 h2 rfl rfl (fun _ _ q => ⟨rfl, by rw [show decide (V.int i = V.int j) = decide (i = j) by simp]; exact q⟩) (nI _)
theorem oY {i j : Int} (h1 : cF X CL b e1 δ (.int i) δ1) (h2 : cF X CL b e2 δ1 (.int j) δ2) : r9 X CL b (.Compare e1 [.NotEq] [e2] pos) δ (!decide (i = j)) δ2 /\ bR X CL b (.Compare e1 [.NotEq] [e2] pos) δ (.sh (.bl (!decide (i = j)))) δ2 :=
 yo WR h1 h2 rfl rfl (fun _ _ q => ⟨rfl, by rw [show decide (V.int i = V.int j) = decide (i = j) by simp]; exact q⟩) (nI _)
theorem oZ {i j : Str} (h1 : cF X CL b e1 δ (.str i) δ1) (h2 : cF X CL b e2 δ1 (.str j) δ2) : r9 X CL b (.Compare e1 [.Eq] [e2] pos) δ (decide (i = j)) δ2 /\ bR X CL b (.Compare e1 [.Eq] [e2] pos) δ (.sh (.bl (decide (i = j)))) δ2 :=
 yo Ky h1 h2 rfl rfl (fun _ _ q => ⟨rfl, by rw [show decide (V.str i = V.str j) = decide (i = j) by simp]; exact q⟩) (nI _)
theorem P6 {i j : Str} (h1 : cF X CL b e1 δ (.str i) δ1) (h2 : cF X CL b e2 δ1 (.str j) δ2) : r9 X CL b (.Compare e1 [.NotEq] [e2] pos) δ (!decide (i = j)) δ2 /\ bR X CL b (.Compare e1 [.NotEq] [e2] pos) δ (.sh (.bl (!decide (i = j)))) δ2 :=
 yo WR h1 h2 rfl rfl (fun _ _ q => ⟨rfl, by rw [show decide (V.str i = V.str j) = decide (i = j) by simp]; exact q⟩) (nI _)
theorem CM {i j : Int} (h1 : cF X CL b e1 δ (.int i) δ1) (h2 : cF X CL b e2 δ1 (.int j) δ2) : r9 X CL b (.Compare e1 [.Lt] [e2] pos) δ (decide (i < j)) δ2 /\ bR X CL b (.Compare e1 [.Lt] [e2] pos) δ (.sh (.bl (decide (i < j)))) δ2 := yo Kz h1 h2 rfl rfl (fun _ _ q => ⟨i, j, rfl, rfl, q⟩) (nI _)
theorem P7 {i j : Int} (h1 : cF X CL b e1 δ (.int i) δ1) (h2 : cF X CL b e2 δ1 (.int j) δ2) : r9 X CL b (.Compare e1 [.Gt] [e2] pos) δ (decide (j < i)) δ2 /\ bR X CL b (.Compare e1 [.Gt] [e2] pos) δ (.sh (.bl (decide (j < i)))) δ2 := yo abG h1 h2 rfl rfl (fun _ _ q => ⟨i, j, rfl, rfl, q⟩) (nI _)
end
section
variable {K : PySem.W.Frag} {CL : Str -> Addr} {H Z : Hp}
theorem aG.split : ∀ {as bs : List T} {us ws : List V} {gp : List Addr}, as.length = us.length -> aG K CL H Z (as ++ bs) (us ++ ws) gp -> ∃ g1 g2, gp = g1 ++ g2 /\ aG K CL H Z as us g1 /\ aG K CL H Z bs ws g2
 | [], _, [], _, gp, _, r => ⟨[], gp, rfl, .nil, r⟩
 | [], _, _ :: _, _, _, h, _ => by simp at h
 | _ :: _, _, [], _, _, h, _ => by simp at h
 | a :: as, bs, u :: us, ws, gp, h, r => by
   cases r with
   | @cons _ _ _ _ f1 f2 r1 r2 =>
     obtain ⟨g1, g2, e, h1, h2⟩ := aG.split (as := as) (us := us) (by simpa using h) r2
     exact ⟨f1 ++ g1, g2, by rw [e, ain], .cons r1 h1, h2⟩
theorem aG.app {as bs : List T} {us ws : List V} {g1 g2 : List Addr} (h : aG K CL H Z as us g1) (q : aG K CL H Z bs ws g2) : aG K CL H Z (as ++ bs) (us ++ ws) (g1 ++ g2) :=
 aG.ind (P := fun as us g1 => aG K CL H Z (as ++ bs) (us ++ ws) (g1 ++ g2)) q (fun r _ i => by rw [ain]; exact .cons r i) h
theorem aG.rev : ∀ {as : List T} {us : List V} {g : List Addr}, aG K CL H Z as.reverse us.reverse g -> ∃ g', aG K CL H Z as us g' /\ g'.Perm g
 | [], [], g, r => by
   have r' : aG K CL H Z [] [] g := r
   cases r'
   exact ⟨[], .nil, aks _⟩
 | [], u :: us, g, r => by have := r.length; simp at this
 | a :: as, [], g, r => by have := r.length; simp at this
 | a :: as, u :: us, g, r => by
   rw [ajb, ajb] at r
   have hl := r.length
   obtain ⟨g1, g2, e, r1, r2⟩ := aG.split (by simp at hl ⊢; omega) r
   subst e
   obtain ⟨g', r', p⟩ := aG.rev r1
   cases r2 with
   | @cons _ _ _ _ f1 f2 q1 q2 =>
     cases q2
     refine ⟨f1 ++ g', .cons q1 r', ?_⟩
     rw [aiK]
     exact (ai8 f1 p).trans ai2
theorem aG.ofF : ∀ {ds : List D} {us : List V}, aF K CL Z ds us -> aG K CL H Z (ds.map T.sh) us []
 | _, _, .nil => .nil
 | _, _, .cons r t => .cons (fp := []) (gp := []) (.sh r) (aG.ofF t)
theorem aG.toF : ∀ {ds : List D} {us : List V} {g : List Addr}, aG K CL H Z (ds.map T.sh) us g -> aF K CL Z ds us /\ g = []
 | [], _, _, r => by
   have r' : aG K CL H Z [] _ _ := r
   cases r'
   exact ⟨.nil, rfl⟩
 | d :: ds, _, _, r => by
   have r' : aG K CL H Z (T.sh d :: ds.map T.sh) _ _ := r
   cases r' with
   | cons r1 r2 =>
     cases r1 with
     | sh h =>
       obtain ⟨q, e⟩ := aG.toF r2
       exact ⟨.cons h q, by rw [e]; rfl⟩
theorem iR : ∀ (ds : List D), T.kD (ds.map T.sh) = ds
 | [] => rfl
 | d :: ds => by rw [aiB, T.kD, iR ds, T.cu]
end
section
variable {K : PySem.W.Frag} {CL : Str -> Addr} {b : Bx} {H Z : Hp} {δ : List (Option T)} {σ : L2.St} {ts tl : List T} {vs us : List V}
theorem aO.Ad {p : Addr} (S : aO K CL b H Z δ σ (tl.reverse ++ ts) (us.reverse ++ vs)) (hl : us.length = tl.length) (hp : H p = none) :
   aB Z (upd Z p (.tup us)) /\ aB H (upd H p (.tup us)) /\ aO K CL b (upd H p (.tup us)) (upd Z p (.tup us)) δ σ (.tup tl :: ts) (.ref p :: vs) := by
 obtain ⟨fp, gp, e, r, nd, k⟩ := S.rep
 obtain ⟨g1, g2, eg, r1, r2⟩ := aG.split (by simp [hl]) r
 subst eg
 obtain ⟨g', r', pm⟩ := r1.rev
 have zp : Z p = none := S.zh.free hp
 have sz : aB Z (upd Z p (.tup us)) := aB.upd zp
 have sh : aB H (upd H p (.tup us)) := aB.upd hp
 have keep : ∀ a ∈ fp ++ (g1 ++ g2), a ≠ p := fun a ha => by
   have : ∃ o, H a = some o := by
     rcases aix.mp ha with h | h
     . exact e.there a h
     . exact r.there a h
   obtain ⟨o, q⟩ := this
   exact bF q hp
 have P8 : (fp ++ (g' ++ g2)).Perm (fp ++ (g1 ++ g2)) := (pm.append_right g2).append_left fp
 have kk : ∀ a ∈ fp ++ (g' ++ g2), a ≠ p := fun a ha => keep a (P8.mem_iff.mp ha)
 refine ⟨sz, sh, ⟨⟨fp, g' ++ g2, e.mono sz (fun a ha => aj (keep a (air _ ha))), .cons (.tup aE (r'.mono sz fun a ha => aj (kk a (by simp [ha])))) (r2.mono sz fun a ha => aj (keep a (by simp [ha]))), P8.nodup_iff.mpr nd, fun a ha => ?_⟩, S.bh.trans sh, S.zz.trans sz, fun a o q => ?_, fun a o q z => ?_, fun a o q i => ?_, S.tab⟩⟩
 . exact ⟨by rw [aj (kk a ha)]; exact (k a (P8.mem_iff.mp ha)).1, (k a (P8.mem_iff.mp ha)).2⟩
 . by_cases ha : a = p
   . subst ha; rw [aE] at q ⊢; exact q
   . rw [aj ha] at q ⊢; exact S.zh a o q
 . by_cases ha : a = p
   . subst ha; exact S.bh.free hp
   . rw [aj ha] at q; exact S.new a o q z
 . by_cases ha : a = p
   . subst ha; rw [aE] at q ⊢; exact q
   . rw [aj ha] at q ⊢; exact S.tp a o q i
theorem aO.pe {p : Addr} {g0 : List Addr} (S : aO K CL b H Z δ σ (tl.reverse ++ ts) (us.reverse ++ vs)) (hl : us.length = tl.length) (hp : H p = none) :
   aB H (upd H p (.lst us)) /\ aO K CL b (upd H p (.lst us)) Z δ σ (.lst tl :: ts) (.ref p :: vs) := by
 obtain ⟨fp, gp, e, r, nd, k⟩ := S.rep
 obtain ⟨g1, g2, eg, r1, r2⟩ := aG.split (by simp [hl]) r
 subst eg
 obtain ⟨g', r', pm⟩ := r1.rev
 have zp : Z p = none := S.zh.free hp
 have sh : aB H (upd H p (.lst us)) := aB.upd hp
 have keep : ∀ a ∈ fp ++ (g1 ++ g2), a ≠ p := fun a ha => by
   have : ∃ o, H a = some o := by
     rcases aix.mp ha with h | h
     . exact e.there a h
     . exact r.there a h
   obtain ⟨o, q⟩ := this
   exact bF q hp
 have P8 : (fp ++ (g' ++ g2)).Perm (fp ++ (g1 ++ g2)) := (pm.append_right g2).append_left fp
 have kk : ∀ a ∈ fp ++ (g' ++ g2), a ≠ p := fun a ha => keep a (P8.mem_iff.mp ha)
 have pm3 : (fp ++ ((p :: g') ++ g2)).Perm (p :: (fp ++ (g' ++ g2))) := by
   rw [aiP]; exact ajn
 refine ⟨sh, ⟨⟨fp, (p :: g') ++ g2, e.mono (.refl _) (fun a ha => aj (keep a (air _ ha))), .cons (.lst aE (r'.mono (.refl _) fun a ha => aj (kk a (by simp [ha])))) (r2.mono (.refl _) fun a ha => aj (keep a (by simp [ha]))), ?_, fun a ha => ?_⟩, S.bh.trans sh, S.zz, S.zh.trans sh, S.new, fun a o q i => ?_, S.tab⟩⟩
 . refine pm3.nodup_iff.mpr (ai3.mpr ⟨fun h => kk p h rfl, P8.nodup_iff.mpr nd⟩)
 . rcases aiw.mp (pm3.mem_iff.mp ha) with h | h
   . subst h; exact ⟨zp, S.bh.free hp⟩
   . exact k a (P8.mem_iff.mp h)
 . by_cases ha : a = p
   . subst ha; rw [aE] at q; cases q; cases i
   . rw [aj ha] at q; exact S.tp a o q i
end
section
variable {X : Cx} {CL : Str -> Addr} {b : Bx} {δ δ1 δ2 : List (Option T)} {e e1 e2 : Expr} {es : List Expr} {t : T} {d : D} {tl : List T} {ds : List D} {p q : Bool} {pos : Pos}
theorem dN : HG X CL b [] δ [] δ := fun H Z σ ts vs Q S k => Aa dM (k [] H Z rfl (.refl _) (.refl _) S)
theorem bT (h1 : bR X CL b e δ t δ1) (h2 : HG X CL b es δ1 tl δ2) (hs : starEach (e :: es) X.env = (false, eval e X.env) :: starEach es X.env := by exact aY rfl) : HG X CL b (e :: es) δ (t :: tl) δ2 := fun H Z σ ts vs Q S k =>
 Aa (bG cg HF hs) (h1 H Z σ ts vs _ S fun v H1 Z1 z1 k1 S1 => h2 H1 Z1 σ _ _ _ S1 fun us H2 Z2 hl z2 k2 S2 => k (v :: us) H2 Z2 (by simp [hl]) (z1.trans z2) (k1.trans k2) (by
   rw [ajb, ajb, ain, ain]
   exact S2))
theorem aS : Uh X CL b [] δ [] δ := fun H Z σ ts vs Q S k => Aa dM (k [] H Z (.refl _) (.refl _) S .nil)
theorem ao (h1 : cF X CL b e δ d δ1) (h2 : Uh X CL b es δ1 ds δ2) (hs : starEach (e :: es) X.env = (false, eval e X.env) :: starEach es X.env := by exact aY rfl) : Uh X CL b (e :: es) δ (d :: ds) δ2 := fun H Z σ ts vs Q S k =>
 Aa (bG cg HF hs) (h1 H Z σ ts vs _ S fun v H1 Z1 z1 k1 S1 r1 => h2 H1 Z1 σ _ _ _ S1 fun us H2 Z2 z2 k2 S2 r2 => k (v :: us) H2 Z2 (z1.trans z2) (k1.trans k2) S2 (.cons (r1.mono k2) r2))
theorem DC {j : Nat} (h : HG X CL b es δ tl δ1) (hl : tl.length <= sizeLine) : bR X CL b (.Tuple es j pos) δ (.tup tl) δ1 := fun H Z σ ts vs Q S k =>
 bY (Pj HF) (h H Z σ ts vs _ S fun us H1 Z1 hu z1 k1 S1 => ⟨by rw [hu]; exact hl, fun p hp => by
   obtain ⟨a, c, S2⟩ := S1.Ad hu hp
   exact k _ _ _ (z1.trans a) (k1.trans c) S2⟩)
theorem cV {j : Nat} (h : HG X CL b es δ (ds.map T.sh) δ1) (hl : ds.length <= sizeLine) : bR X CL b (.Tuple es j pos) δ (.sh (.tup ds)) δ1 := by
 have := Dy (DC (pos := pos) (j := j) h (by simpa using hl))
 rwa [T.cu, iR] at this
theorem fS (h : HG X CL b es δ tl δ1) (hl : tl.length <= sizeLine) : bR X CL b (.List es pos) δ (.lst tl) δ1 := fun H Z σ ts vs Q S k =>
 bY (Pk HF) (h H Z σ ts vs _ S fun us H1 Z1 hu z1 k1 S1 => ⟨by rw [hu]; exact hl, fun p hp => by
   obtain ⟨c, S2⟩ := S1.pe (g0 := []) hu hp
   exact k _ _ _ z1 (k1.trans c) S2⟩)
theorem lA (h : bR X CL b e δ (.sh (.bl p)) δ1) (he : ∀ whole, isTrue e X.env whole = (do let v ← whole; standAt e.pos; holding [v] (truthy v)) := by intro _; rfl) : r9 X CL b e δ p δ1 := fun H Z σ ts vs Q S k =>
 yJ (Xy cg he) (h H Z σ ts vs _ S fun v H1 Z1 z1 k1 S1 => ⟨p, by have := S1.view; rw [T.cu] at this; exact this.sc rfl, k H1 Z1 z1 k1 S1.pop⟩)
theorem iH (h : r9 X CL b e δ p δ1) : r9 X CL b (.UnaryOp .Not e pos) δ (!p) δ1 := fun H Z σ ts vs Q S k => yJ (XC WY) (h H Z σ ts vs _ S fun H1 Z1 z1 k1 S1 => k H1 Z1 z1 k1 S1)
noncomputable def Yv (X : Cx) (e : Expr) : TT := fun σ H Q => ∀ (whole : Sem Value) (pins : List (Addr × Obj)) (s : Shared), Inv X pins σ H s -> wpAny (model X.prog X.w) X.A (isTrue e X.env whole) (TP X pins σ Q) X.xe s
theorem pwS {e : Expr} : PW X e (Yv X e) := fun whole pins s _ _ _ I h => h whole pins s I
noncomputable def Yw (X : Cx) (CL : Str -> Addr) (b : Bx) (e : Expr) (δ : List (Option T)) (p : Bool) (δ' : List (Option T)) : Prop :=
 ∀ (H Z : Hp) (σ : L2.St) (ts : List T) (vs : List V) (Q : Bool -> Hp -> Prop), aO X.K CL b H Z δ σ ts vs -> (∀ H' Z', aB Z Z' -> aB H H' -> aO X.K CL b H' Z' δ' σ ts vs -> Q p H') -> Yv X e σ H Q
theorem Uj {t : TT} (h : PW X e t) {σ : L2.St} {H : Hp} {Q : Bool -> Hp -> Prop} (q : t σ H Q) : Yv X e σ H Q := fun whole pins s I => h whole pins s σ H Q I q
theorem tS (h : Yw X CL b e δ p δ1) : r9 X CL b e δ p δ1 := fun H Z σ ts vs Q S k pins s I => h H Z σ ts vs Q S k _ pins s I
theorem K2 (h : r9 X CL b e δ p δ1) : Yw X CL b (.BoolOp .And [e] pos) δ p δ1 := fun H Z σ ts vs Q S k => Uj (TH WY) (h H Z σ ts vs _ S k)
theorem mj (h : r9 X CL b e δ p δ1) : Yw X CL b (.BoolOp .Or [e] pos) δ p δ1 := fun H Z σ ts vs Q S k => Uj (Xz WY) (h H Z σ ts vs _ S k)
theorem Iq (h : r9 X CL b e δ p δ1) (h2 : p = true -> Yw X CL b (.BoolOp .And (e2 :: es) pos) δ1 q δ1) : Yw X CL b (.BoolOp .And (e :: e2 :: es) pos) δ (p && q) δ1 := fun H Z σ ts vs Q S k =>
 Uj (XA WY pwS) (h H Z σ ts vs _ S fun H1 Z1 z1 k1 S1 => by
   cases p with
   | true => exact Im (h2 rfl H1 Z1 σ ts vs _ S1 fun H2 Z2 z2 k2 S2 => k H2 Z2 (z1.trans z2) (k1.trans k2) S2)
   | false => exact Il (k H1 Z1 z1 k1 S1))
theorem lB (h : r9 X CL b e δ p δ1) (h2 : p = false -> Yw X CL b (.BoolOp .Or (e2 :: es) pos) δ1 q δ1) : Yw X CL b (.BoolOp .Or (e :: e2 :: es) pos) δ (p || q) δ1 := fun H Z σ ts vs Q S k =>
 Uj (abo WY pwS) (h H Z σ ts vs _ S fun H1 Z1 z1 k1 S1 => by
   cases p with
   | true => exact Im (k H1 Z1 z1 k1 S1)
   | false => exact Il (h2 rfl H1 Z1 σ ts vs _ S1 fun H2 Z2 z2 k2 S2 => k H2 Z2 (z1.trans z2) (k1.trans k2) S2))
theorem qK {op : BoolOp} (h : bR X CL b e δ t δ1) : bR X CL b (.BoolOp op [e] pos) δ t δ1 := fun H Z σ ts vs Q S k => bY (XD cg) (h H Z σ ts vs _ S k)
theorem mq (h : bR X CL b e δ (.sh (.bl p)) δ1) (h2 : p = true -> bR X CL b (.BoolOp .And (e2 :: es) pos) δ1 (.sh (.bl q)) δ1) : bR X CL b (.BoolOp .And (e :: e2 :: es) pos) δ (.sh (.bl (p && q))) δ1 := fun H Z σ ts vs Q S k =>
 bY (XE cg cg) (h H Z σ ts vs _ S fun v H1 Z1 z1 k1 S1 => by
   have hv : v = .bl p := by have := S1.view; rw [T.cu] at this; exact this.sc rfl
   refine ⟨p, hv, ?_⟩
   cases p with
   | true => exact Im (h2 rfl H1 Z1 σ ts vs _ S1.pop fun v H2 Z2 z2 k2 S2 => k v H2 Z2 (z1.trans z2) (k1.trans k2) S2)
   | false => exact Il (k _ H1 Z1 z1 k1 (S1.pop.push (.bl false))))
theorem ab2 (h : bR X CL b e δ (.sh (.bl p)) δ1) (h2 : p = false -> bR X CL b (.BoolOp .Or (e2 :: es) pos) δ1 (.sh (.bl q)) δ1) : bR X CL b (.BoolOp .Or (e :: e2 :: es) pos) δ (.sh (.bl (p || q))) δ1 := fun H Z σ ts vs Q S k =>
 bY (abq cg cg) (h H Z σ ts vs _ S fun v H1 Z1 z1 k1 S1 => by
   have hv : v = .bl p := by have := S1.view; rw [T.cu] at this; exact this.sc rfl
   refine ⟨p, hv, ?_⟩
   cases p with
   | true => exact Im (k _ H1 Z1 z1 k1 (S1.pop.push (.bl true)))
   | false => exact Il (h2 rfl H1 Z1 σ ts vs _ S1.pop fun v H2 Z2 z2 k2 S2 => k v H2 Z2 (z1.trans z2) (k1.trans k2) S2))
theorem zH {K : PySem.W.Frag} {Z : Hp} {vs : List V} {k : Int} (r : aF K CL Z ds vs) (h : yk ds k = some d) : ∃ v, yk vs k = some v /\ aZ K CL Z d v := by
 unfold yk at h ⊢
 rw [← r.length]
 cases e : OB ds.length k with
 | none => rw [e] at h; cases h
 | some j =>
   rw [e] at h
   exact r.get h
theorem bM {k : Int} (h1 : cF X CL b e1 δ (.tup ds) δ1) (h2 : cF X CL b e2 δ1 (.int k) δ2) (hk : yk ds k = some d) (hs : oV e2 := by exact fun _ _ => rfl) : cF X CL b (.Subscript e1 e2 pos) δ d δ2 := fun H Z σ ts vs Q S kk =>
 bY (CH Px cg cg hs) (h1 H Z σ ts vs _ S fun v1 H1 Z1 z1 k1 S1 r1 => h2 H1 Z1 σ ts vs _ S1 fun v2 H2 Z2 z2 k2 S2 r2 => by
   have Yx := r1.mono k2
   cases Yx with
   | tup hq rr =>
     obtain ⟨v, hv, rv⟩ := zH rr hk
     exact ⟨_, _, k, v, rfl, r2.sc rfl, hq, hv, kk v H2 Z2 (z1.trans z2) (k1.trans k2) S2 rv⟩)
theorem i7 {k : Int} (h1 : cF X CL b e1 δ (.lst ds) δ1) (h2 : cF X CL b e2 δ1 (.int k) δ2) (hk : yk ds k = some d) (hs : oV e2 := by exact fun _ _ => rfl) : cF X CL b (.Subscript e1 e2 pos) δ d δ2 := fun H Z σ ts vs Q S kk =>
 bY (CH Dl cg cg hs) (h1 H Z σ ts vs _ S fun v1 H1 Z1 z1 k1 S1 r1 => h2 H1 Z1 σ ts vs _ S1 fun v2 H2 Z2 z2 k2 S2 r2 => by
   have Yx := r1.mono k2
   cases Yx with
   | lst hq rr =>
     obtain ⟨v, hv, rv⟩ := zH rr hk
     exact ⟨_, _, k, v, rfl, r2.sc rfl, hq, hv, kk v H2 Z2 (z1.trans z2) (k1.trans k2) S2 rv⟩)
theorem Yy {k : Int} {x : Str} {c : Nat} (h1 : cF X CL b e1 δ (.str x) δ1) (h2 : cF X CL b e2 δ1 (.int k) δ2) (hl : x.length <= sizeLine) (hk : yk x.cps.toList k = some c) (hs : oV e2 := by exact fun _ _ => rfl) : bR X CL b (.Subscript e1 e2 pos) δ (.sh (.str ⟨#[c]⟩)) δ2 := fun H Z σ ts vs Q S kk =>
 bY (CH Yc cg cg hs) (h1 H Z σ ts vs _ S fun v1 H1 Z1 z1 k1 S1 r1 => h2 H1 Z1 σ ts vs _ S1 fun v2 H2 Z2 z2 k2 S2 r2 =>
   ⟨x, k, c, r1.sc rfl, r2.sc rfl, hl, hk, kk _ H2 Z2 (z1.trans z2) (k1.trans k2) (S2.push (.str _))⟩)
theorem Yz {k : Int} (h1 : bR X CL b e1 δ (.sh (.tup ds)) δ1) (h2 : cF X CL b e2 δ1 (.int k) δ2) (hk : yk ds k = some d) (hs : oV e2 := by exact fun _ _ => rfl) : bR X CL b (.Subscript e1 e2 pos) δ (.sh d) δ2 := fun H Z σ ts vs Q S kk =>
 bY (CH Px cg cg hs) (h1 H Z σ ts vs _ S fun v1 H1 Z1 z1 k1 S1 => h2 H1 Z1 σ _ _ _ S1 fun v2 H2 Z2 z2 k2 S2 r2 => by
   obtain ⟨fp, gp, _, r, _, _⟩ := S2.rep
   cases r with
   | cons r _ =>
     cases r with
     | sh r =>
       cases r with
       | tup hq rr =>
         obtain ⟨v, hv, rv⟩ := zH rr hk
         exact ⟨_, _, k, v, rfl, r2.sc rfl, aB.KY S2.zh hq, hv, kk v H2 Z2 (z1.trans z2) (k1.trans k2) (S2.pop.push rv)⟩)
end
section
variable {K : PySem.W.Frag} {CL : Str -> Addr} {b : Bx} {H Z : Hp} {δ : List (Option T)} {σ : L2.St} {ts : List T} {vs us : List V} {t : T} {v : V}
theorem aO.tE : ∀ {ds : List D} {us : List V} {ts : List T} {vs : List V}, aF K CL Z ds us -> aO K CL b H Z δ σ ts vs -> aO K CL b H Z δ σ ((ds.map T.sh).reverse ++ ts) (us.reverse ++ vs)
 | _, _, _, _, .nil, S => S
 | _, _, ts, vs, .cons (d := d) (v := v) (ds := ds) (vs := us) r t, S => by
   rw [aiB, ajb, ajb, ain, ain]
   exact aO.tE t (S.push r)
end
section
variable {X : Cx} {CL : Str -> Addr} {b : Bx} {δ δ1 : List (Option T)} {e : Expr} {es : List Expr} {t : T} {ds : List D} {p q : Bool} {pos pp : Pos}
theorem zI (hm : X.mg "len" = none) (h : cF X CL b e δ (.lst ds) δ1) (hg : Gl X "len" := by rfl) (hs : starEach [e] X.env = (false, eval e X.env) :: starEach [] X.env := by exact aY rfl) (qH : (backTo pos (starEach ([] : List Expr) X.env)).any (·.1) = false := by rfl) : bR X CL b (.Call (.Name "len" pp) [e] [] pos) δ (.sh (.int ds.length)) δ1 := fun H Z σ ts vs Q S k =>
 bY (z6 Dn hg hm PySem.boot_len (bG cg dM hs) (he := hs)) (h H Z σ ts vs _ S fun v H1 Z1 z1 k1 S1 r => by
   cases r with
   | lst hq rr => exact ⟨_, _, rfl, .inl hq, by rw [← rr.length]; exact k _ H1 Z1 z1 k1 (S1.push (.int _))⟩)
theorem Uk {x : Str} (hm : X.mg "len" = none) (h : cF X CL b e δ (.str x) δ1) (hl : x.length <= sizeLine) (hg : Gl X "len" := by rfl) (hs : starEach [e] X.env = (false, eval e X.env) :: starEach [] X.env := by exact aY rfl) : bR X CL b (.Call (.Name "len" pp) [e] [] pos) δ (.sh (.int x.length)) δ1 := fun H Z σ ts vs Q S k =>
 bY (z6 Dp hg hm PySem.boot_len (bG cg dM hs) (he := hs)) (h H Z σ ts vs _ S fun v H1 Z1 z1 k1 S1 r => ⟨x, by rw [r.sc rfl], hl, k _ H1 Z1 z1 k1 (S1.push (.int _))⟩)
theorem dO (hm : X.mg "list" = none) (h : cF X CL b e δ (.lst ds) δ1) (hi : D.bK ds = true) (hg : Gl X "list" := by rfl) (hv : bootBuiltins "list" = some (.type "list") := by rfl) (hs : starEach [e] X.env = (false, eval e X.env) :: starEach [] X.env := by exact aY rfl) : bR X CL b (.Call (.Name "list" pp) [e] [] pos) δ (.lst (ds.map T.sh)) δ1 := fun H Z σ ts vs Q S k =>
 bY (ji Dq hg hm hv (bG cg dM hs) (he := hs)) (h H Z σ ts vs _ S fun v H1 Z1 z1 k1 S1 r => by
   cases r with
   | lst hq rr =>
     refine ⟨_, _, rfl, .inl hq, fun l hl => ?_⟩
     obtain ⟨c, S2⟩ := (aO.tE (aF.kX S1.tp hi rr) S1).pe (g0 := []) (by simp [rr.length]) hl
     exact k _ _ _ z1 (k1.trans c) S2)
noncomputable def OG (K : PySem.W.Frag) (CL : Str -> Addr) {A : Type} (n : Nat) (arg : A -> List D) (Pre : A -> Prop) (res : A -> T) : Sp := fun vs H Q _ =>
 ∃ (W : Hp) (a : A), aB W H /\ (∀ c o, H c = some o -> mh o = true -> W c = some o) /\ aF K CL W (arg a) vs /\ (arg a).length = n /\ Pre a /\ oW CL W ∧
   ∀ v H' W' fp, aB H H' -> aB W W' -> aB W' H' -> (∀ c o, W' c = some o -> W c = none -> H c = none) -> (∀ c o, H' c = some o -> mh o = true -> W' c = some o) →
     bu K CL H' W' (res a) v fp -> fp.Nodup -> (∀ c ∈ fp, W' c = none /\ H c = none) -> Q v H'
section
variable {A : Type} {k n : Nat} {f : Addr} {fd : FuncData} {ps : List Str} {arg : A -> List D} {Pre : A -> Prop} {res : A -> T} {x : Str}
theorem Ul (a : A) (F : iE X.prog X.w X.K X.mg X.base uQ k f fd ps (OG X.K CL n arg Pre res)) (hr : gA k X.A) (hm : X.mg x = some (.ref f)) (hk : PySem.W.keepIn X.K (.ref f) = true) (hb : Binds X.K fd ps [])
   (h : Uh X CL b (e :: es) δ (arg a) δ1) (hn : (arg a).length = n) (hp : Pre a) (hc : (res a).clean = true) (hg : Gl X x)
   (uT : (x == ("__debug__" : Str)) = false := by decide) (he : starEach (e :: es) X.env = (false, eval e X.env) :: starEach es X.env := by exact aY rfl) (qH : (backTo pos (starEach es X.env)).any (·.1) = false := by rfl) :
   bR X CL b (.Call (.Name x pp) (e :: es) [] pos) δ (res a) δ1 := fun H Z σ ts vs Q S kk =>
 bY (Di F hr hg hm hk hb .nil CK HF uT he qH) (h H Z σ ts vs _ S fun us H1 Z1 z1 k1 S1 r => by
   rw [aiK]
   refine ⟨H1, a, .refl _, fun _ _ q _ => q, r, hn, hp, S1.Ug, fun v H' W' fp hh ww wh nw tp rt nd own => ?_⟩
   obtain ⟨Z', z', S'⟩ := S1.back hh S1.zh ww wh nw tp rt nd own (.inr hc)
   exact kk v H' Z' (z1.trans z') (k1.trans hh) S')
end
variable {D : eo} {st : Stmt} {fC ab3 : List Stmt}
theorem aq (h : D.nx δ) : e9 X CL b [] δ D := fun H Z σ ts vs E S M => abZ TL (M.nx δ σ H Z (.refl _) S h)
theorem bO (h : MD X CL b st δ { D with nx := fun δ1 => e9 X CL b fC δ1 D }) : e9 X CL b (st :: fC) δ D := fun H Z σ ts vs E S M =>
 abZ (O1 psS MC) (h H Z σ ts vs _ S ⟨fun δ' σ' H' Z' s S' k => k H' Z' σ' ts vs E S' (M.mono s), M.rt, M.bk, M.ct⟩)
theorem YB (h : bR X CL b e δ t δ1) (k : D.rt t δ1) : MD X CL b (.Return (some e) pos) δ D := fun H Z σ ts vs E S M => nM (O2 cg) (h H Z σ ts vs _ S fun v H1 Z1 z1 k1 S1 => M.rt t v H1 Z1 δ1 σ z1 S1 k)
theorem ab4 (h : r9 X CL b e δ p δ1) (h1 : p = true -> e9 X CL b fC δ1 D) (h2 : p = false -> e9 X CL b ab3 δ1 D) : MD X CL b (.If e fC ab3 pos) δ D := fun H Z σ ts vs E S M =>
 nM (WN WY MC MC) (h H Z σ ts vs _ S fun H1 Z1 z1 k1 S1 => by
   cases p with
   | true => exact Im (h1 rfl H1 Z1 σ ts vs E S1 (M.mono z1))
   | false => exact Il (h2 rfl H1 Z1 σ ts vs E S1 (M.mono z1)))
theorem P9 (i : Nat) {x : Str} {pos' : Pos} (h : bR X CL b e δ t δ1) (k : D.nx (δ1.set i (some t))) (hl : i < δ1.length := by decide) (hN : X.N.Nodup := by assumption) (hi : X.N[i]? = some x := by rfl) (hx : Loc X.env.scope x := by first | exact .inl rfl | exact .inr rfl)
   (hs : swapsWith e (some (.Name x pos')) pos.line X.env = pure false := by rfl) (hf : X.fn x = true \/ X.env.scope.names.lookup x = some .local := by first | exact .inl rfl | exact .inr rfl | assumption) : MD X CL b (.Assign [.Name x pos'] e pos) δ D := fun H Z σ ts vs E S M =>
 nM (O4 hN hi hx cg hs hf) (h H Z σ ts vs _ S fun v H1 Z1 z1 k1 S1 => M.nx _ _ H1 Z1 z1 (S1.set hl) k)
end
noncomputable def entry (N : List Str) (ds : List D) : List (Option T) := ds.map (fun d => some (T.sh d)) ++ List.replicate (N.length - ds.length) none
theorem mw {K : PySem.W.Frag} {CL : Str -> Addr} {H Z : Hp} : ∀ {ds : List D} {vs : List V} (n : Nat), aF K CL Z ds vs -> cG K CL H Z (ds.map (fun d => some (T.sh d)) ++ List.replicate n none) (vs.map some ++ List.replicate n none) []
 | _, _, 0, .nil => .nil
 | _, _, n + 1, .nil => .skip (mw (ds := []) (vs := []) n .nil)
 | _, _, n, .cons r t => .cons (fp := []) (gp := []) (.sh r) (mw n t)
theorem K3 {P : Program} {w : World} {K : PySem.W.Frag} {mg : Str -> Option Value} {base : Heap} {CL : Str -> Addr} {x qual : Str} {st : Stmt} {f : Addr} {fd : FuncData} {N ps : List Str} {k : Nat} {A : Type} {arg : A -> List D} {Pre : A -> Prop} {res : A -> T} (F : nL K x qual st f fd) (S : aM N ps (ak st))
   (hb : ∀ (kh : Value) (Ar : Around) (outer : List Env) (s : Shared) (H : Hp) (E : XK) (b : Bx) (a : A), gA k (Ar.deeper (envOfC qual (ak st) s.heap.objs.size f kh)) -> Pre a →
     e9 (zY uQ P w K mg base N qual (ak st) f kh Ar outer s H E).TJ CL b (dU st) (entry N (arg a)) { nx := fun _ => res a = .sh .non, rt := fun t _ => t = res a }) :
   iE P w K mg base uQ (k + 1) f fd ps (OG K CL ps.length arg Pre res) := by
 refine F.ok S (fun vs H Q E h => ?_) (fun kh Ar outer s H vs Q E hr h => ?_)
 . obtain ⟨W, a, _, _, r, hl, _⟩ := h
   rw [← r.length]; exact hl
 . obtain ⟨W, a, wh, tp, r, hl, hp, tb, kk⟩ := h
   refine ⟨_, MC, hb kh Ar outer s H E ⟨H, W⟩ a hr hp H W _ [] [] _ ⟨⟨[], [], ?_, .nil, ajI, fun a ha => by cases ha⟩, .refl _, .refl _, wh, fun a o q z => ?_, tp, tb⟩ ⟨fun δ' σ' H' Z' s' S' e => ?_, fun t v H' Z' δ' σ' s' S' e => ?_, fun _ _ _ _ _ _ e => e.elim, fun _ _ _ _ _ _ e => e.elim⟩⟩
   . unfold entry L2.start
     rw [← r.length]
     exact mw _ r
   . have q' : W a = some o := q
     have z' : W a = none := z
     rw [q'] at z'; cases z'
   . exact kk .non H' Z' [] S'.bh S'.zz S'.zh S'.new S'.tp (by rw [show res a = .sh .non from e]; exact .sh .non) ajI fun a ha => by cases ha
   . have e' : t = res a := e
     subst e'
     obtain ⟨fp, gp, _, r', nd, own⟩ := S'.rep
     cases r' with
     | @cons _ _ _ _ f1 f2 r1 r2 =>
       have h1 := (aiW.mp nd).2.1
       exact kk v H' Z' f1 S'.bh S'.zz S'.zh S'.new S'.tp r1 (aiW.mp h1).1 fun a ha => own a (ail _ (air _ ha))
section
variable {prog : Program} {w : World} {A : Around} {R : Result -> Shared -> Prop} {s : Shared}
theorem uZ {elt target iter : Expr} {ifs : List Expr} {scope : Scope} {pos : Pos} {it acc : Value} {env : Env} (I : Nat -> Shared -> Prop)
   (turn : ∀ n s, I n s -> wpAny (model prog w) A (pyNext it) (fun r s₁ => match r with
     | none => R (.ok .next) s₁
     | some v => wpAny (model prog w) A (letOwnedTupleGo target it v) (fun _ W0 => wpAny (model prog w) A (assign target env v) (fun _ s₂ =>
         wpAny (model prog w) A (forIn ifs true fun c r => if r = true then do let ok ← isTrue c env (eval c env); pure (ForInStep.yield ok) else pure (ForInStep.yield r)) (fun ok s₃ =>
           if ok = true then wpAny (model prog w) A (eval elt env) (fun x s₄ =>
             wpAny (model prog w) A (call (.builtin "list.append") [acc, x]) (fun _ s₅ => ∃ m, m < n /\ I m s₅) (fun _ _ => False) s₄) (fun _ _ => False) s₃
           else ∃ m, m < n /\ I m s₃) (fun _ _ => False) s₂) (fun _ _ => False) W0) (fun _ _ => False) s₁) (fun _ _ => False) s)
   (n : Nat) (h : I n s) :
   codeAny (model prog w) A (.compLoop (.ListComp elt [⟨target, iter, ifs, 0⟩] scope pos) 0 it acc env) R s := by
 refine codeAny_loop rfl I (fun n s hI => ?_) n h
 show wpAny _ A ((compTurn (.ListComp elt [⟨target, iter, ifs, 0⟩] scope pos) 0 it acc env).onRaise (fun x => do noteFrame x env; theTreesLotGoes x)) _ _ s
 refine wpAny_noted ?_
 rw [compTurn_list]
 refine aim (wpAny_standAt (aim (ajB (turn n s hI) (fun r s₁ h₁ => ?_) fun _ _ h' => h'.elim)))
 cases r with
 | none => exact aiz h₁
 | some v =>
   refine aim (ajB h₁ (fun _ W0 h₁' => ?_) fun _ _ h' => h'.elim)
   refine aim (ajB h₁' (fun _ s₂ h₂ => aim (ajB h₂ (fun ok s₃ h₃ => ?_) fun _ _ h' => h'.elim)) fun _ _ h' => h'.elim)
   cases ok with
   | false => exact aiz ⟨rfl, h₃⟩
   | true =>
     exact aim (aim (ajB h₃ (fun x s₄ h₄ => aim (ajB h₄ (fun _ s₅ h₅ => aiz (aiz ⟨rfl, h₅⟩)) fun _ _ h' => h'.elim)) fun _ _ h' => h'.elim))
end
noncomputable def gC (env : Env) : List (Str × NameKind) -> List (Str × Addr) -> List (Str × Addr)
 | [], cs => cs
 | (n, k) :: r, cs => gC env r (if k == .free then (n, (env.cells.lookup n).getD 0) :: cs else cs)
theorem tF {scope : Scope} {env : Env} (h : ∀ x ∈ scope.names, x.2 = .free -> ∃ c, env.cells.lookup x.1 = some c) : closureFor scope env = pure (gC env scope.names []) := by
 have go : ∀ (l : List (Str × NameKind)) (cs : List (Str × Addr)), (∀ x ∈ l, x.2 = .free -> ∃ c, env.cells.lookup x.1 = some c) →
     (forIn l cs fun x r => match x with | (name, kind) => if (kind == NameKind.free) = true then do let a ← cellOf env name; pure (ForInStep.yield ((name, a) :: r)) else pure (ForInStep.yield r) : Sem (List (Str × Addr))) = pure (gC env l cs) := by
   intro l
   induction l with
   | nil => intro cs _; rfl
   | cons x r ih =>
     intro cs hx
     obtain ⟨n, k⟩ := x
     rw [List.forIn_cons]
     by_cases hk : k = .free
     . subst hk
       obtain ⟨c, hc⟩ := hx (n, .free) aiq rfl
       have e : cellOf env n = pure c := by unfold cellOf; rw [hc]
       simp only [akg, if_true, e, pure_bind]
       rw [ih _ fun y hy => hx y (ais _ hy)]
       simp only [gC, akg, if_true]
       rw [hc]; rfl
     . have hb : (k == NameKind.free) = false := by simpa using hk
       simp only [hb, ako, akn, pure_bind]
       rw [ih _ fun y hy => hx y (ais _ hy)]
       simp only [gC, hb, ako, akn]
 unfold closureFor
 have := go scope.names [] h
 simp only [bind_pure] at this ⊢
 exact this
theorem mz {env : Env} : ∀ {l : List (Str × NameKind)} {cs : List (Str × Addr)} {y : Str} {c : Addr}, (∀ x ∈ l, x.2 = .free -> ∃ c, env.cells.lookup x.1 = some c) -> (∀ y c, cs.lookup y = some c -> env.cells.lookup y = some c) →
   (gC env l cs).lookup y = some c -> env.cells.lookup y = some c
 | [], cs, y, c, _, h, e => h y c e
 | (n, k) :: r, cs, y, c, hx, h, e => by
   refine mz (l := r) (fun z hz => hx z (ais _ hz)) (fun z d hz => ?_) e
   by_cases hk : k = .free
   . subst hk
     obtain ⟨c', hc⟩ := hx (n, .free) aiq rfl
     simp only [akg, if_true, hc, Option.getD_some, aiY] at hz
     by_cases hzn : (z == n) = true
     . rw [hzn] at hz
       have : z = n := by simpa using hzn
       subst this
       cases hz
       exact hc
     . have : (z == n) = false := by simpa using hzn
       rw [this] at hz
       exact h z d hz
   . have hb : (k == NameKind.free) = false := by simpa using hk
     rw [hb] at hz
     exact h z d hz
theorem yp {env : Env} {y : Str} : ∀ {l : List (Str × NameKind)} {cs : List (Str × Addr)}, (∃ c, cs.lookup y = some c) -> ∃ c, (gC env l cs).lookup y = some c
 | [], cs, h => h
 | (n, k) :: r, cs, h => by
   refine yp (l := r) ?_
   by_cases hk : (k == NameKind.free) = true
   . rw [aiC hk, aiY]
     by_cases hy : (y == n) = true
     . rw [hy]; exact ⟨_, rfl⟩
     . have : (y == n) = false := by simpa using hy
       rw [this]; exact h
   . rw [aiu hk]; exact h
theorem mC {env : Env} {y : Str} : ∀ {l : List (Str × NameKind)} {cs : List (Str × Addr)}, l.lookup y = some .free -> ∃ c, (gC env l cs).lookup y = some c
 | [], _, h => by simp at h
 | (n, k) :: r, cs, h => by
   rw [aiY] at h
   by_cases hy : (y == n) = true
   . rw [hy] at h
     cases h
     refine yp (l := r) ?_
     rw [aiC (by rfl), aiY, hy]
     exact ⟨_, rfl⟩
   . have : (y == n) = false := by simpa using hy
     rw [this] at h
     exact mC (l := r) h
noncomputable def bP (X : Cx) (scope : Scope) (Nc : List Str) (C : Addr) (s : Shared) (H : Hp) (fp : List Addr) : Cx where
 prog := X.prog
 w := X.w
 K := X.K
 mg := X.mg
 base := X.base
 A := X.A
 N := Nc
 s₀ := s
 H₀ := H
 env := compEnvC scope (gC X.env scope.names []) C X.env
 outer := X.stack
 stack := X.stack
 ex := fp
 fn := fun _ => false
 calm := X.calm
 pn := []
 xe := fun _ _ => False
structure g6 (X : Cx) (scope : Scope) (x : Str) (Nc : List Str) (ix : List Nat) : Prop where
 kind : scope.kind = .function
 wZ : ∀ y ∈ scope.names, y.2 ≠ .cell
 nd : Nc.Nodup
 names : ∀ y ∈ scope.names, y.2 = .local -> scope.names.lookup y.1 = some .local
 own : scope.names.lookup x = some .local
 frees : ∀ y ∈ scope.names, y.2 = .free -> scope.names.lookup y.1 = some .free /\ (X.env.kindOf y.1 = some .cell \/ X.env.kindOf y.1 = some .free)
 hd : Nc = x :: ix.filterMap (X.N[·]?)
 W2 : ∀ i ∈ ix, ∃ y, X.N[i]? = some y /\ scope.names.lookup y = some .free
theorem dP {env : Env} : ∀ {names : List (Str × NameKind)} {x : Str} {k : NameKind}, names.lookup x = some k -> 
   (names.map fun (n, k) => if (k == NameKind.free && env.scope.kind == .function && env.kindOf n == some .cell) then (n, NameKind.cell) else (n, k)).lookup x = some (if (k == NameKind.free && env.scope.kind == .function && env.kindOf x == some .cell) then .cell else k)
 | [], _, _, h => by simp at h
 | (n, k') :: r, x, k, h => by
   have ih := @dP env r x k
   show List.lookup x ((if (k' == NameKind.free && env.scope.kind == .function && env.kindOf n == some .cell) = true then (n, NameKind.cell) else (n, k')) :: _) = _
   cases hx : x == n with
   | true =>
     simp only [aiY, hx] at h
     cases h
     have e : x = n := by simpa using hx
     subst e
     split <;> simp [aiY]
   | false =>
     simp only [aiY, hx] at h
     split
     . simp only [aiY, hx]; exact ih h
     . simp only [aiY, hx]; exact ih h
theorem iI {env : Env} : ∀ {names : List (Str × NameKind)} {x : Str}, names.lookup x = none -> 
   (names.map fun (n, k) => if (k == NameKind.free && env.scope.kind == .function && env.kindOf n == some .cell) then (n, NameKind.cell) else (n, k)).lookup x = none
 | [], _, _ => rfl
 | (n, k') :: r, x, h => by
   have ih := @iI env r x
   show List.lookup x ((if (k' == NameKind.free && env.scope.kind == .function && env.kindOf n == some .cell) = true then (n, NameKind.cell) else (n, k')) :: _) = _
   cases hx : x == n with
   | true => simp only [aiY, hx] at h; cases h
   | false =>
     simp only [aiY, hx] at h
     split
     . simp only [aiY, hx]; exact ih h
     . simp only [aiY, hx]; exact ih h
section
variable {X : Cx} {scope : Scope} {x : Str} {Nc : List Str} {ix : List Nat} {pins : List (Addr × Obj)} {σ : L2.St} {H : Hp} {s : Shared}
noncomputable def mD (σ : L2.St) (ix : List Nat) (o : Option V) : L2.St := o :: ix.map fun i => (σ[i]?).getD none
theorem Ir {fp : List Addr} (sc : g6 X scope x Nc ix) (I : Inv X pins σ H s) (ql : ∀ b ∈ fp, sU X pins H b /\ b < s.heap.objs.size) {h' : Heap} {m : Str -> Option Value} {tk : Nat}
   (hn : h'.Ns s.heap.objs.size m) (hk : ∀ b o, s.heap.get? b = some o -> h'.get? b = some o) :
   Inv (bP X scope Nc s.heap.objs.size s H fp) [] (mD σ ix none) H { s with heap := h', toks := tk } := by
 have frees : ∀ y ∈ scope.names, y.2 = .free -> ∃ c, X.env.cells.lookup y.1 = some c := fun y hy e => I.ok.has y.1 (sc.frees y hy e).2
 have sub : ∀ {y : Str} {c : Addr}, (gC X.env scope.names []).lookup y = some c -> X.env.cells.lookup y = some c := fun {y c} e => mz frees (fun _ _ z => by cases z) e
 have hlen : (mD σ ix none).length = Nc.length := by
   have all : ∀ l : List Nat, (∀ i ∈ l, ∃ y, X.N[i]? = some y /\ scope.names.lookup y = some .free) -> (l.filterMap (X.N[·]?)).length = l.length := by
     intro l
     induction l with
     | nil => intro _; rfl
     | cons i r ih =>
       intro h
       obtain ⟨y, e, _⟩ := h i aiq
       rw [aju, e]
       show _ + 1 = _ + 1
       rw [ih fun j hj => h j (ais _ hj)]
   unfold mD
   rw [sc.hd, ai7, ai7, aio, all ix sc.W2]
 have C0 : s.heap.get? s.heap.objs.size = none := Heap.get?_none_of_le (ait _)
 refine ⟨⟨I.ok.mod, sc.kind, I.ok.glob, I.ok.blt, ait _, fun y z c h1 h2 => I.ok.inj y z c (sub h1) (sub h2), fun y hy => ?_, fun y c hf _ => (by cases (show false = true from hf)), I.ok.hd, I.ok.frames, .inl rfl, fun b hb => ⟨aiX (ql b hb).2, fun y c e => (ql b hb).1.2.2.2.2.1 y c (sub e)⟩, I.bs, aje I.ok.Ox I.sz, fun b o e hb => ?_, fun b hb hf => ?_, I.stack, I.De⟩,
   rfl, I.bare, Un.kept hk, ⟨m, hn, fun i y v h1 h2 h3 => ?_⟩, fun y c e => ?_, I.dw.fresh (ait _), fun y c e => I.oi y c (sub e), fun p hp => absurd (show p ∈ ([] : List (Addr × Obj)) from hp) (by simp), I.dw.kept hk, hlen⟩
 . 
   have Yk : (relabel scope X.env).names.lookup y = some .cell \/ (relabel scope X.env).names.lookup y = some .free := hy
   cases e : scope.names.lookup y with
   | none => 
     have := iI (env := X.env) e
     rcases Yk with q | q <;> (rw [show (relabel scope X.env).names.lookup y = none from this] at q; cases q)
   | some k =>
     have q := dP (env := X.env) e
     have hk : k = .free := by
       by_cases hk : k = .free
       . exact hk
       . have hb : (k == NameKind.free) = false := by simpa using hk
         rw [aiu (by rw [hb]; simp)] at q
         have nc : k ≠ .cell := fun z => by
           subst z
           exact sc.wZ _ (ajo e) rfl
         rcases Yk with z | z
         . rw [show (relabel scope X.env).names.lookup y = some k from q] at z
           exact absurd (aiN z) nc
         . rw [show (relabel scope X.env).names.lookup y = some k from q] at z
           exact absurd (aiN z) hk
     subst hk
     exact mC e
 . 
   rcases (ql b hb).1.2.2.2.1 with z | z
   . exact I.ok.Mg b o e z
   . exact absurd (ai0 (aiF e) (aje I.ok.Ox z)) (ajY _)
 . rcases aiw.mp (I.wQ b hf) with z | z
   . exact (ql b hb).1.2.1 z
   . exact (ql b hb).1.2.2.1 z
 . 
   unfold mD at h2
   cases i with
   | zero => cases h2
   | succ i =>
     rw [List.getElem?_cons_succ, aiE] at h2
     cases ei : ix[i]? with
     | none => rw [ei] at h2; cases h2
     | some j =>
       rw [ei] at h2
       have Um : (σ[j]?).getD none = some v := aiN h2
       have hj : σ[j]? = some (some v) := by
         cases q : σ[j]? with
         | none => rw [q] at Um; cases Um
         | some o => rw [q] at Um; exact congrArg some Um
       obtain ⟨y', hy1, YC⟩ := sc.W2 j (aiM ei)
       have hNc : Nc[i + 1]? = some y' := by
         have all : ∀ (l : List Nat) (i : Nat), (∀ j ∈ l, ∃ y, X.N[j]? = some y /\ scope.names.lookup y = some .free) -> l[i]? = some j -> (l.filterMap (X.N[·]?))[i]? = some y' := by
           intro l
           induction l with
           | nil => intro i _ h; simp at h
           | cons a r ih =>
             intro i h hi
             obtain ⟨ya, ea, _⟩ := h a aiq
             rw [aju, ea]
             cases i with
             | zero =>
               simp at hi
               subst hi
               rw [hy1] at ea
               cases ea
               rfl
             | succ i => exact ih i (fun j hj => h j (List.mem_cons_of_mem _ hj)) (by simpa using hi)
         rw [sc.hd, List.getElem?_cons_succ]
         exact all ix i sc.W2 ei
       have ey : y' = y := by
         have h1' : Nc[i + 1]? = some y := h1
         rw [hNc] at h1'
         exact aiN h1'
       subst ey
       have zZ := (sc.frees (y', .free) (ajo YC) rfl).2
       have YD : Xr X.env.scope y' := zZ.elim (fun z => .inr (.inl z)) (fun z => .inr (.inr z))
       obtain ⟨m0, hn0, hl0⟩ := I.loc
       obtain ⟨u, ru, lk⟩ := hl0 j y' v hy1 hj YD
       refine ⟨u, ru, ?_⟩
       rcases lk with ⟨kk, _⟩ | ⟨_, c, hc, yg⟩
       . rcases zZ with z | z
         . rw [kk] at z; cases z
         . rw [kk] at z; cases z
       . obtain ⟨c', WM⟩ := mC (env := X.env) (cs := []) YC
         have : c' = c := by
           have := sub WM
           rw [hc] at this
           exact (aiN this).symm
         subst this
         obtain ⟨o, ho, hd⟩ := yg
         refine .inr ⟨?_, c', WM, o, hk _ _ ho, hd⟩
         have q := dP (env := X.env) YC
         show (relabel scope X.env).names.lookup y' = some .cell \/ (relabel scope X.env).names.lookup y' = some .free
         rw [show (relabel scope X.env).names.lookup y' = _ from q]
         split
         . exact .inl rfl
         . exact .inr rfl
 . obtain ⟨v, o, ho, hd⟩ := I.cell y c (sub e)
   exact ⟨v, o, hk _ _ ho, hd⟩
theorem CN {fp : List Addr} {Kr : List (Addr × Obj)} {σ' : L2.St} {H' : Hp} {s' : Shared} {h'' : Heap} (I : Inv X pins σ H s) (ql : ∀ b ∈ fp, sU X pins H b)
   (J : Inv (bP X scope Nc s.heap.objs.size s H fp) Kr σ' H' s') (hs : Heap.SameBut s.heap.objs.size s'.heap h'') : Inv X pins σ H' { s' with heap := h'' } := by
 have un : Un (Ow X.stack) fp H H' s.heap s'.heap := J.base
 have un2 : Un (Ow X.stack) fp H H' s.heap h'' := by
   have ne : ∀ b o, s.heap.get? b = some o -> b ≠ s.heap.objs.size := fun b o e => aiX (aiF e)
   refine ⟨fun b o e n hb hx => (hs.2 b (ne b o e)).trans (un.keep b o e n hb hx), fun b o e n hb hx => ?_, un.free, fun b o e hx => ?_, un.Cd, un.kD, un.Ce⟩
   . obtain ⟨sl, q⟩ := un.slot b o e n hb hx
     exact ⟨sl, (hs.2 b (ne b o e)).trans q⟩
   . obtain ⟨o', q⟩ := un.there b o e hx
     exact ⟨o', (hs.2 b (ne b o e)).trans q⟩
 have nC : H' s.heap.objs.size = none := J.free
 have dw : uP X.prog X.w H' h'' := fun b u e => by
   refine (J.dw b u e).Cb (fun c v hc q => (hs.2 c ?_).trans q) (fun _ q => q) fun _ _ q => q
   rintro rfl
   rcases hc with z | z
   . subst z; rw [nC] at e; cases e
   . rw [nC] at z; cases z
 obtain ⟨hh, g, d, t, os'⟩ := s'
 obtain rfl : os' = s.os := J.os
 show L2.Inv X pins σ H' { s with heap := h'', gens := g, drawn := d, toks := t }
 exact I.call (h' := h'') (g' := g) (d' := d) (t' := t) (ch := fp) un2 dw J.bare fun b hb => ⟨(ql b hb).2.2.2.1, (ql b hb).2.1, (ql b hb).2.2.2.2.1, (ql b hb).2.2.2.2.2⟩
noncomputable def Qa (X : Cx) : List Expr -> TT
 | [] => fun _ H Q => Q true H
 | [c] => PY X c
 | _ => fun _ _ _ => False
theorem F9 {ifs : List Expr} {Q : Bool -> Hp -> Prop} (I : Inv X pins σ H s) (h : Qa X ifs σ H Q) (hx : X.xe = fun _ _ => False) :
   wpAny (model X.prog X.w) X.A (forIn ifs true fun c r => if r = true then do let ok ← isTrue c X.env (eval c X.env); pure (ForInStep.yield ok) else pure (ForInStep.yield r)) (TP X pins σ Q) (fun _ _ => False) s := by
 match ifs, h with
 | [], h => exact wpAny_tests_nil ⟨H, I, h⟩
 | [c], h =>
   have := h pins s I
   rw [hx] at this
   exact wpAny_tests_one this
theorem MF {elt iter : Expr} {px pos : Pos} {ifs : List Expr} {J : It} {fp : List Addr} {it : Addr} {tn : Nat -> Heap -> Prop} {G : Addr -> Hp -> Prop} {RR : Value -> Addr -> Result -> Shared -> Prop} {E : Value -> Shared -> Prop}
   (sc : g6 X scope x Nc ix) (hc : X.calm = true) (I : Inv X pins σ H s) (Tn : Turn X.prog X.w X.K (.Name x px) J fp it tn) (st : tn 0 s.heap) (hf : ∀ b ∈ fp, sU X pins H b)
   (loop : ∀ D, H D = none -> ∃ W : Nat -> Nat -> Hp -> Prop, (∃ m, W 0 m (upd H D (.lst []))) /\ ∀ i m H2, W i m H2 -> (J.stop i H2 /\ G D H2) ∨
     (J.go i H2 /\ ∃ N : Hp -> Prop, (∀ H', N H' -> ∃ m', m' < m /\ W (i + 1) m' H') /\ ∀ xv H3, J.Td i H2 xv H3 -> ∀ C s0 H0 f0, Qa (bP X scope Nc C s0 H0 f0) ifs (mD σ ix (some xv)) H3 fun ok H4 =>
       if ok = true then F8 (bP X scope Nc C s0 H0 f0) elt (mD σ ix (some xv)) H4 fun y H5 => ∃ acc, H5 D = some (.lst acc) /\ acc.length < sizeLine /\ N (upd H5 D (.lst (acc ++ [y]))) else N H4))
   (hRR : ∀ D C s' H', (∃ m, s'.heap.Ns C m) -> (∃ o, s'.heap.get? C = some o /\ ∀ v, o.data ≠ .cell v) -> H' C = none -> (C ≠ X.env.locals /\ C ∉ X.fs /\ X.s₀.heap.objs.size <= C /\ (∀ y c, X.env.cells.lookup y = some c -> c ≠ C) /\ ∀ q ∈ X.pn ++ pins, q.1 ≠ C) -> (∀ h', Heap.SameBut C s'.heap h' -> Inv X pins σ H' { s' with heap := h' }) -> G D H' -> RR (.ref D) C (.ok .next) s') :
   wpAny (model X.prog X.w) X.A (newList []) (fun acc s₃ => wpAny (model X.prog X.w) X.A (newFunctionEnv scope X.env.globals (gC X.env scope.names []) [] X.env.qual none .none (some X.env)) (fun Ga s₄ =>
     codeAny (model X.prog X.w) X.A (.compStart (.ListComp elt [⟨.Name x px, iter, ifs, 0⟩] scope pos) 0 (.ref it) acc { Ga with scope := relabel scope X.env }) (RR acc Ga.locals) s₄) E s₃) E s := by
 refine ajp ?_
 have I3 : Inv X pins σ (upd H s.heap.objs.size (.lst [])) { s with heap := s.heap.push { cls := .type "list", dict := none, data := .seq ([] : List Value).toArray } } :=
   I.laid (t' := s.toks) (fun b u e => aiv _ e) (ait _) ⟨by show 0 <= sizeLine; exact ai5 _, [], 0, .nil, aiR _ rfl⟩
 have hD : H s.heap.objs.size = none := I.dw.fresh (ait _)
 obtain ⟨W, ⟨m0, w0⟩, turn⟩ := loop _ hD
 have Ae : ∀ b ∈ fp, sU X pins (upd H s.heap.objs.size (.lst [])) b /\ b < (s.heap.push { cls := .type "list", dict := none, data := .seq ([] : List Value).toArray }).objs.size := fun b hb => by
   obtain ⟨f0, f1⟩ := hf b hb
   obtain ⟨o, ho, _⟩ := Tn.obj 0 _ st b hb
   have oS := aiF ho
   refine ⟨⟨by rw [aj (aiX oS)]; exact f0, f1⟩, ?_⟩
   rw [akr]; exact akx oS
 have WQ : tn 0 (s.heap.push { cls := .type "list", dict := none, data := .seq ([] : List Value).toArray }) := Tn.keep 0 _ _ st fun b _ o e => aiv _ e
 generalize hs3 : ({ s with heap := s.heap.push { cls := .type "list", dict := none, data := .seq ([] : List Value).toArray } } : Shared) = s3 at I3 ⊢
 have Uo : s3.heap = s.heap.push { cls := .type "list", dict := none, data := .seq ([] : List Value).toArray } := by rw [← hs3]
 rw [← Uo] at Ae WQ
 refine wpAny_newFunctionEnv sc.wZ (by intro y hy; simp at hy) (fun h₁ Iu Iv => ?_) sc.kind
 have old : ∀ b o, s3.heap.get? b = some o -> h₁.get? b = some o := fun b o e => (Iv.2 b (aiX (aiF e))).trans (aiv _ e)
 have J0 := Ir (tk := s3.toks + ([] : List (Str × Value)).length) sc I3 Ae Iu old
 have st4 : tn 0 h₁ := Tn.keep 0 _ _ WQ fun b _ o e => old b o e
 have Gb : ∀ s4 : Shared, s4 = { s3 with heap := h₁, toks := s3.toks + ([] : List (Str × Value)).length } -> codeAny (model X.prog X.w) X.A (.compLoop (.ListComp elt [⟨.Name x px, iter, ifs, 0⟩] scope pos) 0 (.ref it) (.ref s.heap.objs.size) (compEnvC scope (gC X.env scope.names []) s3.heap.objs.size X.env)) (RR (.ref s.heap.objs.size) s3.heap.objs.size) s4 := by
   rintro s4 rfl
   have stat : ∀ {H' : Hp}, (∀ b ∈ fp, H' b = none) -> ∀ b ∈ fp, sU (bP X scope Nc s3.heap.objs.size s3 (upd H s.heap.objs.size (.lst [])) fp) [] H' b := fun {H'} hn b hb => by
     obtain ⟨⟨f0, f1, f2, f3, f4, f5⟩, oS⟩ := Ae b hb
     refine ⟨hn b hb, aiX oS, fun z => ?_, .inl hb, fun y c e => f4 y c (mz (fun y hy e => I.ok.has y.1 (sc.frees y hy e).2) (fun _ _ z => by cases z) e), fun p hp => absurd (show p ∈ ([] : List (Addr × Obj)) from hp) (by simp)⟩
     rcases aiw.mp (I3.wQ b z) with q | q
     . exact f1 q
     . exact f2 q
   refine uZ (fun n s' => ∃ i o H', Inv (bP X scope Nc s3.heap.objs.size s3 (upd H s.heap.objs.size (.lst [])) fp) [] (mD σ ix o) H' s' /\ tn i s'.heap /\ (∀ b ∈ fp, H' b = none) /\ W i n H') ?_ m0 ⟨0, none, _, J0, st4, fun b hb => (Ae b hb).1.1, w0⟩
   rintro n s5 ⟨i, o5, H5, I5, TV, XS, w5⟩
   rcases turn i n H5 w5 with ⟨stop, g⟩ | ⟨go, N, hN, step⟩
   . refine cN (Tn.done (bP X scope Nc s3.heap.objs.size s3 (upd H s.heap.objs.size (.lst [])) fp) rfl rfl rfl hc i [] s5 _ H5 _ I5 (stat XS) TV stop) fun r s6 zz => ?_
     obtain ⟨hr, I6⟩ := zz
     subst hr
     obtain ⟨m6, hn6, _⟩ := I6.loc
     obtain ⟨oc, esc, epc, hoc, hdc, _⟩ := id hn6
     have Up := I3.zV (ait s3.heap.objs.size) (H' := fun _ => none) rfl
     refine hRR _ _ s6 H5 ⟨m6, hn6⟩ ⟨oc, hoc, fun v z => by rw [hdc] at z; cases z⟩ I6.free ⟨Up.2.1, Up.2.2.1, ?_, Up.2.2.2.2.1, Up.2.2.2.2.2⟩ (fun h' K4 => CN I3 (fun b hb => (Ae b hb).1) I6 K4) g
     exact I3.sz
   . refine cN (Tn.item (bP X scope Nc s3.heap.objs.size s3 (upd H s.heap.objs.size (.lst [])) fp) rfl rfl rfl hc i [] s5 _ H5 _ I5 (stat XS) TV go) fun r s6 zz => ?_
     obtain ⟨u, hr, h6⟩ := zz
     subst hr
     refine cN h6 fun _ s7 zz => ?_
     obtain ⟨xv, H7, I7, r7, y7, YF, fr7⟩ := zz
     have I7' := I7.pinned (stat fr7) (Tn.obj _ _ YF)
     have hg : PG (bP X scope Nc s3.heap.objs.size s3 (upd H s.heap.objs.size (.lst [])) fp) (.Name x px) (uR 0) := m5 sc.nd (by show Nc[0]? = some x; rw [sc.hd]; rfl) (.inl (aj1 sc.own)) (.inr (aj1 sc.own))
     refine cN (hg _ s7 _ H7 xv u (fun σ8 H8 => σ8 = mD σ ix (some xv) /\ H8 = H7) I7' r7 ⟨rfl, rfl⟩) fun _ s8 zz => ?_
     obtain ⟨σ8, H8, I8, e8, e8'⟩ := zz
     subst e8
     subst e8'
     have h8 := step xv _ y7 s3.heap.objs.size s3 (upd H s.heap.objs.size (.lst [])) fp
     refine cN (F9 I8 h8 rfl) fun ok s9 zz => ?_
     obtain ⟨H9, I9, q9⟩ := zz
     have again : ∀ {Ha : Hp} {sa : Shared}, Inv (bP X scope Nc s3.heap.objs.size s3 (upd H s.heap.objs.size (.lst [])) fp) ([] ++ wU fp s7.heap) (mD σ ix (some xv)) Ha sa -> N Ha -> ∃ m, m < n /\ ∃ i o H', Inv (bP X scope Nc s3.heap.objs.size s3 (upd H s.heap.objs.size (.lst [])) fp) [] (mD σ ix o) H' sa /\ tn i sa.heap /\ (∀ b ∈ fp, H' b = none) /\ W i m H' := fun {Ha sa} Ia na => by
       obtain ⟨m', hm, wa⟩ := hN Ha na
       refine ⟨m', hm, i + 1, some xv, Ha, Ia.qG, Tn.keep _ _ _ YF fun b hb o e => (Ia.pin (b, o) (ail _ (ail _ (j3 hb e)))).1, fun b hb => ?_, wa⟩
       obtain ⟨o, e, d⟩ := Tn.obj _ _ YF b hb
       exact (Ia.pin (b, o) (ail _ (ail _ (j3 hb e)))).2.1
     cases ok with
     | false =>
       rw [aiu aiy] at q9 ⊢
       exact again I9 q9
     | true =>
       rw [aiC rfl] at q9 ⊢
       refine cN (q9 _ s9 I9) fun v sa zz => ?_
       obtain ⟨y, Ha, Ia, ra, acc, MG, hlen, na⟩ := zz
       refine cN (rZ (X := bP X scope Nc s3.heap.objs.size s3 (upd H s.heap.objs.size (.lst [])) fp) _ sa _ Ha (.ref s.heap.objs.size) [y] (.ref s.heap.objs.size) [v] (fun _ Hb => Hb = upd Ha s.heap.objs.size (.lst (acc ++ [y]))) Ia rfl (.cons ra .nil) ⟨_, acc, y, rfl, rfl, MG, hlen, rfl⟩) fun _ sb zz => ?_
       obtain ⟨_, Hb, Ib, _, eb⟩ := zz
       subst eb
       exact again Ib na
 exact codeAny_compStart_list (Gb _ rfl) (Tn.self _ 0 _ _ _ st4 (Gb _ rfl))
end
noncomputable def TIv (X : Cx) (CL : Str -> Addr) (b : Bx) (ifs : List Expr) (δ : List (Option T)) (p : Bool) : Prop :=
 match ifs with
 | [] => p = true
 | [c] => r9 X CL b c δ p δ
 | _ => False
theorem TIv.sem {X : Cx} {CL : Str -> Addr} {b : Bx} {ifs : List Expr} {δ : List (Option T)} {p : Bool} (h : TIv X CL b ifs δ p) {H Z : Hp} {σ : L2.St} {Q : Bool -> Hp -> Prop} (S : aO X.K CL b H Z δ σ [] [])
   (k : ∀ H' Z', aB Z Z' -> aB H H' -> aO X.K CL b H' Z' δ σ [] [] -> Q p H') : Qa X ifs σ H Q := by
 match ifs, h with
 | [], h =>
   have e : p = true := h
   subst e
   exact k H Z (.refl _) (.refl _) S
 | [c], h => exact (show r9 X CL b c δ p δ from h) H Z σ [] [] Q S k
theorem oq {ts : List T} : (T.lst ts).clean = T.gB ts := by rw [T.clean]
theorem Af {g : D -> T} : ∀ {ds : List D}, (∀ d ∈ ds, (g d).clean = true) -> T.gB (ds.map g) = true
 | [], _ => by rw [List.map_nil, T.gB]
 | d :: ds, h => by
   rw [aiB, T.gB, h d aiq, Af fun e he => h e (ais _ he)]
   rfl
section
variable {K : PySem.W.Frag} {CL : Str -> Addr} {b : Bx} {H H' Z : Hp} {δ : List (Option T)} {σ : L2.St} {ts tl : List T} {vs us : List V} {t : T} {v : V}
theorem aG.at : ∀ {tl : List T} {us : List V} {fp : List Addr} {j : Nat} {t : T}, aG K CL H Z tl us fp -> tl[j]? = some t -> ∃ v f1 f2 f3, us[j]? = some v /\ fp = f1 ++ (f2 ++ f3) /\ bu K CL H Z t v f2 ∧
   ∀ {H' : Hp} {t' : T} {v' : V} {g : List Addr}, (∀ a ∈ f1 ++ f3, H' a = H a) -> bu K CL H' Z t' v' g -> aG K CL H' Z (tl.set j t') (us.set j v') (f1 ++ (g ++ f3))
 | _, _, _, _, _, .nil, e => by simp at e
 | _, _, _, 0, _, .cons (fp := fp) (gp := gp) r q, e => by
   simp at e
   subst e
   exact ⟨_, [], fp, gp, rfl, rfl, r, fun {H' t' v' g} k r' => aG.cons (fp := g) (gp := gp) r' (aG.mono (fp := gp) (.refl _) (fun a ha => k a (by simpa using ha)) q)⟩
 | _, _, _, j + 1, t, .cons (fp := fp) (gp := gp) r q, e => by
   obtain ⟨v, f1, f2, f3, h1, h2, h3, h4⟩ := aG.at (j := j) (t := t) q (by simpa using e)
   refine ⟨v, fp ++ f1, f2, f3, by simpa using h1, by rw [h2, List.append_assoc], h3, fun k r' => ?_⟩
   rw [ain]
   exact .cons (r.mono (.refl _) fun a ha => k a (by simp [ha])) (h4 (fun a ha => k a (by rw [ain]; exact ail _ ha)) r')
theorem gu {α : Type} {l : List α} {i : Nat} {x : α} (h : l[i]? = some x) : l.set i x = l := by
 apply List.ext_getElem?
 intro j
 rw [List.getElem?_set]
 split
 . rename_i e; subst e
   split
   . exact h.symm
   . rename_i h2; rw [List.getElem?_eq_none (by omega)]
 . rfl
theorem aO.write {a : Addr} {xs : List V} {f1 f2 f3 g gp K5 : List Addr} {δ2 : List (Option T)} (S : aO K CL b H Z δ σ ts vs) (nd : ((f1 ++ (f2 ++ f3)) ++ gp).Nodup) (own : ∀ c ∈ (f1 ++ (f2 ++ f3)) ++ gp, Z c = none /\ b.B c = none) (ha : a ∈ f2)
   (hH : ∃ o, H a = some o) (e' : cG K CL (upd H a (.lst xs)) Z δ2 σ (f1 ++ (g ++ f3))) (r' : aG K CL (upd H a (.lst xs)) Z tl us K5) (pm : ((f1 ++ (g ++ f3)) ++ K5).Nodup) (sub : ∀ c ∈ (f1 ++ (g ++ f3)) ++ K5, c ∈ (f1 ++ (f2 ++ f3)) ++ gp) :
   aO K CL b (upd H a (.lst xs)) Z δ2 σ tl us := by
 have oa := own a (by simp [ha])
 refine ⟨⟨_, _, e', r', pm, fun c hc => own c (sub c hc)⟩, fun c o q => ?_, S.zz, fun c o q => ?_, S.new, fun c o q i => ?_, S.tab⟩
 . rw [aj (bF q oa.2)]; exact S.bh c o q
 . rw [aj (bF q oa.1)]; exact S.zh c o q
 . by_cases hc : c = a
   . subst hc; rw [aE] at q; cases q; cases i
   . rw [aj hc] at q; exact S.tp c o q i
theorem aO.append {i : Nat} (S : aO K CL b H Z δ σ (t :: ts) (v :: vs)) (hi : δ[i]? = some (some (.lst tl))) :
   ∃ a us, σ[i]? = some (some (.ref a)) /\ H a = some (.lst us) /\ us.length = tl.length /\ aO K CL b (upd H a (.lst (us ++ [v]))) Z (δ.set i (some (.lst (tl ++ [t])))) σ ts vs := by
 obtain ⟨fp, gp, e, r, nd, k⟩ := S.rep
 obtain ⟨v0, f1, f2, f3, hv, ql, rt, put, _⟩ := e.get hi
 subst ql
 cases rt with
 | @lst a us _ g ha rs =>
   cases r with
   | @cons _ _ _ _ ft gr q1 q2 =>
     have ne : ∀ c ∈ (f1 ++ (g ++ f3)) ++ (ft ++ gr), c ≠ a := fun c hc e => by
       subst e
       have hp : ((f1 ++ ((c :: g) ++ f3)) ++ (ft ++ gr)).Perm (c :: ((f1 ++ (g ++ f3)) ++ (ft ++ gr))) := by
         rw [aiP, ← aiP]
         exact (ajn.append_right _)
       exact (ai3.mp (hp.nodup_iff.mp nd)).1 hc
     refine ⟨a, us, hv, ha, rs.length.symm, ?_⟩
     have r1 : bu K CL (upd H a (.lst (us ++ [v]))) Z (.lst (tl ++ [t])) (.ref a) (a :: (g ++ (ft ++ []))) :=
       .lst aE (aG.app (rs.mono (.refl _) fun c hc => aj (ne c (by simp [hc]))) (.cons (q1.mono (.refl _) fun c hc => aj (ne c (by simp [hc]))) .nil))
     have e2 := put (H' := upd H a (.lst (us ++ [v]))) (.refl _) (fun c hc => aj (ne c (by
       rcases aix.mp hc with h | h
       . simp [h]
       . simp [h]))) r1
     rw [gu hv] at e2
     have hp : ((f1 ++ ((a :: (g ++ (ft ++ []))) ++ f3)) ++ gr).Perm ((f1 ++ ((a :: g) ++ f3)) ++ (ft ++ gr)) := by
       simp only [aiK, aiP, ain]
       refine ai8 f1 (List.Perm.cons a (ai8 g ?_))
       rw [← ain, ← ain]
       exact ai2.append_right gr
     exact S.write nd k (aiq) ⟨_, ha⟩ e2 (q2.mono (.refl _) fun c hc => aj (ne c (by simp [hc]))) (hp.nodup_iff.mpr nd) fun c hc => hp.mem_iff.mp hc
end
section
variable {X : Cx} {CL : Str -> Addr} {b : Bx} {δ δ1 : List (Option T)} {e : Expr} {t : T} {tl YG : List T} {D : eo} {pos pp pa pb : Pos}
theorem YH (i : Nat) {x : Str} (h0 : δ[i]? = some (some (.lst YG))) (h : bR X CL b e δ t δ1) (h1 : δ1[i]? = some (some (.lst tl))) (hl : tl.length < sizeLine) (k : D.nx (δ1.set i (some (.lst (tl ++ [t])))))
   (hi : X.N[i]? = some x := by rfl) (hv : Xr X.env.scope x := by first | exact Or.inl rfl | exact Or.inr (Or.inl rfl) | exact Or.inr (Or.inr rfl)) (hd : (x == ("__debug__" : Str)) = false := by decide) (oR : (x == ("__classdict__" : Str)) = false := by decide)
   (oj : attributeBase (.Name x pp) "append" X.env (eval (.Name x pp) X.env) = eval (.Name x pp) X.env := by rfl)
   (Ds : ((backTo pb (starEach [e] X.env)).all (fun x => !x.1) && (backToKw pb (keywordEach [] X.env)).all (fun x => x.1.isSome) && decide ([e].length + ([] : List Keyword).length + (if ([] : List Keyword).isEmpty then 0 else 1) < 30)) = true := by rfl)
   (hline : (pa.endLine == pb.line) = true := by rfl) (hs : starEach [e] X.env = (false, eval e X.env) :: starEach [] X.env := by exact aY rfl) (Gd : swapsWith (.Call (.Attribute (.Name x pp) "append" pa) [e] [] pb) none pos.line X.env = pure false := by rfl) :
   MD X CL b (.Expr (.Call (.Attribute (.Name x pp) "append" pa) [e] [] pb) pos) δ D := fun H Z σ ts vs E S M =>
 nM (zF (PD aj6 PySem.F.slot_list_append PySem.F.type_list_append rZ (jo hi hv hd oR) (bG cg dM hs) oj Ds hline hs rfl) Gd) (by
   obtain ⟨v0, e0, r0⟩ := S.look h0
   refine ⟨v0, e0, ?_, ?_⟩
   . rw [T.cu] at r0
     cases r0 with
     | lst hq _ => exact .inl ⟨rfl, _, hq⟩
   . refine h H Z σ ts vs _ S fun v H1 Z1 z1 k1 S1 => ?_
     obtain ⟨a, us, ea, ha, hu, S2⟩ := S1.append h1
     rw [e0] at ea
     cases ea
     exact ⟨a, us, v, rfl, rfl, ha, by rw [hu]; exact hl, M.nx _ σ _ Z1 z1 S2 k⟩)
end
noncomputable def acg : Option (Option T) -> Option T
 | some (some t) => some (.sh t.cu)
 | _ => none
noncomputable def YJ : Option (Option T) -> Option T
 | some (some (T.sh d)) => some (.sh d)
 | _ => none
noncomputable def Ge (δ : List (Option T)) (ix : List Nat) : List (Option T) := ix.map fun i => acg δ[i]?
noncomputable def Ag (δ : List (Option T)) (ix : List Nat) : List (Option T) := ix.map fun i => YJ δ[i]?
section
variable {K : PySem.W.Frag} {CL : Str -> Addr} {b : Bx} {H Z : Hp} {δ : List (Option T)} {σ : L2.St} {ts : List T} {vs : List V}
theorem Gf (S : aO K CL b H Z δ σ ts vs) : ∀ (ix : List Nat) (H' : Hp), cG K CL H' H (Ge δ ix) (ix.map fun i => (σ[i]?).getD none) []
 | [], _ => .nil
 | i :: r, H' => by
   have ih := Gf S r H'
   show cG K CL H' H (acg δ[i]? :: Ge δ r) (((σ[i]?).getD none) :: r.map fun i => (σ[i]?).getD none) []
   cases e : δ[i]? with
   | none => exact .skip ih
   | some o =>
     cases o with
     | none => exact .skip ih
     | some t =>
       obtain ⟨v, hv, rv⟩ := S.look e
       rw [hv]
       exact .cons (fp := []) (gp := []) (.sh rv) ih
theorem Ah (S : aO K CL b H Z δ σ ts vs) : ∀ (ix : List Nat) (H' : Hp), cG K CL H' Z (Ag δ ix) (ix.map fun i => (σ[i]?).getD none) []
 | [], _ => .nil
 | i :: r, H' => by
   have ih := Ah S r H'
   show cG K CL H' Z (YJ δ[i]? :: Ag δ r) (((σ[i]?).getD none) :: r.map fun i => (σ[i]?).getD none) []
   cases e : δ[i]? with
   | none => exact .skip ih
   | some o =>
     cases o with
     | none => exact .skip ih
     | some t =>
       cases t with
       | sh d =>
         obtain ⟨v, hv, rv⟩ := S.P1 e
         rw [hv]
         exact .cons (fp := []) (gp := []) (.sh rv) ih
       | tup _ => exact .skip ih
       | lst _ => exact .skip ih
       | ins _ _ => exact .skip ih
       | mY _ => exact .skip ih
       | dct _ => exact .skip ih
       | pin _ _ => exact .skip ih
end
section
variable {X : Cx} {CL : Str -> Addr} {b : Bx} {δ δ1 : List (Option T)} {scope : Scope} {x : Str} {Nc : List Str} {elt iter : Expr} {ifs : List Expr} {pos : Pos} {ds : List D}
structure Comes (X : Cx) (CL : Str -> Addr) (b : Bx) (δ1 : List (Option T)) (σ : L2.St) (ts : List T) (vs : List V) (Z H : Hp) (ds : List D) (J : It) (H1 : Hp) : Prop where
 ex : ∃ Z1 us, aB Z Z1 /\ aB H H1 /\ aO X.K CL b H1 Z1 δ1 σ ts vs /\ aF X.K CL Z1 ds us /\ (∀ i H2, aB Z1 H2 -> i < ds.length -> J.go i H2) ∧
   (∀ i H2 x H', aB Z1 H2 -> i < ds.length -> J.Td i H2 x H' -> H' = H2 /\ us[i]? = some x) /\ (∀ H2, aB Z1 H2 -> J.stop ds.length H2)
noncomputable def Te (X : Cx) (CL : Str -> Addr) (b : Bx) (tg e : Expr) (δ : List (Option T)) (ds : List D) (δ1 : List (Option T)) : Prop :=
 ∃ wi, PI X tg e wi /\ ∀ (H Z : Hp) (σ : L2.St) (ts : List T) (vs : List V) (R : It -> Hp -> Prop), aO X.K CL b H Z δ σ ts vs -> (∀ J H1, Comes X CL b δ1 σ ts vs Z H ds J H1 -> R J H1) -> wi σ H R
theorem nP {tg : Expr} (h : bR X CL b iter δ (.sh (.lst ds)) δ1) : Te X CL b tg iter δ ds δ1 := by
 refine ⟨_, TQ cg, fun H Z σ ts vs R S k => h H Z σ ts vs _ S fun v H1 Z1 z1 k1 S1 => ?_⟩
 obtain ⟨fp, gp, _, r, _, _⟩ := S1.rep
 cases r with
 | cons r _ =>
   cases r with
   | sh r =>
     cases r with
     | @lst a us _ hq rr =>
       refine ⟨a, rfl, ⟨us, S1.zh.seq hq⟩, k _ _ ⟨Z1, us, z1, k1, S1.pop, rr, fun i H2 s hi => ?_, fun i H2 y H' s hi hy => ⟨hy.1, hy.2 us (s.seq hq)⟩, fun H2 s => ⟨us, s.seq hq, by rw [rr.length]; exact ait _⟩⟩⟩
       have Uq : i < us.length := by rw [← rr.length]; exact hi
       exact ⟨us, us[i], s.seq hq, by simp [Uq]⟩
theorem DE {tg : Expr} (h : bR X CL b iter δ (.sh (.tup ds)) δ1) : Te X CL b tg iter δ ds δ1 := by
 refine ⟨_, XR cg, fun H Z σ ts vs R S k => h H Z σ ts vs _ S fun v H1 Z1 z1 k1 S1 => ?_⟩
 obtain ⟨fp, gp, _, r, _, _⟩ := S1.rep
 cases r with
 | cons r _ =>
   cases r with
   | sh r =>
     cases r with
     | @tup a us _ hq rr =>
       refine ⟨a, rfl, ⟨us, aB.KY S1.zh hq⟩, k _ _ ⟨Z1, us, z1, k1, S1.pop, rr, fun i H2 s hi => ?_, fun i H2 y H' s hi hy => ⟨hy.1, hy.2 us (aB.KY s hq)⟩, fun H2 s => ⟨us, aB.KY s hq, by rw [rr.length]; exact ait _⟩⟩⟩
       have Uq : i < us.length := by rw [← rr.length]; exact hi
       exact ⟨us, us[i], aB.KY s hq, by simp [Uq]⟩
noncomputable def cB (lo : Int) (n : Nat) : List D := (List.range n).map fun (i : Nat) => D.int (lo + i)
theorem Gg {K : PySem.W.Frag} {Z : Hp} (lo : Int) (n : Nat) : aF K CL Z (cB lo n) ((List.range n).map fun (i : Nat) => V.int (lo + i)) := by
 unfold cB
 generalize List.range n = l
 induction l with
 | nil => exact .nil
 | cons i r ih => exact .cons (.int _) ih
theorem iM {tg : Expr} {pr pc : Pos} {n : Int} (hm : X.mg "range" = none) (h : cF X CL b iter δ (.int n) δ1) (hn : -(2 ^ 62) <= n /\ n < 2 ^ 62) (hg : Gl X "range") (Mj : starEach [iter] X.env = [(false, eval iter X.env)] := by rfl) (Iw : starEach [iter] X.env = (false, eval iter X.env) :: starEach [] X.env := by exact aY rfl) :
   Te X CL b tg (.Call (.Name "range" pr) [iter] [] pc) δ (cB 0 n.toNat) δ1 := by
 refine ⟨_, wR hg hm (bG cg dM Iw) Mj, fun H Z σ ts vs R S k => h H Z σ ts vs _ S fun v H1 Z1 z1 k1 S1 r => ⟨n, by rw [r.sc rfl], hn.1, hn.2, k _ _ ⟨Z1, _, z1, k1, S1, Gg 0 n.toNat, fun i H2 s hi => ?_, fun i H2 y H' s hi hy => ?_, fun H2 s => ?_⟩⟩⟩
 . show i < n.toNat
   have : (cB 0 n.toNat).length = n.toNat := by simp [cB]
   omega
 . have Uq : i < n.toNat := by simpa [cB] using hi
   refine ⟨hy.1, ?_⟩
   rw [aiE, aki Uq, hy.2]
   rfl
 . show n.toNat <= (cB 0 n.toNat).length
   simp [cB]
theorem MH {tg : Expr} {pr pc : Pos} {e1 e2 : Expr} {δ2 : List (Option T)} {m n : Int} (hm : X.mg "range" = none) (h1 : cF X CL b e1 δ (.int m) δ1) (h2 : cF X CL b e2 δ1 (.int n) δ2) (hn : -(2 ^ 62) <= m /\ m < 2 ^ 62 /\ -(2 ^ 62) <= n /\ n < 2 ^ 62) (hg : Gl X "range")
   (Mj : starEach [e1, e2] X.env = [(false, eval e1 X.env), (false, eval e2 X.env)] := by rfl) (Iw : starEach [e2] X.env = [(false, eval e2 X.env)] := by rfl) (aeR : starEach [e1, e2] X.env = (false, eval e1 X.env) :: starEach [e2] X.env := by rfl) (aeS : starEach [e2] X.env = (false, eval e2 X.env) :: starEach [] X.env := by rfl) :
   Te X CL b tg (.Call (.Name "range" pr) [e1, e2] [] pc) δ (cB m (n - m).toNat) δ2 := by
 refine ⟨_, Mm hg hm (bG cg (bG cg dM aeS) aeR) Mj Iw, fun H Z σ ts vs R S k => h1 H Z σ ts vs _ S fun v H1 Z1 z1 k1 S1 r => h2 H1 Z1 σ ts vs _ S1 fun v2 H2 Z2 z2 k2 S2 r2 => ⟨m, n, by rw [r.sc rfl, r2.sc rfl], hn, k _ _ ⟨Z2, _, z1.trans z2, k1.trans k2, S2, Gg m (n - m).toNat, fun i H2 s hi => ?_, fun i H2 y H' s hi hy => ?_, fun H2 s => ?_⟩⟩⟩
 . show i < (n - m).toNat
   have : (cB m (n - m).toNat).length = (n - m).toNat := by simp [cB]
   omega
 . have Uq : i < (n - m).toNat := by simpa [cB] using hi
   refine ⟨hy.1, ?_⟩
   rw [aiE, aki Uq, hy.2]
   rfl
 . show (n - m).toNat <= (cB m (n - m).toNat).length
   simp [cB]
theorem YK {D : eo} {fC : List Stmt} (i : Nat) {pos' : Pos} (P : Nat -> List (Option T) -> Prop) (h : Te X CL b (.Name x pos') iter δ ds δ1) (h0 : P 0 δ1) (hl : ∀ j δ, P j δ -> i < δ.length)
   (hs : ∀ j d δ, ds[j]? = some d -> P j δ -> e9 X CL b fC (δ.set i (some (.sh d))) { nx := P (j + 1), rt := D.rt, bk := D.nx, ct := P (j + 1) }) (hd : ∀ δ, P ds.length δ -> D.nx δ)
   (hp : PassesOwn (model X.prog X.w) X.A X.env X.xe) (hc : X.calm = true) (hN : X.N.Nodup) (hi : X.N[i]? = some x) (hx : Loc X.env.scope x) (hf : X.fn x = true \/ X.env.scope.names.lookup x = some .local) (hq : ∀ x, foldedSetIterable iter X.env x = pure x := by intro _; rfl) :
   MD X CL b (.For (.Name x pos') iter fC [] pos) δ D := fun H Z σ ts vs E S M => by
 obtain ⟨wi, pi, hw⟩ := h
 refine nM (Dg hp hc pi (m5 hN hi hx hf) MC hq) (hw H Z σ ts vs _ S fun J H1 zz => ?_)
 obtain ⟨Z1, us, z1, k1, S1, rr, go, yl, st⟩ := zz
 refine ⟨fun j m σ H2 => m = ds.length - j /\ j <= ds.length /\ ∃ Z2 δ2, aB Z1 Z2 /\ aO X.K CL b H2 Z2 δ2 σ ts vs /\ P j δ2, ⟨_, rfl, ai5 _, Z1, δ1, .refl _, S1, h0⟩, ?_⟩
 rintro j m σ H2 ⟨rfl, hj, Z2, δ2, s, S2, p2⟩
 by_cases oS : j < ds.length
 . refine .inr ⟨go j H2 (s.trans S2.zh) oS, fun σ' H' => ∃ Z2 δ2, aB Z1 Z2 /\ aO X.K CL b H' Z2 δ2 σ' ts vs /\ P (j + 1) δ2, fun σ' H' h => ⟨ds.length - (j + 1), by omega, rfl, oS, h⟩, fun y H' hy => ?_⟩
   obtain ⟨e, hu⟩ := yl j H2 y H' (s.trans S2.zh) oS hy
   subst e
   obtain ⟨d, OY, rd⟩ := rr.Ue hu
   have S3 := (S2.push (rd.mono s)).set (hl j δ2 p2)
   exact hs j d δ2 OY p2 _ Z2 _ ts vs _ S3 ⟨fun δ' σ' H' Z' s' S' k => ⟨Z', δ', s.trans s', S', k⟩, fun t v H' Z' δ' σ' s' S' k => M.rt t v H' Z' δ' σ' (z1.trans (s.trans s')) S' k, fun δ' σ' H' Z' s' S' k => M.nx δ' σ' H' Z' (z1.trans (s.trans s')) S' k, fun δ' σ' H' Z' s' S' k => ⟨Z', δ', s.trans s', S', k⟩⟩
 . have e : j = ds.length := by omega
   subst e
   exact .inl ⟨st H2 (s.trans S2.zh), M.nx δ2 σ H2 Z2 (z1.trans s) S2 (hd δ2 p2)⟩
noncomputable def Block (X : Cx) (CL : Str -> Addr) (scope : Scope) (Nc : List Str) (ifs : List Expr) (elt : Expr) (δc : List (Option T)) (ds : List D) (p : D -> Bool) (g : D -> T) : Prop :=
 ∀ C s0 H0 f0 b' d, d ∈ ds -> TIv (bP X scope Nc C s0 H0 f0) CL b' ifs (some (.sh d) :: δc) (p d) /\ (p d = true -> bR (bP X scope Nc C s0 H0 f0) CL b' elt (some (.sh d) :: δc) (g d) (some (.sh d) :: δc))
variable {p : D -> Bool} {g : D -> T} {δc : List (Option T)}
end
section
variable {X : Cx} {scope : Scope} {x : Str} {Nc : List Str} {ix : List Nat}
theorem Iz (sc : g6 X scope x Nc ix) {pins : List (Addr × Obj)} {σ : L2.St} {H : Hp} {s : Shared} (I : L2.Inv X pins σ H s) : closureFor scope X.env = pure (gC X.env scope.names []) :=
 tF fun y hy e => I.ok.has y.1 (sc.frees y hy e).2
end
theorem aA {n : Nat} (h : Nat.ble n 1000 = true) : n <= sizeLine := ajj (cU (aip h))
structure Vn (X : Cx) (i : Nat) (x : Str) : Prop where
 hi : X.N[i]? = some x
 hv : Xr X.env.scope x
 hd : (x == ("__debug__" : Str)) = false
 oR : (x == ("__classdict__" : Str)) = false
structure Ln (X : Cx) (i : Nat) (x : Str) : Prop extends Vn X i x where
 loc : Loc X.env.scope x
 hf : X.fn x = true \/ X.env.scope.names.lookup x = some .local
structure Gx (X : Cx) : Prop where
 nd : X.N.Nodup
 calm : X.calm = true
 xe : PassesOwn (model X.prog X.w) X.A X.env X.xe
structure Fc (X : Cx) (CL : Str -> Addr) (x : Str) (k n : Nat) {A : Type} (arg : A -> List D) (Pre : A -> Prop) (res : A -> T) : Prop where
 ex : ∃ f fd ps, iE X.prog X.w X.K X.mg X.base uQ k f fd ps (OG X.K CL n arg Pre res) /\ X.mg x = some (.ref f) /\ PySem.W.keepIn X.K (.ref f) = true /\ Binds X.K fd ps []
 room : gA k X.A
section
variable {X : Cx} {CL : Str -> Addr} {b : Bx} {δ δ1 δ2 : List (Option T)} {e : Expr} {es : List Expr} {d : L3.D} {t : T} {i : Nat} {x : Str} {pos pp : Pos} {D : eo} {fC : List Stmt} {ds : List L3.D}
theorem v_ (n : Vn X i x) (h : δ[i]? = some (some (.sh d)) := by rfl) : bR X CL b (.Name x pos) δ (.sh d) δ := Yt i n.hi n.hv n.hd n.oR h
theorem vM (n : Vn X i x) (h : δ[i]? = some (some t) := by rfl) : bR X CL b (.Name x pos) δ t (δ.set i none) := Ui i n.hi n.hv n.hd n.oR h
theorem vB (n : Vn X i x) (h : δ[i]? = some (some t) := by rfl) : cF X CL b (.Name x pos) δ t.cu δ := Yu i n.hi n.hv n.hd n.oR h
theorem jr {k : Int} (h : cF X CL b e δ (.int k) δ1) : bR X CL b (.UnaryOp .USub e pos) δ (.sh (.int (-k))) δ1 := fun H Z σ ts vs Q S kk =>
 bY (abA X3 cg) (h H Z σ ts vs _ S fun v H1 Z1 z1 k1 S1 r => ⟨k, r.sc rfl, kk _ H1 Z1 z1 k1 (S1.push (.int _))⟩)
theorem vL (n : Vn X i x) (h : δ[i]? = some (some (.lst (ds.map T.sh))) := by rfl) : cF X CL b (.Name x pos) δ (.lst ds) δ := by
 have := vB (CL := CL) (b := b) (pos := pos) n h
 rwa [T.cu, iR] at this
theorem c_ {k n : Nat} {A : Type} {arg : A -> List L3.D} {Pre : A -> Prop} {res : A -> T} (a : A) (F : Fc X CL x k n arg Pre res) (hg : Gl X x) (h : Uh X CL b (e :: es) δ (arg a) δ1) (hp : Pre a) (hc : (res a).clean = true) (hn : (arg a).length = n := by rfl)
   (uT : (x == ("__debug__" : Str)) = false := by decide) (he : starEach (e :: es) X.env = (false, eval e X.env) :: starEach es X.env := by exact aY rfl) (qH : (backTo pos (starEach es X.env)).any (·.1) = false := by rfl) :
   bR X CL b (.Call (.Name x pp) (e :: es) [] pos) δ (res a) δ1 := by
 obtain ⟨f, fd, ps, F1, m, k, b⟩ := F.ex
 exact Ul a F1 F.room m k b h hn hp hc hg uT he qH
theorem cC {pos' : Pos} (g : Gx X) (n : Ln X i x) (h : bR X CL b e δ t δ1) (k : e9 X CL b fC (δ1.set i (some t)) D) (hl : i < δ1.length := by exact aip rfl) (hs : swapsWith e (some (.Name x pos')) pos.line X.env = pure false := by rfl) :
   e9 X CL b (.Assign [.Name x pos'] e pos :: fC) δ D := bO (P9 i h k hl g.nd n.hi n.loc hs n.hf)
theorem bE (h : bR X CL b e δ t δ1) (k : D.rt t δ1) : e9 X CL b (.Return (some e) pos :: fC) δ D := bO (YB h k)
theorem dz {p : Bool} {a c : List Stmt} (h : r9 X CL b e δ p δ1) (h1 : p = true -> e9 X CL b a δ1 { D with nx := fun δ2 => e9 X CL b fC δ2 D }) (h2 : p = false -> e9 X CL b c δ1 { D with nx := fun δ2 => e9 X CL b fC δ2 D }) : e9 X CL b (.If e a c pos :: fC) δ D := bO (ab4 h h1 h2)
theorem jY {body : List Stmt} {pos' : Pos} (g : Gx X) (n : Ln X i x) (P : Nat -> List (Option T) -> Prop) (h : Te X CL b (.Name x pos') e δ ds δ1) (h0 : P 0 δ1) (hl : ∀ j δ, P j δ -> i < δ.length)
   (hs : ∀ j d δ, ds[j]? = some d -> P j δ -> e9 X CL b body (δ.set i (some (.sh d))) { nx := P (j + 1), rt := D.rt, bk := fun δ2 => e9 X CL b fC δ2 D, ct := P (j + 1) }) (hd : ∀ δ, P ds.length δ -> e9 X CL b fC δ D) (hq : ∀ x, foldedSetIterable e X.env x = pure x := by intro _; rfl) :
   e9 X CL b (.For (.Name x pos') e body [] pos :: fC) δ D :=
 bO (YK (D := { D with nx := fun δ1 => e9 X CL b fC δ1 D }) i P h h0 hl hs hd g.xe g.calm g.nd n.hi n.loc n.hf hq)
theorem Gh {e : Expr} {o : Option Expr} {l : Nat} {env : Env} (h : ∃ c, swapsWith e o l env = pure c) : swapsWith e o l env = pure true \/ swapsWith e o l env = pure false := by
 obtain ⟨c, h⟩ := h
 cases c
 . exact .inr h
 . exact .inl h
theorem jt {scope : Scope} {Nc : List Str} {C : Addr} {s : Shared} {H : Hp} {fp : List Addr} (h1 : Nc[i]? = some x) (h2 : scope.names.lookup x = some .local) (hd : (x == ("__debug__" : Str)) = false := by decide) (oR : (x == ("__classdict__" : Str)) = false := by decide) : Vn (bP X scope Nc C s H fp) i x :=
 ⟨h1, .inl (aj1 h2), hd, oR⟩
theorem DF {scope : Scope} {Nc : List Str} {C : Addr} {s : Shared} {H : Hp} {fp : List Addr} (h1 : Nc[i]? = some x) (h2 : scope.names.lookup x = some .free) (hd : (x == ("__debug__" : Str)) = false := by decide) (oR : (x == ("__classdict__" : Str)) = false := by decide) : Vn (bP X scope Nc C s H fp) i x := by
 refine ⟨h1, ?_, hd, oR⟩
 have q := dP (env := X.env) h2
 show (relabel scope X.env).names.lookup x = some .local \/ (relabel scope X.env).names.lookup x = some .cell \/ (relabel scope X.env).names.lookup x = some .free
 rw [show (relabel scope X.env).names.lookup x = _ from q]
 split
 . exact .inr (.inl rfl)
 . exact .inr (.inr rfl)
theorem sd {scope : Scope} {Nc : List Str} {C : Addr} {s : Shared} {H : Hp} {fp : List Addr} (h2 : scope.names.lookup x = some .globalImplicit) : Gl (bP X scope Nc C s H fp) x := by
 have q := dP (env := X.env) h2
 show (relabel scope X.env).names.lookup x = some .globalImplicit
 rw [show (relabel scope X.env).names.lookup x = _ from q]
 rfl
theorem Ur {scope : Scope} {Nc : List Str} {C : Addr} {s : Shared} {H : Hp} {fp : List Addr} {k n : Nat} {A : Type} {arg : A -> List L3.D} {Pre : A -> Prop} {res : A -> T} (F : Fc X CL x k n arg Pre res) : Fc (bP X scope Nc C s H fp) CL x k n arg Pre res := ⟨F.ex, F.room⟩
end
section
variable {X : Cx} {CL : Str -> Addr} {b : Bx} {δ δ1 : List (Option T)} {es : List Expr} {ds : List L3.D} {pos : Pos}
theorem Us (h : HG X CL b es δ (ds.map T.sh) δ1) (hl : ds.length <= sizeLine := by exact aA rfl) : bR X CL b (.List es pos) δ (.sh (.lst ds)) δ1 := by
 have := Dy (fS (pos := pos) h (by simpa using hl))
 rwa [T.cu, iR] at this
end
section
theorem bV : bootBuiltins "list" = some (.type "list") := by decide +kernel
theorem qL : bootBuiltins "tuple" = some (.type "tuple") := by decide +kernel
end
noncomputable def pA (sc : Scope) (l : List (Str × NameKind)) : Bool := l.all fun p => sc.names.lookup p.1 == some p.2
theorem pB {sc : Scope} {l : List (Str × NameKind)} (h : pA sc l = true) (i : Nat) {x : Str} {k : NameKind} (hi : l[i]? = some (x, k)) : sc.names.lookup x = some k := by
 unfold pA at h
 rw [ajh] at h
 exact akq.mp (h _ (aiM hi))
inductive Ut (X : Cx) : List Nat -> List Str -> Prop where
 | nil : Ut X [] []
 | cons {i : Nat} {y : Str} {ix : List Nat} {ys : List Str} (n : Vn X i y) (k : X.env.kindOf y = some .cell \/ X.env.kindOf y = some .free) (r : Ut X ix ys) : Ut X (i :: ix) (y :: ys)
noncomputable def Qc (scope : Scope) (x : Str) (Gi : List Str) : Bool :=
 scope.kind == .function && scope.names.lookup x == some .local && Gi.all (fun y => scope.names.lookup y == some .free) && decide ((x :: Gi).Nodup) &&
   scope.names.all fun y => y.2 != .cell && (y.2 != .local || scope.names.lookup y.1 == some .local) && (y.2 != .free || (Gi.contains y.1 && scope.names.lookup y.1 == some .free))
theorem fU {X : Cx} {scope : Scope} {x : Str} {ix : List Nat} {Gi : List Str} (c : Ut X ix Gi) (ok : Qc scope x Gi = true) : g6 X scope x (x :: Gi) ix := by
 unfold Qc at ok
 simp only [aiO, ajh, ajl, akq] at ok
 obtain ⟨⟨⟨⟨h1, h2⟩, h3⟩, h4⟩, h5⟩ := ok
 have kc : ∀ y ∈ Gi, X.env.kindOf y = some .cell \/ X.env.kindOf y = some .free := by
   clear h3 h4 h5
   induction c with
   | nil => intro y hy; cases hy
   | cons n k r ih =>
     intro y hy
     rcases aiw.mp hy with e | hy
     . subst e; exact k
     . exact ih y hy
 refine ⟨h1, fun y hy e => ?_, h4, fun y hy e => ?_, h2, fun y hy e => ?_, ?_, fun i hi => ?_⟩
 . have := (h5 y hy).1.1
   rw [e] at this
   simp at this
 . have := (h5 y hy).1.2
   rw [e] at this
   simpa using this
 . have := (h5 y hy).2
   rw [e] at this
   simp at this
   exact ⟨this.2, kc _ this.1⟩
 . congr 1
   clear h3 h4 h5 kc
   induction c with
   | nil => rfl
   | cons n k r ih => rw [aju, n.hi, ← ih]
 . clear h4 h5 kc
   induction c with
   | nil => cases hi
   | @cons i' y ix ys n k r ih =>
     rcases aiw.mp hi with e | hi
     . subst e; exact ⟨y, n.hi, h3 y aiq⟩
     . exact ih (fun z hz => h3 z (ais _ hz)) hi
noncomputable def D.IA : D -> Int
 | .int i => i
 | _ => 0
noncomputable def D.toS : D -> Str
 | .str x => x
 | _ => Str.empty
theorem tT {bs : List Int} {k : Int} (h0 : 0 <= k) (h1 : k < bs.length) : yk (bs.map D.int) k = some (.int (bs.getD k.toNat 0)) := by
 obtain ⟨j, rfl⟩ : ∃ j : Nat, k = j := ⟨k.toNat, by omega⟩
 refine aW ?_
 have hl : j < bs.length := by omega
 rw [aiE, aiG hl]
 simp [List.getD, hl]
theorem qM : ∀ (bs : List Int), D.bK (bs.map D.int) = true
 | [] => rfl
 | i :: r => by rw [aiB, D.bK, qM r]; rfl
theorem mE {lo : Int} {n j : Nat} {d : D} (h : (cB lo n)[j]? = some d) : d = .int (lo + j) /\ j < n := by
 have hl : j < n := by
   have := (aiS.mp h).1
   simpa [cB] using this
 refine ⟨?_, hl⟩
 unfold cB at h
 rw [aiE, aki hl] at h
 exact (aiN h).symm
theorem kE {α : Type} (l : List α) : l.filter (fun _ => true) = l := by simp
theorem Gj {K : PySem.W.Frag} {CL : Str -> Addr} {Z : Hp} : ∀ (ns : List Int), aF K CL Z (ns.map D.int) (ns.map V.int)
 | [] => .nil
 | n :: r => .cons (.int n) (Gj r)
theorem YL {K : PySem.W.Frag} {CL : Str -> Addr} {H : Hp} {a : Addr} {arg : List Int -> List D} {pre : List Int -> Prop} {res : List Int -> T} {ns : List Int} (ha : arg ns = [.lst (ns.map D.int)]) (hp : pre ns) (hr : res ns = .sh (.bl true)) (hS : qk K H a (ns.map V.int)) (h0 : ∀ x, KZ x = true -> CL x = 0 := by intros; rfl) :
   OG K CL 1 arg pre res [.ref a] H (fun v _ => v = .bl true) fun _ _ _ => False :=
 ⟨H, ns, .refl _, fun _ _ q _ => q, by rw [ha]; exact .cons (.lst hS (Gj ns)) .nil, by rw [ha]; rfl, hp, fun x hx e => absurd (h0 x hx) e, fun v H' W' fp _ _ _ _ _ r _ _ => by
   rw [hr] at r
   cases r with
   | sh r => exact r.sc rfl⟩
mutual
noncomputable def D.toPy : D -> PyData
 | .non => .none
 | .bl b => .bool b
 | .int i => .int i
 | .str x => .str x
 | .tup ds => .tuple (D.ou ds)
 | .lst ds => .list (D.ou ds)
 | .ins _ _ => .none
 | .mY _ => .none
 | .dct _ => .none
 | .any => .none
 | .val _ => .none
noncomputable def D.ou : List D -> List PyData
 | [] => []
 | d :: ds => d.toPy :: D.ou ds
end
inductive iJ : Nat -> D -> Prop where
 | non (n : Nat) : iJ n .non
 | bl (n : Nat) (b : Bool) : iJ n (.bl b)
 | int (n : Nat) (i : Int) : iJ n (.int i)
 | str (n : Nat) (x : Str) (h : PyData.strOk x = true) : iJ n (.str x)
 | tup {n : Nat} {ds : List D} (h : ∀ d ∈ ds, iJ n d) : iJ (n + 1) (.tup ds)
 | lst {n : Nat} {ds : List D} (h : ∀ d ∈ ds, iJ n d) : iJ (n + 1) (.lst ds)
noncomputable def Ai (a b : D) : Bool := PyData.eqv a.toPy b.toPy
theorem iJ.YM {n : Nat} : ∀ {ds : List D}, (∀ d ∈ ds, d.toPy.canLay0 = true /\ d.toPy.depth <= n) -> PyData.canLayAll0 (D.ou ds) = true /\ PyData.depthAll (D.ou ds) <= n
 | [], _ => ⟨by rw [D.ou, PyData.canLayAll0], by rw [D.ou, PyData.depthAll]; exact ai5 _⟩
 | d :: ds, h => by
   have h1 := h d aiq
   have h2 := iJ.YM (ds := ds) fun e he => h e (ais _ he)
   rw [D.ou, PyData.canLayAll0, PyData.depthAll, h1.1, h2.1]
   exact ⟨rfl, Nat.max_le.mpr ⟨h1.2, h2.2⟩⟩
theorem iJ.lay {n : Nat} {d : D} (h : iJ n d) : d.toPy.canLay0 = true /\ d.toPy.depth <= n := by
 induction h with
 | non n => exact ⟨by rw [D.toPy, PyData.canLay0], by rw [D.toPy, PyData.depth]; exact ai5 _⟩
 | bl n b => exact ⟨by rw [D.toPy, PyData.canLay0], by rw [D.toPy, PyData.depth]; exact ai5 _⟩
 | int n i => exact ⟨by rw [D.toPy, PyData.canLay0], by rw [D.toPy, PyData.depth]; exact ai5 _⟩
 | str n x hx => exact ⟨by rw [D.toPy, PyData.canLay0]; exact hx, by rw [D.toPy, PyData.depth]; exact ai5 _⟩
 | @tup n ds _ ih =>
   have := iJ.YM ih
   rw [D.toPy, PyData.canLay0, PyData.depth]
   exact ⟨this.1, by omega⟩
 | @lst n ds _ ih =>
   have := iJ.YM ih
   rw [D.toPy, PyData.canLay0, PyData.depth]
   exact ⟨this.1, by omega⟩
theorem Aj {n : Nat} {d : D} (h : iJ n d) : Ai d d = true := SeqAt.eqv_refl _ h.lay.1
section
variable {X : Cx} {CL : Str -> Addr} {pins : List (Addr × Obj)} {σ : L2.St} {H : Hp} {s : Shared}
theorem DG (I : L2.Inv X pins σ H s) {n : Nat} {d : D} {v : V} {u : Value} (hd : iJ n d) (q : aZ X.K CL H d v) (r : RelV v u) : ∃ as, Reads s.heap u d.toPy as := by
 refine aZ.rec (motive_1 := fun d v _ => ∀ (n : Nat) (u : Value), iJ n d -> RelV v u -> ∃ as, Reads s.heap u d.toPy as)
   (motive_2 := fun ds vs _ => ∀ (n : Nat) (us : List Value), (∀ d ∈ ds, iJ n d) -> Vals vs us -> ∃ as, ReadsAll s.heap us (D.ou ds) as) (motive_3 := fun _ _ _ => True) (motive_4 := fun _ _ _ => True) (motive_5 := fun _ _ _ => True)
   (fun _ _ _ r => ?non) (fun b _ _ _ r => ?bl) (fun i _ _ _ r => ?int) (fun x _ _ _ r => ?str) (fun _ _ _ hd _ => by cases hd) (fun _ _ _ hd _ => by cases hd) (fun hq _ ih n u hd r => ?tup) (fun hq _ ih n u hd r => ?lst) (fun _ _ _ _ _ hd _ => by cases hd) (fun _ _ _ _ _ hd _ => by cases hd) (fun _ _ _ _ _ hd _ => by cases hd)
   (fun _ _ _ r => ?nil) (fun _ _ ih ihs n us h r => ?cons) trivial (fun _ _ _ _ => trivial) trivial (fun _ _ _ _ => trivial) trivial (fun _ _ _ _ => trivial) q n u hd r
 case non => cases r; rw [D.toPy]; exact ⟨[], .none⟩
 case bl => cases r; rw [D.toPy]; exact ⟨[], .bool b⟩
 case int => obtain ⟨t, rfl⟩ := r; rw [D.toPy]; exact ⟨[], .int i t⟩
 case str => obtain ⟨t, rfl⟩ := r; rw [D.toPy]; exact ⟨[], .str x t⟩
 case tup =>
   cases hd with
   | tup hd =>
     cases r
     obtain ⟨its, rv, ⟨o, e, c, k, dt⟩, _⟩ := I.tuple hq
     obtain ⟨as, ra⟩ := ih _ _ hd rv
     rw [D.toPy]
     exact ⟨as, .tuple e c dt (by simpa using ra)⟩
 case lst =>
   cases hd with
   | lst hd =>
     cases r
     obtain ⟨its, rv, ⟨o, k, e, c, _, dt⟩, _⟩ := I.list hq
     obtain ⟨as, ra⟩ := ih _ _ hd rv
     rw [D.toPy]
     exact ⟨_, .list e c dt (by simpa using ra)⟩
 case nil => cases r; rw [D.ou]; exact ⟨[], .nil⟩
 case cons =>
   cases r with
   | cons r rs =>
     obtain ⟨as, ra⟩ := ih n _ (h _ aiq) r
     obtain ⟨bs, rb⟩ := ihs n _ (fun e he => h e (ais _ he)) rs
     rw [D.ou]
     exact ⟨as ++ bs, .cons ra rb⟩
end
section
variable {X : Cx} {CL : Str -> Addr} {b : Bx} {δ δ1 δ2 δ3 : List (Option T)} {e e1 e2 : Expr} {d1 d2 : D} {ds : List D} {pos p2 pp : Pos} {n : Nat} {i : Nat} {x : Str} {t : T} {fC : List Stmt} {DD : eo}
theorem YN (hu : X.A.units + 64 < cLine) : qC X (compareOp .Eq) (fun x y H Q => ∃ a c, aZ X.K CL H a x /\ aZ X.K CL H c y /\ iJ 60 a /\ iJ 60 c /\ Q (.bl (Ai a c)) H) := by
 intro pins s σ H x y v u Q I rx ry h
 obtain ⟨a, c, ra, rc, da, dc, q⟩ := h
 obtain ⟨as, r1⟩ := DG I da ra rx
 obtain ⟨bs, r2⟩ := DG I dc rc ry
 exact SeqAt.rcAt_reads r1 r2 da.lay.1 dc.lay.1 (by have := da.lay.2; omega) X.prog X.w X.xe _ ⟨.bl _, H, I, rfl, q⟩
theorem YQ (hu : X.A.units + 64 < cLine) : qC X (compareOp .NotEq) (fun x y H Q => ∃ a c, aZ X.K CL H a x /\ aZ X.K CL H c y /\ iJ 60 a /\ iJ 60 c /\ Q (.bl (!Ai a c)) H) := by
 intro pins s σ H x y v u Q I rx ry h
 obtain ⟨a, c, ra, rc, da, dc, q⟩ := h
 obtain ⟨as, r1⟩ := DG I da ra rx
 obtain ⟨bs, r2⟩ := DG I dc rc ry
 exact SeqAt.rcNeAt_reads r1 r2 da.lay.1 dc.lay.1 (by have := da.lay.2; omega) X.prog X.w X.xe _ ⟨.bl _, H, I, rfl, q⟩
theorem ach {op : CmpOp} {f : Bool -> Bool} (ho : qC X (compareOp op) (fun x y H Q => ∃ a c, aZ X.K CL H a x /\ aZ X.K CL H c y /\ iJ 60 a /\ iJ 60 c /\ Q (.bl (f (Ai a c))) H)) (h1 : cF X CL b e1 δ d1 δ1) (h2 : cF X CL b e2 δ1 d2 δ2) (k1 : iJ 60 d1) (k2 : iJ 60 d2)
   (hm : behindInMarks op e2 = false) : r9 X CL b (.Compare e1 [op] [e2] pos) δ (f (Ai d1 d2)) δ2 /\ bR X CL b (.Compare e1 [op] [e2] pos) δ (.sh (.bl (f (Ai d1 d2)))) δ2 := by
 constructor
 . intro H Z σ ts vs Q S k
   refine yJ (oU ho cg cg hm) (h1 H Z σ ts vs _ S fun v1 H1 Z1 z1 k1' S1 r1 => h2 H1 Z1 σ ts vs _ S1 fun v2 H2 Z2 z2 k2' S2 r2 => ?_)
   exact ⟨d1, d2, r1.mono k2', r2, k1, k2, _, rfl, k H2 Z2 (z1.trans z2) (k1'.trans k2') S2⟩
 . intro H Z σ ts vs Q S k
   refine bY (rX ho cg cg hm) (h1 H Z σ ts vs _ S fun v1 H1 Z1 z1 k1' S1 r1 => h2 H1 Z1 σ ts vs _ S1 fun v2 H2 Z2 z2 k2' S2 r2 => ?_)
   exact ⟨d1, d2, r1.mono k2', r2, k1, k2, k _ H2 Z2 (z1.trans z2) (k1'.trans k2') (S2.push (.bl _))⟩
theorem IB (hu : X.A.units + 64 < cLine) (h1 : cF X CL b e1 δ d1 δ1) (h2 : cF X CL b e2 δ1 d2 δ2) (k1 : iJ 60 d1) (k2 : iJ 60 d2) : r9 X CL b (.Compare e1 [.Eq] [e2] pos) δ (Ai d1 d2) δ2 /\ bR X CL b (.Compare e1 [.Eq] [e2] pos) δ (.sh (.bl (Ai d1 d2))) δ2 :=
 ach (f := fun b => b) (YN hu) h1 h2 k1 k2 (nI _)
theorem pC (hu : X.A.units + 64 < cLine) (h1 : cF X CL b e1 δ d1 δ1) (h2 : cF X CL b e2 δ1 d2 δ2) (k1 : iJ 60 d1) (k2 : iJ 60 d2) : r9 X CL b (.Compare e1 [.NotEq] [e2] pos) δ (!Ai d1 d2) δ2 /\ bR X CL b (.Compare e1 [.NotEq] [e2] pos) δ (.sh (.bl (!Ai d1 d2))) δ2 :=
 ach (f := fun b => !b) (YQ hu) h1 h2 k1 k2 (nI _)
noncomputable def cutD {α : Type} (xs : List α) (lo hi : Option Int) : List α := (xs.drop (HT.iF xs.length 0 lo)).take (HT.iF xs.length xs.length hi - HT.iF xs.length 0 lo)
theorem aF.drop {K : PySem.W.Frag} {Z : Hp} : ∀ {ds : List L3.D} {vs : List V} (n : Nat), aF K CL Z ds vs -> aF K CL Z (ds.drop n) (vs.drop n)
 | _, _, 0, r => r
 | _, _, _ + 1, .nil => .nil
 | _, _, n + 1, .cons _ t => aF.drop n t
theorem aF.take {K : PySem.W.Frag} {Z : Hp} : ∀ {ds : List L3.D} {vs : List V} (n : Nat), aF K CL Z ds vs -> aF K CL Z (ds.take n) (vs.take n)
 | _, _, 0, _ => .nil
 | _, _, _ + 1, .nil => .nil
 | _, _, n + 1, .cons r t => .cons r (aF.take n t)
theorem aF.cut {K : PySem.W.Frag} {Z : Hp} {ds : List L3.D} {vs : List V} (r : aF K CL Z ds vs) (lo hi : Option Int) : aF K CL Z (cutD ds lo hi) (F2 vs lo hi) := by
 unfold cutD F2
 rw [r.length]
 exact (r.drop _).take _
theorem Ak : ∀ {ds : List L3.D}, D.bK ds = true -> ∀ d ∈ ds, d.kX = true
 | [], _, _, h => by cases h
 | d :: ds, k, e, h => by
   rw [D.bK, aiO] at k
   rcases aiw.mp h with h | h
   . subst h; exact k.1
   . exact Ak k.2 e h
theorem zJ : ∀ {ds : List L3.D}, (∀ d ∈ ds, d.kX = true) -> D.bK ds = true
 | [], _ => rfl
 | d :: ds, h => by rw [D.bK, h d aiq, zJ fun e he => h e (ais _ he)]; rfl
theorem K6 {α : Type} {xs : List α} {lo hi : Option Int} {x : α} (h : x ∈ cutD xs lo hi) : x ∈ xs := List.mem_of_mem_drop (List.mem_of_mem_take h)
noncomputable def TOv (X : Cx) (CL : Str -> Addr) (b : Bx) (e : Option Expr) (δ : List (Option T)) (k : Option Int) (δ' : List (Option T)) : Prop :=
 ∃ t, PO X e t /\ ∀ (H Z : Hp) (σ : L2.St) (ts : List T) (vs : List V) (Q : Option Int -> Hp -> Prop), aO X.K CL b H Z δ σ ts vs -> (∀ H' Z', aB Z Z' -> aB H H' -> aO X.K CL b H' Z' δ' σ ts vs -> Q k H') -> t σ H Q
theorem DH : TOv X CL b none δ none δ := ⟨_, KJ, fun H Z σ ts vs Q S k => k H Z (.refl _) (.refl _) S⟩
theorem DI {k : Int} (h : cF X CL b e δ (.int k) δ1) : TOv X CL b (some e) δ (some k) δ1 := ⟨_, KL cg, fun H Z σ ts vs Q S kk => h H Z σ ts vs _ S fun v H1 Z1 z1 k1 S1 r => ⟨k, r.sc rfl, kk H1 Z1 z1 k1 S1⟩⟩
theorem Gk {lo hi : Option Expr} {l h : Option Int} (h1 : cF X CL b e δ (.lst ds) δ1) (hi1 : D.bK ds = true) (h2 : TOv X CL b lo δ1 l δ2) (h3 : TOv X CL b hi δ2 h δ3) : bR X CL b (.Subscript e (.Slice lo hi none p2) pos) δ (.lst ((cutD ds l h).map T.sh)) δ3 := fun H Z σ ts vs Q S k => by
 obtain ⟨t2, po2, w2⟩ := h2
 obtain ⟨t3, po3, w3⟩ := h3
 refine bY (z8 KN cg po2 po3) (h1 H Z σ ts vs _ S fun v H1 Z1 z1 k1 S1 r => w2 H1 Z1 σ ts vs _ S1 fun H2 Z2 z2 k2 S2 => w3 H2 Z2 σ ts vs _ S2 fun H3 Z3 z3 k3 S3 => ?_)
 have r' := r.mono (k2.trans k3)
 cases r' with
 | lst hq rr =>
   refine ⟨_, _, rfl, hq, fun p hp => ?_⟩
   have rc := aF.kX S3.tp (zJ fun d hd => Ak hi1 d (K6 hd)) (rr.cut l h)
   obtain ⟨c, S4⟩ := (aO.tE rc S3).pe (g0 := []) (by simp [rc.length]) hp
   exact k _ _ _ (z1.trans (z2.trans z3)) (k1.trans (k2.trans (k3.trans c))) S4
theorem se (hm : X.mg "tuple" = none) (h : cF X CL b e δ (.lst ds) δ1) (hi : D.bK ds = true) (hg : Gl X "tuple") (hs : starEach [e] X.env = (false, eval e X.env) :: starEach [] X.env := by exact aY rfl) : bR X CL b (.Call (.Name "tuple" pp) [e] [] pos) δ (.sh (.tup ds)) δ1 := fun H Z σ ts vs Q S k =>
 bY (ji nK hg hm qL (bG cg dM hs) (he := hs)) (h H Z σ ts vs _ S fun v H1 Z1 z1 k1 S1 r => by
   cases r with
   | lst hq rr =>
     refine ⟨_, _, rfl, .inl ⟨hq, fun l hl => ?_⟩⟩
     obtain ⟨a, c, S2⟩ := (aO.tE (aF.kX S1.tp hi rr) S1).Ad (by simp [rr.length]) hl
     obtain ⟨Z3, z3, S3⟩ := S2.Ab
     rw [T.cu, iR] at S3
     exact k _ _ Z3 (z1.trans (a.trans z3)) (k1.trans c) S3)
theorem Qd {tl YG : List T} {pa pb : Pos} (n : Vn X i x) (h0 : δ[i]? = some (some (.lst YG))) (h : bR X CL b e δ t δ1) (h1 : δ1[i]? = some (some (.lst tl))) (hl : tl.length <= 1000000) (k : e9 X CL b fC (δ1.set i (some (.lst (tl ++ [t])))) DD)
   (oj : attributeBase (.Name x pp) "append" X.env (eval (.Name x pp) X.env) = eval (.Name x pp) X.env := by rfl)
   (Ds : ((backTo pb (starEach [e] X.env)).all (fun x => !x.1) && (backToKw pb (keywordEach [] X.env)).all (fun x => x.1.isSome) && decide ([e].length + ([] : List Keyword).length + (if ([] : List Keyword).isEmpty then 0 else 1) < 30)) = true := by rfl)
   (hline : (pa.endLine == pb.line) = true := by rfl) (hs : starEach [e] X.env = (false, eval e X.env) :: starEach [] X.env := by exact aY rfl) (Gd : swapsWith (.Call (.Attribute (.Name x pp) "append" pa) [e] [] pb) none pos.line X.env = pure false := by rfl) :
   e9 X CL b (.Expr (.Call (.Attribute (.Name x pp) "append" pa) [e] [] pb) pos :: fC) δ DD :=
 bO (YH i h0 h h1 (ajH hl (by rw [ajg]; decide)) k n.hi n.hv n.hd n.oR oj Ds hline hs Gd)
theorem er {n : Nat} (hn : ds.length = n) (hm : X.mg "len" = none) (h : cF X CL b e δ (.lst ds) δ1) (hg : Gl X "len") (hs : starEach [e] X.env = (false, eval e X.env) :: starEach [] X.env := by exact aY rfl) : bR X CL b (.Call (.Name "len" pp) [e] [] pos) δ (.sh (.int n)) δ1 := by
 subst hn
 exact zI hm h hg hs
theorem cy (h : bR X CL b e δ (.lst (ds.map T.sh)) δ1) : cF X CL b e δ (.lst ds) δ1 := by
 have := WZ h
 rwa [T.cu, iR] at this
end
theorem Al {α : Type} {f : α -> D} {l : List α} {k : Int} (z : α) (h0 : 0 <= k) (h1 : k < l.length) : yk (l.map f) k = some (f (l.getD k.toNat z)) := by
 obtain ⟨j, rfl⟩ : ∃ j : Nat, k = j := ⟨k.toNat, by omega⟩
 refine aW ?_
 have hl : j < l.length := by omega
 rw [aiE, aiG hl]
 simp [List.getD, hl]
theorem aL {α : Type} {f : α -> D} (h : ∀ a, (f a).kX = true) : ∀ (l : List α), D.bK (l.map f) = true
 | [] => rfl
 | a :: l => by rw [aiB, D.bK, h a, aL h l]; rfl
section
variable {X : Cx} {CL : Str -> Addr} {b : Bx} {δ δ1 δ2 : List (Option T)} {e e1 e2 : Expr} {es : List Expr} {d : D} {pos p2 : Pos} {n : Nat} {i : Nat} {x : Str} {t : T} {fC : List Stmt} {DD : eo}
theorem Uu {k : Int} {u : Tok} (hm : X.mg x = some (.int k u)) (hg : Gl X x) (hd : (x == ("__debug__" : Str)) = false := by decide) : bR X CL b (.Name x pos) δ (.sh (.int k)) δ := fun H Z σ ts vs Q S kk =>
 bY (Df (v := .int k) hg hm ⟨u, rfl⟩ hd) (kk _ H Z (.refl _) (.refl _) (S.push (.int k)))
theorem iN {k : Int} (hm : ∃ u, X.mg x = some (.int k u)) (hg : Gl X x) (hd : (x == ("__debug__" : Str)) = false := by decide) : bR X CL b (.Name x pos) δ (.sh (.int k)) δ := by
 obtain ⟨u, hm⟩ := hm
 exact Uu hm hg hd
theorem vE (n : Vn X i x) (h : δ[i]? = some (some t)) (e : t.cu = d) : cF X CL b (.Name x pos) δ d δ := e ▸ vB n h
theorem pD (x : Str) : ∀ l : List Str, WW (.str x) (l.map V.str) = decide (x ∈ l)
 | [] => by simp [WW]
 | y :: l => by
   have ih := pD x l
   unfold WW at ih ⊢
   rw [aiB, ajA, ih]
   have e : ∀ a c : Str, Py (.str a) (.str c) = (a == c) := fun _ _ => rfl
   rw [e]
   by_cases h : y = x
   . subst h; simp
   . have h' : ¬ x = y := fun e => h e.symm
     simp [h, h']
theorem aF.strs {K : PySem.W.Frag} {Z : Hp} : ∀ {l : List Str} {vs : List V}, aF K CL Z (l.map D.str) vs -> vs = l.map V.str
 | [], _, r => by
   have r' : aF K CL Z [] _ := r
   cases r'; rfl
 | y :: l, _, r => by
   have r' : aF K CL Z (D.str y :: l.map D.str) _ := r
   cases r' with
   | cons r1 r2 => rw [r1.sc rfl, aF.strs r2]; rfl
theorem fV : ∀ l : List Str, (l.map V.str).all tD = true
 | [] => rfl
 | y :: l => by rw [aiB, aky, fV l]; rfl
theorem acj {l : List Str} (h1 : cF X CL b e1 δ (.str x) δ1) (h2 : cF X CL b e2 δ1 (.tup (l.map .str)) δ2) (hm : behindInMarks .In e2 = false) :
   r9 X CL b (.Compare e1 [.In] [e2] pos) δ (decide (x ∈ l)) δ2 /\ bR X CL b (.Compare e1 [.In] [e2] pos) δ (.sh (.bl (decide (x ∈ l)))) δ2 := by
 constructor
 . intro H Z σ ts vs Q S k
   refine yJ (oU rY cg cg hm) (h1 H Z σ ts vs _ S fun v1 H1 Z1 z1 k1 S1 r1 => h2 H1 Z1 σ ts vs _ S1 fun v2 H2 Z2 z2 k2 S2 r2 => ?_)
   cases r2 with
   | tup hq rr =>
     have e := rr.strs
     subst e
     refine ⟨_, _, rfl, .inr hq, by rw [r1.sc rfl]; rfl, fV l, _, rfl, ?_⟩
     rw [aiu aiy, r1.sc rfl, pD]
     exact k H2 Z2 (z1.trans z2) (k1.trans k2) S2
 . intro H Z σ ts vs Q S k
   refine bY (rX rY cg cg hm) (h1 H Z σ ts vs _ S fun v1 H1 Z1 z1 k1 S1 r1 => h2 H1 Z1 σ ts vs _ S1 fun v2 H2 Z2 z2 k2 S2 r2 => ?_)
   cases r2 with
   | tup hq rr =>
     have e := rr.strs
     subst e
     refine ⟨_, _, rfl, .inr hq, by rw [r1.sc rfl]; rfl, fV l, ?_⟩
     rw [aiu aiy, r1.sc rfl, pD]
     exact k _ H2 Z2 (z1.trans z2) (k1.trans k2) (S2.push (.bl _))
theorem Qe {l : List Str} {j : Nat} (h1 : cF X CL b e1 δ (.str x) δ1) (h2 : HG X CL b es δ1 ((l.map D.str).map T.sh) δ2) (hl : (l.map D.str).length <= sizeLine := by exact aA rfl) :
   r9 X CL b (.Compare e1 [.In] [.Tuple es j p2] pos) δ (decide (x ∈ l)) δ2 /\ bR X CL b (.Compare e1 [.In] [.Tuple es j p2] pos) δ (.sh (.bl (decide (x ∈ l)))) δ2 := acj h1 (ah (cV h2 hl)) rfl
noncomputable def Am : Expr -> Option Str
 | .Constant (.str x) _ _ => some x
 | _ => none
noncomputable def w4 : List Expr -> Option (List Str)
 | [] => some []
 | e :: es => (Am e).bind fun x => (w4 es).map (x :: ·)
theorem Gm {e : Expr} {x : Str} (h : Am e = some x) : ∃ j p, e = .Constant (.str x) j p := by
 unfold Am at h
 split at h
 . cases h; exact ⟨_, _, rfl⟩
 . cases h
theorem sf : ∀ {es : List Expr} {l : List Str}, w4 es = some l -> HG X CL b es δ ((l.map D.str).map T.sh) δ
 | [], l, h => by
   have e : l = [] := (aiN h).symm
   subst e
   exact dN
 | e :: es, l, h => by
   rw [w4] at h
   obtain ⟨x, hx, h⟩ := Option.bind_eq_some_iff.mp h
   obtain ⟨l', hl, rfl⟩ := aiH.mp h
   obtain ⟨j, p, rfl⟩ := Gm hx
   exact bT b7 (sf hl)
theorem aeX {st1 : Stmt} (J : List (Option T) -> Prop) (k : ∀ δ2, J δ2 -> e9 X CL b fC δ2 DD) (h : (∀ δ2, J δ2 -> e9 X CL b fC δ2 DD) -> e9 X CL b (st1 :: fC) δ DD) : e9 X CL b (st1 :: fC) δ DD := h k
end
theorem YR {α : Type} {l : List α} {k : Int} (z : α) (h0 : 0 <= k) (h1 : k < l.length) : yk l k = some (l.getD k.toNat z) := by
 obtain ⟨j, rfl⟩ : ∃ j : Nat, k = j := ⟨k.toNat, by omega⟩
 refine aW ?_
 have hl : j < l.length := by omega
 rw [aiG hl]
 simp [List.getD, hl]
theorem yq (l : List Int) : T.gB ((l.map D.int).map T.sh) = true := by
 rw [aiQ]
 induction l with
 | nil => rfl
 | cons i r ih => rw [aiB, T.gB, ih]; rfl
section
variable {K : PySem.W.Frag} {CL : Str -> Addr} {b : Bx} {H H' Z : Hp} {δ : List (Option T)} {σ : L2.St} {ts tl : List T} {vs us : List V} {t : T} {v : V}
theorem lZ.get : ∀ {fs : List (Str × D)} {gs : List (Str × V)} {f : Str} {d : D}, lZ K CL Z fs gs -> fs.lookup f = some d -> ∃ v, gs.lookup f = some v /\ aZ K CL Z d v
 | _, _, _, _, .nil, e => by simp at e
 | _, _, f, d, .cons (x := x) r t, e => by
   rw [aiY] at e ⊢
   cases h : f == x with
   | true => rw [h] at e; cases e; exact ⟨_, rfl, r⟩
   | false => rw [h] at e; exact lZ.get t e
noncomputable def qx (f : Str) (t : T) : List (Str × T) -> List (Str × T)
 | [] => [(f, t)]
 | (g, x) :: r => if g = f then (g, t) :: r else (g, x) :: qx f t r
theorem cz.length {fs : List (Str × T)} {gs : List (Str × V)} {fp : List Addr} (h : cz K CL H Z fs gs fp) : fs.length = gs.length :=
 cz.ind (P := fun d v _ => d.length = v.length) rfl (fun _ _ i => congrArg (· + 1) i) h
theorem cz.put {f : Str} {g : List Addr} (q : bu K CL H Z t v g) : ∀ {fs : List (Str × T)} {gs : List (Str × V)} {fp : List Addr}, cz K CL H Z fs gs fp →
   ∃ K7 f', cz K CL H Z (qx f t fs) (lX f v gs) K7 /\ f'.Sublist fp /\ K7.Perm (g ++ f')
 | _, _, _, .nil => ⟨g ++ [], [], .cons q .nil, aja _, aks _⟩
 | _, _, _, .cons (x := x) (fp := fp) (gp := gp) r rs => by
   rw [qx, lX]
   by_cases h : x = f
   . rw [aiC h, aiC h]
     exact ⟨g ++ gp, gp, .cons q rs, aji _ _, aks _⟩
   . rw [aiu h, aiu h]
     obtain ⟨p, p', h1, h2, h3⟩ := cz.put (f := f) q rs
     refine ⟨fp ++ p, fp ++ p', .cons r h1, ai9 (aja _) h2, (ai8 fp h3).trans ?_⟩
     rw [← ain, ← ain]
     exact ai2.append_right p'
theorem aO.An {a : Addr} {o : HO} {K7 gp fp K5 : List Addr} {δ2 : List (Option T)} (hm : mh o = false) (S : aO K CL b H Z δ σ ts vs) (own : ∀ c ∈ fp ++ gp, Z c = none /\ b.B c = none) (ha : a ∈ fp ++ gp)
   (e' : cG K CL (upd H a o) Z δ2 σ K7) (r' : aG K CL (upd H a o) Z tl us K5) (pm : (K7 ++ K5).Nodup) (sub : ∀ c ∈ K7 ++ K5, c ∈ fp ++ gp) :
   aO K CL b (upd H a o) Z δ2 σ tl us := by
 have oa := own a ha
 refine ⟨⟨_, _, e', r', pm, fun c hc => own c (sub c hc)⟩, fun c u q => ?_, S.zz, fun c u q => ?_, S.new, fun c u q i => ?_, S.tab⟩
 . rw [aj (bF q oa.2)]; exact S.bh c u q
 . rw [aj (bF q oa.1)]; exact S.zh c u q
 . by_cases hc : c = a
   . subst hc; rw [aE] at q; cases q; rw [hm] at i; cases i
   . rw [aj hc] at q; exact S.tp c u q i
theorem aO.setField {i : Nat} {x : Addr} {c f : Str} {fs : List (Str × T)} (S : aO K CL b H Z δ σ (t :: ts) (v :: vs)) (hi : δ[i]? = some (some (.pin x (.ins c fs)))) :
   ∃ dx gs, σ[i]? = some (some (.ref x)) /\ H x = some (.ins (CL c) dx gs) /\ gs.length = fs.length /\ aO K CL b (upd H x (.ins (CL c) dx (lX f v gs))) Z (δ.set i (some (.pin x (.ins c (qx f t fs))))) σ ts vs := by
 obtain ⟨fp, gp, e, r, nd, k⟩ := S.rep
 obtain ⟨v0, f1, f2, f3, hv, ql, rt, put, _⟩ := e.get hi
 subst ql
 cases rt with
 | pin rt =>
 cases rt with
 | @ins a dx _ gs _ g ha rs =>
   cases r with
   | @cons _ _ _ _ ft gr q1 q2 =>
     have ne : ∀ c ∈ (f1 ++ (g ++ f3)) ++ (ft ++ gr), c ≠ x := fun c hc e => by
       subst e
       have hp : ((f1 ++ ((c :: g) ++ f3)) ++ (ft ++ gr)).Perm (c :: ((f1 ++ (g ++ f3)) ++ (ft ++ gr))) := by
         rw [aiP, ← aiP]
         exact (ajn.append_right _)
       exact (ai3.mp (hp.nodup_iff.mp nd)).1 hc
     refine ⟨dx, gs, hv, ha, rs.length.symm, ?_⟩
     have q1' := q1.mono (H' := upd H x (.ins (CL c) dx (lX f v gs))) (.refl _) fun c hc => aj (ne c (by simp [hc]))
     have rs' := rs.mono (H' := upd H x (.ins (CL c) dx (lX f v gs))) (.refl _) fun c hc => aj (ne c (by simp [hc]))
     obtain ⟨p, p', h1, h2, h3⟩ := cz.put (f := f) q1' rs'
     have r1 : bu K CL (upd H x (.ins (CL c) dx (lX f v gs))) Z (.pin x (.ins c (qx f t fs))) (.ref x) (x :: p) := .pin (.ins aE h1)
     have e2 := put (H' := upd H x (.ins (CL c) dx (lX f v gs))) (.refl _) (fun c hc => aj (ne c (by
       rcases aix.mp hc with h | h
       . simp [h]
       . simp [h]))) r1
     rw [gu hv] at e2
     have hp : ((f1 ++ ((x :: p) ++ f3)) ++ gr).Perm ((f1 ++ ((x :: p') ++ f3)) ++ (ft ++ gr)) := by
       have h4 : ((f1 ++ ((x :: p) ++ f3)) ++ gr).Perm ((f1 ++ ((x :: (ft ++ p')) ++ f3)) ++ gr) := ((h3.cons x).append_right f3).append_left f1 |>.append_right gr
       refine h4.trans ?_
       simp only [aiP, ain]
       refine ai8 f1 (List.Perm.cons x ?_)
       have := (ai2 (l₁ := ft) (l₂ := p' ++ f3)).append_right gr
       simp only [ain] at this
       exact this
     have sb : ((f1 ++ ((x :: p') ++ f3)) ++ (ft ++ gr)).Sublist ((f1 ++ ((x :: g) ++ f3)) ++ (ft ++ gr)) :=
       ai9 (ai9 (aja _) (ai9 (List.Sublist.cons₂ x h2) (aja _))) (aja _)
     exact S.An rfl k (by simp) e2 (q2.mono (.refl _) fun c hc => aj (ne c (by simp [hc]))) (hp.nodup_iff.mpr (nd.sublist sb)) fun c hc => sb.subset (hp.mem_iff.mp hc)
end
section
variable {X : Cx} {CL : Str -> Addr} {b : Bx} {δ δ1 : List (Option T)} {e : Expr} {t : T} {d : D} {c f x : Str} {fs : List (Str × D)} {pos : Pos} {DD : eo} {i : Nat}
theorem bf (hc : nJ X.K (CL c)) (n : aC X.K (CL c) f) (h : cF X CL b e δ (.ins c fs) δ1) (hl : fs.lookup f = some d) (hb : attributeBase e f X.env (eval e X.env) = eval e X.env := by rfl) :
   cF X CL b (.Attribute e f pos) δ d δ1 := fun H Z σ ts vs Q S k =>
 bY (HZ cg hb) (h H Z σ ts vs _ S fun v H' Z' z s S' r => by
   cases r with
   | @ins a dx _ gs _ ha rf =>
     obtain ⟨w, hw, F3⟩ := rf.get hl
     exact ⟨a, CL c, dx, gs, w, rfl, ha, hc, n, hw, k w H' Z' z s S' F3⟩)
theorem i9 (hc : nJ X.K (CL c)) (n : aC X.K (CL c) f) (h : bR X CL b e δ (.sh (.ins c fs)) δ1) (hl : fs.lookup f = some d) (hb : attributeBase e f X.env (eval e X.env) = eval e X.env := by rfl) :
   bR X CL b (.Attribute e f pos) δ (.sh d) δ1 := fun H Z σ ts vs Q S k =>
 bY (HZ cg hb) (h H Z σ ts vs _ S fun v H' Z' z s S' => by
   obtain ⟨fp, gp, _, r, _, _⟩ := S'.rep
   cases r with
   | cons r _ =>
     cases r with
     | sh r =>
       cases r with
       | @ins a dx _ gs _ ha rf =>
         obtain ⟨w, hw, F3⟩ := rf.get hl
         exact ⟨a, CL c, dx, gs, w, rfl, S'.zh _ _ ha, hc, n, hw, k w H' Z' z s (S'.pop.push F3)⟩)
theorem m7 {fC : List Stmt} {a : Addr} {gs : List (Str × T)} {pa pb pc : Pos} (hc : nJ X.K (CL c)) (n : aC X.K (CL c) f) (nm : Vn X i x) (h : bR X CL b e δ t δ1) (h1 : δ1[i]? = some (some (.pin a (.ins c gs)))) (hl : gs.length < 1000)
   (k : e9 X CL b fC (δ1.set i (some (.pin a (.ins c (qx f t gs))))) DD) (hs : swapsWith e (some (.Attribute (.Name x pa) f pb)) pc.line X.env = pure false := by rfl) :
   e9 X CL b (.Assign [.Attribute (.Name x pa) f pb] e pc :: fC) δ DD := bO fun H Z σ ts vs E S M =>
 nM (X6 (jo nm.hi nm.hv nm.hd nm.oR) cg hs) (h H Z σ ts vs _ S fun v H' Z' z s S' => by
   obtain ⟨dx, ws, hv, hx, hlen, S2⟩ := S'.setField (f := f) h1
   exact ⟨.ref a, hv, a, CL c, dx, ws, rfl, hx, hc, n, by rw [hlen]; exact hl, M.nx _ σ _ Z' z S2 k⟩)
end
noncomputable def spI (K : PySem.W.Frag) (CL : Str -> Addr) {A : Type} (c : Str) (n : Nat) (arg : A -> List D) (Pre : A -> Prop) (res : A -> List (Str × T)) : Sp := fun vs H Q _ =>
 ∃ (W H0 : Hp) (a : A) (x dx : Addr) (us : List V), vs = .ref x :: us /\ H0 x = none /\ H0 dx = none /\ dx ≠ x /\ H = upd (upd H0 dx (.own x)) x (.ins (CL c) dx []) ∧
   aB W H0 /\ (∀ c o, H0 c = some o -> mh o = true -> W c = some o) /\ aF K CL W (arg a) us /\ (arg a).length + 1 = n /\ Pre a /\ oW CL W ∧
   ∀ H' W' fp, aB H0 H' -> aB W W' -> aB W' H' -> (∀ c o, W' c = some o -> W c = none -> H0 c = none) -> (∀ c o, H' c = some o -> mh o = true -> W' c = some o) →
     bu K CL H' W' (.ins c (res a)) (.ref x) fp -> fp.Nodup -> (∀ c ∈ fp, W' c = none /\ H0 c = none) -> Q .non H'
section
variable {X : Cx} {CL : Str -> Addr} {b : Bx} {δ δ1 : List (Option T)} {e : Expr} {es : List Expr} {pos pp : Pos}
variable {A : Type} {k n : Nat} {f : Addr} {fd : FuncData} {ps : List Str} {arg : A -> List D} {Pre : A -> Prop} {x c : Str}
theorem Uv {res : A -> List (Str × T)} (a : A) (M : Mk X.K (CL c) f) (F : iE X.prog X.w X.K X.mg X.base uQ k f fd ps (spI X.K CL c n arg Pre res)) (hr : gA (k + 1) X.A) (hm : X.mg x = some (.ref (CL c))) (hb : Binds X.K fd ps [])
   (h : Uh X CL b (e :: es) δ (arg a) δ1) (hn : (arg a).length + 1 = n) (hp : Pre a) (hc : T.bw (res a) = true) (hg : Gl X x)
   (uT : (x == ("__debug__" : Str)) = false := by decide) (he : starEach (e :: es) X.env = (false, eval e X.env) :: starEach es X.env := by exact aY rfl) (qH : (backTo pos (starEach es X.env)).any (·.1) = false := by rfl) :
   bR X CL b (.Call (.Name x pp) (e :: es) [] pos) δ (.ins c (res a)) δ1 := fun H Z σ ts vs Q S kk =>
 bY (KD M F hr hg hm hb .nil CK HF uT he qH) (h H Z σ ts vs _ S fun us H1 Z1 z1 k1 S1 r x dx hx hdx ne => by
   rw [aiK]
   refine ⟨H1, H1, a, x, dx, us, rfl, hx, hdx, ne, rfl, .refl _, fun _ _ q _ => q, r, hn, hp, S1.Ug, fun H' W' fp hh ww wh nw tp rt nd own => ⟨rfl, ?_⟩⟩
   obtain ⟨Z', z', S'⟩ := S1.back hh S1.zh ww wh nw tp rt nd own (.inr (by rw [T.clean]; exact hc))
   exact kk _ H' Z' (z1.trans z') (k1.trans hh) S')
end
theorem DJ {P : Program} {w : World} {K : PySem.W.Frag} {mg : Str -> Option Value} {base : Heap} {CL : Str -> Addr} {x qual c : Str} {st : Stmt} {f : Addr} {fd : FuncData} {N ps : List Str} {k : Nat} {A : Type} {arg : A -> List D} {Pre : A -> Prop} {res : A -> List (Str × T)} (F : nL K x qual st f fd) (S : aM N ps (ak st))
   (hb : ∀ (kh : Value) (Ar : Around) (outer : List Env) (s : Shared) (H : Hp) (E : XK) (b : Bx) (a : A) (y : Addr), gA k (Ar.deeper (envOfC qual (ak st) s.heap.objs.size f kh)) -> Pre a →
     e9 (zY uQ P w K mg base N qual (ak st) f kh Ar outer s H E).TJ CL b (dU st) (some (.pin y (.ins c [])) :: ((arg a).map (fun d => some (T.sh d)) ++ List.replicate (N.length - ((arg a).length + 1)) none))
       { nx := fun δ => δ[0]? = some (some (.pin y (.ins c (res a)))), rt := fun _ _ => False }) :
   iE P w K mg base uQ (k + 1) f fd ps (spI K CL c ps.length arg Pre res) := by
 refine F.ok S (fun vs H Q E h => ?_) (fun kh Ar outer s H vs Q E hr h => ?_)
 . obtain ⟨W, H0, a, y, dx, us, rfl, _, _, _, _, _, _, r, hl, _⟩ := h
   rw [ai7, ← r.length]; exact hl
 . obtain ⟨W, H0, a, y, dx, us, rfl, hy, hdx, ne, rfl, wh, tp, r, hl, hp, tb, kk⟩ := h
   have old : ∀ {d : Addr} {o : HO}, H0 d = some o -> upd (upd H0 dx (.own y)) y (.ins (CL c) dx []) d = some o := fun {d o} q => by
     rw [aj (bF q hy), aj (bF q hdx)]; exact q
   refine ⟨_, MC, hb kh Ar outer s _ E ⟨H0, W⟩ a y hr hp _ W _ [] [] _ ⟨⟨[y] ++ [], [], ?_, .nil, by simp, fun d hd => ?_⟩, fun d o q => old q, .refl _, fun d o q => old (wh d o q), fun d o q z => ?_, fun d o q i => ?_, tb⟩ ⟨fun δ' σ' H' Z' s' S' e => ?_, fun t v H' Z' δ' σ' s' S' e => e.elim, fun _ _ _ _ _ _ e => e.elim, fun _ _ _ _ _ _ e => e.elim⟩⟩
   . unfold L2.start
     rw [aiB, ai7, aiP, ← r.length]
     exact .cons (.pin (.ins aE .nil)) (mw _ r)
   . have : d = y := by simpa using hd
     subst this
     exact ⟨Ip wh hy, hy⟩
   . have q' : W d = some o := q
     have z' : W d = none := z
     rw [q'] at z'; cases z'
   . by_cases h1 : d = y
     . subst h1; rw [aE] at q; cases q; cases i
     . rw [aj h1] at q
       by_cases h2 : d = dx
       . subst h2; rw [aE] at q; cases q; cases i
       . rw [aj h2] at q; exact tp d o q i
   . obtain ⟨fp, gp, eE, _, nd, own⟩ := S'.rep
     obtain ⟨v, f1, f2, f3, hv, ql, rt, _, _⟩ := eE.get e
     subst ql
     cases rt with
     | pin rt =>
       refine kk H' Z' f2 S'.bh S'.zz S'.zh S'.new S'.tp rt ?_ fun d hd => own d (by simp [hd])
       have h1 := (aiW.mp nd).1
       exact (aiW.mp (aiW.mp h1).2.1).1
section
variable {X : Cx} {CL : Str -> Addr} {b : Bx} {δ δ1 δ2 : List (Option T)} {e e1 e2 : Expr} {t : T} {ds OI : List D} {x : Str} {pos pp : Pos} {DD : eo} {i : Nat} {fC body : List Stmt}
theorem Uw (g : Gx X) (P : Nat -> List (Option T) -> Prop) (m : Nat) (h0 : P m δ)
   (hs : ∀ m δ, P m δ -> ∃ p δ1, r9 X CL b e δ p δ1 ∧
     (p = true -> e9 X CL b body δ1 { nx := fun δ2 => ∃ m', m' < m /\ P m' δ2, rt := DD.rt, bk := fun δ2 => e9 X CL b fC δ2 DD, ct := fun δ2 => ∃ m', m' < m /\ P m' δ2 }) /\ (p = false -> e9 X CL b fC δ1 DD)) :
   e9 X CL b (.While e body [] pos :: fC) δ DD := bO fun H Z σ ts vs E S M =>
 nM (O5 g.xe WY MC) (by
   refine ⟨fun m σ H => ∃ Z2 δ2, aB Z Z2 /\ aO X.K CL b H Z2 δ2 σ ts vs /\ P m δ2, ⟨m, Z, δ, .refl _, S, h0⟩, ?_⟩
   rintro m σ H ⟨Z2, δ2, z2, S2, p2⟩
   obtain ⟨p, δ3, ht, h1, h2⟩ := hs m δ2 p2
   refine ht H Z2 σ ts vs _ S2 fun H3 Z3 z3 k3 S3 => ?_
   cases p with
   | true =>
     rw [aiC rfl]
     refine ⟨fun σ' H' => ∃ m', m' < m /\ ∃ Z2 δ2, aB Z Z2 /\ aO X.K CL b H' Z2 δ2 σ' ts vs /\ P m' δ2, fun σ' H' q => q, ?_⟩
     refine h1 rfl H3 Z3 σ ts vs _ S3 ⟨fun δ' σ' H' Z' s' S' ⟨m', l, q⟩ => ⟨m', l, Z', δ', z2.trans (z3.trans s'), S', q⟩, fun t v H' Z' δ' σ' s' S' q => M.rt t v H' Z' δ' σ' (z2.trans (z3.trans s')) S' q,
       fun δ' σ' H' Z' s' S' q => M.nx δ' σ' H' Z' (z2.trans (z3.trans s')) S' q, fun δ' σ' H' Z' s' S' ⟨m', l, q⟩ => ⟨m', l, Z', δ', z2.trans (z3.trans s'), S', q⟩⟩
   | false =>
     rw [aiu (by decide)]
     exact M.nx δ3 σ H3 Z3 (z2.trans z3) S3 (h2 rfl))
noncomputable def acn (K : PySem.W.Frag) : R2 := fun x y H Q => ∃ l b xs zs, x = .ref l /\ y = .ref b /\ qk K H l xs /\ qk K H b zs /\ xs.length + zs.length <= sizeLine /\ ∀ p, H p = none -> Q (.ref p) (upd H p (.lst (xs ++ zs)))
theorem Ux : qC X (binaryOp .Add) (acn X.K) := by
 intro pins s σ H x y v u Q I rx ry h
 obtain ⟨l, b, xs, zs, rfl, rfl, hH, hB, hz, q⟩ := h
 cases rx
 cases ry
 obtain ⟨its, r, pl, _⟩ := I.list hH
 obtain ⟨F5, r2, pl2, _⟩ := I.list hB
 have e1 := r.length
 have e2 := r2.length
 obtain ⟨⟨c1, dd, da1, sl⟩, ho, hc, n, hd⟩ := pl.isList
 obtain ⟨⟨c2, dd2, da2, sl2⟩, ho2, hc2, n2, hd2⟩ := pl2.isList
 cases hc; cases hc2; cases hd; cases hd2
 refine concat_meets ⟨_, ho, rfl⟩ ⟨_, ho2, rfl⟩ noFill_list_add seq_list_add PySem.F.slot_list_add PySem.F.entry_list_add (PySem.F.args_list_add_2 (Value.ref l) (Value.ref b))
   (list_addW l b its.toArray F5.toArray n n2 dd dd2 sl sl2 (by rw [aiJ, aiJ]; omega)) ⟨ho, ho2, ?_⟩
 have ea : its.toArray ++ F5.toArray = (its ++ F5).toArray := by simp
 rw [ea]
 exact ⟨.ref _, _, I.abS (t' := s.toks) (r.append r2) (by rw [aiU]; omega), rfl, q _ I.fresh⟩
theorem aF.app {K : PySem.W.Frag} {Z : Hp} {ds OI : List L3.D} {vs vs2 : List V} (h : aF K CL Z ds vs) (r2 : aF K CL Z OI vs2) : aF K CL Z (ds ++ OI) (vs ++ vs2) :=
 aF.ind (P := fun ds vs => aF K CL Z (ds ++ OI) (vs ++ vs2)) r2 (fun r _ i => .cons r i) h
theorem sq (h1 : cF X CL b e1 δ (.lst ds) δ1) (h2 : cF X CL b e2 δ1 (.lst OI) δ2) (i1 : D.bK ds = true) (i2 : D.bK OI = true) (hz : ds.length + OI.length <= sizeLine) :
   bR X CL b (.BinOp e1 .Add e2 pos) δ (.lst ((ds ++ OI).map T.sh)) δ2 := fun H Z σ ts vs Q S k =>
 bY (Ku Ux cg cg) (h1 H Z σ ts vs _ S fun v1 H1 Z1 z1 k1 S1 r1 => h2 H1 Z1 σ ts vs _ S1 fun v2 H2 Z2 z2 k2 S2 r2 => by
   have Yx := r1.mono k2
   cases Yx with
   | lst hq1 rr1 =>
     cases r2 with
     | lst hq2 rr2 =>
       refine ⟨_, _, _, _, rfl, rfl, hq1, hq2, by rw [← rr1.length, ← rr2.length]; exact hz, fun p hp => ?_⟩
       have rc := aF.app (aF.kX S2.tp i1 rr1) (aF.kX S2.tp i2 rr2)
       obtain ⟨c, S4⟩ := (aO.tE rc S2).pe (g0 := []) (by simp [rc.length, rr1.length, rr2.length]) hp
       exact k _ _ _ (z1.trans z2) (k1.trans (k2.trans c)) S4)
theorem boot_str : bootBuiltins "str" = some (.type "str") := by decide +kernel
theorem K8 {i : Int} (hm : X.mg "str" = none) (hg : Gl X "str") (h : cF X CL b e δ (.int i) δ1) (hi : i.natAbs.log2 < 1920) (hs : starEach [e] X.env = (false, eval e X.env) :: starEach [] X.env := by exact aY rfl) :
   bR X CL b (.Call (.Name "str" pp) [e] [] pos) δ (.sh (.str (toString i))) δ1 := fun H Z σ ts vs Q S k =>
 bY (ji uS hg hm boot_str (bG cg dM hs) (he := hs)) (h H Z σ ts vs _ S fun v H1 Z1 z1 k1 S1 r => by
   rw [r.sc rfl]
   exact ⟨i, rfl, hi, k _ H1 Z1 z1 k1 (S1.push (.str _))⟩)
end
structure Fm (X : Cx) (CL : Str -> Addr) (x : Str) (k n : Nat) {A : Type} (arg : A -> List D) (Pre : A -> Prop) (res : A -> List (Str × T)) : Prop where
 ex : ∃ f fd ps, Mk X.K (CL x) f /\ iE X.prog X.w X.K X.mg X.base uQ k f fd ps (spI X.K CL x n arg Pre res) /\ X.mg x = some (.ref (CL x)) /\ Binds X.K fd ps []
 room : gA (k + 1) X.A
noncomputable def IC (N : List Str) (y : Addr) (c : Str) (ds : List D) : List (Option T) := some (.pin y (.ins c [])) :: (ds.map (fun d => some (T.sh d)) ++ List.replicate (N.length - (ds.length + 1)) none)
theorem YS {K : PySem.W.Frag} {CL CL' : Str -> Addr} {arg : List Int -> List D} {pre : List Int -> Prop} {res : List Int -> T} (ha : ∀ a, arg a = [.lst (a.map .int)]) (hr : ∀ a, res a = .sh (.bl true)) (h0 : ∀ x, KZ x = true -> CL x = 0) :
   ∀ (vs : List V) (H : Hp) (Q : VK) (E : XK), OG K CL' 1 arg pre res vs H Q E -> OG K CL 1 arg pre res vs H Q E := by
 rintro vs H Q E ⟨W, a, h1, h2, h3, h4, h5, _, k⟩
 have YT : ∀ {l : List Int} {us : List V}, aF K CL' W (l.map .int) us -> aF K CL W (l.map .int) us := by
   intro l
   induction l with
   | nil => intro us r; cases r; exact .nil
   | cons i l ih =>
     intro us r
     cases r with
     | cons r t => cases r; exact .cons (.int i) (ih t)
 refine ⟨W, a, h1, h2, ?_, h4, h5, fun x hx e => absurd (h0 x hx) e, fun v H' W' fp a1 a2 a3 a4 a5 r nd own => k v H' W' fp a1 a2 a3 a4 a5 ?_ nd own⟩
 . rw [ha] at h3 ⊢
   cases h3 with
   | cons r t =>
     cases t
     cases r with
     | lst q rr => exact .cons (.lst q (YT rr)) .nil
 . rw [hr] at r ⊢
   cases r with
   | sh r => cases r; exact .sh (.bl _)
section
variable {X : Cx} {CL : Str -> Addr} {b : Bx} {δ δ1 : List (Option T)} {e : Expr} {es : List Expr} {x m : Str} {pos pp : Pos} {D : eo}
theorem mk_ {k n : Nat} {A : Type} {arg : A -> List L3.D} {Pre : A -> Prop} {res : A -> List (Str × T)} (a : A) (F : Fm X CL x k n arg Pre res) (hg : Gl X x) (h : Uh X CL b (e :: es) δ (arg a) δ1) (hp : Pre a) (hc : T.bw (res a) = true) (hn : (arg a).length + 1 = n := by rfl)
   (uT : (x == ("__debug__" : Str)) = false := by decide) (he : starEach (e :: es) X.env = (false, eval e X.env) :: starEach es X.env := by exact aY rfl) (qH : (backTo pos (starEach es X.env)).any (·.1) = false := by rfl) :
   bR X CL b (.Call (.Name x pp) (e :: es) [] pos) δ (.ins x (res a)) δ1 := by
 obtain ⟨f, fd, ps, M, F1, m, b⟩ := F.ex
 exact Uv a M F1 F.room m b h hn hp hc hg uT he qH
end
theorem fW {α : Type} {f : Str} {d : α} {fs : List (Str × α)} : ((f, d) :: fs).lookup f = some d := by
 rw [aiY, akg]
theorem bD {α : Type} {f g : Str} {d : α} {fs : List (Str × α)} (h : (f == g) = false) : ((g, d) :: fs).lookup f = fs.lookup f := by
 rw [aiY, h]
theorem ez {f : Str} {t : T} : qx f t [] = [(f, t)] := rfl
theorem aJ {f g : Str} {t u : T} {fs : List (Str × T)} (h : ¬ g = f) : qx f t ((g, u) :: fs) = (g, u) :: qx f t fs := by
 rw [qx, aiu h]
theorem MJ {f : Str} {t u : T} {fs : List (Str × T)} : qx f t ((f, u) :: fs) = (f, t) :: fs := by
 rw [qx, aiC rfl]
section
variable {X : Cx} {CL : Str -> Addr} {b : Bx} {δ δ1 δ2 : List (Option T)} {e1 e2 : Expr} {x : Str} {pos : Pos} {d : L3.D}
theorem DK (x : Int) : ∀ l : List Int, WW (.int x) (l.map V.int) = decide (x ∈ l)
 | [] => by simp [WW]
 | y :: l => by
   have ih := DK x l
   unfold WW at ih ⊢
   rw [aiB, ajA, ih]
   by_cases h : y = x
   . subst h; simp [Py]
   . have h' : ¬ x = y := fun e => h e.symm
     simp [Py, h, h']
theorem aF.ints {K : PySem.W.Frag} {Z : Hp} : ∀ {l : List Int} {vs : List V}, aF K CL Z (l.map D.int) vs -> vs = l.map V.int
 | [], _, r => by
   have r' : aF K CL Z [] _ := r
   cases r'; rfl
 | y :: l, _, r => by
   have r' : aF K CL Z (D.int y :: l.map D.int) _ := r
   cases r' with
   | cons r1 r2 => rw [r1.sc rfl, aF.ints r2]; rfl
theorem pF : ∀ l : List Int, (l.map V.int).all tD = true
 | [] => rfl
 | y :: l => by rw [aiB, aky, pF l]; rfl
noncomputable def Ao (d : L3.D) : Option (List L3.D) := match d with
 | .lst ds => some ds
 | .tup ds => some ds
 | _ => none
theorem aZ.Ao {K : PySem.W.Frag} {Z : Hp} {v : V} {ds : List L3.D} (r : aZ K CL Z d v) (h : L3.Ao d = some ds) : ∃ p us, v = .ref p /\ (qk K Z p us \/ qE K Z p us) /\ aF K CL Z ds us := by
 cases r with
 | tup hq rr => cases h; exact ⟨_, _, rfl, .inr hq, rr⟩
 | lst hq rr => cases h; exact ⟨_, _, rfl, .inl hq, rr⟩
 | non => cases h
 | bl => cases h
 | int => cases h
 | str => cases h
 | any => cases h
 | val => cases h
 | mY => cases h
 | dct => cases h
 | ins => cases h
theorem Uy {l : List Int} {i : Int} (h1 : cF X CL b e1 δ (.int i) δ1) (h2 : cF X CL b e2 δ1 d δ2) (hd : L3.Ao d = some (l.map .int)) (hm : behindInMarks .NotIn e2 = false) :
   r9 X CL b (.Compare e1 [.NotIn] [e2] pos) δ (!decide (i ∈ l)) δ2 /\ bR X CL b (.Compare e1 [.NotIn] [e2] pos) δ (.sh (.bl (!decide (i ∈ l)))) δ2 := by
 constructor
 . intro H Z σ ts vs Q S k
   refine yJ (oU lG cg cg hm) (h1 H Z σ ts vs _ S fun v1 H1 Z1 z1 k1 S1 r1 => h2 H1 Z1 σ ts vs _ S1 fun v2 H2 Z2 z2 k2 S2 r2 => ?_)
   obtain ⟨p, us, rfl, hq, rr⟩ := aZ.Ao r2 hd
   have e := rr.ints
   subst e
   refine ⟨_, _, rfl, hq, by rw [r1.sc rfl]; rfl, pF l, _, rfl, ?_⟩
   rw [aiC rfl, r1.sc rfl, DK]
   exact k H2 Z2 (z1.trans z2) (k1.trans k2) S2
 . intro H Z σ ts vs Q S k
   refine bY (rX lG cg cg hm) (h1 H Z σ ts vs _ S fun v1 H1 Z1 z1 k1 S1 r1 => h2 H1 Z1 σ ts vs _ S1 fun v2 H2 Z2 z2 k2 S2 r2 => ?_)
   obtain ⟨p, us, rfl, hq, rr⟩ := aZ.Ao r2 hd
   have e := rr.ints
   subst e
   refine ⟨_, _, rfl, hq, by rw [r1.sc rfl]; rfl, pF l, ?_⟩
   rw [aiC rfl, r1.sc rfl, DK]
   exact k _ H2 Z2 (z1.trans z2) (k1.trans k2) (S2.push (.bl _))
theorem DL {l : List Str} (h1 : cF X CL b e1 δ (.str x) δ1) (h2 : cF X CL b e2 δ1 d δ2) (hd : L3.Ao d = some (l.map .str)) (hm : behindInMarks .In e2 = false) :
   r9 X CL b (.Compare e1 [.In] [e2] pos) δ (decide (x ∈ l)) δ2 /\ bR X CL b (.Compare e1 [.In] [e2] pos) δ (.sh (.bl (decide (x ∈ l)))) δ2 := by
 constructor
 . intro H Z σ ts vs Q S k
   refine yJ (oU rY cg cg hm) (h1 H Z σ ts vs _ S fun v1 H1 Z1 z1 k1 S1 r1 => h2 H1 Z1 σ ts vs _ S1 fun v2 H2 Z2 z2 k2 S2 r2 => ?_)
   obtain ⟨p, us, rfl, hq, rr⟩ := aZ.Ao r2 hd
   have e := rr.strs
   subst e
   refine ⟨_, _, rfl, hq, by rw [r1.sc rfl]; rfl, fV l, _, rfl, ?_⟩
   rw [aiu aiy, r1.sc rfl, pD]
   exact k H2 Z2 (z1.trans z2) (k1.trans k2) S2
 . intro H Z σ ts vs Q S k
   refine bY (rX rY cg cg hm) (h1 H Z σ ts vs _ S fun v1 H1 Z1 z1 k1 S1 r1 => h2 H1 Z1 σ ts vs _ S1 fun v2 H2 Z2 z2 k2 S2 r2 => ?_)
   obtain ⟨p, us, rfl, hq, rr⟩ := aZ.Ao r2 hd
   have e := rr.strs
   subst e
   refine ⟨_, _, rfl, hq, by rw [r1.sc rfl]; rfl, fV l, ?_⟩
   rw [aiu aiy, r1.sc rfl, pD]
   exact k _ H2 Z2 (z1.trans z2) (k1.trans k2) (S2.push (.bl _))
theorem DM {l : List Str} (h1 : cF X CL b e1 δ (.str x) δ1) (h2 : cF X CL b e2 δ1 d δ2) (hd : L3.Ao d = some (l.map .str)) (hm : behindInMarks .NotIn e2 = false) :
   r9 X CL b (.Compare e1 [.NotIn] [e2] pos) δ (!decide (x ∈ l)) δ2 /\ bR X CL b (.Compare e1 [.NotIn] [e2] pos) δ (.sh (.bl (!decide (x ∈ l)))) δ2 := by
 constructor
 . intro H Z σ ts vs Q S k
   refine yJ (oU lG cg cg hm) (h1 H Z σ ts vs _ S fun v1 H1 Z1 z1 k1 S1 r1 => h2 H1 Z1 σ ts vs _ S1 fun v2 H2 Z2 z2 k2 S2 r2 => ?_)
   obtain ⟨p, us, rfl, hq, rr⟩ := aZ.Ao r2 hd
   have e := rr.strs
   subst e
   refine ⟨_, _, rfl, hq, by rw [r1.sc rfl]; rfl, fV l, _, rfl, ?_⟩
   rw [aiC rfl, r1.sc rfl, pD]
   exact k H2 Z2 (z1.trans z2) (k1.trans k2) S2
 . intro H Z σ ts vs Q S k
   refine bY (rX lG cg cg hm) (h1 H Z σ ts vs _ S fun v1 H1 Z1 z1 k1 S1 r1 => h2 H1 Z1 σ ts vs _ S1 fun v2 H2 Z2 z2 k2 S2 r2 => ?_)
   obtain ⟨p, us, rfl, hq, rr⟩ := aZ.Ao r2 hd
   have e := rr.strs
   subst e
   refine ⟨_, _, rfl, hq, by rw [r1.sc rfl]; rfl, fV l, ?_⟩
   rw [aiC rfl, r1.sc rfl, pD]
   exact k _ H2 Z2 (z1.trans z2) (k1.trans k2) (S2.push (.bl _))
end
section
variable {X : Cx} {CL : Str -> Addr} {b : Bx} {δ δ1 δ2 : List (Option T)} {e : Expr} {es : List Expr} {d : L3.D} {ds : List L3.D} {t : T} {pos : Pos}
theorem fO : HG X CL b [] δ (([] : List L3.D).map T.sh) δ := dN
theorem aX (h1 : bR X CL b e δ (.sh d) δ1) (h2 : HG X CL b es δ1 (ds.map T.sh) δ2) (hs : starEach (e :: es) X.env = (false, eval e X.env) :: starEach es X.env := by exact aY rfl) : HG X CL b (e :: es) δ ((d :: ds).map T.sh) δ2 := bT h1 h2 hs
theorem DN (h : HG X CL b es δ (ds.map T.sh) δ1) (hl : ds.length <= sizeLine) : bR X CL b (.List es pos) δ (.lst (ds.map T.sh)) δ1 := fS h (by simpa using hl)
theorem iO (l : List Str) : D.bK (l.map L3.D.str) = true := aL (fun _ => rfl) _
theorem zK (h : bR X CL b e δ (.lst (ds.map T.sh)) δ1) : bR X CL b e δ (.sh (.lst ds)) δ1 := by
 have := Dy h
 rwa [T.cu, iR] at this
theorem DP (h : bR X CL b e δ t δ1) (q : t.cu = d) : bR X CL b e δ (.sh d) δ1 := q ▸ Dy h
theorem tG {d2 : L3.D} (h : cF X CL b e δ d δ1) (q : d = d2) : cF X CL b e δ d2 δ1 := q ▸ h
theorem aI {t2 : T} (h : bR X CL b e δ t δ1) (q : t = t2) : bR X CL b e δ t2 δ1 := q ▸ h
end
structure DQ (Z H Z' H' : Hp) : Prop where
 z : aB Z Z'
 h : aB H H'
 zh : aB Z' H'
 new : ∀ a o, Z' a = some o -> Z a = none -> H a = none
 tp : ∀ a o, H' a = some o -> mh o = true -> Z' a = some o
theorem DQ.refl {Z H : Hp} (zh : aB Z H) (tp : ∀ a o, H a = some o -> mh o = true -> Z a = some o) : DQ Z H Z H := ⟨.refl _, .refl _, zh, fun a o q z => (by rw [q] at z; cases z), tp⟩
theorem DQ.tup {Z H : Hp} {p : Addr} {xs : List V} (zh : aB Z H) (tp : ∀ a o, H a = some o -> mh o = true -> Z a = some o) (hp : H p = none) : DQ Z H (upd Z p (.tup xs)) (upd H p (.tup xs)) := by
 have zp : Z p = none := zh.free hp
 refine ⟨aB.upd zp, aB.upd hp, fun a o q => ?_, fun a o q z => ?_, fun a o q i => ?_⟩
 . by_cases e : a = p
   . subst e; rw [aE] at q ⊢; exact q
   . rw [aj e] at q ⊢; exact zh a o q
 . by_cases e : a = p
   . subst e; exact hp
   . rw [aj e, z] at q; cases q
 . by_cases e : a = p
   . subst e; rw [aE] at q ⊢; exact q
   . rw [aj e] at q ⊢; exact tp a o q i
section
variable {K : PySem.W.Frag} {CL : Str -> Addr} {b : Bx} {H H' Z Z' : Hp} {δ : List (Option T)} {σ : L2.St} {ts : List T} {vs : List V}
theorem aO.grow (S : aO K CL b H Z δ σ ts vs) (g : DQ Z H Z' H') : aO K CL b H' Z' δ σ ts vs := by
 obtain ⟨fp, gp, e, r, nd, k⟩ := S.rep
 have old : ∀ a ∈ fp ++ gp, ∃ o, H a = some o := fun a ha => (aix.mp ha).elim (e.there a) (r.there a)
 have keep : ∀ a ∈ fp ++ gp, H' a = H a := fun a ha => by
   obtain ⟨o, q⟩ := old a ha
   rw [q]; exact g.h a o q
 refine ⟨⟨fp, gp, e.mono g.z (fun a ha => keep a (air _ ha)), r.mono g.z (fun a ha => keep a (ail _ ha)), nd, fun a ha => ⟨?_, (k a ha).2⟩⟩, S.bh.trans g.h, S.zz.trans g.z, g.zh, fun a o q z => ?_, g.tp, S.tab⟩
 . cases q : Z' a with
   | none => rfl
   | some o =>
     obtain ⟨u, hu⟩ := old a ha
     rw [g.new a o q (k a ha).1] at hu; cases hu
 . cases e2 : Z a with
   | none => exact S.bh.free (g.new a o q e2)
   | some u =>
     have := g.z a u e2
     rw [q] at this; cases this
     exact S.new a o e2 z
noncomputable def K9 (δ : List (Option T)) : List Nat -> List D -> List (Option T)
 | i :: is, d :: ds => K9 (δ.set i (some (.sh d))) is ds
 | _, _ => δ
noncomputable def Aq (σ : L2.St) : List Nat -> List V -> L2.St
 | i :: is, v :: vs => Aq (σ.set i (some v)) is vs
 | _, _ => σ
theorem aO.sets {ps : List D} {ys : List V} : ∀ {is : List Nat} {δ : List (Option T)} {σ : L2.St}, aO K CL b H Z δ σ ts vs -> aF K CL Z ps ys -> (∀ i ∈ is, i < δ.length) -> aO K CL b H Z (K9 δ is ps) (Aq σ is ys) ts vs := by
 intro is
 induction is generalizing ps ys with
 | nil =>
   intro δ σ S r _
   cases ps <;> cases ys <;> exact S
 | cons i is ih =>
   intro δ σ S r hl
   cases r with
   | nil => exact S
   | cons r rr => exact ih ((S.push r).set (hl i aiq)) rr (fun j hj => by rw [List.length_set]; exact hl j (ais _ hj))
end
section
variable {X : Cx} {CL : Str -> Addr} {b : Bx} {δ δ1 : List (Option T)} {ds : List D} {iter tg : Expr} {pos : Pos}
structure DR (X : Cx) (CL : Str -> Addr) (b : Bx) (δ1 : List (Option T)) (σ : L2.St) (ts : List T) (vs : List V) (Z H : Hp) (ds : List D) (J : It) (H1 : Hp) : Prop where
 ex : ∃ Z1, aB Z Z1 /\ aB H H1 /\ aO X.K CL b H1 Z1 δ1 σ ts vs /\ (∀ i H2, aB Z1 H2 -> i < ds.length -> J.go i H2) ∧
   (∀ i Z2 H2 x H', aB Z1 Z2 -> aB Z2 H2 -> (∀ a o, H2 a = some o -> mh o = true -> Z2 a = some o) -> i < ds.length -> J.Td i H2 x H' -> ∃ Z3 d, ds[i]? = some d /\ DQ Z2 H2 Z3 H' /\ aZ X.K CL Z3 d x) /\ (∀ H2, aB Z1 H2 -> J.stop ds.length H2)
noncomputable def W3 (X : Cx) (CL : Str -> Addr) (b : Bx) (tg e : Expr) (δ : List (Option T)) (ds : List D) (δ1 : List (Option T)) : Prop :=
 ∃ wi, PI X tg e wi /\ ∀ (H Z : Hp) (σ : L2.St) (ts : List T) (vs : List V) (R : It -> Hp -> Prop), aO X.K CL b H Z δ σ ts vs -> (∀ J H1, DR X CL b δ1 σ ts vs Z H ds J H1 -> R J H1) -> wi σ H R
theorem W4 (h : Te X CL b tg iter δ ds δ1) : W3 X CL b tg iter δ ds δ1 := by
 obtain ⟨wi, pi, hw⟩ := h
 refine ⟨wi, pi, fun H Z σ ts vs R S k => hw H Z σ ts vs R S fun J H1 zz => ?_⟩
 obtain ⟨Z1, us, z1, k1, S1, rr, go, yl, st⟩ := zz
 refine k J H1 ⟨Z1, z1, k1, S1, go, fun i Z2 H2 x H' s1 s2 tp hi hy => ?_, st⟩
 obtain ⟨e, hu⟩ := yl i H2 x H' (s1.trans s2) hi hy
 subst e
 obtain ⟨d, hd, rd⟩ := rr.Ue hu
 exact ⟨Z2, d, hd, .refl s2 tp, rd.mono s1⟩
noncomputable def Tgt (X : Cx) (CL : Str -> Addr) (tg : Expr) (is : List Nat) (parts : D -> Option (List D)) : Prop :=
 ∃ t : TG, PG X tg t /\ ∀ (Z H : Hp) (d : D) (ps : List D) (x : V) (σ : L2.St) (Q : L2.St -> Hp -> Prop), aB Z H -> aZ X.K CL Z d x -> parts d = some ps -> (∀ ys, aF X.K CL Z ps ys -> Q (Aq σ is ys) H) -> t x σ H Q
noncomputable def part1 (d : D) : Option (List D) := some [d]
noncomputable def part2 : D -> Option (List D)
 | .tup [a, c] => some [a, c]
 | _ => none
theorem MK {d : D} {ps : List D} (h : part2 d = some ps) : ∃ d1 d2, d = .tup [d1, d2] /\ ps = [d1, d2] := by
 unfold part2 at h
 split at h
 . cases h; exact ⟨_, _, rfl, rfl⟩
 . cases h
theorem IE {K : PySem.W.Frag} {i j : Nat} {Z H : Hp} {d : D} {ps : List D} {x : V} {σ : L2.St} {Q : L2.St -> Hp -> Prop} (zh : aB Z H) (r : aZ K CL Z d x) (e : part2 d = some ps) (k : ∀ ys, aF K CL Z ps ys -> Q (Aq σ [i, j] ys) H) : XI K 2 (FT (uR i) (FT (uR j) XH)) x σ H Q := by
 obtain ⟨d1, d2, rfl, rfl⟩ := MK e
 cases r with
 | tup hq rr =>
   cases rr with
   | cons r1 rr =>
     cases rr with
     | cons r2 rr =>
       cases rr
       exact ⟨_, _, rfl, aB.KY zh hq, rfl, _, _, rfl, _, _, rfl, rfl, k _ (.cons r1 (.cons r2 .nil))⟩
theorem Qf {i : Nat} {x : Str} {px : Pos} (hN : X.N.Nodup) (n : Ln X i x) : Tgt X CL (.Name x px) [i] part1 :=
 ⟨uR i, m5 hN n.hi n.loc n.hf, fun Z H d ps x σ Q zh r e k => by
   cases e
   exact k [x] (.cons r .nil)⟩
theorem DS {i j k : Nat} {x y : Str} {px py pt : Pos} (hN : X.N.Nodup) (hc : X.calm = true) (n : Ln X i x) (m : Ln X j y) (hs : (assignEach [.Name x px, .Name y py] X.env).map (·.2) = assign (.Name x px) X.env :: (assignEach [.Name y py] X.env).map (·.2) := by rfl) (HV : (assignEach [.Name y py] X.env).map (·.2) = assign (.Name y py) X.env :: (assignEach [] X.env).map (·.2) := by rfl)
   (hn : (assignEach [.Name x px, .Name y py] X.env).length = 2 := by rfl) (Mj : (assignEach [.Name x px, .Name y py] X.env).findIdx? (·.1) = none := by rfl) : Tgt X CL (.Tuple [.Name x px, .Name y py] k pt) [i, j] part2 :=
 ⟨XI X.K 2 (FT (uR i) (FT (uR j) XH)), XJ hc (FU (m5 hN n.hi n.loc n.hf) (FU (m5 hN m.hi m.loc m.hf) TN HV) hs) hn Mj, fun Z H d ps x σ Q zh r e k => IE zh r e k⟩
theorem Uz {D : eo} {fC : List Stmt} (is : List Nat) (parts : L3.D -> Option (List L3.D)) (P : Nat -> List (Option T) -> Prop) (h : W3 X CL b tg iter δ ds δ1) (ht : Tgt X CL tg is parts) (h0 : P 0 δ1) (hl : ∀ j δ, P j δ -> ∀ i ∈ is, i < δ.length)
   (hs : ∀ j d δ, ds[j]? = some d -> P j δ -> ∃ ps, parts d = some ps /\ e9 X CL b fC (K9 δ is ps) { nx := P (j + 1), rt := D.rt, bk := D.nx, ct := P (j + 1) }) (hd : ∀ δ, P ds.length δ -> D.nx δ)
   (hp : PassesOwn (model X.prog X.w) X.A X.env X.xe) (hc : X.calm = true) (hq : ∀ x, foldedSetIterable iter X.env x = pure x := by intro _; rfl) :
   MD X CL b (.For tg iter fC [] pos) δ D := fun H Z σ ts vs E S M => by
 obtain ⟨wi, pi, hw⟩ := h
 obtain ⟨t, pg, ht⟩ := ht
 refine nM (Dg hp hc pi pg MC hq) (hw H Z σ ts vs _ S fun J H1 zz => ?_)
 obtain ⟨Z1, z1, k1, S1, go, yl, st⟩ := zz
 refine ⟨fun j m σ H2 => m = ds.length - j /\ j <= ds.length /\ ∃ Z2 δ2, aB Z1 Z2 /\ aO X.K CL b H2 Z2 δ2 σ ts vs /\ P j δ2, ⟨_, rfl, ai5 _, Z1, δ1, .refl _, S1, h0⟩, ?_⟩
 rintro j m σ H2 ⟨rfl, hj, Z2, δ2, s, S2, p2⟩
 by_cases oS : j < ds.length
 . refine .inr ⟨go j H2 (s.trans S2.zh) oS, fun σ' H' => ∃ Z2 δ2, aB Z1 Z2 /\ aO X.K CL b H' Z2 δ2 σ' ts vs /\ P (j + 1) δ2, fun σ' H' h => ⟨ds.length - (j + 1), by omega, rfl, oS, h⟩, fun y H' hy => ?_⟩
   obtain ⟨Z3, d, OY, gr, rd⟩ := yl j Z2 H2 y H' s S2.zh S2.tp oS hy
   obtain ⟨ps, hps, hb⟩ := hs j d δ2 OY p2
   have S3 := S2.grow gr
   refine ht Z3 H' d ps y σ _ S3.zh rd hps fun ys rys => ?_
   have S4 := S3.sets (is := is) rys (hl j δ2 p2)
   have s3 := s.trans gr.z
   exact hb _ Z3 _ ts vs _ S4 ⟨fun δ' σ' H' Z' s' S' k => ⟨Z', δ', s3.trans s', S', k⟩, fun t v H' Z' δ' σ' s' S' k => M.rt t v H' Z' δ' σ' (z1.trans (s3.trans s')) S' k, fun δ' σ' H' Z' s' S' k => M.nx δ' σ' H' Z' (z1.trans (s3.trans s')) S' k, fun δ' σ' H' Z' s' S' k => ⟨Z', δ', s3.trans s', S', k⟩⟩
 . have e : j = ds.length := by omega
   subst e
   exact .inl ⟨st H2 (s.trans S2.zh), M.nx δ2 σ H2 Z2 (z1.trans s) S2 (hd δ2 p2)⟩
theorem IG {D : eo} {body fC : List Stmt} {is : List Nat} {parts : L3.D -> Option (List L3.D)} (g : Gx X) (ht : Tgt X CL tg is parts) (P : Nat -> List (Option T) -> Prop) (h : W3 X CL b tg iter δ ds δ1) (h0 : P 0 δ1) (hl : ∀ j δ, P j δ -> ∀ i ∈ is, i < δ.length)
   (hs : ∀ j d δ, ds[j]? = some d -> P j δ -> ∃ ps, parts d = some ps /\ e9 X CL b body (K9 δ is ps) { nx := P (j + 1), rt := D.rt, bk := fun δ2 => e9 X CL b fC δ2 D, ct := P (j + 1) }) (hd : ∀ δ, P ds.length δ -> e9 X CL b fC δ D) (hq : ∀ x, foldedSetIterable iter X.env x = pure x := by intro _; rfl) :
   e9 X CL b (.For tg iter body [] pos :: fC) δ D :=
 bO (Uz (D := { D with nx := fun δ1 => e9 X CL b fC δ1 D }) is parts P h ht h0 hl hs hd g.xe g.calm hq)
end
structure qN (X : Cx) (scope : Scope) (xs : List Str) (Nc : List Str) (ix : List Nat) : Prop where
 kind : scope.kind = .function
 wZ : ∀ y ∈ scope.names, y.2 ≠ .cell
 nd : Nc.Nodup
 names : ∀ y ∈ scope.names, y.2 = .local -> scope.names.lookup y.1 = some .local
 own : ∀ x ∈ xs, scope.names.lookup x = some .local
 frees : ∀ y ∈ scope.names, y.2 = .free -> scope.names.lookup y.1 = some .free /\ (X.env.kindOf y.1 = some .cell \/ X.env.kindOf y.1 = some .free)
 hd : Nc = xs ++ ix.filterMap (X.N[·]?)
 W2 : ∀ i ∈ ix, ∃ y, X.N[i]? = some y /\ scope.names.lookup y = some .free
noncomputable def ML (σ : L2.St) (ix : List Nat) (os : List (Option V)) : L2.St := os ++ ix.map fun i => (σ[i]?).getD none
section
variable {X : Cx} {scope : Scope} {xs : List Str} {Nc : List Str} {ix : List Nat} {pins : List (Addr × Obj)} {σ : L2.St} {H : Hp} {s : Shared}
theorem Gn {fp : List Addr} (sc : qN X scope xs Nc ix) (I : Inv X pins σ H s) (ql : ∀ b ∈ fp, sU X pins H b /\ b < s.heap.objs.size) {h' : Heap} {m : Str -> Option Value} {tk : Nat}
   (hn : h'.Ns s.heap.objs.size m) (hk : ∀ b o, s.heap.get? b = some o -> h'.get? b = some o) :
   Inv (bP X scope Nc s.heap.objs.size s H fp) [] (ML σ ix (List.replicate xs.length none)) H { s with heap := h', toks := tk } := by
 have frees : ∀ y ∈ scope.names, y.2 = .free -> ∃ c, X.env.cells.lookup y.1 = some c := fun y hy e => I.ok.has y.1 (sc.frees y hy e).2
 have sub : ∀ {y : Str} {c : Addr}, (gC X.env scope.names []).lookup y = some c -> X.env.cells.lookup y = some c := fun {y c} e => mz frees (fun _ _ z => by cases z) e
 have hlen : (ML σ ix (List.replicate xs.length none)).length = Nc.length := by
   have all : ∀ l : List Nat, (∀ i ∈ l, ∃ y, X.N[i]? = some y /\ scope.names.lookup y = some .free) -> (l.filterMap (X.N[·]?)).length = l.length := by
     intro l
     induction l with
     | nil => intro _; rfl
     | cons i r ih =>
       intro h
       obtain ⟨y, e, _⟩ := h i aiq
       rw [aju, e]
       show _ + 1 = _ + 1
       rw [ih fun j hj => h j (ais _ hj)]
   unfold ML
   rw [sc.hd, aiU, aiU, aio, ajf, all ix sc.W2]
 have C0 : s.heap.get? s.heap.objs.size = none := Heap.get?_none_of_le (ait _)
 refine ⟨⟨I.ok.mod, sc.kind, I.ok.glob, I.ok.blt, ait _, fun y z c h1 h2 => I.ok.inj y z c (sub h1) (sub h2), fun y hy => ?_, fun y c hf _ => (by cases (show false = true from hf)), I.ok.hd, I.ok.frames, .inl rfl, fun b hb => ⟨aiX (ql b hb).2, fun y c e => (ql b hb).1.2.2.2.2.1 y c (sub e)⟩, I.bs, aje I.ok.Ox I.sz, fun b o e hb => ?_, fun b hb hf => ?_, I.stack, I.De⟩,
   rfl, I.bare, Un.kept hk, ⟨m, hn, fun i y v h1 h2 h3 => ?_⟩, fun y c e => ?_, I.dw.fresh (ait _), fun y c e => I.oi y c (sub e), fun p hp => absurd (show p ∈ ([] : List (Addr × Obj)) from hp) (by simp), I.dw.kept hk, hlen⟩
 . 
   have Yk : (relabel scope X.env).names.lookup y = some .cell \/ (relabel scope X.env).names.lookup y = some .free := hy
   cases e : scope.names.lookup y with
   | none => 
     have := iI (env := X.env) e
     rcases Yk with q | q <;> (rw [show (relabel scope X.env).names.lookup y = none from this] at q; cases q)
   | some k =>
     have q := dP (env := X.env) e
     have hk : k = .free := by
       by_cases hk : k = .free
       . exact hk
       . have hb : (k == NameKind.free) = false := by simpa using hk
         rw [aiu (by rw [hb]; simp)] at q
         have nc : k ≠ .cell := fun z => by
           subst z
           exact sc.wZ _ (ajo e) rfl
         rcases Yk with z | z
         . rw [show (relabel scope X.env).names.lookup y = some k from q] at z
           exact absurd (aiN z) nc
         . rw [show (relabel scope X.env).names.lookup y = some k from q] at z
           exact absurd (aiN z) hk
     subst hk
     exact mC e
 . 
   rcases (ql b hb).1.2.2.2.1 with z | z
   . exact I.ok.Mg b o e z
   . exact absurd (ai0 (aiF e) (aje I.ok.Ox z)) (ajY _)
 . rcases aiw.mp (I.wQ b hf) with z | z
   . exact (ql b hb).1.2.1 z
   . exact (ql b hb).1.2.2.1 z
 . 
   unfold ML at h2
   by_cases hi : i < xs.length
   . rw [List.getElem?_append_left (by rw [ajf]; exact hi), List.getElem?_replicate, aiC hi] at h2
     cases h2
   . obtain ⟨n, rfl⟩ : ∃ n, i = xs.length + n := ⟨i - xs.length, by omega⟩
     rw [akh (by rw [ajf]; omega), ajf, Nat.add_sub_cancel_left, aiE] at h2
     cases ei : ix[n]? with
     | none => rw [ei] at h2; cases h2
     | some j =>
       rw [ei] at h2
       have Um : (σ[j]?).getD none = some v := aiN h2
       have hj : σ[j]? = some (some v) := by
         cases q : σ[j]? with
         | none => rw [q] at Um; cases Um
         | some o => rw [q] at Um; exact congrArg some Um
       obtain ⟨y', hy1, YC⟩ := sc.W2 j (aiM ei)
       have hNc : Nc[xs.length + n]? = some y' := by
         have all : ∀ (l : List Nat) (i : Nat), (∀ j ∈ l, ∃ y, X.N[j]? = some y /\ scope.names.lookup y = some .free) -> l[i]? = some j -> (l.filterMap (X.N[·]?))[i]? = some y' := by
           intro l
           induction l with
           | nil => intro i _ h; simp at h
           | cons a r ih =>
             intro i h hi
             obtain ⟨ya, ea, _⟩ := h a aiq
             rw [aju, ea]
             cases i with
             | zero =>
               simp at hi
               subst hi
               rw [hy1] at ea
               cases ea
               rfl
             | succ i => exact ih i (fun j hj => h j (List.mem_cons_of_mem _ hj)) (by simpa using hi)
         rw [sc.hd, akh (by omega), Nat.add_sub_cancel_left]
         exact all ix n sc.W2 ei
       have ey : y' = y := by
         have h1' : Nc[xs.length + n]? = some y := h1
         rw [hNc] at h1'
         exact aiN h1'
       subst ey
       have zZ := (sc.frees (y', .free) (ajo YC) rfl).2
       have YD : Xr X.env.scope y' := zZ.elim (fun z => .inr (.inl z)) (fun z => .inr (.inr z))
       obtain ⟨m0, hn0, hl0⟩ := I.loc
       obtain ⟨u, ru, lk⟩ := hl0 j y' v hy1 hj YD
       refine ⟨u, ru, ?_⟩
       rcases lk with ⟨kk, _⟩ | ⟨_, c, hc, yg⟩
       . rcases zZ with z | z
         . rw [kk] at z; cases z
         . rw [kk] at z; cases z
       . obtain ⟨c', WM⟩ := mC (env := X.env) (cs := []) YC
         have : c' = c := by
           have := sub WM
           rw [hc] at this
           exact (aiN this).symm
         subst this
         obtain ⟨o, ho, hd⟩ := yg
         refine .inr ⟨?_, c', WM, o, hk _ _ ho, hd⟩
         have q := dP (env := X.env) YC
         show (relabel scope X.env).names.lookup y' = some .cell \/ (relabel scope X.env).names.lookup y' = some .free
         rw [show (relabel scope X.env).names.lookup y' = _ from q]
         split
         . exact .inl rfl
         . exact .inr rfl
 . obtain ⟨v, o, ho, hd⟩ := I.cell y c (sub e)
   exact ⟨v, o, hk _ _ ho, hd⟩
noncomputable def Qg (X : Cx) (tg elt : Expr) (ifs : List Expr) (n : Nat) (σ : L2.St) (ix : List Nat) (D : Addr) (N : Hp -> Prop) (xv : V) (os : List (Option V)) (H3 : Hp) : Prop :=
 ∃ t : TG, PG X tg t /\ t xv (ML σ ix os) H3 fun σ8 H4 => ∃ os', os'.length = n /\ σ8 = ML σ ix os' /\ Qa X ifs σ8 H4 fun ok H5 =>
   if ok = true then F8 X elt σ8 H5 fun y H6 => ∃ acc, H6 D = some (.lst acc) /\ acc.length < sizeLine /\ N (upd H6 D (.lst (acc ++ [y]))) else N H5
theorem II {elt iter tg : Expr} {pos : Pos} {ifs : List Expr} {J : It} {fp : List Addr} {it : Addr} {tn : Nat -> Heap -> Prop} {G : Addr -> Hp -> Prop} {RR : Value -> Addr -> Result -> Shared -> Prop} {E : Value -> Shared -> Prop}
   (sc : qN X scope xs Nc ix) (hc : X.calm = true) (I : Inv X pins σ H s) (Tn : Turn X.prog X.w X.K tg J fp it tn) (st : tn 0 s.heap) (hf : ∀ b ∈ fp, sU X pins H b)
   (loop : ∀ D, H D = none -> ∃ W : Nat -> Nat -> Hp -> Prop, (∃ m, W 0 m (upd H D (.lst []))) /\ ∀ i m H2, W i m H2 -> (J.stop i H2 /\ G D H2) ∨
     (J.go i H2 /\ ∃ N : Hp -> Prop, (∀ H', N H' -> ∃ m', m' < m /\ W (i + 1) m' H') /\ ∀ xv H3, J.Td i H2 xv H3 -> ∀ C s0 H0 f0 os, os.length = xs.length -> Qg (bP X scope Nc C s0 H0 f0) tg elt ifs xs.length σ ix D N xv os H3))
   (hRR : ∀ D C s' H', (∃ m, s'.heap.Ns C m) -> (∃ o, s'.heap.get? C = some o /\ ∀ v, o.data ≠ .cell v) -> H' C = none -> (C ≠ X.env.locals /\ C ∉ X.fs /\ X.s₀.heap.objs.size <= C /\ (∀ y c, X.env.cells.lookup y = some c -> c ≠ C) /\ ∀ q ∈ X.pn ++ pins, q.1 ≠ C) -> (∀ h', Heap.SameBut C s'.heap h' -> Inv X pins σ H' { s' with heap := h' }) -> G D H' -> RR (.ref D) C (.ok .next) s') :
   wpAny (model X.prog X.w) X.A (newList []) (fun acc s₃ => wpAny (model X.prog X.w) X.A (newFunctionEnv scope X.env.globals (gC X.env scope.names []) [] X.env.qual none .none (some X.env)) (fun Ga s₄ =>
     codeAny (model X.prog X.w) X.A (.compStart (.ListComp elt [⟨tg, iter, ifs, 0⟩] scope pos) 0 (.ref it) acc { Ga with scope := relabel scope X.env }) (RR acc Ga.locals) s₄) E s₃) E s := by
 refine ajp ?_
 have I3 : Inv X pins σ (upd H s.heap.objs.size (.lst [])) { s with heap := s.heap.push { cls := .type "list", dict := none, data := .seq ([] : List Value).toArray } } :=
   I.laid (t' := s.toks) (fun b u e => aiv _ e) (ait _) ⟨by show 0 <= sizeLine; exact ai5 _, [], 0, .nil, aiR _ rfl⟩
 have hD : H s.heap.objs.size = none := I.dw.fresh (ait _)
 obtain ⟨W, ⟨m0, w0⟩, turn⟩ := loop _ hD
 have Ae : ∀ b ∈ fp, sU X pins (upd H s.heap.objs.size (.lst [])) b /\ b < (s.heap.push { cls := .type "list", dict := none, data := .seq ([] : List Value).toArray }).objs.size := fun b hb => by
   obtain ⟨f0, f1⟩ := hf b hb
   obtain ⟨o, ho, _⟩ := Tn.obj 0 _ st b hb
   have oS := aiF ho
   refine ⟨⟨by rw [aj (aiX oS)]; exact f0, f1⟩, ?_⟩
   rw [akr]; exact akx oS
 have WQ : tn 0 (s.heap.push { cls := .type "list", dict := none, data := .seq ([] : List Value).toArray }) := Tn.keep 0 _ _ st fun b _ o e => aiv _ e
 generalize hs3 : ({ s with heap := s.heap.push { cls := .type "list", dict := none, data := .seq ([] : List Value).toArray } } : Shared) = s3 at I3 ⊢
 have Uo : s3.heap = s.heap.push { cls := .type "list", dict := none, data := .seq ([] : List Value).toArray } := by rw [← hs3]
 rw [← Uo] at Ae WQ
 refine wpAny_newFunctionEnv sc.wZ (by intro y hy; simp at hy) (fun h₁ Iu Iv => ?_) sc.kind
 have old : ∀ b o, s3.heap.get? b = some o -> h₁.get? b = some o := fun b o e => (Iv.2 b (aiX (aiF e))).trans (aiv _ e)
 have J0 := Gn (tk := s3.toks + ([] : List (Str × Value)).length) sc I3 Ae Iu old
 have st4 : tn 0 h₁ := Tn.keep 0 _ _ WQ fun b _ o e => old b o e
 have Gb : ∀ s4 : Shared, s4 = { s3 with heap := h₁, toks := s3.toks + ([] : List (Str × Value)).length } -> codeAny (model X.prog X.w) X.A (.compLoop (.ListComp elt [⟨tg, iter, ifs, 0⟩] scope pos) 0 (.ref it) (.ref s.heap.objs.size) (compEnvC scope (gC X.env scope.names []) s3.heap.objs.size X.env)) (RR (.ref s.heap.objs.size) s3.heap.objs.size) s4 := by
   rintro s4 rfl
   have stat : ∀ {H' : Hp}, (∀ b ∈ fp, H' b = none) -> ∀ b ∈ fp, sU (bP X scope Nc s3.heap.objs.size s3 (upd H s.heap.objs.size (.lst [])) fp) [] H' b := fun {H'} hn b hb => by
     obtain ⟨⟨f0, f1, f2, f3, f4, f5⟩, oS⟩ := Ae b hb
     refine ⟨hn b hb, aiX oS, fun z => ?_, .inl hb, fun y c e => f4 y c (mz (fun y hy e => I.ok.has y.1 (sc.frees y hy e).2) (fun _ _ z => by cases z) e), fun p hp => absurd (show p ∈ ([] : List (Addr × Obj)) from hp) (by simp)⟩
     rcases aiw.mp (I3.wQ b z) with q | q
     . exact f1 q
     . exact f2 q
   refine uZ (fun n s' => ∃ i o H', o.length = xs.length /\ Inv (bP X scope Nc s3.heap.objs.size s3 (upd H s.heap.objs.size (.lst [])) fp) [] (ML σ ix o) H' s' /\ tn i s'.heap /\ (∀ b ∈ fp, H' b = none) /\ W i n H') ?_ m0 ⟨0, _, _, ajf, J0, st4, fun b hb => (Ae b hb).1.1, w0⟩
   rintro n s5 ⟨i, o5, H5, ol5, I5, TV, XS, w5⟩
   rcases turn i n H5 w5 with ⟨stop, g⟩ | ⟨go, N, hN, step⟩
   . refine cN (Tn.done (bP X scope Nc s3.heap.objs.size s3 (upd H s.heap.objs.size (.lst [])) fp) rfl rfl rfl hc i [] s5 _ H5 _ I5 (stat XS) TV stop) fun r s6 zz => ?_
     obtain ⟨hr, I6⟩ := zz
     subst hr
     obtain ⟨m6, hn6, _⟩ := I6.loc
     obtain ⟨oc, esc, epc, hoc, hdc, _⟩ := id hn6
     have Up := I3.zV (ait s3.heap.objs.size) (H' := fun _ => none) rfl
     refine hRR _ _ s6 H5 ⟨m6, hn6⟩ ⟨oc, hoc, fun v z => by rw [hdc] at z; cases z⟩ I6.free ⟨Up.2.1, Up.2.2.1, ?_, Up.2.2.2.2.1, Up.2.2.2.2.2⟩ (fun h' K4 => CN I3 (fun b hb => (Ae b hb).1) I6 K4) g
     exact I3.sz
   . refine cN (Tn.item (bP X scope Nc s3.heap.objs.size s3 (upd H s.heap.objs.size (.lst [])) fp) rfl rfl rfl hc i [] s5 _ H5 _ I5 (stat XS) TV go) fun r s6 zz => ?_
     obtain ⟨u, hr, h6⟩ := zz
     subst hr
     refine cN h6 fun _ s7 zz => ?_
     obtain ⟨xv, H7, I7, r7, y7, YF, fr7⟩ := zz
     have I7' := I7.pinned (stat fr7) (Tn.obj _ _ YF)
     obtain ⟨t, hg, ht⟩ := step xv _ y7 s3.heap.objs.size s3 (upd H s.heap.objs.size (.lst [])) fp o5 ol5
     refine cN (hg _ s7 _ H7 xv u _ I7' r7 ht) fun _ s8 zz => ?_
     obtain ⟨σ8, H8, I8, os8, ol8, e8, h8⟩ := zz
     subst e8
     refine cN (F9 I8 h8 rfl) fun ok s9 zz => ?_
     obtain ⟨H9, I9, q9⟩ := zz
     have again : ∀ {Ha : Hp} {sa : Shared}, Inv (bP X scope Nc s3.heap.objs.size s3 (upd H s.heap.objs.size (.lst [])) fp) ([] ++ wU fp s7.heap) (ML σ ix os8) Ha sa -> N Ha -> ∃ m, m < n /\ ∃ i o H', o.length = xs.length /\ Inv (bP X scope Nc s3.heap.objs.size s3 (upd H s.heap.objs.size (.lst [])) fp) [] (ML σ ix o) H' sa /\ tn i sa.heap /\ (∀ b ∈ fp, H' b = none) /\ W i m H' := fun {Ha sa} Ia na => by
       obtain ⟨m', hm, wa⟩ := hN Ha na
       refine ⟨m', hm, i + 1, os8, Ha, ol8, Ia.qG, Tn.keep _ _ _ YF fun b hb o e => (Ia.pin (b, o) (ail _ (ail _ (j3 hb e)))).1, fun b hb => ?_, wa⟩
       obtain ⟨o, e, d⟩ := Tn.obj _ _ YF b hb
       exact (Ia.pin (b, o) (ail _ (ail _ (j3 hb e)))).2.1
     cases ok with
     | false =>
       rw [aiu aiy] at q9 ⊢
       exact again I9 q9
     | true =>
       rw [aiC rfl] at q9 ⊢
       refine cN (q9 _ s9 I9) fun v sa zz => ?_
       obtain ⟨y, Ha, Ia, ra, acc, MG, hlen, na⟩ := zz
       refine cN (rZ (X := bP X scope Nc s3.heap.objs.size s3 (upd H s.heap.objs.size (.lst [])) fp) _ sa _ Ha (.ref s.heap.objs.size) [y] (.ref s.heap.objs.size) [v] (fun _ Hb => Hb = upd Ha s.heap.objs.size (.lst (acc ++ [y]))) Ia rfl (.cons ra .nil) ⟨_, acc, y, rfl, rfl, MG, hlen, rfl⟩) fun _ sb zz => ?_
       obtain ⟨_, Hb, Ib, _, eb⟩ := zz
       subst eb
       exact again Ib na
 exact codeAny_compStart_list (Gb _ rfl) (Tn.self _ 0 _ _ _ st4 (Gb _ rfl))
end
noncomputable def MN (ps : List D) : List (Option T) := ps.map fun p => some (.sh p)
theorem CP : ∀ {ys : List V} {os : List (Option V)} {pre r : L2.St}, os.length = ys.length -> Aq (pre ++ (os ++ r)) (List.range' pre.length ys.length) ys = pre ++ (ys.map some ++ r)
 | [], os, pre, r, h => by
   have : os = [] := List.length_eq_zero_iff.mp h
   subst this
   rfl
 | y :: ys, os, pre, r, h => by
   match os, h with
   | o :: os, h =>
     show Aq ((pre ++ (o :: (os ++ r))).set pre.length (some y)) (List.range' (pre.length + 1) ys.length) ys = _
     rw [List.set_append_right _ _ (ait _), Nat.sub_self, List.set_cons_zero]
     have := CP (ys := ys) (os := os) (pre := pre ++ [some y]) (r := r) (by simpa using h)
     simp only [aiU, ai7, List.length_nil, ain, List.singleton_append] at this
     rw [this]
     simp
theorem UA {K : PySem.W.Frag} {CL : Str -> Addr} {H Z : Hp} : ∀ {ps : List D} {ys : List V} {δc : List (Option T)} {σc : L2.St}, aF K CL Z ps ys -> cG K CL H Z δc σc [] -> cG K CL H Z (MN ps ++ δc) (ys.map some ++ σc) [] := fun {ps ys δc σc} h e =>
 aF.ind (P := fun ps ys => cG K CL H Z (MN ps ++ δc) (ys.map some ++ σc) []) e (fun r _ i => .cons (fp := []) (gp := []) (.sh r) i) h
section
variable {X : Cx} {CL : Str -> Addr} {b : Bx} {H Z W1 : Hp} {δ δc : List (Option T)} {σ : L2.St} {ts : List T} {vs : List V} {ds : List D} {scope : Scope} {Nc : List Str} {n : Nat} {ix : List Nat} {elt tg : Expr} {ifs : List Expr} {p : D -> Bool} {g : D -> T} {J : It} {parts : D -> Option (List D)}
noncomputable def w6 (X : Cx) (CL : Str -> Addr) (scope : Scope) (Nc : List Str) (n : Nat) (tg : Expr) (parts : D -> Option (List D)) (ifs : List Expr) (elt : Expr) (δc : List (Option T)) (ds : List D) (p : D -> Bool) (g : D -> T) : Prop :=
 ∀ C s0 H0 f0 b', Tgt (bP X scope Nc C s0 H0 f0) CL tg (List.range' 0 n) parts /\ ∀ d, d ∈ ds -> ∃ ps, parts d = some ps /\ ps.length = n /\ TIv (bP X scope Nc C s0 H0 f0) CL b' ifs (MN ps ++ δc) (p d) /\ (p d = true -> bR (bP X scope Nc C s0 H0 f0) CL b' elt (MN ps ++ δc) (g d) (MN ps ++ δc))
structure GW (K : PySem.W.Frag) (CL : Str -> Addr) (H W1 : Hp) (D : Addr) (l : List T) (k : Nat) (H2 Z2 : Hp) (HJ : List V) (fp : List Addr) : Prop where
 a1 : aB H H2
 a2 : aB W1 Z2
 a3 : aB Z2 H2
 a4 : Z2 D = none
 a5 : ∀ a o, Z2 a = some o -> W1 a = none -> H a = none
 a6 : ∀ a o, H2 a = some o -> mh o = true -> Z2 a = some o
 a7 : H2 D = some (.lst HJ)
 a8 : aG K CL H2 Z2 l HJ fp
 a9 : fp.Nodup
 b1 : D ∉ fp
 b2 : ∀ a ∈ fp, Z2 a = none /\ H a = none
 b3 : HJ.length <= k
theorem As (S : aO X.K CL b H Z δ σ ts vs) (zw : aB Z W1) (wh : aB W1 H) (tp : ∀ a o, H a = some o -> mh o = true -> W1 a = some o)
   (cap : ∀ H', cG X.K CL H' W1 δc (ix.map fun i => (σ[i]?).getD none) []) (inner : w6 X CL scope Nc n tg parts ifs elt δc ds p g)
   (hgo : ∀ i H2, aB W1 H2 -> i < ds.length -> J.go i H2)
   (hy : ∀ i Z2 H2 x H', aB W1 Z2 -> aB Z2 H2 -> (∀ a o, H2 a = some o -> mh o = true -> Z2 a = some o) -> i < ds.length -> J.Td i H2 x H' -> ∃ Z3 d, ds[i]? = some d /\ DQ Z2 H2 Z3 H' /\ aZ X.K CL Z3 d x)
   (Mj : ∀ H2, aB W1 H2 -> J.stop ds.length H2) (hlen : ds.length <= sizeLine) (c : W1 = Z \/ ∀ d ∈ ds, (g d).clean = true) :
   ∀ D, H D = none -> ∃ W : Nat -> Nat -> Hp -> Prop, (∃ m, W 0 m (upd H D (.lst []))) /\ ∀ i m H2, W i m H2 -> (J.stop i H2 /\ ∃ Z2, aB Z Z2 /\ aB H H2 /\ aO X.K CL b H2 Z2 δ σ (.lst ((ds.filter p).map g) :: ts) (.ref D :: vs)) ∨
     (J.go i H2 /\ ∃ N : Hp -> Prop, (∀ H', N H' -> ∃ m', m' < m /\ W (i + 1) m' H') /\ ∀ xv H3, J.Td i H2 xv H3 -> ∀ C s0 H0 f0 os, os.length = n -> Qg (bP X scope Nc C s0 H0 f0) tg elt ifs n σ ix D N xv os H3) := by
 intro D hD
 have wD : W1 D = none := wh.free hD
 refine ⟨fun i m H2 => m = ds.length - i /\ i <= ds.length /\ ∃ Z2 HJ fp, GW X.K CL H W1 D (((ds.take i).filter p).map g) i H2 Z2 HJ fp, ⟨ds.length, rfl, ai5 _, W1, [], [], aB.upd hD, .refl _, wh.trans (aB.upd hD), wD, fun a o q z => ?_, fun a o q i => ?_, aE, .nil, ajI, by simp, by simp, by simp⟩, ?_⟩
 . rw [q] at z; cases z
 . by_cases ha : a = D
   . subst ha; rw [aE] at q; cases q; cases i
   . rw [aj ha] at q; exact tp a o q i
 . rintro i m H2 ⟨rfl, hi, Z2, HJ, fp, hh, wz, zh, zD, nw, tp2, hD2, ra, nd, nD, own, hav⟩
   by_cases oS : i < ds.length
   . refine .inr ⟨hgo i H2 (wz.trans zh) oS, fun H' => ∃ Z2 HJ fp, GW X.K CL H W1 D (((ds.take (i + 1)).filter p).map g) (i + 1) H' Z2 HJ fp, fun H' h => ⟨ds.length - (i + 1), by omega, rfl, oS, h⟩, fun xv H3 y C s0 H0 f0 os X9 => ?_⟩
     obtain ⟨Z3, d, hd, gr, rd⟩ := hy i Z2 H2 xv H3 wz zh tp2 oS y
     have YV : ∀ a, Z2 a = none -> (∃ o, H2 a = some o) -> Z3 a = none := fun a e ⟨o, e2⟩ => by
       cases q : Z3 a with
       | none => rfl
       | some u => rw [gr.new a u q e] at e2; cases e2
     have nw3 : ∀ a o, Z3 a = some o -> W1 a = none -> H a = none := fun a o q z => by
       cases e : Z2 a with
       | none => exact hh.free (gr.new a o q e)
       | some u =>
         have := gr.z a u e
         rw [q] at this; cases this
         exact nw a o e z
     have YW : aG X.K CL H3 Z3 (((ds.take i).filter p).map g) HJ fp := ra.mono gr.z fun a ha => by
       obtain ⟨o, e⟩ := ra.there a ha
       rw [e]; exact gr.h a o e
     have ow3 : ∀ a ∈ fp, Z3 a = none /\ H a = none := fun a ha => ⟨YV a (own a ha).1 (ra.there a ha), (own a ha).2⟩
     have zD3 : Z3 D = none := YV D zD ⟨_, hD2⟩
     have W5 : H3 D = some (.lst HJ) := gr.h D _ hD2
     have Uo := hh.trans gr.h
     have wz3 := wz.trans gr.z
     have zh3 := gr.zh
     have tp3 := gr.tp
     clear own nw ra zD hD2 hh wz zh tp2 gr YV
     have ae5 : d ∈ ds := aiM hd
     have htk : ds.take (i + 1) = ds.take i ++ [d] := by rw [ajt, hd]; rfl
     obtain ⟨tgt, IJ⟩ := inner C s0 H0 f0 ⟨H3, Z3⟩
     obtain ⟨ps, hps, qH, it, ie⟩ := IJ d ae5
     obtain ⟨t, pg, ht⟩ := tgt
     refine ⟨t, pg, ht Z3 H3 d ps xv _ _ zh3 rd hps fun ys rys => ?_⟩
     have hyl : ys.length = n := by rw [← rys.length]; exact qH
     have es : Aq (ML σ ix os) (List.range' 0 n) ys = ML σ ix (ys.map some) := by
       have := CP (ys := ys) (os := os) (pre := []) (r := ix.map fun i => (σ[i]?).getD none) (by rw [X9, hyl])
       rw [hyl] at this
       exact this
     refine ⟨ys.map some, by rw [aio]; exact hyl, es, ?_⟩
     rw [es]
     have S0 : aO X.K CL ⟨H3, Z3⟩ H3 Z3 (MN ps ++ δc) (ML σ ix (ys.map some)) [] [] :=
       ⟨⟨[], [], UA rys ((cap H3).mono wz3 fun a ha => by cases ha), .nil, ajI, fun a ha => by cases ha⟩, .refl _, .refl _, zh3, fun a o q z => (by have z' : Z3 a = none := z; rw [show Z3 a = some o from q] at z'; cases z'), tp3, (S.P0.mono zw).mono wz3⟩
     refine it.sem S0 fun H4 Z4 z4 k4 S4 => ?_
     have ae7 : ∀ a ∈ fp, H4 a = H3 a := fun a ha => by
       obtain ⟨o, e⟩ := YW.there a ha
       rw [e]; exact k4 a o e
     have Qh : ∀ a, Z3 a = none -> (∃ o, H3 a = some o) -> Z4 a = none := fun a e ⟨o, e2⟩ => by
       cases q : Z4 a with
       | none => rfl
       | some u =>
         have := S4.new a u q e
         rw [show H3 a = none from this] at e2; cases e2
     cases hp : p d with
     | false =>
       refine Il ⟨Z4, HJ, fp, Uo.trans k4, wz3.trans z4, S4.zh, Qh D zD3 ⟨_, W5⟩, fun a o q z => ?_, S4.tp, k4 D _ W5, ?_, nd, nD, fun a ha => ⟨Qh a (ow3 a ha).1 (YW.there a ha), (ow3 a ha).2⟩, by omega⟩
       . cases e : Z3 a with
         | none => exact Uo.free (S4.new a o q e)
         | some u => 
           have := z4 a u e
           rw [q] at this; cases this
           exact nw3 a o e z
       . rw [htk, List.filter_append, List.filter_cons_of_neg (by simp [hp]), List.filter_nil, aiK]
         exact YW.mono z4 ae7
     | true =>
       refine Im ((ie hp) H4 Z4 (ML σ ix (ys.map some)) [] [] _ S4 fun yv H5 Z5 z5 k5 S5 => ⟨HJ, k5 D _ (k4 D _ W5), by omega, ?_⟩)
       obtain ⟨f1, g1, e1, r1, nd1, acp⟩ := S5.rep
       cases r1 with
       | @cons _ _ _ _ fy fn ry rn =>
         cases rn
         rw [aiK] at nd1 acp
         have ndy : fy.Nodup := (aiW.mp nd1).2.1
         have UB : ∀ a ∈ fy, Z5 a = none /\ H3 a = none := fun a ha => acp a (ail _ ha)
         have IK : ∀ a, Z3 a = none -> (∃ o, H3 a = some o) -> Z5 a = none := fun a e ⟨o, e2⟩ => by
           cases q : Z5 a with
           | none => rfl
           | some u =>
             have := S5.new a u q e
             rw [show H3 a = none from this] at e2; cases e2
         have yD : ∀ a ∈ fy, a ≠ D := fun a ha e => by
           subst e
           rw [(UB a ha).2] at W5; cases W5
         have h5D : H5 D = some (.lst HJ) := k5 D _ (k4 D _ W5)
         have sD : aB H (upd H5 D (.lst (HJ ++ [yv]))) := fun a o q => by
           rw [aj (bF q hD)]
           exact k5 a o (k4 a o (Uo a o q))
         refine ⟨Z5, HJ ++ [yv], fp ++ fy, sD, wz3.trans (z4.trans z5), fun a o q => ?_, IK D zD3 ⟨_, W5⟩, fun a o q z => ?_, fun a o q im => ?_, aE, ?_, ?_, ?_, fun a ha => ?_, ?_⟩
         . rw [aj (bF q (IK D zD3 ⟨_, W5⟩))]; exact S5.zh a o q
         . cases e : Z3 a with
           | none => exact Uo.free (S5.new a o q e)
           | some u =>
             have := z5 a u (z4 a u e)
             rw [q] at this; cases this
             exact nw3 a o e z
         . by_cases ha : a = D
           . subst ha; rw [aE] at q; cases q; cases im
           . rw [aj ha] at q; exact S5.tp a o q im
         . rw [htk, List.filter_append, List.filter_cons_of_pos hp, List.filter_nil, aiL]
           refine aG.app (YW.mono (z4.trans z5) fun a ha => ?_) (by
             have := aG.cons (fp := fy) (gp := []) (ry.mono (.refl _) fun a ha => aj (yD a ha)) (aG.nil (H := upd H5 D (.lst (HJ ++ [yv]))) (Z := Z5))
             rwa [aiK] at this)
           have : a ≠ D := fun e => nD (e ▸ ha)
           rw [aj this]
           obtain ⟨o, e⟩ := YW.there a ha
           rw [e]; exact k5 a o (k4 a o e)
         . refine aiW.mpr ⟨nd, ndy, fun a ha a' Yr e => ?_⟩
           subst e
           obtain ⟨o, e⟩ := YW.there a ha
           rw [(UB a Yr).2] at e; cases e
         . intro h
           rcases aix.mp h with h | h
           . exact nD h
           . exact yD D h rfl
         . rcases aix.mp ha with h | h
           . exact ⟨IK a (ow3 a h).1 (YW.there a h), (ow3 a h).2⟩
           . exact ⟨(UB a h).1, Uo.free (UB a h).2⟩
         . rw [aiU, List.length_singleton]; omega
   . have e : i = ds.length := by omega
     subst e
     refine .inl ⟨Mj H2 (wz.trans zh), ?_⟩
     rw [ajx] at ra
     obtain ⟨Z', z', S'⟩ := S.back (H' := H2) (W := W1) (W' := Z2) (t := .lst ((ds.filter p).map g)) (v := .ref D) (fp := D :: fp) hh zw wz zh nw tp2 (.lst hD2 ra) (ai3.mpr ⟨nD, nd⟩) (fun a ha => by
       rcases aiw.mp ha with h | h
       . subst h; exact ⟨zD, hD⟩
       . exact own a h) (c.imp id fun c => by
         rw [oq]
         exact Af fun d hd => c d (ajV.mp hd).1)
     exact ⟨Z', z', hh, S'⟩
end
section
variable {X : Cx} {CL : Str -> Addr} {b : Bx} {δ δ1 : List (Option T)} {scope : Scope} {xs : List Str} {Nc : List Str} {ix : List Nat} {elt iter tg : Expr} {ifs : List Expr} {pos : Pos} {ds : List D} {p : D -> Bool} {g : D -> T} {δc : List (Option T)} {parts : D -> Option (List D)}
theorem CQ {J : It} {fp : List Addr} {it : Addr} {tn : Nat -> Heap -> Prop} {pins : List (Addr × Obj)} {σ : L2.St} {H H1 Z : Hp} {s : Shared} {ts : List T} {vs : List V} {RR : Value -> Addr -> Result -> Shared -> Prop} {E : Value -> Shared -> Prop}
   (sc : qN X scope xs Nc ix) (hc : X.calm = true) (C : DR X CL b δ1 σ ts vs Z H ds J H1) (I : L2.Inv X pins σ H1 s) (Tn : Turn X.prog X.w X.K tg J fp it tn) (st : tn 0 s.heap) (hf : ∀ b ∈ fp, sU X pins H1 b)
   (hb : (δc = Ge δ1 ix /\ ∀ d ∈ ds, (g d).clean = true) \/ δc = Ag δ1 ix) (inner : w6 X CL scope Nc xs.length tg parts ifs elt δc ds p g) (hlen : ds.length <= sizeLine)
   (hRR : ∀ D C s' H' Z', (∃ m, s'.heap.Ns C m) -> (∃ o, s'.heap.get? C = some o /\ ∀ v, o.data ≠ .cell v) -> H' C = none -> (C ≠ X.env.locals /\ C ∉ X.fs /\ X.s₀.heap.objs.size <= C /\ (∀ y c, X.env.cells.lookup y = some c -> c ≠ C) /\ ∀ q ∈ X.pn ++ pins, q.1 ≠ C) -> (∀ h', Heap.SameBut C s'.heap h' -> L2.Inv X pins σ H' { s' with heap := h' }) -> aB Z Z' -> aB H H' -> aO X.K CL b H' Z' δ1 σ (.lst ((ds.filter p).map g) :: ts) (.ref D :: vs) -> RR (.ref D) C (.ok .next) s') :
   wpAny (model X.prog X.w) X.A (newList []) (fun acc s₃ => wpAny (model X.prog X.w) X.A (newFunctionEnv scope X.env.globals (gC X.env scope.names []) [] X.env.qual none .none (some X.env)) (fun Ga s₄ =>
     codeAny (model X.prog X.w) X.A (.compStart (.ListComp elt [⟨tg, iter, ifs, 0⟩] scope pos) 0 (.ref it) acc { Ga with scope := relabel scope X.env }) (RR acc Ga.locals) s₄) E s₃) E s := by
 obtain ⟨Z1, z1, k1, S1, go, yl, stp⟩ := C.ex
 have lp : ∀ D, H1 D = none -> ∃ W : Nat -> Nat -> Hp -> Prop, (∃ m, W 0 m (upd H1 D (.lst []))) /\ ∀ i m H2, W i m H2 -> (J.stop i H2 /\ ∃ Z2, aB Z1 Z2 /\ aB H1 H2 /\ aO X.K CL b H2 Z2 δ1 σ (.lst ((ds.filter p).map g) :: ts) (.ref D :: vs)) ∨
     (J.go i H2 /\ ∃ N : Hp -> Prop, (∀ H', N H' -> ∃ m', m' < m /\ W (i + 1) m' H') /\ ∀ xv H3, J.Td i H2 xv H3 -> ∀ C s0 H0 f0 os, os.length = xs.length -> Qg (bP X scope Nc C s0 H0 f0) tg elt ifs xs.length σ ix D N xv os H3) := by
   rcases hb with ⟨e, cl⟩ | e
   . subst e
     exact As (W1 := H1) S1 S1.zh (.refl _) (fun _ _ q _ => q) (Gf S1 ix) inner (fun i H2 s => go i H2 (S1.zh.trans s)) (fun i Z2 H2 y H' s => yl i Z2 H2 y H' (S1.zh.trans s)) (fun H2 s => stp H2 (S1.zh.trans s)) hlen (.inr cl)
   . subst e
     exact As (W1 := Z1) S1 (.refl _) S1.zh S1.tp (Ah S1 ix) inner go yl stp hlen (.inl rfl)
 exact II sc hc I Tn st hf lp fun D C s' H' m io nC ch ci ⟨Z', z', k', S'⟩ => hRR D C s' H' Z' m io nC ch ci (z1.trans z') (k1.trans k') S'
theorem yr (sc : qN X scope xs Nc ix) {pins : List (Addr × Obj)} {σ : L2.St} {H : Hp} {s : Shared} (I : L2.Inv X pins σ H s) : closureFor scope X.env = pure (gC X.env scope.names []) :=
 tF fun y hy e => I.ok.has y.1 (sc.frees y hy e).2
theorem Gp (sc : qN X scope xs Nc ix) (hc : X.calm = true) (h : W3 X CL b tg iter δ ds δ1) (hb : (δc = Ge δ1 ix /\ ∀ d ∈ ds, (g d).clean = true) \/ δc = Ag δ1 ix) (inner : w6 X CL scope Nc xs.length tg parts ifs elt δc ds p g) (hlen : ds.length <= sizeLine)
   (hs : ∀ x, foldedSetIterable iter X.env x = pure x := by intro _; rfl) : bR X CL b (.ListComp elt [⟨tg, iter, ifs, 0⟩] scope pos) δ (.lst ((ds.filter p).map g)) δ1 := fun H Z σ ts vs Q S k pins s I => by
 obtain ⟨wi, pi, hw⟩ := h
 rw [eval_ListComp]
 refine akp (use := none) rfl hs (yr sc I) sc.kind sc.names ?_
 refine cN (pi pins s σ H _ I (hw H Z σ ts vs (fun J H1 => DR X CL b δ1 σ ts vs Z H ds J H1) S fun J H1 C => C)) fun v s1 h1 => cN h1 fun itv s2 zz => ?_
 obtain ⟨it, fp, tn, J, H1, e, I1, Tn, st, hf, C⟩ := zz
 subst e
 refine CQ (RR := fun acc C => compPost (model X.prog X.w) X.A X.xe none (EP X pins σ Q) acc C) sc hc C I1 Tn st hf hb inner hlen fun D C' s' H' Z' m io nC ch ci z' k' S' => ?_
 obtain ⟨m, hn⟩ := m
 exact ⟨m, hn, fun h' K4 => ⟨.ref D, H', ci h' K4, rfl, k _ H' Z' z' k' S'⟩⟩
theorem UC {D : eo} {y : Str} {py acq : Pos} (i : Nat) (sc : qN X scope xs Nc ix) (hc : X.calm = true) (h : W3 X CL b tg iter δ ds δ1) (hb : (δc = Ge δ1 ix /\ ∀ d ∈ ds, (g d).clean = true) \/ δc = Ag δ1 ix) (inner : w6 X CL scope Nc xs.length tg parts ifs elt δc ds p g) (hlen : ds.length <= sizeLine)
   (k : D.nx (δ1.set i (some (.lst ((ds.filter p).map g))))) (hl : i < δ1.length) (hN : X.N.Nodup) (hi : X.N[i]? = some y) (hx : Loc X.env.scope y) (hf' : X.fn y = true \/ X.env.scope.names.lookup y = some .local)
   (Gd : swapsWith (.ListComp elt [⟨tg, iter, ifs, 0⟩] scope pos) (some (.Name y py)) acq.line X.env = pure true)
   (hs : ∀ x, foldedSetIterable iter X.env x = pure x := by intro _; rfl) : MD X CL b (.Assign [.Name y py] (.ListComp elt [⟨tg, iter, ifs, 0⟩] scope pos) acq) δ D := fun H Z σ ts vs E S M pins s I => by
 obtain ⟨wi, pi, hw⟩ := h
 rw [exec_Assign_Name_used _ _ _ _ Gd]
 refine aim (wpAny_standAt (aim ?_))
 show wpAny _ X.A (do let _ ← comprehension (.ListComp elt [⟨tg, iter, ifs, 0⟩] scope pos) scope X.env _ (newList []) false (eval iter X.env) (some (assign (.Name y py) X.env))) _ _ s
 refine aim (ajB (akp (use := some (assign (.Name y py) X.env)) (Q := fun _ s' => SP X pins E .next s') rfl hs (yr sc I) sc.kind sc.names ?_) (fun _ s' hq => aiz (aiz hq)) fun _ _ e => e)
 refine cN (pi pins s σ H _ I (hw H Z σ ts vs (fun J H1 => DR X CL b δ1 σ ts vs Z H ds J H1) S fun J H1 C => C)) fun v s1 h1 => cN h1 fun itv s2 zz => ?_
 obtain ⟨it, fp, tn, J, H1, e, I1, Tn, st, hf, C⟩ := zz
 subst e
 refine CQ (RR := fun acc C => compPost (model X.prog X.w) X.A X.xe (some (assign (.Name y py) X.env)) (fun _ s' => SP X pins E .next s') acc C) sc hc C I1 Tn st hf hb inner hlen fun D' C' s' H' Z' m io nC ch ci z' k' S' => ?_
 obtain ⟨m, hn⟩ := m
 obtain ⟨o, ho, yg⟩ := io
 have I' : L2.Inv X pins σ H' s' := ci s'.heap (.refl ..)
 have I2 : L2.Inv X (pins ++ [(C', o)]) σ H' s' := I'.zC fun q hq => by
   rcases aix.mp hq with z | z
   . exact I'.pin q (ail _ z)
   . have e : q = (C', o) := by simpa using z
     subst e
     exact ⟨ho, nC, ch.1, ch.2.1, yg⟩
 show wpAny _ X.A (assign (.Name y py) X.env (.ref D')) _ _ s'
 have hg : PG X (.Name y py) (uR i) := m5 hN hi hx hf'
 refine cN (hg _ s' σ H' (.ref D') (.ref D') (fun σ8 H8 => σ8 = σ.set i (some (.ref D')) /\ H8 = H') I2 rfl ⟨rfl, rfl⟩) fun _ s8 zz => ?_
 obtain ⟨σ8, H8, I8, e8, e8'⟩ := zz
 subst e8
 subst e8'
 obtain ⟨hC8, nC8, _⟩ := I8.pin (C', o) (ail _ (ail _ (by simp)))
 refine ⟨m, hn.at' fun o' e' => by rw [ho] at e'; cases e'; exact hC8, fun h' K4 => ?_⟩
 have I9 : L2.Inv X pins (σ.set i (some (.ref D'))) _ s8 := I8.zC fun q hq => I8.pin q (ail _ (air _ hq))
 have I10 := I9.turned (it := C') (h' := h') (t' := s8.toks) (fun b o hb e => (K4.2 b hb).trans e) nC8 ch.1.symm.symm (.inr ch.2.2.1) ch.2.2.2.1 ch.2.2.2.2
 exact ⟨_, _, I10, M.nx _ _ _ Z' z' (S'.set hl) k⟩
theorem YX {D : eo} {fC : List Stmt} {i : Nat} {x : Str} {pos' pc : Pos} (gx : Gx X) (n : Ln X i x) (sc : qN X scope xs Nc ix) (h : W3 X CL b tg iter δ ds δ1)
   (hb : (δc = Ge δ1 ix /\ ∀ d ∈ ds, (g d).clean = true) \/ δc = Ag δ1 ix) (inner : w6 X CL scope Nc xs.length tg parts ifs elt δc ds p g) (hlen : ds.length <= sizeLine) (k : e9 X CL b fC (δ1.set i (some (.lst ((ds.filter p).map g)))) D) (hl : i < δ1.length)
   (Gd : swapsWith (.ListComp elt [⟨tg, iter, ifs, 0⟩] scope pc) (some (.Name x pos')) pos.line X.env = pure true \/ swapsWith (.ListComp elt [⟨tg, iter, ifs, 0⟩] scope pc) (some (.Name x pos')) pos.line X.env = pure false) (hs : ∀ x, foldedSetIterable iter X.env x = pure x := by intro _; rfl) :
   e9 X CL b (.Assign [.Name x pos'] (.ListComp elt [⟨tg, iter, ifs, 0⟩] scope pc) pos :: fC) δ D := by
 rcases Gd with Gd | Gd
 . exact bO (UC i sc gx.calm h hb inner hlen k hl gx.nd n.hi n.loc n.hf Gd hs)
 . exact bO (P9 i (Gp sc gx.calm h hb inner hlen hs) k hl gx.nd n.hi n.loc Gd n.hf)
theorem YY {i : Nat} {x : Str} {C : Addr} {s : Shared} {H : Hp} {fp : List Addr} (h1 : Nc[i]? = some x) (h2 : scope.names.lookup x = some .local) (hd : (x == ("__debug__" : Str)) = false := by decide) (oR : (x == ("__classdict__" : Str)) = false := by decide) : Ln (bP X scope Nc C s H fp) i x :=
 ⟨jt h1 h2 hd oR, .inl (aj1 h2), .inr (aj1 h2)⟩
end
noncomputable def Ite (K : PySem.W.Frag) (a : Addr) : It :=
 ⟨fun i H => ∃ xs x, qk K H a xs /\ xs[i]? = some x, fun i H x H' => ∃ T y, H T = none /\ x = .ref T /\ (∀ xs, qk K H a xs -> xs[i]? = some y) /\ H' = upd H T (.tup [.int i, y]), fun i H => ∃ xs, qk K H a xs /\ xs.length <= i⟩
theorem MP {P : Program} {w : World} {K : PySem.W.Frag} {elts : List Expr} {kk : Nat} {pt : Pos} (a e it : Addr) (W6 : e ≠ it) : Turn P w K (.Tuple elts kk pt) (Ite K a) [e, it] e (fun i h => (∃ old, PySem.IsEnum h e it i old) /\ h.IsListIter it a i) where
 mem := by simp
 obj := fun i h st b hb => by
   obtain ⟨⟨old, he⟩, hit⟩ := st
   rcases aiw.mp hb with z | z
   . subst z
     exact ⟨_, he, fun v z => by
       have z' : Data.fields _ = Data.cell v := z
       cases z'⟩
   . have z : b = it := by simpa using z
     subst z
     obtain ⟨o, e, c, d⟩ := hit
     exact ⟨o, e, fun v z => by rw [d] at z; cases z⟩
 keep := fun i h h' st k => by
   obtain ⟨⟨old, he⟩, hit⟩ := st
   exact ⟨⟨old, k e (by simp) _ he⟩, hit.at fun o q => k it (by simp) o q⟩
 item := by
   intro X hP hw hK hc i pins s σ H E I hf st hg
   subst hP hw hK
   obtain ⟨xs, x, hq, hx⟩ := hg
   obtain ⟨its, rv, p, hz⟩ := I.list hq
   obtain ⟨u, hu, ru⟩ := rv.get hx
   obtain ⟨⟨old, he⟩, hit⟩ := st
   have fe := hf e (by simp)
   have fi := hf it (by simp)
   have hT0 : H s.heap.objs.size = none := I.dw.fresh (ait _)
   have fT := I.zV (ait s.heap.objs.size) hT0
   refine PySem.wpAny_pyNext_enum_item he hit p.isList (x := u) (by simpa using hu) W6 fun h' ho MQ hT hsz hk => ⟨_, rfl, ?_⟩
   refine PySem.wpAny_letOwnedTupleGo_enum ho fun h2 he2 HV => ?_
   replace HV : Heap.SameBut e h' h2 := HV
   have eT : e < s.heap.objs.size := aiF he
   have keep : ∀ b o, b ≠ e -> b ≠ it -> s.heap.get? b = some o -> h2.get? b = some o := fun b o h1 h3 q => (HV.2 b h1).trans (hk b o h1 h3 q)
   have hT2 : h2.get? s.heap.objs.size = some { cls := .type "tuple", data := .seq #[.int i s.toks, u] } := (HV.2 _ (Nat.ne_of_gt eT)).trans hT
   have nH : ∀ b o, H b = some o -> b ≠ e /\ b ≠ it /\ b ≠ s.heap.objs.size := fun b o q => ⟨fun z => (by rw [z, fe.1] at q; cases q), fun z => (by rw [z, fi.1] at q; cases q), fun z => (by rw [z, hT0] at q; cases q)⟩
   have I' : L2.Inv X pins σ (upd H s.heap.objs.size (.tup [.int i, x])) { s with heap := h2, toks := s.toks + 1 } := by
     refine I.step (g' := s.gens) (d' := s.drawn) (ch := [e, it, s.heap.objs.size]) (fun b hb => ?_) (fun b o _ _ hc q _ => ?_) (fun b o _ _ hc q _ => ⟨o.slots, ?_⟩) (fun b o hc q n => ?_) (fun b o hc q => ⟨o, ?_⟩) (fun b ys q => ?_) (fun b o u q => ?_) (fun b ps q => ⟨#[], ?_⟩) (fun m hm => ?_) (fun b o q => ?_) I.bare
     . rcases aiw.mp hb with z | hb
       . subst z; exact ⟨fe.2.2.2.1, fe.2.1, fe.2.2.2.2.1, fe.2.2.2.2.2⟩
       . rcases aiw.mp hb with z | hb
         . subst z; exact ⟨fi.2.2.2.1, fi.2.1, fi.2.2.2.2.1, fi.2.2.2.2.2⟩
         . have z : b = s.heap.objs.size := by simpa using hb
           subst z; exact ⟨fT.2.2.2.1, fT.2.1, fT.2.2.2.2.1, fT.2.2.2.2.2⟩
     . exact keep b o (fun z => hc (by simp [z])) (fun z => hc (by simp [z])) q
     . exact keep b o (fun z => hc (by simp [z])) (fun z => hc (by simp [z])) q
     . rw [aj (fun z => hc (by simp [z]))]; exact n
     . exact keep b o (fun z => hc (by simp [z])) (fun z => hc (by simp [z])) q
     . rw [aj (nH b _ q).2.2]; exact q
     . rw [aj (nH b _ q).2.2]; exact q
     . rw [aj (nH b _ q).2.2, q]; simp
     . obtain ⟨o, es, ep, ho, r⟩ := hm
       exact ⟨o, es, ep, keep _ o (aj2 fe.2.1) (aj2 fi.2.1) ho, r⟩
     . by_cases hb : b = s.heap.objs.size
       . subst hb
         rw [aE] at q
         cases q
         exact ⟨ajj (cU (aip rfl)), [.int i s.toks, u], .cons ⟨s.toks, rfl⟩ (.cons ru .nil), ⟨_, hT2, rfl, _, rfl⟩⟩
       . rw [aj hb] at q
         refine (I.dw b o q).Cb (fun c v hc z => keep c v ?_ ?_ z) (fun c z => by rw [aj (nH c _ z).2.2]; exact z) (fun c ys z => by rw [aj (nH c _ z).2.2]; exact z) fun c ys z => by rw [aj (nH c _ z).2.2]; exact z
         . rcases hc with z | z
           . rw [z]; exact (nH b _ q).1
           . exact (nH c _ z).1
         . rcases hc with z | z
           . rw [z]; exact (nH b _ q).2.1
           . exact (nH c _ z).2.1
   have ei : ((i + 1 : Nat) : Int) = (i : Int) + 1 := by omega
   refine ⟨.ref s.heap.objs.size, _, I', rfl, ⟨_, x, hT0, rfl, fun ys hy => by rw [I.FQ hy hq]; exact hx, rfl⟩, ⟨⟨u, by rw [ei]; exact he2⟩, MQ.at fun o q => (HV.2 it (aj2 W6)).trans q⟩, fun b hb => ?_⟩
   have hb' := hf b hb
   obtain ⟨o, HD, _⟩ : ∃ o, s.heap.get? b = some o /\ True := by
     rcases aiw.mp hb with z | z
     . subst z; exact ⟨_, he, trivial⟩
     . have z : b = it := by simpa using z
       subst z
       obtain ⟨o, q, _⟩ := hit
       exact ⟨o, q, trivial⟩
   rw [aj (aiX (aiF HD))]
   exact hb'.1
 done := by
   intro X hP hw hK hc i pins s σ H E I hf st hg
   subst hP hw hK
   obtain ⟨xs, hq, hx⟩ := hg
   obtain ⟨its, rv, p, hz⟩ := I.list hq
   obtain ⟨⟨old, he⟩, hit⟩ := st
   obtain ⟨f0, f1, f2, f3, f4, f5⟩ := hf it (by simp)
   have hl := rv.length
   exact PySem.wpAny_pyNext_enum_end (I.ok.hd hc) he hit p.isList (by simp; omega) fun h' eb => ⟨rfl, I.turned (t' := s.toks) (fun b o hb e => eb b o hb e) f0 f1 f3 f4 f5⟩
 self := fun _ _ _ _ _ st h => by
   obtain ⟨⟨old, he⟩, _⟩ := st
   exact PySem.wpAny_pyIter_enum he h
section
variable {X : Cx} {elts : List Expr} {kk : Nat} {pt : Pos}
noncomputable def acr (K : PySem.W.Frag) (ta : TA) : TI := fun σ H R => ta σ H fun vs H1 => ∃ a xs, vs = [.ref a] /\ qk K H1 a xs /\ R (Ite K a) H1
theorem UD {a : Expr} {ta : TA} {p pos : Pos} (hg : Gl X "enumerate") (hm : X.mg "enumerate" = none) (ha : PA X [a] ta) (hs : starEach [a] X.env = (false, eval a X.env) :: starEach [] X.env) : PI X (.Tuple elts kk pt) (.Call (.Name "enumerate" p) [a] [] pos) (acr X.K ta) := by
 intro pins s σ H R I h
 refine Call_ (zU I hg hm boot_enumerate (ajT (cN (ha pos pins s σ H _ I h) fun us s1 zz => ?_) hs rfl))
 obtain ⟨vs, H1, I1, r1, q1⟩ := zz
 obtain ⟨l, xs, e, hq, q⟩ := q1
 subst e
 cases r1 with
 | cons r rr =>
   cases rr
   cases r
   obtain ⟨its, rv, p, hz⟩ := I1.list hq
   refine PySem.call_enumerate_list p.isList fun h' he hit hsz hk => ?_
   have I2 : L2.Inv X pins σ H1 { s1 with heap := h' } := I1.kept (t' := s1.toks) fun b o e => hk b o e
   refine PySem.wpAny_pyIter_enum he ?_
   refine ⟨s1.heap.objs.size + 1, [s1.heap.objs.size + 1, s1.heap.objs.size], _, _, H1, rfl, I2, MP l _ _ (Nat.succ_ne_self _), ⟨⟨_, he⟩, hit⟩, fun b hb => ?_, q⟩
   rcases aiw.mp hb with z | z
   . subst z
     exact I1.zV (Nat.le_succ _) (I1.dw.fresh (Nat.le_succ _))
   . have z : b = s1.heap.objs.size := by simpa using z
     subst z
     exact I1.zV (ait _) (I1.dw.fresh (ait _))
end
noncomputable def Au (ds : List D) : List D := (List.range ds.length).map fun (i : Nat) => .tup [.int i, ds.getD i .non]
theorem w9 (ds : List D) : (Au ds).length = ds.length := by simp [Au]
theorem MR {ds : List D} {i : Nat} {d : D} (h : ds[i]? = some d) : (Au ds)[i]? = some (.tup [.int i, d]) := by
 have hi : i < ds.length := (aiS.mp h).1
 unfold Au
 rw [aiE, aki hi]
 show some (D.tup [.int i, ds.getD i .non]) = _
 rw [ai6, h]
 rfl
section
variable {X : Cx} {CL : Str -> Addr} {b : Bx} {δ δ1 : List (Option T)} {e : Expr} {ds : List D} {elts : List Expr} {kk : Nat} {pt pr pc : Pos}
theorem UE (hm : X.mg "enumerate" = none) (h : bR X CL b e δ (.sh (.lst ds)) δ1) (hg : Gl X "enumerate") (hs : starEach [e] X.env = (false, eval e X.env) :: starEach [] X.env := by exact aY rfl) : W3 X CL b (.Tuple elts kk pt) (.Call (.Name "enumerate" pr) [e] [] pc) δ (Au ds) δ1 := by
 refine ⟨_, UD hg hm (bG cg dM hs) hs, fun H Z σ ts vs R S k => h H Z σ ts vs _ S fun v H1 Z1 z1 k1 S1 => ?_⟩
 obtain ⟨fp, gp, _, r, _, _⟩ := S1.rep
 cases r with
 | cons r _ =>
   cases r with
   | sh r =>
     cases r with
     | @lst a us _ hq rr =>
       have hl := rr.length
       refine ⟨a, us, rfl, S1.zh.seq hq, k _ _ ⟨Z1, z1, k1, S1.pop, fun i H2 s hi => ?_, fun i Z2 H2 x H' s1 s2 tp hi hy => ?_, fun H2 s => ?_⟩⟩
       . rw [w9] at hi
         have Uq : i < us.length := by rw [← hl]; exact hi
         exact ⟨us, us[i], s.seq hq, aiG Uq⟩
       . rw [w9] at hi
         obtain ⟨T, y, hT, rfl, hx, rfl⟩ := hy
         obtain ⟨d, hd, rd⟩ := rr.Ue (hx us ((s1.trans s2).seq hq))
         have gr : DQ Z2 H2 _ _ := DQ.tup (xs := [.int i, y]) s2 tp hT
         exact ⟨_, _, MR hd, gr, .tup (qE.of aE) (.cons (.int _) (.cons ((rd.mono s1).mono gr.z) .nil))⟩
       . rw [w9]
         exact ⟨us, s.seq hq, by rw [← hl]; exact ait _⟩
end
theorem YZ {α β : Type} {f : α -> β} {l : List α} {j : Nat} {d : β} (h : (l.map f)[j]? = some d) : ∃ x, d = f x /\ l[j]? = some x /\ x ∈ l /\ j < l.length /\ l.drop j = x :: l.drop (j + 1) /\ l.take (j + 1) = l.take j ++ [x] := by
 rw [aiE] at h
 cases hx : l[j]? with
 | none => rw [hx] at h; cases h
 | some x =>
   rw [hx] at h
   cases h
   have hj : j < l.length := (aiS.mp hx).1
   have e : l[j] = x := (aiS.mp hx).2
   exact ⟨x, rfl, rfl, aiM hx, hj, by rw [List.drop_eq_getElem_cons hj, e], by rw [ajt, hx]; rfl⟩
noncomputable def D.at1 : L3.D -> L3.D
 | .tup (a :: _) => a
 | d => d
section
variable {X : Cx} {CL : Str -> Addr} {b : Bx} {δ δ1 : List (Option T)} {e : Expr} {elts : List Expr} {kk : Nat} {pt pr pc : Pos}
theorem MS {α : Type} (f : α -> L3.D) (z : α) (l : List α) : Au (l.map f) = (List.range l.length).map fun (i : Nat) => L3.D.tup [.int i, f (l.getD i z)] := by
 unfold Au
 rw [aio]
 apply ajk
 intro i hi
 have hi : i < l.length := ajd.mp hi
 have : (l.map f).getD i .non = f (l.getD i z) := by
   rw [ai6, ai6, aiE, aiG hi]
   rfl
 rw [this]
theorem Av {α : Type} {f : α -> L3.D} {l : List α} (z : α) (hm : X.mg "enumerate" = none) (h : bR X CL b e δ (.sh (.lst (l.map f))) δ1) (hg : Gl X "enumerate") (hs : starEach [e] X.env = (false, eval e X.env) :: starEach [] X.env := by exact aY rfl) :
   W3 X CL b (.Tuple elts kk pt) (.Call (.Name "enumerate" pr) [e] [] pc) δ ((List.range l.length).map fun (i : Nat) => L3.D.tup [.int i, f (l.getD i z)]) δ1 := by
 have := UE (elts := elts) (kk := kk) (pt := pt) (pr := pr) (pc := pc) hm h hg hs
 rwa [MS f z l] at this
end
section
variable {K : PySem.W.Frag} {CL : Str -> Addr} {b : Bx} {H Z : Hp} {δ : List (Option T)} {σ : L2.St} {ts tl W7 : List T} {vs : List V} {v : V}
theorem aO.extend {i : Nat} (S : aO K CL b H Z δ σ (.lst W7 :: ts) (v :: vs)) (hi : δ[i]? = some (some (.lst tl))) :
   ∃ a us a2 UG, σ[i]? = some (some (.ref a)) /\ H a = some (.lst us) /\ us.length = tl.length /\ v = .ref a2 /\ H a2 = some (.lst UG) /\ UG.length = W7.length /\ aO K CL b (upd H a (.lst (us ++ UG))) Z (δ.set i (some (.lst (tl ++ W7)))) σ ts vs := by
 obtain ⟨fp, gp, e, r, nd, k⟩ := S.rep
 obtain ⟨v0, f1, f2, f3, hv, ql, rt, put, _⟩ := e.get hi
 subst ql
 cases rt with
 | @lst a us _ g ha rs =>
   cases r with
   | @cons _ _ _ _ ft gr q1 q2 =>
     cases q1 with
     | @lst a2 UG _ g2 ha2 rs2 =>
       have ne : ∀ c ∈ (f1 ++ (g ++ f3)) ++ (g2 ++ gr), c ≠ a := fun c hc e => by
         subst e
         have hp : ((f1 ++ ((c :: g) ++ f3)) ++ ((a2 :: g2) ++ gr)).Perm (c :: ((f1 ++ (g ++ f3)) ++ ((a2 :: g2) ++ gr))) := by
           rw [aiP, ← aiP]
           exact (ajn.append_right _)
         refine (ai3.mp (hp.nodup_iff.mp nd)).1 ?_
         rcases aix.mp hc with z | z
         . exact air _ z
         . exact ail _ (ais _ z)
       refine ⟨a, us, a2, UG, hv, ha, rs.length.symm, rfl, ha2, rs2.length.symm, ?_⟩
       have r1 : bu K CL (upd H a (.lst (us ++ UG))) Z (.lst (tl ++ W7)) (.ref a) (a :: (g ++ g2)) :=
         .lst aE (aG.app (rs.mono (.refl _) fun c hc => aj (ne c (by simp [hc]))) (rs2.mono (.refl _) fun c hc => aj (ne c (by simp [hc]))))
       have e2 := put (H' := upd H a (.lst (us ++ UG))) (.refl _) (fun c hc => aj (ne c (by
         rcases aix.mp hc with h | h
         . simp [h]
         . simp [h]))) r1
       rw [gu hv] at e2
       have hp : ((f1 ++ ((a :: (g ++ g2)) ++ f3)) ++ gr).Perm ((f1 ++ ((a :: g) ++ f3)) ++ (g2 ++ gr)) := by
         simp only [aiP, ain]
         refine ai8 f1 (List.Perm.cons a (ai8 g ?_))
         rw [← ain, ← ain]
         exact ai2.append_right gr
       have sb : ((f1 ++ ((a :: g) ++ f3)) ++ (g2 ++ gr)).Sublist ((f1 ++ ((a :: g) ++ f3)) ++ ((a2 :: g2) ++ gr)) :=
         ai9 (aja _) (by rw [aiP]; exact List.sublist_cons_self _ _)
       exact S.write nd k (aiq) ⟨_, ha⟩ e2 (q2.mono (.refl _) fun c hc => aj (ne c (by simp [hc]))) (hp.nodup_iff.mpr (nd.sublist sb)) fun c hc => sb.subset (hp.mem_iff.mp hc)
end
section
variable {X : Cx} {CL : Str -> Addr} {b : Bx} {δ δ1 : List (Option T)} {e : Expr} {tl YG W7 : List T} {D : eo} {pos pp pa pb : Pos} {i : Nat} {x : Str} {fC : List Stmt}
theorem acv (n : Vn X i x) (h0 : δ[i]? = some (some (.lst YG))) (h : bR X CL b e δ (.lst W7) δ1) (h1 : δ1[i]? = some (some (.lst tl))) (hl : tl.length + W7.length <= 1000000) (k : e9 X CL b fC (δ1.set i (some (.lst (tl ++ W7)))) D)
   (oj : attributeBase (.Name x pp) "extend" X.env (eval (.Name x pp) X.env) = eval (.Name x pp) X.env := by rfl)
   (Ds : ((backTo pb (starEach [e] X.env)).all (fun x => !x.1) && (backToKw pb (keywordEach [] X.env)).all (fun x => x.1.isSome) && decide ([e].length + ([] : List Keyword).length + (if ([] : List Keyword).isEmpty then 0 else 1) < 30)) = true := by rfl)
   (hline : (pa.endLine == pb.line) = true := by rfl) (hs : starEach [e] X.env = (false, eval e X.env) :: starEach [] X.env := by exact aY rfl)
   (Gd : swapsWith (.Call (.Attribute (.Name x pp) "extend" pa) [e] [] pb) none pos.line X.env = pure false := by rfl) :
   e9 X CL b (.Expr (.Call (.Attribute (.Name x pp) "extend" pa) [e] [] pb) pos :: fC) δ D := bO fun H Z σ ts vs E S M =>
 nM (zF (PD aj6 PySem.F.slot_list_extend PySem.F.type_list_extend Mv (jo n.hi n.hv n.hd n.oR) (bG cg dM hs) oj Ds hline hs rfl) Gd) (by
   obtain ⟨v0, e0, r0⟩ := S.look h0
   refine ⟨v0, e0, ?_, ?_⟩
   . rw [T.cu] at r0
     cases r0 with
     | lst hq _ => exact .inl ⟨rfl, _, hq⟩
   . refine h H Z σ ts vs _ S fun v H1 Z1 z1 k1 S1 => ?_
     obtain ⟨a, us, a2, UG, ea, ha, hu, rfl, ha2, hu2, S2⟩ := S1.extend h1
     rw [e0] at ea
     cases ea
     exact ⟨a, a2, us, UG, rfl, rfl, ha, ha2, by rw [hu, hu2]; exact ajj (ajH hl (by rw [ajg]; decide)), M.nx _ σ _ Z1 z1 S2 k⟩)
end
section
variable {X : Cx} {CL : Str -> Addr} {b : Bx} {e1 e2 : Expr} {δ δ1 δ2 : List (Option T)} {ds : List L3.D} {pos : Pos}
noncomputable def acw (K : PySem.W.Frag) : R2 := fun x y H Q => ∃ l k xs, x = .ref l /\ y = .int k /\ qk K H l xs /\ -(2 ^ 63) <= k /\ k < 2 ^ 63 /\ xs.length * k.toNat <= sizeLine ∧
 ∀ p, H p = none -> Q (.ref p) (upd H p (.lst (List.replicate k.toNat xs).flatten))
theorem UH : qC X (binaryOp .Mult) (acw X.K) := by
 intro pins s σ H x y v u Q I rx ry h
 obtain ⟨l, k, xs, rfl, rfl, hH, h1, h2, hz, q⟩ := h
 cases rx
 obtain ⟨t, rfl⟩ := ry
 obtain ⟨its, r, pl, _⟩ := I.list hH
 have hl := r.length
 obtain ⟨⟨c1, dd, da1, sl⟩, e, hc, n, hd⟩ := pl.isList
 cases hc; cases hd
 have hlen : its.toArray.size * k.toNat <= sizeLine := by rw [aiJ, ← hl]; exact hz
 have Y0 : ¬ its.toArray.size * k.toNat > (2 ^ 63 - 1) / 8 := by
   have : (sizeLine : Nat) <= (2 ^ 63 - 1) / 8 := by decide
   omega
 have afa : ¬ (!Builtin.List.listFitsIndex k) = true := by
   rw [fitsIndex_both h1 h2]
   exact aiy
 have PF : ¬ Builtin.List.listTooLong (its.toArray.size * k.toNat) = true := by
   rw [F4 hlen]
   exact aiy
 have afb : List.foldl (fun x1 x2 => x1 ++ x2) #[] (List.replicate (if its.toArray.isEmpty = true then 0 else k.toNat) its.toArray) = (List.replicate k.toNat its).flatten.toArray := by
   have f0 : ∀ m : Nat, List.foldl (fun x1 x2 => x1 ++ x2) #[] (List.replicate m its.toArray) = (List.replicate m its).flatten.toArray := fun m => by
     have := foldl_rep its m []
     rw [ajw] at this
     exact this
   rw [f0]
   cases its with
   | nil => simp
   | cons a r' => rw [aiu (by simp)]
 refine wpAny_binaryOp_repeat_ref (T := "list") (U := "int") (by decide) ⟨_, e, rfl⟩ (fun s' => typeIs_int s' k t) noFill_list_mul F.fills_int_mul F.slot_int_rmul repeat_list F.slot_int_index.lookup
   (call_meets F.slot_int_rmul (typeIs_int s k t) F.entry_int_rmul (F.args_int_rmul_2 _ _) (lm_int_rmul_list_any k t l its.toArray n dd sl)
     ⟨e, rfl, ⟨_, e, rfl⟩, call_meets F.slot_list_mul ⟨_, e, rfl⟩ F.entry_list_mul (F.args_list_mul_2 _ _) (lm_list_mul_any l its.toArray n dd sl k t afa Y0 PF) ⟨e, ?_⟩⟩)
 rw [afb]
 exact ⟨.ref _, _, I.abS (t' := s.toks) (r.rep k.toNat) (by rw [len_rep, Nat.mul_comm]; exact hz), rfl, q _ I.fresh⟩
theorem aF.rep {K : PySem.W.Frag} {Z : Hp} {ds : List L3.D} {vs : List V} (r : aF K CL Z ds vs) : ∀ k : Nat, aF K CL Z (List.replicate k ds).flatten (List.replicate k vs).flatten
 | 0 => .nil
 | k + 1 => by
   rw [ajF, ajF, ajZ, ajZ]
   exact aF.app r (aF.rep r k)
theorem UI {k : Int} (h1 : cF X CL b e1 δ (.lst ds) δ1) (h2 : cF X CL b e2 δ1 (.int k) δ2) (i1 : D.bK ds = true) (k1 : -(2 ^ 63) <= k) (k2 : k < 2 ^ 63) (hz : ds.length * k.toNat <= sizeLine) :
   bR X CL b (.BinOp e1 .Mult e2 pos) δ (.lst ((List.replicate k.toNat ds).flatten.map T.sh)) δ2 := fun H Z σ ts vs Q S kk =>
 bY (Ku UH cg cg) (h1 H Z σ ts vs _ S fun v1 H1 Z1 z1 q1 S1 r1 => h2 H1 Z1 σ ts vs _ S1 fun v2 H2 Z2 z2 q2 S2 r2 => by
   have Yx := r1.mono q2
   cases Yx with
   | lst hq1 rr1 =>
     cases r2 with
     | int =>
       refine ⟨_, _, _, rfl, rfl, hq1, k1, k2, by rw [← rr1.length]; exact hz, fun p hp => ?_⟩
       have rc := aF.rep (aF.kX S2.tp i1 rr1) k.toNat
       obtain ⟨c, S4⟩ := (aO.tE rc S2).pe (g0 := []) (by rw [aio, rc.length]) hp
       exact kk _ _ _ (z1.trans z2) (q1.trans (q2.trans c)) S4)
end
section
variable {X : Cx} {CL : Str -> Addr} {b : Bx} {δ : List (Option T)} {x : Str} {pos : Pos}
theorem Gq {k : Str} (hm : ∃ u, X.mg x = some (.str k u)) (hg : Gl X x) (hd : (x == ("__debug__" : Str)) = false := by decide) : bR X CL b (.Name x pos) δ (.sh (.str k)) δ := fun H Z σ ts vs Q S kk => by
 obtain ⟨u, hm⟩ := hm
 exact bY (Df (v := .str k) hg hm ⟨u, rfl⟩ hd) (kk _ H Z (.refl _) (.refl _) (S.push (.str k)))
theorem aF.W8 {K : PySem.W.Frag} {Z : Hp} : ∀ l : List Str, aF K CL Z (l.map .str) (l.map V.str)
 | [] => .nil
 | x :: l => .cons (.str x) (aF.W8 l)
noncomputable def GT (X : Cx) (x : Str) (l : List Str) : Prop := ∃ a, X.mg x = some (.ref a) /\ ∀ H : Hp, qE X.K H a (l.map V.str)
theorem qO {l : List Str} (hm : GT X x l) (hg : Gl X x) (hd : (x == ("__debug__" : Str)) = false := by decide) : bR X CL b (.Name x pos) δ (.sh (.tup (l.map .str))) δ := fun H Z σ ts vs Q S kk => by
 obtain ⟨a, hm, hs⟩ := hm
 exact bY (Df (v := .ref a) hg hm rfl hd) (kk _ H Z (.refl _) (.refl _) (S.push (.tup (hs Z) (aF.W8 l))))
theorem Gr {l : List Str} {a : Addr} {od : Option Addr} {its : Array Value} {n : Nat} {sl : Array (Option Value)} (h1 : X.mg x = some (.ref a)) (h2 : X.K.lookup a = some ⟨.type "tuple", od, .seq its n, sl⟩) (h3 : its.size <= sizeLine) (h4 : Vals (l.map V.str) its.toList) : GT X x l :=
 ⟨a, h1, fun H => .inr ⟨_, its, n, h2, rfl, rfl, h3, h4⟩⟩
end
section
variable {X : Cx} {CL : Str -> Addr} {b : Bx} {e1 e2 e iter : Expr} {δ δ1 δ2 : List (Option T)} {pos : Pos}
noncomputable def CT (x y : Str) : Bool := !(Builtin.Str.occurrences y x 0 y.length 1).isEmpty
theorem yt {i j : Str} (h1 : cF X CL b e1 δ (.str i) δ1) (h2 : cF X CL b e2 δ1 (.str j) δ2) (hm : behindInMarks .NotIn e2 = false) : r9 X CL b (.Compare e1 [.NotIn] [e2] pos) δ (!CT i j) δ2 /\ bR X CL b (.Compare e1 [.NotIn] [e2] pos) δ (.sh (.bl (!CT i j))) δ2 :=
 yo Dh h1 h2 rfl rfl (fun _ _ q => ⟨i, j, rfl, rfl, q⟩) hm
noncomputable def Its (x : Str) : It := ⟨fun i _ => i < x.cps.size, fun i H v H' => H' = H /\ ∃ c, x.cps[i]? = some c /\ v = .str ⟨#[c]⟩, fun i _ => x.cps.size <= i⟩
theorem MT {P : Program} {w : World} {K : PySem.W.Frag} {tg : Expr} (x : Str) (t : Tok) (it : Addr) : Turn P w K tg (Its x) [it] it (fun i h => h.IsStrIter it "str_ascii_iterator" x t i) where
 mem := by simp
 obj := fun i h st b hb => by
   have e : b = it := by simpa using hb
   subst e
   obtain ⟨o, e, c, d⟩ := st
   exact ⟨o, e, fun v z => by rw [d] at z; cases z⟩
 keep := fun i h h' st k => by
   obtain ⟨o, e, r⟩ := st
   exact ⟨o, k it (by simp) o e, r⟩
 item := by
   intro X hP hw hK hc i pins s σ H E I hf st hg
   subst hP hw hK
   have hg : i < x.cps.size := hg
   obtain ⟨f0, f1, f2, f3, f4, f5⟩ := hf it (by simp)
   refine wpAny_pyNext_ascii_item st (c := x.cps[i]) (by simp [hg]) fun h' FW sb => ?_
   have I1 : Inv X pins σ H { s with heap := h', toks := s.toks + 1 } := I.turned (fun b o hb e => (sb.2 b hb).trans e) f0 f1 f3 f4 f5
   obtain ⟨o, e, c, d⟩ := id FW
   exact ⟨_, rfl, Cz (s := { s with heap := h', toks := s.toks + 1 }) e c d (by decide) ⟨.str ⟨#[x.cps[i]]⟩, H, I1, ⟨_, rfl⟩, ⟨rfl, _, by simp [hg], rfl⟩, FW, fun b hb => (hf b hb).1⟩⟩
 done := by
   intro X hP hw hK hc i pins s σ H E I hf st hg
   subst hP hw hK
   have hg : x.cps.size <= i := hg
   obtain ⟨f0, f1, f2, f3, f4, f5⟩ := hf it (by simp)
   exact wpAny_pyNext_ascii_end (I.ok.hd hc) st (by simp [hg]) fun h' eb => ⟨rfl, I.turned (t' := s.toks) (fun b o hb e => eb b o hb e) f0 f1 f3 f4 f5⟩
 self := fun _ _ _ _ _ st h => wpAny_pyIter_striter_ascii st h
theorem MV {P : Program} {w : World} {K : PySem.W.Frag} {tg : Expr} (x : Str) (t : Tok) (it : Addr) : Turn P w K tg (Its x) [it] it (fun i h => h.IsStrIter it "str_iterator" x t i) where
 mem := by simp
 obj := fun i h st b hb => by
   have e : b = it := by simpa using hb
   subst e
   obtain ⟨o, e, c, d⟩ := st
   exact ⟨o, e, fun v z => by rw [d] at z; cases z⟩
 keep := fun i h h' st k => by
   obtain ⟨o, e, r⟩ := st
   exact ⟨o, k it (by simp) o e, r⟩
 item := by
   intro X hP hw hK hc i pins s σ H E I hf st hg
   subst hP hw hK
   have hg : i < x.cps.size := hg
   obtain ⟨f0, f1, f2, f3, f4, f5⟩ := hf it (by simp)
   refine wpAny_pyNext_wide_item st (c := x.cps[i]) (by simp [hg]) fun h' FW sb => ?_
   have I1 : Inv X pins σ H { s with heap := h', toks := s.toks + 1 } := I.turned (fun b o hb e => (sb.2 b hb).trans e) f0 f1 f3 f4 f5
   obtain ⟨o, e, c, d⟩ := id FW
   exact ⟨_, rfl, Cz (s := { s with heap := h', toks := s.toks + 1 }) e c d (by decide) ⟨.str ⟨#[x.cps[i]]⟩, H, I1, ⟨_, rfl⟩, ⟨rfl, _, by simp [hg], rfl⟩, FW, fun b hb => (hf b hb).1⟩⟩
 done := by
   intro X hP hw hK hc i pins s σ H E I hf st hg
   subst hP hw hK
   have hg : x.cps.size <= i := hg
   obtain ⟨f0, f1, f2, f3, f4, f5⟩ := hf it (by simp)
   exact wpAny_pyNext_wide_end (I.ok.hd hc) st (by simp [hg]) fun h' eb => ⟨rfl, I.turned (t' := s.toks) (fun b o hb e => eb b o hb e) f0 f1 f3 f4 f5⟩
 self := fun _ _ _ _ _ st h => wpAny_pyIter_striter_wide st h
noncomputable def afd (tl : TE) : TI := fun σ H R => tl σ H fun v H1 => ∃ x, v = .str x /\ R (Its x) H1
theorem Y3 {l : Expr} {tl : TE} {tg : Expr} (hl : PE X l tl) : PI X tg l (afd tl) := by
 intro pins s σ H R I h
 refine cN (hl pins s σ H _ I h) fun v s1 zz => ?_
 obtain ⟨y, H1, I1, r1, q1⟩ := zz
 obtain ⟨x, e, q⟩ := q1
 subst e
 obtain ⟨t, rfl⟩ := r1
 cases ha : x.cps.all (· < 128) with
 | true =>
   refine wpAny_pyIter_ascii ha ?_
   refine ⟨s1.heap.objs.size, [s1.heap.objs.size], _, _, H1, rfl, I1.kept (t' := s1.toks) fun b o e => aiv _ e, MT x t _, ⟨_, aiR _ rfl, rfl, rfl⟩, fun b hb => ?_, q⟩
   have e : b = s1.heap.objs.size := by simpa using hb
   subst e
   exact I1.zV (ait _) (I1.dw.fresh (ait _))
 | false =>
   refine wpAny_pyIter_wide ha ?_
   refine ⟨s1.heap.objs.size, [s1.heap.objs.size], _, _, H1, rfl, I1.kept (t' := s1.toks) fun b o e => aiv _ e, MV x t _, ⟨_, aiR _ rfl, rfl, rfl⟩, fun b hb => ?_, q⟩
   have e : b = s1.heap.objs.size := by simpa using hb
   subst e
   exact I1.zV (ait _) (I1.dw.fresh (ait _))
noncomputable def kF (x : Str) : List L3.D := x.cps.toList.map fun c => .str ⟨#[c]⟩
theorem Gs {K : PySem.W.Frag} {Z : Hp} (l : List Nat) : aF K CL Z (l.map fun c => L3.D.str ⟨#[c]⟩) (l.map fun c => V.str ⟨#[c]⟩) := by
 induction l with
 | nil => exact .nil
 | cons c l ih => exact .cons (.str _) ih
theorem Y4 {x : Str} {tg : Expr} (h : bR X CL b iter δ (.sh (.str x)) δ1) : Te X CL b tg iter δ (kF x) δ1 := by
 refine ⟨_, Y3 cg, fun H Z σ ts vs R S k => h H Z σ ts vs _ S fun v H1 Z1 z1 k1 S1 => ?_⟩
 obtain ⟨fp, gp, _, r, _, _⟩ := S1.rep
 cases r with
 | cons r _ =>
   cases r with
   | sh r =>
     cases r with
     | str =>
       refine ⟨x, rfl, k _ _ ⟨Z1, _, z1, k1, S1.pop, Gs _, fun i H2 s hi => ?_, fun i H2 y H' s hi hy => ⟨hy.1, ?_⟩, fun H2 s => ?_⟩⟩
       . show i < x.cps.size
         simpa [kF] using hi
       . obtain ⟨c, hc, rfl⟩ := hy.2
         simp [hc]
       . show x.cps.size <= (kF x).length
         simp [kF]
end
section
variable {X : Cx} {CL : Str -> Addr} {b : Bx} {δ : List (Option T)} {pos pp : Pos} {x : Str}
theorem c0 {k n : Nat} {A : Type} {arg : A -> List L3.D} {Pre : A -> Prop} {res : A -> T} (a : A) (F : Fc X CL x k n arg Pre res) (hg : Gl X x) (ha : arg a = []) (hp : Pre a) (hc : (res a).clean = true) (hn : (arg a).length = n := by rfl)
   (uT : (x == ("__debug__" : Str)) = false := by decide) : bR X CL b (.Call (.Name x pp) [] [] pos) δ (res a) δ := by
 obtain ⟨f, fd, ps, F1, m, kk, bb⟩ := F.ex
 intro H Z σ ts vs Q S k
 refine bY (Pq F1 F.room hg m kk bb .nil CK uT) ?_
 refine ⟨H, a, .refl _, fun _ _ q _ => q, by rw [ha]; exact .nil, hn, hp, S.Ug, fun v H' W' fp hh ww wh nw tp rt nd own => ?_⟩
 obtain ⟨Z', z', S'⟩ := S.back hh S.zh ww wh nw tp rt nd own (.inr hc)
 exact k v H' Z' z' hh S'
end
noncomputable def DT : Key -> D
 | .inl i => .int i
 | .inr x => .str x
noncomputable def DU (kvs : List (Key × D)) (k : Key) : Option D := (kvs.find? fun kv => decide (kv.1 = k)).map (·.2)
noncomputable def Aw (kvs : List (Key × D)) (k : Key) (d : D) : List (Key × D) :=
 if (kvs.any fun kv => decide (kv.1 = k)) = true then kvs.map (fun kv => if kv.1 = k then (kv.1, d) else kv) else kvs ++ [(k, d)]
section
variable {K : PySem.W.Frag} {CL : Str -> Addr} {b : Bx} {H Z : Hp} {δ : List (Option T)} {σ : L2.St} {ts : List T} {vs : List V} {v : V} {d : D} {kvs : List (Key × D)} {gs : List (Key × V)}
theorem bA.length {kvs : List (Key × D)} {gs : List (Key × V)} (h : bA K CL Z kvs gs) : kvs.length = gs.length :=
 bA.ind (P := fun kvs gs => kvs.length = gs.length) rfl (fun _ _ i => congrArg (· + 1) i) h
theorem bA.val {k : Key} : ∀ {kvs : List (Key × D)} {gs : List (Key × V)}, bA K CL Z kvs gs -> (DU kvs k = none /\ iL gs k = none) \/ ∃ d v, DU kvs k = some d /\ iL gs k = some v /\ aZ K CL Z d v
 | _, _, .nil => .inl ⟨rfl, rfl⟩
 | _, _, .cons (x := x) (d := d) (v := v) h r => by
   by_cases e : x = k
   . exact .inr ⟨d, v, by simp [DU, e], om e, h⟩
   . rcases bA.val (k := k) r with ⟨h1, h2⟩ | ⟨d', v', h1, h2, h3⟩
     . exact .inl ⟨by simpa [DU, e] using h1, by rw [lY e]; exact h2⟩
     . exact .inr ⟨d', v', by simpa [DU, e] using h1, by rw [lY e]; exact h2, h3⟩
theorem bA.any {k : Key} : ∀ {kvs : List (Key × D)} {gs : List (Key × V)}, bA K CL Z kvs gs -> (kvs.any fun kv => decide (kv.1 = k)) = (gs.any fun kv => decide (kv.1 = k))
 | _, _, .nil => rfl
 | _, _, .cons _ r => by rw [ajA, ajA, bA.any r]
theorem bA.repl {k : Key} (q : aZ K CL Z d v) : ∀ {kvs : List (Key × D)} {gs : List (Key × V)}, bA K CL Z kvs gs -> bA K CL Z (kvs.map (fun kv => if kv.1 = k then (kv.1, d) else kv)) (gs.map (fun kv => if kv.1 = k then (kv.1, v) else kv))
 | _, _, .nil => .nil
 | _, _, .cons (x := x) h r => by
   rw [aiB, aiB]
   by_cases e : x = k
   . rw [aiC e, aiC e]; exact .cons q (bA.repl q r)
   . rw [aiu e, aiu e]; exact .cons h (bA.repl q r)
theorem bA.snoc {k : Key} (q : aZ K CL Z d v) : ∀ {kvs : List (Key × D)} {gs : List (Key × V)}, bA K CL Z kvs gs -> bA K CL Z (kvs ++ [(k, d)]) (gs ++ [(k, v)])
 | _, _, .nil => .cons q .nil
 | _, _, .cons h r => .cons h (bA.snoc q r)
theorem bA.put {k : Key} (q : aZ K CL Z d v) (r : bA K CL Z kvs gs) : bA K CL Z (Aw kvs k d) (putK gs k v) := by
 unfold Aw putK
 rw [r.any]
 split
 . exact r.repl q
 . exact r.snoc q
theorem aZ.key {k : Key} (r : aZ K CL Z (DT k) v) : v = kV k := by
 cases k with
 | inl i => exact r.sc rfl
 | inr x => exact r.sc rfl
theorem UJ {Z : Hp} (k : Key) : aZ K CL Z (DT k) (kV k) := by
 cases k with
 | inl i => exact .int i
 | inr x => exact .str x
theorem Ax {Z : Hp} : ∀ ks : List Key, aF K CL Z (ks.map DT) (ks.map kV)
 | [] => .nil
 | k :: ks => .cons (UJ k) (Ax ks)
theorem aO.Y5 {p : Addr} (S : aO K CL b H Z δ σ ts vs) (hp : H p = none) : aB H (upd H p (.dK [])) /\ aO K CL b (upd H p (.dK [])) Z δ σ (.mY [] :: ts) (.ref p :: vs) := by
 obtain ⟨fp, gp, e, r, nd, k⟩ := S.rep
 have zp : Z p = none := S.zh.free hp
 have sh : aB H (upd H p (.dK [])) := aB.upd hp
 have keep : ∀ a ∈ fp ++ gp, a ≠ p := fun a ha => by
   have : ∃ o, H a = some o := by
     rcases aix.mp ha with h | h
     . exact e.there a h
     . exact r.there a h
   obtain ⟨o, q⟩ := this
   exact bF q hp
 refine ⟨sh, ⟨⟨fp, [p] ++ gp, e.mono (.refl _) (fun a ha => aj (keep a (air _ ha))), .cons (.mY aE .nil) (r.mono (.refl _) fun a ha => aj (keep a (by simp [ha]))), ?_, fun a ha => ?_⟩, S.bh.trans sh, S.zz, S.zh.trans sh, S.new, fun a o q i => ?_, S.tab⟩⟩
 . refine (ajn (l₁ := fp) (l₂ := gp) (a := p)).nodup_iff.mpr (ai3.mpr ⟨fun h => keep p h rfl, nd⟩)
 . rcases aiw.mp ((ajn (l₁ := fp) (l₂ := gp) (a := p)).mem_iff.mp ha) with h | h
   . subst h; exact ⟨zp, S.bh.free hp⟩
   . exact k a h
 . by_cases ha : a = p
   . subst ha; rw [aE] at q; cases q; cases i
   . rw [aj ha] at q; exact S.tp a o q i
theorem aO.Y6 {i : Nat} (k : Key) (S : aO K CL b H Z δ σ (.sh d :: ts) (v :: vs)) (hi : δ[i]? = some (some (.mY kvs))) :
   ∃ a gs, σ[i]? = some (some (.ref a)) /\ H a = some (.dK gs) /\ gs.length = kvs.length /\ aO K CL b (upd H a (.dK (putK gs k v))) Z (δ.set i (some (.mY (Aw kvs k d)))) σ ts vs := by
 obtain ⟨fp, gp, e, r, nd, kk⟩ := S.rep
 obtain ⟨v0, f1, f2, f3, hv, ql, rt, put, _⟩ := e.get hi
 subst ql
 cases rt with
 | @mY a gs _ ha rs =>
   cases r with
   | @cons _ _ _ _ ft gr q1 q2 =>
     cases q1 with
     | sh q1 =>
       have ne : ∀ c ∈ (f1 ++ f3) ++ gr, c ≠ a := fun c hc e => by
         subst e
         have hp : ((f1 ++ ([c] ++ f3)) ++ ([] ++ gr)).Perm (c :: ((f1 ++ f3) ++ gr)) := by
           rw [ajw, List.singleton_append]
           exact (ajn.append_right _)
         exact (ai3.mp (hp.nodup_iff.mp nd)).1 hc
       refine ⟨a, gs, hv, ha, rs.length.symm, ?_⟩
       have r1 : bu K CL (upd H a (.dK (putK gs k v))) Z (.mY (Aw kvs k d)) (.ref a) [a] := .mY aE (rs.put q1)
       have e2 := put (H' := upd H a (.dK (putK gs k v))) (.refl _) (fun c hc => aj (ne c (by
         rcases aix.mp hc with h | h
         . simp [h]
         . simp [h]))) r1
       rw [gu hv] at e2
       exact S.An rfl kk (by simp) e2 (q2.mono (.refl _) fun c hc => aj (ne c (by simp [hc]))) nd fun c hc => hc
end
section
variable {X : Cx} {CL : Str -> Addr} {b : Bx} {δ δ1 : List (Option T)} {e e2 : Expr} {d : L3.D} {D : eo} {pos pp ps : Pos} {i : Nat} {x : Str} {fC : List Stmt} {kvs : List (Key × L3.D)} {k : Key}
theorem UK : bR X CL b (.Dict [] [] pos) δ (.mY []) δ := fun H Z σ ts vs Q S kk => bY PV fun p hp => by
 obtain ⟨c, S1⟩ := S.Y5 hp
 exact kk _ _ Z (.refl _) c S1
theorem Y7 (k : Key) (hu : X.A.units + 64 < cLine) (n : Vn X i x) (h : bR X CL b e δ (.sh d) δ1) (h2 : cF X CL b e2 δ1 (DT k) δ1) (h1 : δ1[i]? = some (some (.mY kvs))) (hl : kvs.length <= 1000000) (kk : e9 X CL b fC (δ1.set i (some (.mY (Aw kvs k d)))) D)
   (hs : swapsWith e (some (.Subscript (.Name x pp) e2 ps)) pos.line X.env = pure false := by rfl) :
   e9 X CL b (.Assign [.Subscript (.Name x pp) e2 ps] e pos :: fC) δ D := bO fun H Z σ ts vs E S M =>
 nM (Dw (by omega) (jo n.hi n.hv n.hd n.oR) cg cg hs) (h H Z σ ts vs _ S fun v H1 Z1 z1 k1 S1 => by
   obtain ⟨v0, e0, _⟩ := S1.look h1
   refine ⟨v0, e0, h2 H1 Z1 σ _ _ _ S1 fun v2 H2 Z2 z2 k2 S2 r2 => ?_⟩
   obtain ⟨a, gs, ea, ha, hg, S3⟩ := S2.Y6 k h1
   rw [e0] at ea
   cases ea
   exact ⟨a, _, rfl, by rw [r2.key]; exact Du.k ha (by rw [hg]; exact ajH hl (by rw [ajg]; decide)), M.nx _ σ _ Z2 (z1.trans z2) S3 kk⟩)
theorem Qi {Z : Hp} {gs : List (Key × V)} {K : PySem.W.Frag} (rr : bA K CL Z kvs gs) : (iL gs k).isSome = (DU kvs k).isSome := by
 rcases rr.val (k := k) with ⟨h0, h1⟩ | ⟨d', v', h0, h1, _⟩
 . rw [h0, h1]; rfl
 . rw [h0, h1]; rfl
end
section
variable {K : PySem.W.Frag} {CL : Str -> Addr} {b : Bx} {H Z : Hp} {δ : List (Option T)} {σ : L2.St} {ts : List T} {vs : List V} {t : T} {v w : V} {f c : Str} {OJ : List (Str × T)}
theorem cz.UL {ft : List Addr} (rt : bu K CL H Z t v ft) : ∀ {Gu : List (Str × T)} {gs : List (Str × V)} {fp : List Addr}, cz K CL H Z (Gu ++ (f, .sh (.val v)) :: OJ) gs fp -> ∃ K7, cz K CL H Z (Gu ++ (f, t) :: OJ) gs K7 /\ K7.Perm (fp ++ ft)
 | [], _, _, r => by
   cases r with
   | @cons _ _ v' _ _ f1 gp h r =>
     cases h with
     | sh h =>
       cases h
       exact ⟨ft ++ gp, .cons rt r, ai2⟩
 | (y, u) :: Gu, _, _, r => by
   cases r with
   | @cons _ _ v' _ _ f1 gp h r =>
     obtain ⟨K7, r', p⟩ := cz.UL rt (Gu := Gu) r
     refine ⟨f1 ++ K7, .cons h r', ?_⟩
     rw [ain]
     exact p.append_left f1
theorem aO.UL {Gu : List (Str × T)} (S : aO K CL b H Z δ σ (.ins c (Gu ++ (f, .sh (.val v)) :: OJ) :: t :: ts) (w :: v :: vs)) : aO K CL b H Z δ σ (.ins c (Gu ++ (f, t) :: OJ) :: ts) (w :: vs) := by
 obtain ⟨fp, gp, e, r, nd, k⟩ := S.rep
 cases r with
 | @cons _ _ _ _ g1 g2 r1 r2 =>
   cases r2 with
   | @cons _ _ _ _ g3 g4 r3 r4 =>
     cases r1 with
     | @ins a dx _ gs _ fp1 ha rf =>
       obtain ⟨K7, rf', p⟩ := cz.UL r3 rf
       have pm : (fp ++ ((a :: K7) ++ g4)).Perm (fp ++ ((a :: fp1) ++ (g3 ++ g4))) := by
         refine ai8 fp ?_
         rw [← ain]
         refine List.Perm.append_right g4 ?_
         rw [aiP]
         exact List.Perm.cons a p
       exact ⟨⟨fp, (a :: K7) ++ g4, e, .cons (.ins ha rf') r4, pm.nodup_iff.mpr nd, fun c hc => k c (pm.mem_iff.mp hc)⟩, S.bh, S.zz, S.zh, S.new, S.tp, S.tab⟩
end
noncomputable def PAv (X : Cx) (CL : Str -> Addr) (b : Bx) (es : List Expr) (δ : List (Option T)) (dv : V -> List D) (t : T) (δ' : List (Option T)) : Prop :=
 ∀ (H Z : Hp) (σ : L2.St) (ts : List T) (vs : List V) (Q : List V -> Hp -> Prop), aO X.K CL b H Z δ σ ts vs →
   (∀ us H' Z' v, aB Z Z' -> aB H H' -> aO X.K CL b H' Z' δ' σ (t :: ts) (v :: vs) -> aF X.K CL H' (dv v) us -> Q us H') -> Io X es σ H Q
theorem T.Ay {f : Str} {v : V} {OJ : List (Str × T)} (h2 : T.bw OJ = true) : ∀ {Gu : List (Str × T)}, T.bw Gu = true -> T.bw (Gu ++ (f, .sh (.val v)) :: OJ) = true
 | [], _ => by rw [ajw, T.bw, h2]; rfl
 | (x, t) :: Gu, h => by
   rw [T.bw, aiO] at h
   rw [aiP, T.bw, h.1, T.Ay h2 h.2]; rfl
section
variable {X : Cx} {CL : Str -> Addr} {b : Bx} {δ δ1 δ2 : List (Option T)} {e : Expr} {es : List Expr} {pos pp : Pos} {t : T} {ds : List D} {d : D} {dv : V -> List D}
theorem Qj (h : bR X CL b e δ t δ1) (r : Uh X CL b es δ1 ds δ2) (hs : notStar e = true := by rfl) : PAv X CL b (e :: es) δ (fun v => .val v :: ds) t δ2 := fun H Z σ ts vs Q S k =>
 Aa (bG cg HF (aY hs)) (h H Z σ ts vs _ S fun v H1 Z1 z1 k1 S1 => r H1 Z1 σ _ _ _ S1 fun us H2 Z2 z2 k2 S2 r2 => k (v :: us) H2 Z2 v (z1.trans z2) (k1.trans k2) S2 (.cons (.val v) r2))
theorem Gv (h : cF X CL b e δ d δ1) (r : PAv X CL b es δ1 dv t δ2) (hs : notStar e = true := by rfl) : PAv X CL b (e :: es) δ (fun v => d :: dv v) t δ2 := fun H Z σ ts vs Q S k =>
 Aa (bG cg HF (aY hs)) (h H Z σ ts vs _ S fun v H1 Z1 z1 k1 S1 r1 => r H1 Z1 σ ts vs _ S1 fun us H2 Z2 v2 z2 k2 S2 r2 => k (v :: us) H2 Z2 v2 (z1.trans z2) (k1.trans k2) S2 (.cons (r1.mono k2) r2))
variable {A : Type} {k n : Nat} {arg : A -> List D} {Pre : A -> Prop} {x f : Str}
theorem mkP {res : A -> List (Str × T)} (a : V -> A) {Gu OJ : List (Str × T)} (F : Fm X CL x k n arg Pre res) (hg : Gl X x) (h : PAv X CL b (e :: es) δ dv t δ1) (ha : ∀ v, arg (a v) = dv v) (hp : ∀ v, Pre (a v)) (hr : ∀ v, res (a v) = Gu ++ (f, .sh (.val v)) :: OJ) (hc : T.bw Gu = true) (hc2 : T.bw OJ = true) (hn : ∀ v, (arg (a v)).length + 1 = n := by exact fun _ => rfl)
   (uT : (x == ("__debug__" : Str)) = false := by decide) (he : starEach (e :: es) X.env = (false, eval e X.env) :: starEach es X.env := by exact aY rfl) (qH : (backTo pos (starEach es X.env)).any (·.1) = false := by rfl) :
   bR X CL b (.Call (.Name x pp) (e :: es) [] pos) δ (.ins x (Gu ++ (f, t) :: OJ)) δ1 := fun H Z σ ts vs Q S kk => by
 obtain ⟨f', fd, ps, M, F1, hm, hb⟩ := F.ex
 exact bY (KD M F1 F.room hg hm hb .nil CK HF uT he qH) (h H Z σ ts vs _ S fun us H1 Z1 v z1 k1 S1 r y dx hx hdx ne => by
   rw [aiK]
   refine ⟨H1, H1, a v, y, dx, us, rfl, hx, hdx, ne, rfl, .refl _, fun _ _ q _ => q, by rw [ha]; exact r, hn v, hp v, S1.Ug, fun H' W' fp hh ww wh nw tp rt nd own => ⟨rfl, ?_⟩⟩
   obtain ⟨Z', z', S'⟩ := S1.back hh S1.zh ww wh nw tp rt nd own (.inr (by rw [T.clean, hr]; exact T.Ay hc2 hc))
   rw [hr] at S'
   exact kk _ H' Z' (z1.trans z') (k1.trans hh) S'.UL)
end
namespace Rv
theorem MX : Manifest.owners.lookup (String.ofList ['d', 'e', 's', 'r', 'e', 'v', 'e', 'r'].reverse) = some Manifest.sig_reversed := by kernel_rfl
theorem MY : PySem.Slot "reversed" "__init__" "object.__init__" :=
 .of (owner := "object") (n := "__init__") (by rw [typeLookup_type, builtinLookup_eq_fast]; kernel_rfl) (by decide +kernel) (by decide +kernel) (by decide +kernel)
   (by first | exact .inl (by decide +kernel) | exact .inr (by decide +kernel)) (by rw [isSubtype_type]; kernel_rfl)
theorem called : TypeCalled "reversed" "reversed.__new__" "object.__init__" :=
 ⟨by decide +kernel, by decide +kernel, ⟨_, _, PySem.F.mro_reversed⟩, PySem.F.made_reversed, by decide +kernel, PySem.F.sub_reversed_self, MY⟩
theorem slot_next : PySem.Slot "reversed" "__next__" "reversed.__next__" :=
 .of (owner := "reversed") (n := "__next__") (by rw [typeLookup_type, builtinLookup_eq_fast]; kernel_rfl) (by decide +kernel) (by decide +kernel) (by decide +kernel)
   (by first | exact .inl (by decide +kernel) | exact .inr (by decide +kernel)) (by rw [isSubtype_type]; kernel_rfl)
theorem entry_next : entryFor table "reversed.__next__" = some Builtin.«reversed.__next__» := entryFor_of_tree (by kernel_rfl)
theorem args_next (a : Value) : argsOk "reversed.__next__" ⟨[a], []⟩ := by
 unfold argsOk; rw [signature?_of (id := "reversed.__next__") (n := ['_', '_', 't', 'x', 'e', 'n', '_', '_']) (o := ['d', 'e', 's', 'r', 'e', 'v', 'e', 'r']) (by kernel_rfl) MX]; kernel_rfl
noncomputable def obj (t : Addr) (i : Int) : Obj := { cls := .type "reversed", data := .fields #[.ref t, rawInt i] }
noncomputable def Is (h : Heap) (a t : Addr) (i : Int) : Prop := ∃ o, h.get? a = some o /\ o.cls = .type "reversed" /\ o.data = .fields #[.ref t, rawInt i]
section
variable {s : Shared}
theorem Is.typeIs {a t : Addr} {i : Int} (x : Is s.heap a t i) : s.TypeIs (.ref a) "reversed" := let ⟨o, ho, hc, _⟩ := x; ⟨o, ho, hc⟩
end
end Rv
namespace Rv
section
variable {prog : Program} {w : World} {A : Around} {E : Value -> Shared -> Prop} {s : Shared}
theorem next_item {it t : Addr} {i : Nat} {items : Array Value} {x : Value} {Q : Option Value -> Shared -> Prop} (hit : Is s.heap it t (i : Int)) (ht : IsTup s.heap t items) (W6 : t ≠ it) (hx : items[i]? = some x) (hsz : (items.size : Int) < 2 ^ 63)
   (hQ : ∀ h' tk, Is h' it t ((i : Int) - 1) -> Heap.SameBut it s.heap h' -> Q (some x) { s with heap := h', toks := tk }) : wpAny (model prog w) A (pyNext (.ref it)) Q E s := by
 obtain ⟨o, ho, hc, hd⟩ := id hit
 have hi : i < items.size := (Array.getElem?_eq_some_iff.mp hx).1
 unfold pyNext
 refine aim (akz (ajN (name := Str.ofString "__next__") hit.typeIs slot_next
   (aj3 slot_next hit.typeIs entry_next ?_ (args_next _))))
 unfold Builtin.«reversed.__next__»
 refine aim (wpAny_of_eq (a := (Value.ref it, [])) rfl ?_)
 try dsimp only
 refine aim (akd ho hd (x := .ref t) rfl ?_)
 refine aim (akd ho hd (x := rawInt (i : Int)) rfl ?_)
 show wpAny _ _ (if (i : Int) < 0 then _ else _) _ _ s
 rw [aiu (by omega)]
 refine aim (wpAny_specialOf ht.typeIs PySem.F.slot_tuple_getitem.lookup ?_)
 rw [aiu (by decide)]
 refine aim (wpAny_mkInt ?_)
 refine aim (akz (getItem_tuple (s := { s with toks := s.toks + 1 }) ht (by omega) (by omega) (j := i) (by simp [seqIndex?]; omega) hx ?_))
 try dsimp only
 refine aim (akd (s := { s with toks := s.toks + 1 }) ho hd (x := rawInt (i : Int)) rfl ?_)
 show wpAny _ _ (setField (.ref it) 1 (rawInt ((i : Int) - 1)) >>= _) _ _ _
 refine aim (akt (s := { s with toks := s.toks + 1 }) ho hd (by simp) ?_)
 refine aiz ⟨x, rfl, aiz (hQ _ _ ?_ (akj ..))⟩
 exact ⟨_, ake _ ho (Obj.isFreed_of_fields (ajU hd _)), (Obj.cls_mapFields ..).trans hc, by
   rw [ajU hd]; simp⟩
theorem next_end {it t : Addr} {Q : Option Value -> Shared -> Prop} (hh : A.handled = none) (hit : Is s.heap it t (-1))
   (hQ : ∀ h', Heap.ExtBut it s.heap h' -> Q none { s with heap := h' }) : wpAny (model prog w) A (pyNext (.ref it)) Q E s := by
 obtain ⟨o, ho, hc, hd⟩ := id hit
 unfold pyNext
 refine aim (akz (ajN (name := Str.ofString "__next__") hit.typeIs slot_next
   (aj3 slot_next hit.typeIs entry_next ?_ (args_next _))))
 unfold Builtin.«reversed.__next__»
 refine aim (wpAny_of_eq (a := (Value.ref it, [])) rfl ?_)
 try dsimp only
 refine aim (akd ho hd (x := .ref t) rfl ?_)
 refine aim (akd ho hd (x := rawInt (-1)) rfl ?_)
 show wpAny _ _ (if (-1 : Int) < 0 then _ else _) _ _ s
 rw [aiC (by decide)]
 refine aim (wpAny_rule ?_)
 refine aim ?_
 refine aim (akt ho hd (by simp) ?_)
 have ho2 := ake (Obj.mapFields fun x => x.setIfInBounds 1 (rawInt (-1))) ho (Obj.isFreed_of_fields (ajU hd _))
 have e1 : Heap.ExtBut it s.heap (s.heap.update it (Obj.mapFields fun x => x.setIfInBounds 1 (rawInt (-1)))) := (akj ..).extBut
 refine akt ho2 (ajU hd _) (by simp) ?_
 refine aim ?_
 show wpAny _ _ (newExc (.type "StopIteration") [] >>= _) _ _ _
 refine aim ?_
 simp only [newExc, newTuple]
 refine aim (ajp ?_ (by size_fits))
 refine aim (m := firstArgMember _ _) (wpAny_of_eq (a := Value.none) (by first | rfl | (simp only [firstArgMember]; rfl)) ?_)
 refine ajp ?_ (by size_fits)
 simp only [raiseNew]
 refine aim (wpAny_handled ?_)
 first | rw [show A.in1.handled = none from hh] | rw [hh]
 refine aim (aiz (wpAny_throw ?_))
 refine aim (wpAny_isInstance (T := "StopIteration") (b := true) ⟨_, aiR _ rfl, rfl⟩ isSubtype_stop ?_)
 exact aiz (hQ _ fun b o hb e => aiv _ (aiv _ ((Heap.get?_update_other _ _ (aj2 hb)).trans (e1 b o hb e))))
end
end Rv
section
variable {X : Cx} {CL : Str -> Addr} {b : Bx} {δ δ1 δ2 δ3 : List (Option T)} {e : Expr} {ds : List L3.D} {pos p2 : Pos}
theorem aO.Qk {K : PySem.W.Frag} {H Z : Hp} {σ : L2.St} {ts : List T} {v : V} {vs : List V} {d : L3.D} (S : aO K CL b H Z δ σ (.sh d :: ts) (v :: vs)) : aZ K CL Z d v := by
 obtain ⟨fp, gp, e0, r0, nd, ow⟩ := S.rep
 cases r0 with
 | cons q1 q2 =>
   cases q1 with
   | sh r => exact r
theorem IL {lo hi : Option Expr} {l h : Option Int} (h1 : bR X CL b e δ (.sh (.tup ds)) δ1) (hw : ¬ (HT.iF ds.length 0 l = 0 /\ HT.iF ds.length ds.length h = ds.length)) (h2 : TOv X CL b lo δ1 l δ2) (h3 : TOv X CL b hi δ2 h δ3) :
   bR X CL b (.Subscript e (.Slice lo hi none p2) pos) δ (.sh (.tup (cutD ds l h))) δ3 := fun H Z σ ts vs Q S k => by
 obtain ⟨t2, po2, w2⟩ := h2
 obtain ⟨t3, po3, w3⟩ := h3
 refine bY (z8 Yb cg po2 po3) (h1 H Z σ ts vs _ S fun v H1 Z1 z1 k1 S1 => w2 H1 Z1 σ _ _ _ S1 fun H2 Z2 z2 k2 S2 => w3 H2 Z2 σ _ _ _ S2 fun H3 Z3 z3 k3 S3 => ?_)
 have r := S3.Qk
 cases r with
 | tup hq rr =>
   refine ⟨_, _, rfl, aB.KY S3.zh hq, by rw [← rr.length]; exact hw, fun p hp => ?_⟩
   have rc := rr.cut l h
   obtain ⟨a, c, S4⟩ := (aO.tE rc S3.pop).Ad (by simp [rc.length]) hp
   obtain ⟨Z5, z5, S5⟩ := S4.Ab
   rw [T.cu, iR] at S5
   exact k _ _ Z5 (z1.trans (z2.trans (z3.trans (a.trans z5)))) (k1.trans (k2.trans (k3.trans c))) S5
end
section
variable {ι : Nat -> Nat}
noncomputable def turned (ι : Nat -> Nat) (i j : Nat) : Nat -> Nat := fun k => if i <= k /\ k < j then ι (i + j - 1 - k) else ι k
end
section
variable {X : Cx} {i : Nat} {x : Str}
theorem HK (hi : X.N[i]? = some x) (h : X.env.scope.names.lookup x = some .local) (hf : X.fn x = true) (hd : (x == ("__debug__" : Str)) = false := by decide) (hc : (x == ("__classdict__" : Str)) = false := by decide) : Ln X i x := ⟨⟨hi, .inl h, hd, hc⟩, .inl h, .inl hf⟩
theorem mkC (hi : X.N[i]? = some x) (h : X.env.scope.names.lookup x = some .cell) (hf : X.fn x = true) (hd : (x == ("__debug__" : Str)) = false := by decide) (hc : (x == ("__classdict__" : Str)) = false := by decide) : Ln X i x := ⟨⟨hi, .inr (.inl h), hd, hc⟩, .inr h, .inl hf⟩
end
section
variable {X : Cx} {CL : Str -> Addr} {b : Bx} {δ δ1 δc : List (Option T)} {scope : Scope} {y : Str} {Nc : List Str} {ix : List Nat} {elt iter : Expr} {ifs : List Expr} {px pc pos : Pos} {p : L3.D -> Bool} {g : L3.D -> T} {ds : List L3.D}
theorem acy (sc : g6 X scope y Nc ix) : qN X scope [y] Nc ix := ⟨sc.kind, sc.wZ, sc.nd, sc.names, (fun x hx => by rw [ajy] at hx; subst hx; exact sc.own), sc.frees, sc.hd, sc.W2⟩
theorem acz (sc : g6 X scope y Nc ix) (h : Block X CL scope Nc ifs elt δc ds p g) (h1 : (y == ("__debug__" : Str)) = false) (h2 : (y == ("__classdict__" : Str)) = false) : w6 X CL scope Nc [y].length (.Name y px) part1 ifs elt δc ds p g := fun C s0 H0 f0 b' =>
 ⟨Qf (i := 0) sc.nd (YY (by rw [sc.hd]; rfl) sc.own h1 h2), fun d hd => ⟨[d], rfl, rfl, (h C s0 H0 f0 b' d hd).1, (h C s0 H0 f0 b' d hd).2⟩⟩
theorem sr (sc : g6 X scope y Nc ix) (hc : X.calm = true) (h : Te X CL b (.Name y px) iter δ ds δ1) (hb : (δc = Ge δ1 ix /\ ∀ d ∈ ds, (g d).clean = true) \/ δc = Ag δ1 ix) (inner : Block X CL scope Nc ifs elt δc ds p g) (hlen : ds.length <= sizeLine)
   (hs : ∀ x, foldedSetIterable iter X.env x = pure x := by intro _; rfl) (h1 : (y == ("__debug__" : Str)) = false := by decide) (h2 : (y == ("__classdict__" : Str)) = false := by decide) : bR X CL b (.ListComp elt [⟨.Name y px, iter, ifs, 0⟩] scope pos) δ (.lst ((ds.filter p).map g)) δ1 :=
 Gp (xs := [y]) (acy sc) hc (W4 h) hb (acz sc inner h1 h2) hlen hs
theorem Ql {D : eo} {fC : List Stmt} {i : Nat} {x : Str} {pos' : Pos} {gg : L3.D -> T} (g : Gx X) (n : Ln X i x) (sc : g6 X scope y Nc ix) (h : Te X CL b (.Name y px) iter δ ds δ1) (hb : (δc = Ge δ1 ix /\ ∀ d ∈ ds, (gg d).clean = true) \/ δc = Ag δ1 ix) (inner : Block X CL scope Nc ifs elt δc ds p gg)
   (hlen : ds.length <= sizeLine) (k : e9 X CL b fC (δ1.set i (some (.lst ((ds.filter p).map gg)))) D) (hl : i < δ1.length)
   (Gd : swapsWith (.ListComp elt [⟨.Name y px, iter, ifs, 0⟩] scope pc) (some (.Name x pos')) pos.line X.env = pure true \/ swapsWith (.ListComp elt [⟨.Name y px, iter, ifs, 0⟩] scope pc) (some (.Name x pos')) pos.line X.env = pure false) (hs : ∀ x, foldedSetIterable iter X.env x = pure x := by intro _; rfl)
   (h1 : (y == ("__debug__" : Str)) = false := by decide) (h2 : (y == ("__classdict__" : Str)) = false := by decide) : e9 X CL b (.Assign [.Name x pos'] (.ListComp elt [⟨.Name y px, iter, ifs, 0⟩] scope pc) pos :: fC) δ D :=
 YX (xs := [y]) g n (acy sc) (W4 h) hb (acz sc inner h1 h2) hlen k hl Gd hs
end
section
variable {X : Cx} {CL : Str -> Addr} {b : Bx} {δ : List (Option T)} {i : Nat} {x : Str} {d : L3.D} {pos : Pos}
theorem aK (n : Ln X i x) (h : δ[i]? = some (some (.sh d)) := by rfl) : cF X CL b (.Name x pos) δ d δ := ah (v_ n.1 h)
end
structure cO (X : Cx) : Prop where
 g : Gx X
 u : X.A.units + 64 < cLine
noncomputable abbrev aH (X : Cx) (CL : Str -> Addr) (b : Bx) (st : Stmt) (N : List Str) (l : List L3.D) (r : T) : Prop := e9 X CL b (dU st) (entry N l) { nx := fun _ => r = .sh .non, rt := fun UM _ => UM = r }
noncomputable abbrev au : NameKind := .globalImplicit
noncomputable abbrev ay : NameKind := .local
theorem bz {N P : List Str} {sc : Scope} (h1 : sc.kind = .function := by rfl) (h2 : sc.isCoroutine = false := by rfl) (h3 : sc.isGenerator = false := by rfl) (h4 : N.Nodup := by decide +kernel) (h5 : N.take P.length = P := by rfl) (h6 : ∀ x ∈ P, sc.names.lookup x = some .local \/ sc.names.lookup x = some .cell := by decide +kernel) (h7 : ∀ y ∈ sc.names, y.2 ≠ .free := by decide +kernel) : aM N P sc := ⟨h1, h2, h3, h4, h5, h6, h7⟩
section
variable {X : Cx} {i : Nat} {x : Str} {tb : List (Str × NameKind)}
theorem bU (c : pA X.env.scope tb = true) (j : Nat) (hj : tb[j]? = some (x, .local) := by rfl) (hi : X.N[i]? = some x := by rfl) (hf : X.fn x = true := by rfl) (hd : (x == ("__debug__" : Str)) = false := by decide) (hc : (x == ("__classdict__" : Str)) = false := by decide) : Ln X i x := HK hi (pB c j hj) hf hd hc
theorem frC (c : pA X.env.scope tb = true) (j : Nat) (hj : tb[j]? = some (x, .cell) := by rfl) (hi : X.N[i]? = some x := by rfl) (hf : X.fn x = true := by rfl) (hd : (x == ("__debug__" : Str)) = false := by decide) (hc : (x == ("__classdict__" : Str)) = false := by decide) : Ln X i x := mkC hi (pB c j hj) hf hd hc
theorem cT (c : pA X.env.scope tb = true) (j : Nat) (hj : tb[j]? = some (x, .globalImplicit) := by rfl) : Gl X x := pB c j hj
theorem fX {CL : Str -> Addr} {k n m : Nat} {A : Type} {arg : A -> List D} {Pre : A -> Prop} {res : A -> T} (F : ∃ f fd ps, iE X.prog X.w X.K X.mg X.base uQ k f fd ps (OG X.K CL n arg Pre res) /\ X.mg x = some (.ref f) /\ PySem.W.keepIn X.K (.ref f) = true /\ Binds X.K fd ps []) (r : gA m X.A) (h : k <= m := by decide) : Fc X CL x k n arg Pre res := ⟨F, r.mono h⟩
end
section
variable {K : PySem.W.Frag} {CL : Str -> Addr} {b : Bx} {H H' Z Z' : Hp} {δ δ' : List (Option T)} {σ σ' : L2.St} {ts tl : List T} {vs us : List V} {t : T} {v : V} {y : Addr} {i : Nat}
theorem aO.acA (S : aO K CL b H Z δ σ ts vs) (hi : δ[i]? = some (some (.pin y t))) : σ[i]? = some (some (.ref y)) /\ aO K CL b H Z (δ.set i (some t)) σ ts vs := by
 obtain ⟨fp, gp, e, r, nd, k⟩ := S.rep
 obtain ⟨v0, f1, f2, f3, hv, ql, rt, put, _⟩ := e.get hi
 subst ql
 cases rt with
 | pin rt =>
   have e2 := put (.refl _) (fun _ _ => rfl) rt
   rw [gu hv] at e2
   exact ⟨hv, ⟨⟨_, gp, e2, r, nd, k⟩, S.bh, S.zz, S.zh, S.new, S.tp, S.tab⟩⟩
noncomputable def sV (H : Hp) (gp : List Addr) : Hp := fun c => if c ∈ gp then none else H c
theorem kG {gp : List Addr} {c : Addr} (h : c ∉ gp) : sV H gp c = H c := aiu h
theorem u5 {gp : List Addr} {c : Addr} (h : c ∈ gp) : sV H gp c = none := aiC h
theorem j4 {gp : List Addr} {c : Addr} {o : HO} (h : sV H gp c = some o) : c ∉ gp /\ H c = some o := by
 by_cases hc : c ∈ gp
 . rw [u5 hc] at h; cases h
 . rw [kG hc] at h; exact ⟨hc, h⟩
theorem aO.cut (S : aO K CL b H Z δ σ (tl ++ ts) (us ++ vs)) (hl : tl.length = us.length) : ∃ gp, aG K CL H Z tl us gp /\ gp.Nodup /\ aO K CL b (sV H gp) Z δ σ ts vs := by
 obtain ⟨fp, g, e, r, nd, k⟩ := S.rep
 obtain ⟨g1, g2, rfl, r1, r2⟩ := aG.split hl r
 have hp : (fp ++ (g1 ++ g2)).Perm (g1 ++ (fp ++ g2)) := by
   rw [← ain, ← ain]
   exact ai2.append_right g2
 have HL := aiW.mp (hp.nodup_iff.mp nd)
 have ne : ∀ c ∈ fp ++ g2, c ∉ g1 := fun c hc h => HL.2.2 c h c hc rfl
 have own : ∀ c ∈ g1, Z c = none /\ b.B c = none := fun c hc => k c (ail _ (air _ hc))
 refine ⟨g1, r1, HL.1, ⟨⟨fp, g2, e.mono (.refl _) (fun c hc => kG (ne c (air _ hc))), r2.mono (.refl _) (fun c hc => kG (ne c (ail _ hc))), HL.2.1, fun c hc => k c (hp.mem_iff.mpr (ail _ hc))⟩, fun c o q => ?_, S.zz, fun c o q => ?_, S.new, fun c o q im => S.tp c o (j4 q).2 im, S.tab⟩⟩
 . rw [kG (fun h => by rw [(own c h).2] at q; cases q)]; exact S.bh c o q
 . rw [kG (fun h => by rw [(own c h).1] at q; cases q)]; exact S.zh c o q
theorem aO.W9 {W' : Hp} {fp : List Addr} (S : aO K CL b H Z δ σ ts vs) (hh : aB H H') (ww : aB Z W') (wh : aB W' H') (new : ∀ a o, W' a = some o -> Z a = none -> H a = none)
   (tp : ∀ a o, H' a = some o -> mh o = true -> W' a = some o) (r : aG K CL H' W' tl us fp) (nd : fp.Nodup) (own : ∀ a ∈ fp, W' a = none /\ H a = none) : aO K CL b H' W' δ σ (tl ++ ts) (us ++ vs) := by
 obtain ⟨f0, g0, e0, r0, Ys, k0⟩ := S.rep
 have old : ∀ a ∈ f0 ++ g0, ∃ o, H a = some o := fun a ha => (aix.mp ha).elim (e0.there a) (r0.there a)
 have keep : ∀ a ∈ f0 ++ g0, H' a = H a := fun a ha => by
   obtain ⟨o, e⟩ := old a ha
   rw [e]; exact hh a o e
 have hp : (f0 ++ (fp ++ g0)).Perm (fp ++ (f0 ++ g0)) := by
   rw [← ain, ← ain]
   exact ai2.append_right g0
 have wn : ∀ a ∈ f0 ++ g0, W' a = none := fun a ha => by
   cases q : W' a with
   | none => rfl
   | some o =>
     obtain ⟨u, e⟩ := old a ha
     rw [new a o q (k0 a ha).1] at e; cases e
 refine ⟨⟨f0, fp ++ g0, e0.mono ww (fun a ha => keep a (air _ ha)), aG.app r (r0.mono ww fun a ha => keep a (ail _ ha)), ?_, fun a ha => ?_⟩, S.bh.trans hh, S.zz.trans ww, wh, fun a o q z => ?_, tp, S.tab⟩
 . refine hp.nodup_iff.mpr (aiW.mpr ⟨nd, Ys, fun a ha c hc e => ?_⟩)
   subst e
   obtain ⟨o, q⟩ := old a hc
   rw [(own a ha).2] at q; cases q
 . rcases aix.mp (hp.mem_iff.mp ha) with h | h
   . exact ⟨(own a h).1, Ip S.bh (own a h).2⟩
   . exact ⟨wn a h, (k0 a h).2⟩
 . cases q2 : Z a with
   | none => exact Ip S.bh (new a o q q2)
   | some u =>
     exact S.new a u q2 z
noncomputable def UN : List T -> List T -> Prop
 | [], [] => True
 | .sh d :: l, .sh e :: m => d = e /\ UN l m
 | .pin x _ :: l, .pin z _ :: m => x = z /\ UN l m
 | _, _ => False
noncomputable def Keeps (δ : List (Option T)) (ol : List T) : Prop := ∀ (j : Nat) (y : Addr) (t : T), ol[j]? = some (T.pin y t) -> δ[j]? = some (some (T.pin y t))
theorem Keeps.tail {o : Option T} {d : T} {ol : List T} (k : Keeps (o :: δ) (d :: ol)) : Keeps δ ol := fun j y t h => k (j + 1) y t h
theorem cG.outs {W W' : Hp} (ww : aB W W') : ∀ {al ol : List T} {vs : List V} {g0 : List Addr} {δ : List (Option T)} {σ : L2.St} {fp : List Addr}, UN al ol -> aG K CL H W al vs g0 -> cG K CL H' W' δ σ fp -> Keeps δ ol -> ∃ g, aG K CL H' W' ol vs g /\ g.Sublist fp
 | [], [], _, _, _, _, fp, _, .nil, _, _ => ⟨[], .nil, List.nil_sublist _⟩
 | .sh d :: al, .sh e :: ol, _, _, δ, σ, fp, ho, .cons (.sh r) rs, re, k => by
   obtain ⟨h1, h2⟩ := ho
   subst h1
   cases re with
   | nil =>
     obtain ⟨g, q, s⟩ := cG.outs ww h2 rs (.nil (H := H') (Z := W')) (fun j y t h => by have := k (j + 1) y t h; simp at this)
     exact ⟨[] ++ g, .cons (.sh (r.mono ww)) q, s⟩
   | skip re =>
     obtain ⟨g, q, s⟩ := cG.outs ww h2 rs re k.tail
     exact ⟨[] ++ g, .cons (.sh (r.mono ww)) q, s⟩
   | cons rt re =>
     obtain ⟨g, q, s⟩ := cG.outs ww h2 rs re k.tail
     exact ⟨[] ++ g, .cons (.sh (r.mono ww)) q, s.trans (aji _ _)⟩
 | .pin x t0 :: al, .pin z t :: ol, _, _, δ, σ, fp, ho, .cons (.pin r) rs, re, k => by
   obtain ⟨h1, h2⟩ := ho
   subst h1
   have h0 := k 0 x t rfl
   cases re with
   | nil => simp at h0
   | skip re => simp at h0
   | cons rt re =>
     simp at h0
     subst h0
     obtain ⟨g, q, s⟩ := cG.outs ww h2 rs re k.tail
     cases rt with
     | pin rt => exact ⟨_, .cons (.pin rt) q, ai9 (aja _) s⟩
noncomputable def xg (N : List Str) (al : List T) : List (Option T) := al.map some ++ List.replicate (N.length - al.length) none
theorem yu : ∀ {al : List T} {vs : List V} {gp : List Addr} (n : Nat), aG K CL H Z al vs gp -> cG K CL H Z (al.map some ++ List.replicate n none) (vs.map some ++ List.replicate n none) gp
 | _, _, _, n, .nil => mw (ds := []) (vs := []) n .nil
 | _, _, _, n, .cons r t => .cons r (yu n t)
noncomputable def Y8 (K : PySem.W.Frag) (CL : Str -> Addr) {A : Type} (n : Nat) (arg : A -> List T) (Pre : A -> Prop) (res : A -> T) (out : A -> List T) : Sp := fun vs H Q _ =>
 ∃ (W : Hp) (a : A) (gp : List Addr), aB W (sV H gp) /\ (∀ c o, H c = some o -> mh o = true -> W c = some o) /\ aG K CL H W (arg a) vs gp /\ gp.Nodup /\ (arg a).length = n /\ Pre a /\ oW CL W ∧
   ∀ v H' W' fp, aB (sV H gp) H' -> aB W W' -> aB W' H' -> (∀ c o, W' c = some o -> W c = none -> sV H gp c = none) -> (∀ c o, H' c = some o -> mh o = true -> W' c = some o) →
     aG K CL H' W' (res a :: out a) (v :: vs) fp -> fp.Nodup -> (∀ c ∈ fp, W' c = none /\ sV H gp c = none) -> Q v H'
theorem DV {P : Program} {w : World} {mg : Str -> Option Value} {base : Heap} {x qual : Str} {st : Stmt} {f : Addr} {fd : FuncData} {N ps : List Str} {k : Nat} {A : Type} {arg : A -> List T} {Pre : A -> Prop} {res : A -> T} {out : A -> List T} (F : nL K x qual st f fd) (S : aM N ps (ak st)) (ho : ∀ a, Pre a -> UN (arg a) (out a))
   (hb : ∀ (kh : Value) (Ar : Around) (outer : List Env) (s : Shared) (H : Hp) (E : XK) (b : Bx) (a : A), gA k (Ar.deeper (envOfC qual (ak st) s.heap.objs.size f kh)) -> Pre a →
     e9 (zY uQ P w K mg base N qual (ak st) f kh Ar outer s H E).TJ CL b (dU st) (xg N (arg a)) { nx := fun δ => res a = .sh .non /\ Keeps δ (out a), rt := fun t δ => t = res a /\ Keeps δ (out a) }) :
   iE P w K mg base uQ (k + 1) f fd ps (Y8 K CL ps.length arg Pre res out) := by
 refine F.ok S (fun vs H Q E h => ?_) (fun kh Ar outer s H vs Q E hr h => ?_)
 . obtain ⟨W, a, gp, _, _, r, _, hl, _⟩ := h
   rw [← r.length]; exact hl
 . obtain ⟨W, a, gp, wh, tp, r, nd, hl, hp, tb, kk⟩ := h
   have wn : ∀ c ∈ gp, W c = none := fun c hc => by
     cases q : W c with
     | none => rfl
     | some o => exact absurd hc (j4 (wh c o q)).1
   refine ⟨_, MC, hb kh Ar outer s H E ⟨sV H gp, W⟩ a hr hp H W _ [] [] _ ⟨⟨gp, [], ?_, .nil, by rw [aiK]; exact nd, fun c hc => ?_⟩, fun c o q => (j4 q).2, .refl _, fun c o q => (j4 (wh c o q)).2, fun c o q z => ?_, tp, tb⟩ ⟨fun δ' σ' H' Z' s' S' e => ?_, fun t v H' Z' δ' σ' s' S' e => ?_, fun _ _ _ _ _ _ e => e.elim, fun _ _ _ _ _ _ e => e.elim⟩⟩
   . unfold xg L2.start
     rw [← r.length]
     exact yu _ r
   . rw [aiK] at hc
     exact ⟨wn c hc, u5 hc⟩
   . have q' : W c = some o := q
     have z' : W c = none := z
     rw [q'] at z'; cases z'
   . obtain ⟨e1, e2⟩ := e
     obtain ⟨fp, gq, re, r', HL, own⟩ := S'.rep
     obtain ⟨g, q, sb⟩ := cG.outs S'.zz (ho a hp) r re e2
     have nf := (aiW.mp HL).1
     exact kk .non H' Z' ([] ++ g) S'.bh S'.zz S'.zh S'.new S'.tp (.cons (by rw [e1]; exact .sh .non) q) (nf.sublist sb) fun c hc => own c (air _ (sb.subset hc))
   . obtain ⟨e1, e2⟩ := e
     subst e1
     obtain ⟨fp, gq, re, r', HL, own⟩ := S'.rep
     obtain ⟨g, q, sb⟩ := cG.outs S'.zz (ho a hp) r re e2
     cases r' with
     | @cons _ _ _ _ f1 f2 r1 r2 =>
       have sub : (g ++ f1).Sublist (fp ++ (f1 ++ f2)) := ai9 sb (List.sublist_append_left _ _)
       have pm : (f1 ++ g).Perm (g ++ f1) := ai2
       exact kk v H' Z' (f1 ++ g) S'.bh S'.zz S'.zh S'.new S'.tp (.cons r1 q) (pm.nodup_iff.mpr (HL.sublist sub)) fun c hc => own c (sub.subset (pm.mem_iff.mp hc))
end
noncomputable def AtS (σ : L2.St) : List Nat -> List Addr -> Prop
 | [], [] => True
 | i :: is, y :: ys => σ[i]? = some (some (.ref y)) /\ AtS σ is ys
 | _, _ => False
noncomputable def tH : List T -> List Addr -> List T -> Prop
 | [], [], [] => True
 | .sh _ :: ol, ys, ns => tH ol ys ns
 | .pin y t :: ol, z :: ys, n :: ns => y = z /\ (n = t \/ n = .pin y t) /\ tH ol ys ns
 | _, _, _ => False
noncomputable def UO : List (Option T) -> List Nat -> List T -> List (Option T)
 | δ, i :: is, n :: ns => UO (δ.set i (some n)) is ns
 | δ, _, _ => δ
section
variable {K : PySem.W.Frag} {CL : Str -> Addr} {b : Bx} {H Z : Hp} {σ : L2.St} {ts : List T} {vs : List V}
theorem aO.Y9 : ∀ {ol : List T} {us : List V} {is : List Nat} {ys : List Addr} {ns : List T} {δ : List (Option T)}, aO K CL b H Z δ σ (ol ++ ts) (us ++ vs) -> ol.length = us.length -> AtS σ is ys -> tH ol ys ns -> (∀ i ∈ is, i < δ.length) -> aO K CL b H Z (UO δ is ns) σ ts vs
 | [], [], [], [], [], δ, S, _, _, _, _ => S
 | [], [], _ :: _, [], _, δ, S, _, ha, _, _ => ha.elim
 | [], [], _ :: _, _ :: _, _, δ, S, _, _, hp, _ => by simp [tH] at hp
 | .pin _ _ :: _, _ :: _, [], _ :: _, _, δ, S, _, ha, _, _ => ha.elim
 | .pin _ _ :: _, _ :: _, [], [], _, δ, S, _, _, hp, _ => by simp [tH] at hp
 | .sh d :: ol, u :: us, is, ys, ns, δ, S, hl, ha, hp, hi => aO.Y9 (ol := ol) (us := us) (ys := ys) S.pop (by simpa using hl) ha (by rw [tH] at hp; exact hp) hi
 | .pin y t :: ol, u :: us, i :: is, z :: ys, n :: ns, δ, S, hl, ha, hp, hi => by
   rw [tH] at hp
   obtain ⟨rfl, hn, hp⟩ := hp
   obtain ⟨ha0, ha⟩ := ha
   have hu : u = .ref y := by
     obtain ⟨_, _, _, r, _, _⟩ := S.rep
     cases r with
     | cons r _ => cases r; rfl
   subst hu
   have hi0 := hi i aiq
   have S1 := S.set hi0
   rw [gu ha0] at S1
   have S2 : aO K CL b H Z (δ.set i (some n)) σ (ol ++ ts) (us ++ vs) := by
     rcases hn with rfl | rfl
     . have := (S1.acA (akc hi0)).2
       rwa [List.set_set] at this
     . exact S1
   rw [UO]
   exact aO.Y9 S2 (by simpa using hl) ha hp fun j hj => by rw [List.length_set]; exact hi j (List.mem_cons_of_mem _ hj)
end
section
variable {X : Cx} {CL : Str -> Addr} {b : Bx} {δ δ1 δ2 : List (Option T)} {e : Expr} {es : List Expr} {t : T} {d : L3.D} {pos pp : Pos} {D : eo} {i : Nat} {x : Str} {is : List Nat} {fx : List Addr -> Prop} {al : List Addr -> List T} {y : Addr}
noncomputable def lH (X : Cx) (CL : Str -> Addr) (b : Bx) (e : Expr) (δ : List (Option T)) (t : T) (δ' : List (Option T)) : Prop :=
 ∀ (H Z : Hp) (σ : L2.St) (ts : List T) (vs : List V) (Q : VK), aO X.K CL b H Z δ σ ts vs -> (∀ v H' Z', aB Z Z' -> aO X.K CL b H' Z' δ' σ (t :: ts) (v :: vs) -> Q v H') -> F8 X e σ H Q
theorem bR.m (h : bR X CL b e δ t δ1) : lH X CL b e δ t δ1 := fun H Z σ ts vs Q S k => h H Z σ ts vs Q S fun v H' Z' z _ S' => k v H' Z' z S'
theorem UQ (h : lH X CL b e δ t δ1) (k : D.rt t δ1) : MD X CL b (.Return (some e) pos) δ D := fun H Z σ ts vs E S M => nM (O2 cg) (h H Z σ ts vs _ S fun v H1 Z1 z1 S1 => M.rt t v H1 Z1 δ1 σ z1 S1 k)
theorem Qm (h : lH X CL b e δ t δ1) (k : D.nx δ1) (hs : swapsWith e none pos.line X.env = pure false := by rfl) : MD X CL b (.Expr e pos) δ D := fun H Z σ ts vs E S M => nM (zF cg hs) (h H Z σ ts vs _ S fun v H1 Z1 z1 S1 => M.nx δ1 σ H1 Z1 z1 S1.pop k)
theorem UR (i : Nat) {x : Str} {pos' : Pos} (h : lH X CL b e δ t δ1) (k : D.nx (δ1.set i (some t))) (hl : i < δ1.length := by decide) (hN : X.N.Nodup := by assumption) (hi : X.N[i]? = some x := by rfl) (hx : Loc X.env.scope x := by first | exact .inl rfl | exact .inr rfl)
   (hs : swapsWith e (some (.Name x pos')) pos.line X.env = pure false := by rfl) (hf : X.fn x = true \/ X.env.scope.names.lookup x = some .local := by first | exact .inl rfl | exact .inr rfl | assumption) : MD X CL b (.Assign [.Name x pos'] e pos) δ D := fun H Z σ ts vs E S M =>
 nM (O4 hN hi hx cg hs hf) (h H Z σ ts vs _ S fun v H1 Z1 z1 S1 => M.nx _ _ H1 Z1 z1 (S1.set hl) k)
noncomputable def Tf (X : Cx) (CL : Str -> Addr) (b : Bx) (es : List Expr) (δ : List (Option T)) (is : List Nat) (fx : List Addr -> Prop) (al : List Addr -> List T) (δ' : List (Option T)) : Prop :=
 ∀ (H Z : Hp) (σ : L2.St) (ts : List T) (vs : List V) (Q : List V -> Hp -> Prop), aO X.K CL b H Z δ σ ts vs →
   (∀ ys us H' Z', ys.length = is.length -> AtS σ is ys -> fx ys -> us.length = (al ys).length -> aB Z Z' -> aB H H' -> aO X.K CL b H' Z' δ' σ ((al ys).reverse ++ ts) (us.reverse ++ vs) -> Q us H') -> Io X es σ H Q
theorem c5 : Tf X CL b [] δ [] (fun _ => True) (fun _ => []) δ := fun H Z σ ts vs Q S k => Aa dM (k [] [] H Z rfl trivial trivial rfl (.refl _) (.refl _) S)
theorem fD (h1 : bR X CL b e δ (.sh d) δ1) (h2 : Tf X CL b es δ1 is fx al δ2) (hs : starEach (e :: es) X.env = (false, eval e X.env) :: starEach es X.env := by exact aY rfl) : Tf X CL b (e :: es) δ is fx (fun ys => .sh d :: al ys) δ2 := fun H Z σ ts vs Q S k =>
 Aa (bG cg HF hs) (h1 H Z σ ts vs _ S fun v H1 Z1 z1 k1 S1 => h2 H1 Z1 σ _ _ _ S1 fun ys us H2 Z2 hy ha hf hl z2 k2 S2 => k ys (v :: us) H2 Z2 hy ha hf (by simp [hl]) (z1.trans z2) (k1.trans k2) (by
   rw [ajb, ajb, ain, ain]
   exact S2))
noncomputable def T.isRef : T -> Bool
 | .lst _ => true
 | .ins _ _ => true
 | .mY _ => true
 | .dct _ => true
 | _ => false
theorem aO.Za {K : PySem.W.Frag} {H Z : Hp} {σ : L2.St} {ts : List T} {v : V} {vs : List V} (S : aO K CL b H Z δ σ (t :: ts) (v :: vs)) (h : t.isRef = true) : ∃ y, v = .ref y /\ aO K CL b H Z δ σ (.pin y t :: ts) (.ref y :: vs) := by
 obtain ⟨fp, gp, e, r, nd, k⟩ := S.rep
 cases r with
 | cons r rs =>
   cases r with
   | sh r => cases h
   | tup r _ => cases h
   | pin r => cases h
   | lst r q => exact ⟨_, rfl, ⟨⟨fp, _, e, .cons (.pin (.lst r q)) rs, nd, k⟩, S.bh, S.zz, S.zh, S.new, S.tp, S.tab⟩⟩
   | ins r q => exact ⟨_, rfl, ⟨⟨fp, _, e, .cons (.pin (.ins r q)) rs, nd, k⟩, S.bh, S.zz, S.zh, S.new, S.tp, S.tab⟩⟩
   | mY r q => exact ⟨_, rfl, ⟨⟨fp, _, e, .cons (.pin (.mY r q)) rs, nd, k⟩, S.bh, S.zz, S.zh, S.new, S.tp, S.tab⟩⟩
   | dct r q => exact ⟨_, rfl, ⟨⟨fp, _, e, .cons (.pin (.dct r q)) rs, nd, k⟩, S.bh, S.zz, S.zh, S.new, S.tp, S.tab⟩⟩
theorem qm (n : Vn X i x) (h : δ[i]? = some (some t)) (ho : t.isRef = true) (h2 : Tf X CL b es (δ.set i none) is fx al δ2) (hs : starEach (.Name x pos :: es) X.env = (false, eval (.Name x pos) X.env) :: starEach es X.env := by exact aY rfl) :
   Tf X CL b (.Name x pos :: es) δ (i :: is) (fun ys => fx ys.tail) (fun ys => .pin (ys.headD 0) t :: al ys.tail) δ2 := fun H Z σ ts vs Q S k => by
 obtain ⟨v, e, S1⟩ := S.move h
 obtain ⟨y, rfl, S0⟩ := S1.Za ho
 exact Aa (bG (jo n.hi n.hv n.hd n.oR) HF hs) ⟨_, e, h2 H Z σ _ _ _ S0 fun ys us H2 Z2 hy ha hf hl z2 k2 S2 => k (y :: ys) (.ref y :: us) H2 Z2 (by simp [hy]) ⟨e, ha⟩ hf (by simp [hl]) z2 k2 (by
   show aO _ _ _ _ _ _ _ ((T.pin y t :: al ys).reverse ++ ts) _
   rw [ajb, ajb, ain, ain]
   exact S2)⟩
theorem oz (n : Vn X i x) (h : δ[i]? = some (some (.pin y t))) (h2 : Tf X CL b es (δ.set i none) is fx al δ2) (hs : starEach (.Name x pos :: es) X.env = (false, eval (.Name x pos) X.env) :: starEach es X.env := by exact aY rfl) :
   Tf X CL b (.Name x pos :: es) δ (i :: is) (fun ys => ys.headD 0 = y /\ fx ys.tail) (fun ys => .pin y t :: al ys.tail) δ2 := fun H Z σ ts vs Q S k => by
 obtain ⟨v, e, S1⟩ := S.move h
 have hv : v = .ref y := by
   obtain ⟨_, _, _, r, _, _⟩ := S1.rep
   cases r with
   | cons r _ => cases r; rfl
 subst hv
 exact Aa (bG (jo n.hi n.hv n.hd n.oR) HF hs) ⟨_, e, h2 H Z σ _ _ _ S1 fun ys us H2 Z2 hy ha hf hl z2 k2 S2 => k (y :: ys) (.ref y :: us) H2 Z2 (by simp [hy]) ⟨e, ha⟩ ⟨rfl, hf⟩ (by simp [hl]) z2 k2 (by
   show aO _ _ _ _ _ _ _ ((T.pin y t :: al ys).reverse ++ ts) _
   rw [ajb, ajb, ain, ain]
   exact S2)⟩
theorem Qn {A : Type} {k n : Nat} {f : Addr} {fd : FuncData} {ps : List Str} {arg : A -> List T} {Pre : A -> Prop} {res : A -> T} {out : A -> List T} (a : List Addr -> A) (ns : List T) (F : iE X.prog X.w X.K X.mg X.base uQ k f fd ps (Y8 X.K CL n arg Pre res out)) (hr : gA k X.A) (hm : X.mg x = some (.ref f)) (hk : PySem.W.keepIn X.K (.ref f) = true) (hb : Binds X.K fd ps [])
   (h : Tf X CL b (e :: es) δ is fx al δ1) (ha : ∀ ys, ys.length = is.length -> fx ys -> arg (a ys) = al ys /\ (arg (a ys)).length = n /\ Pre (a ys) /\ res (a ys) = t /\ tH (out (a ys)) ys ns) (La : ∀ i ∈ is, i < δ1.length) (hg : Gl X x)
   (uT : (x == ("__debug__" : Str)) = false := by decide) (he : starEach (e :: es) X.env = (false, eval e X.env) :: starEach es X.env := by exact aY rfl) (qH : (backTo pos (starEach es X.env)).any (·.1) = false := by rfl) :
   lH X CL b (.Call (.Name x pp) (e :: es) [] pos) δ t (UO δ1 is ns) := fun H Z σ ts vs Q S kk =>
 bY (Di F hr hg hm hk hb .nil CK HF uT he qH) (h H Z σ ts vs _ S fun ys us H1 Z1 hly Qo hf hlu z1 k1 S1 => by
   rw [aiK]
   obtain ⟨ha1, ha2, hp, Tg, hpu⟩ := ha ys hly hf
   obtain ⟨g, r, nd, S2⟩ := S1.cut (by simp [hlu])
   obtain ⟨g', r', pm⟩ := r.rev
   have ec : sV H1 g = sV H1 g' := funext fun c => by
     by_cases hc : c ∈ g
     . rw [u5 hc, u5 (pm.mem_iff.mpr hc)]
     . rw [kG hc, kG (fun z => hc (pm.mem_iff.mp z))]
   rw [ec] at S2
   rw [← ha1] at r'
   refine ⟨Z1, a ys, g', S2.zh, S1.tp, r', pm.nodup_iff.mpr nd, ha2, hp, S1.P0, fun v H' W' fp hh ww wh nw tp rt HL own => ?_⟩
   cases rt with
   | @cons _ _ _ _ f1 f2 q1 q2 =>
     have P8 : (f2 ++ (f1 ++ [])).Perm (f1 ++ f2) := by rw [aiK]; exact ai2
     have S3 := S2.W9 hh ww wh nw tp (aG.app q2 (.cons q1 .nil)) (P8.nodup_iff.mpr HL) fun c hc => own c (P8.mem_iff.mp hc)
     rw [ain, ain] at S3
     have S4 := S3.Y9 q2.length Qo hpu La
     rw [Tg] at S4
     exact kk v H' W' (z1.trans ww) S4)
structure IQ (X : Cx) (CL : Str -> Addr) (x : Str) (k n : Nat) {A : Type} (arg : A -> List T) (Pre : A -> Prop) (res : A -> T) (out : A -> List T) : Prop where
 ex : ∃ f fd ps, iE X.prog X.w X.K X.mg X.base uQ k f fd ps (Y8 X.K CL n arg Pre res out) /\ X.mg x = some (.ref f) /\ PySem.W.keepIn X.K (.ref f) = true /\ Binds X.K fd ps []
 room : gA k X.A
theorem MZ {A : Type} {k n : Nat} {arg : A -> List T} {Pre : A -> Prop} {res : A -> T} {out : A -> List T} (a : Addr -> A) (nt : T) (F : IQ X CL x k n arg Pre res out) (hg : Gl X x) (h : Tf X CL b (e :: es) δ [i] fx al δ1) (hp : ∀ y, fx [y] -> Pre (a y)) (Qp : ∀ y, fx [y] -> res (a y) = t) (Zb : ∀ y, fx [y] -> tH (out (a y)) [y] [nt])
   (M0 : ∀ y, fx [y] -> arg (a y) = al [y] := by intros; rfl) (hlen : ∀ y, (arg (a y)).length = n := by intros; rfl) (La : i < δ1.length := by exact aip rfl)
   (uT : (x == ("__debug__" : Str)) = false := by decide) (he : starEach (e :: es) X.env = (false, eval e X.env) :: starEach es X.env := by exact aY rfl) (qH : (backTo pos (starEach es X.env)).any (·.1) = false := by rfl) :
   lH X CL b (.Call (.Name x pp) (e :: es) [] pos) δ t (δ1.set i (some nt)) := by
 obtain ⟨⟨f, fd, ps, G, m, q, bd⟩, r⟩ := F
 exact Qn (fun ys => a (ys.headD 0)) [nt] G r m q bd h (fun ys hl hf => match ys, hl, hf with | [y], _, hf => ⟨M0 y hf, hlen y, hp y hf, Qp y hf, Zb y hf⟩) (fun j hj => by cases ajy.mp hj; exact La) hg uT he qH
variable {fC : List Stmt}
theorem mF {pos' : Pos} (g : Gx X) (n : Ln X i x) (h : lH X CL b e δ t δ1) (k : e9 X CL b fC (δ1.set i (some t)) D) (hl : i < δ1.length := by exact aip rfl) (hs : swapsWith e (some (.Name x pos')) pos.line X.env = pure false := by rfl) :
   e9 X CL b (.Assign [.Name x pos'] e pos :: fC) δ D := bO (UR i h k hl g.nd n.hi n.loc hs n.hf)
theorem tU (h : lH X CL b e δ t δ1) (k : D.rt t δ1) : e9 X CL b (.Return (some e) pos :: fC) δ D := bO (UQ h k)
theorem UT (h : lH X CL b e δ t δ1) (k : e9 X CL b fC δ1 D) (hs : swapsWith e none pos.line X.env = pure false := by rfl) : e9 X CL b (.Expr e pos :: fC) δ D := bO (Qm h k hs)
end
section
variable {X : Cx} {CL : Str -> Addr} {b : Bx} {δ δ1 δ2 : List (Option T)} {e : Expr} {es : List D} {pos : Pos}
noncomputable def afh (te : TE) : TE := fun σ H Q => te σ H fun v H1 => (∃ x, v = .str x /\ x.length <= sizeLine /\ Q (.str x) H1) \/ (∃ i : Int, v = .int i /\ i.natAbs.log2 < 1920 /\ Q (.str (Str.ofString (toString i))) H1)
theorem Zc {te : TE} (he : PE X e te) : PE X (.FormattedValue e (-1) none pos) (afh te) := by
 intro pins s σ H Q I h
 refine FormattedValue_plain (cN (he pins s σ H _ I h) fun v s1 zz => ?_)
 obtain ⟨x, H1, I1, r1, q1⟩ := zz
 rcases q1 with ⟨y, rfl, hz, q⟩ | ⟨i, rfl, hz, q⟩
 . obtain ⟨t, rfl⟩ := r1
   exact formatField_str (fun t' tk => ⟨.str y, H1, I1.tok _, ⟨_, rfl⟩, q⟩) hz
 . obtain ⟨t, rfl⟩ := r1
   exact formatField_int_small hz ⟨.str _, H1, I1.tok _, ⟨_, rfl⟩, q⟩
theorem UU {i : Int} (h : cF X CL b e δ (.int i) δ1) (hz : i.natAbs.log2 < 1920) : bR X CL b (.FormattedValue e (-1) none pos) δ (.sh (.str (Str.ofString (toString i)))) δ1 := fun H Z σ ts vs Q S k =>
 bY (Zc cg) (h H Z σ ts vs _ S fun v H1 Z1 z1 k1 S1 r => .inr ⟨i, r.sc rfl, hz, k _ H1 Z1 z1 k1 (S1.push (.str _))⟩)
noncomputable def acB (X : Cx) (out : Str) (es : List Expr) : TE := fun σ H Q => ∀ (pins : List (Addr × Obj)) (s : Shared), Inv X pins σ H s -> wpAny (model X.prog X.w) X.A (joinParts out (evalEach es X.env)) (EP X pins σ Q) X.xe s
noncomputable def TJv (X : Cx) (CL : Str -> Addr) (b : Bx) (out : Str) (es : List Expr) (δ : List (Option T)) (res : Str) (δ' : List (Option T)) : Prop :=
 ∀ (H Z : Hp) (σ : L2.St) (ts : List T) (vs : List V) (Q : VK), aO X.K CL b H Z δ σ ts vs -> (∀ v H' Z', aB Z Z' -> aB H H' -> aO X.K CL b H' Z' δ' σ (.sh (.str res) :: ts) (v :: vs) -> Q v H') -> acB X out es σ H Q
theorem Zd {out : Str} (hz : out.length <= sizeLine) : TJv X CL b out [] δ out δ := fun H Z σ ts vs Q S k pins s I =>
 joinParts_nil ⟨.str out, H, I.tok _, ⟨_, rfl⟩, k _ H Z (.refl _) (.refl _) (S.push (.str _))⟩ hz
theorem Lb {out x res : Str} {es : List Expr} (h1 : cF X CL b e δ (.str x) δ1) (h2 : TJv X CL b (out ++ x) es δ1 res δ2) (hz : (out ++ x).length <= sizeLine) (hs : evalEach (e :: es) X.env = eval e X.env :: evalEach es X.env := by rfl) : TJv X CL b out (e :: es) δ res δ2 := fun H Z σ ts vs Q S k pins s I => by
 rw [hs]
 refine joinParts_cons (cN (h1 H Z σ ts vs (fun v H1 => v = .str x /\ acB X (out ++ x) es σ H1 Q) S (fun v H1 Z1 z1 k1 S1 r => ⟨r.sc rfl, h2 H1 Z1 σ ts vs Q S1 fun v' H' Z' z k' S' => k v' H' Z' (z1.trans z) (k1.trans k') S'⟩) pins s I) fun u s1 zz => ?_)
 obtain ⟨v, H1, I1, r1, rfl, q⟩ := zz
 obtain ⟨t, rfl⟩ := r1
 exact ⟨hz, q pins s1 I1⟩
theorem M3 {v1 v2 : Expr} {es : List Expr} {res : Str} (h : TJv X CL b Str.empty (v1 :: v2 :: es) δ res δ1) (hs : evalEach (v1 :: v2 :: es) X.env = eval v1 X.env :: eval v2 X.env :: evalEach es X.env := by rfl) : bR X CL b (.JoinedStr (v1 :: v2 :: es) pos) δ (.sh (.str res)) δ1 := fun H Z σ ts vs Q S k pins s I =>
 JoinedStr_many (by
   have := h H Z σ ts vs Q S k pins s I
   rwa [hs] at this)
end
section
variable {X : Cx} {CL : Str -> Addr} {b : Bx} {δ δ1 : List (Option T)} {e : Expr} {pos : Pos}
theorem Qq {ds : List L3.D} (h : cF X CL b e δ (.lst ds) δ1) (he : ∀ whole, isTrue e X.env whole = (do let v ← whole; standAt e.pos; holding [v] (truthy v)) := by intro _; rfl) : r9 X CL b e δ (!ds.isEmpty) δ1 := fun H Z σ ts vs Q S k =>
 yJ (Pg cg he) (h H Z σ ts vs _ S fun v H1 Z1 z1 k1 S1 r => by
   cases r with
   | @lst a us _ hq rr =>
     refine ⟨_, .inl ⟨us, hq, rfl⟩, ?_⟩
     have e : us.isEmpty = ds.isEmpty := by
       have := rr.length
       cases us <;> cases ds <;> simp at this ⊢
     rw [e]
     exact k H1 Z1 z1 k1 S1)
end
noncomputable def tK (ks : List Key) : D := .tup (ks.map DT)
noncomputable def oA (ks : List Key) : T := .tup ((ks.map DT).map T.sh)
noncomputable def ja {α : Type} (kvs : List (List Key × α)) (k : List Key) : Option α := (kvs.find? fun kv => decide (kv.1 = k)).map (·.2)
theorem kH {α : Type} {p : List Key × α} {r : List (List Key × α)} {k : List Key} (e : p.1 = k) : ja (p :: r) k = some p.2 := by simp [ja, ajE, e]
theorem ju {α : Type} {p : List Key × α} {r : List (List Key × α)} {k : List Key} (e : ¬ p.1 = k) : ja (p :: r) k = ja r k := by simp [ja, ajE, e]
theorem yI.tr {H : Hp} {a b : Addr} {kvs : List (List Key × V)} {k : List Key} (e : Rd H a (.dT kvs)) (eb : H b = some (.tup (k.map kV))) : yI H a (.ref b) (iL kvs k) := .inr ⟨kvs, k, b, e, rfl, eb, rfl⟩
section
variable {K : PySem.W.Frag} {CL : Str -> Addr} {b : Bx} {H Z : Hp} {δ : List (Option T)} {σ : L2.St} {ts : List T} {vs : List V} {t : T} {v : V} {d : D}
theorem M4 {ks : List Key} {us : List V} {fp : List Addr} (r : aG K CL H Z ((ks.map DT).map T.sh) us fp) : us = ks.map kV := by
 induction ks generalizing us fp with
 | nil => cases r; rfl
 | cons k ks ih =>
   rw [aiB, aiB] at r
   cases r with
   | cons r rr =>
     cases r with
     | sh r => rw [r.key, ih rr, aiB]
theorem fM.length {kvs : List (List Key × D)} {gs : List (List Key × V)} (h : fM K CL Z kvs gs) : kvs.length = gs.length :=
 fM.ind (P := fun kvs gs => kvs.length = gs.length) rfl (fun _ _ i => congrArg (· + 1) i) h
theorem fM.keys {kvs : List (List Key × D)} {gs : List (List Key × V)} (h : fM K CL Z kvs gs) : kvs.map (·.1) = gs.map (·.1) :=
 fM.ind (P := fun kvs gs => kvs.map (·.1) = gs.map (·.1)) rfl (fun {x _ _ _ _} _ _ i => congrArg (x :: ·) i) h
theorem fM.val {k : List Key} {kvs : List (List Key × D)} {gs : List (List Key × V)} (h : fM K CL Z kvs gs) : (ja kvs k = none /\ iL gs k = none) \/ ∃ d v, ja kvs k = some d /\ iL gs k = some v /\ aZ K CL Z d v :=
 fM.ind (P := fun kvs gs => (ja kvs k = none /\ iL gs k = none) \/ ∃ d v, ja kvs k = some d /\ iL gs k = some v /\ aZ K CL Z d v) (.inl ⟨rfl, rfl⟩) (fun {x d v _ _} r _ i => by
   by_cases e : x = k
   . exact .inr ⟨d, v, kH e, om e, r⟩
   . rw [ju (p := (x, d)) e, lY (p := (x, v)) e]
     exact i) h
theorem cA.length {kvs : List (List Key × T)} {gs : List (List Key × V)} {fp : List Addr} (h : cA K CL H Z kvs gs fp) : kvs.length = gs.length :=
 cA.ind (P := fun kvs gs _ => kvs.length = gs.length) rfl (fun _ _ i => congrArg (· + 1) i) h
theorem cA.keys {kvs : List (List Key × T)} {gs : List (List Key × V)} {fp : List Addr} (h : cA K CL H Z kvs gs fp) : kvs.map (·.1) = gs.map (·.1) :=
 cA.ind (P := fun kvs gs _ => kvs.map (·.1) = gs.map (·.1)) rfl (fun {x _ _ _ _ _ _} _ _ i => congrArg (x :: ·) i) h
theorem cA.snoc {k : List Key} {kvs : List (List Key × T)} {gs : List (List Key × V)} {fp ft : List Addr} (h : cA K CL H Z kvs gs fp) (q : bu K CL H Z t v ft) : cA K CL H Z (kvs ++ [(k, t)]) (gs ++ [(k, v)]) (fp ++ (ft ++ [])) :=
 cA.ind (P := fun kvs gs fp => cA K CL H Z (kvs ++ [(k, t)]) (gs ++ [(k, v)]) (fp ++ (ft ++ []))) (by rw [ajw, ajw, ajw]; exact .cons q .nil) (fun r _ i => by
   rw [ain]
   exact .cons r i) h
theorem aO.Ze {p : Addr} (S : aO K CL b H Z δ σ ts vs) (hp : H p = none) : aB H (upd H p (.dT [])) /\ aO K CL b (upd H p (.dT [])) Z δ σ (.dct [] :: ts) (.ref p :: vs) := by
 obtain ⟨fp, gp, e, r, nd, k⟩ := S.rep
 have zp : Z p = none := S.zh.free hp
 have sh : aB H (upd H p (.dT [])) := aB.upd hp
 have keep : ∀ a ∈ fp ++ gp, a ≠ p := fun a ha => by
   have : ∃ o, H a = some o := by
     rcases aix.mp ha with h | h
     . exact e.there a h
     . exact r.there a h
   obtain ⟨o, q⟩ := this
   exact bF q hp
 refine ⟨sh, ⟨⟨fp, [p] ++ gp, e.mono (.refl _) (fun a ha => aj (keep a (air _ ha))), .cons (.dct aE .nil) (r.mono (.refl _) fun a ha => aj (keep a (by simp [ha]))), ?_, fun a ha => ?_⟩, S.bh.trans sh, S.zz, S.zh.trans sh, S.new, fun a o q i => ?_, S.tab⟩⟩
 . refine (ajn (l₁ := fp) (l₂ := gp) (a := p)).nodup_iff.mpr (ai3.mpr ⟨fun h => keep p h rfl, nd⟩)
 . rcases aiw.mp ((ajn (l₁ := fp) (l₂ := gp) (a := p)).mem_iff.mp ha) with h | h
   . subst h; exact ⟨zp, S.bh.free hp⟩
   . exact k a h
 . by_cases ha : a = p
   . subst ha; rw [aE] at q; cases q; cases i
   . rw [aj ha] at q; exact S.tp a o q i
theorem aO.DW {ks : List Key} (S : aO K CL b H Z δ σ (oA ks :: ts) (v :: vs)) : ∃ a, v = .ref a /\ H a = some (.tup (ks.map kV)) := by
 obtain ⟨fp, gp, e, r, nd, k⟩ := S.rep
 cases r with
 | cons r _ =>
   cases r with
   | tup hz rr => exact ⟨_, rfl, by rw [← M4 rr]; exact S.zh _ _ hz⟩
theorem aO.Zf {i : Nat} {k : List Key} {kvs : List (List Key × T)} (S : aO K CL b H Z δ σ (t :: ts) (v :: vs)) (hi : δ[i]? = some (some (.dct kvs))) (hk : k ∉ kvs.map (·.1)) :
   ∃ a gs, σ[i]? = some (some (.ref a)) /\ H a = some (.dT gs) /\ gs.length = kvs.length /\ aO K CL b (upd H a (.dT (putK gs k v))) Z (δ.set i (some (.dct (kvs ++ [(k, t)])))) σ ts vs := by
 obtain ⟨fp, gp, e, r, nd, kk⟩ := S.rep
 obtain ⟨v0, f1, f2, f3, hv, ql, rt, put, _⟩ := e.get hi
 subst ql
 cases rt with
 | @dct a gs _ g ha rs =>
   cases r with
   | @cons _ _ _ _ ft gr q1 q2 =>
     have ne : ∀ c ∈ (f1 ++ (g ++ f3)) ++ (ft ++ gr), c ≠ a := fun c hc e => by
       subst e
       have hp : ((f1 ++ ((c :: g) ++ f3)) ++ (ft ++ gr)).Perm (c :: ((f1 ++ (g ++ f3)) ++ (ft ++ gr))) := by
         rw [aiP, ← aiP]
         exact (ajn.append_right _)
       exact (ai3.mp (hp.nodup_iff.mp nd)).1 hc
     have eg : putK gs k v = gs ++ [(k, v)] := by
       unfold putK
       rw [uX, aiu]
       rcases hx : iL gs k with _ | z
       . exact aiy
       . exfalso
         refine hk ?_
         rw [rs.keys]
         unfold iL at hx
         cases hf : gs.find? fun kv => decide (kv.1 = k) with
         | none => rw [hf] at hx; cases hx
         | some q =>
           have h1 := List.find?_some hf
           have h2 := akk hf
           have : q.1 = k := aiT h1
           rw [← this]
           exact List.mem_map_of_mem h2
     refine ⟨a, gs, hv, ha, rs.length.symm, ?_⟩
     rw [eg]
     have r1 : bu K CL (upd H a (.dT (gs ++ [(k, v)]))) Z (.dct (kvs ++ [(k, t)])) (.ref a) (a :: (g ++ (ft ++ []))) :=
       .dct aE (cA.snoc (rs.mono (.refl _) fun c hc => aj (ne c (by simp [hc]))) (q1.mono (.refl _) fun c hc => aj (ne c (by simp [hc]))))
     have e2 := put (H' := upd H a (.dT (gs ++ [(k, v)]))) (.refl _) (fun c hc => aj (ne c (by
       rcases aix.mp hc with h | h
       . simp [h]
       . simp [h]))) r1
     rw [gu hv] at e2
     have hp : ((f1 ++ ((a :: (g ++ (ft ++ []))) ++ f3)) ++ gr).Perm ((f1 ++ ((a :: g) ++ f3)) ++ (ft ++ gr)) := by
       simp only [aiK, aiP, ain]
       refine ai8 f1 (List.Perm.cons a (ai8 g ?_))
       rw [← ain, ← ain]
       exact ai2.append_right gr
     exact S.An rfl kk (by simp) e2 (q2.mono (.refl _) fun c hc => aj (ne c (by simp [hc]))) (hp.nodup_iff.mpr nd) fun c hc => hp.mem_iff.mp hc
end
section
variable {X : Cx} {CL : Str -> Addr} {b : Bx} {δ δ1 δ2 : List (Option T)} {e e1 e2 : Expr} {t : T} {d : L3.D} {DD : eo} {pos pp ps : Pos} {i : Nat} {x : Str} {fC : List Stmt} {kvs : List (List Key × L3.D)} {k : List Key}
theorem Gw : bR X CL b (.Dict [] [] pos) δ (.dct []) δ := fun H Z σ ts vs Q S kk => bY PX fun p hp => by
 obtain ⟨c, S1⟩ := S.Ze hp
 exact kk _ _ Z (.refl _) c S1
theorem UW {kvs : List (List Key × T)} (k : List Key) (hu : X.A.units + 64 < cLine) (n : Vn X i x) (h : bR X CL b e δ t δ1) (h2 : bR X CL b e2 δ1 (oA k) δ1) (h1 : δ1[i]? = some (some (.dct kvs))) (hk : k ∉ kvs.map (·.1)) (hl : kvs.length <= 1000000) (kk : e9 X CL b fC (δ1.set i (some (.dct (kvs ++ [(k, t)])))) DD)
   (hs : swapsWith e (some (.Subscript (.Name x pp) e2 ps)) pos.line X.env = pure false := by rfl) :
   e9 X CL b (.Assign [.Subscript (.Name x pp) e2 ps] e pos :: fC) δ DD := bO fun H Z σ ts vs E S M =>
 nM (Dw (by omega) (jo n.hi n.hv n.hd n.oR) cg cg hs) (h H Z σ ts vs _ S fun v H1 Z1 z1 k1 S1 => by
   obtain ⟨v0, e0, _⟩ := S1.look h1
   refine ⟨v0, e0, h2 H1 Z1 σ _ _ _ S1 fun v2 H2 Z2 z2 k2 S2 => ?_⟩
   obtain ⟨kb, rfl, hb⟩ := S2.DW
   obtain ⟨a, gs, ea, ha, hg, S3⟩ := S2.pop.Zf h1 hk
   rw [e0] at ea
   cases ea
   exact ⟨a, _, rfl, Du.t ha hb (by rw [hg]; exact ajH hl (by rw [ajg]; decide)), M.nx _ σ _ Z2 (z1.trans z2) S3 kk⟩)
theorem Qs (k : List Key) (hu : X.A.units + 64 < cLine) (h1 : cF X CL b e1 δ (.dct kvs) δ1) (h2 : bR X CL b e2 δ1 (oA k) δ2) (hk : ja kvs k = some d) (hs : MB e2 := by exact fun _ _ => rfl) : cF X CL b (.Subscript e1 e2 pos) δ d δ2 := fun H Z σ ts vs Q S kk =>
 bY (KW (by omega) cg cg hs) (h1 H Z σ ts vs _ S fun v H1 Z1 z1 k1 S1 r1 => h2 H1 Z1 σ ts vs _ S1 fun v2 H2 Z2 z2 k2 S2 => by
   obtain ⟨kb, rfl, hb⟩ := S2.DW
   cases r1 with
   | @dct a gs _ ha rr =>
     have rr' := rr.mono k2
     rcases rr'.val (k := k) with ⟨h0, _⟩ | ⟨d', v', h0, hv, rd⟩
     . rw [hk] at h0; cases h0
     . rw [hk] at h0; cases h0
       refine ⟨a, v', rfl, ?_, kk v' H2 Z2 (z1.trans z2) (k1.trans k2) S2.pop rd⟩
       rw [← hv]
       exact yI.tr (Rd.mono k2 ha) hb)
theorem Gy (k : List Key) (hu : X.A.units + 64 < cLine) (h1 : bR X CL b e1 δ (.sh (.dct kvs)) δ1) (h2 : bR X CL b e2 δ1 (oA k) δ2) (hk : ja kvs k = some d) (hs : MB e2 := by exact fun _ _ => rfl) : bR X CL b (.Subscript e1 e2 pos) δ (.sh d) δ2 := fun H Z σ ts vs Q S kk =>
 bY (KW (by omega) cg cg hs) (h1 H Z σ ts vs _ S fun v H1 Z1 z1 k1 S1 => h2 H1 Z1 σ _ _ _ S1 fun v2 H2 Z2 z2 k2 S2 => by
   obtain ⟨kb, rfl, hb⟩ := S2.DW
   have r := S2.pop.Qk
   cases r with
   | @dct a gs _ ha rr =>
     rcases rr.val (k := k) with ⟨h0, _⟩ | ⟨d', v', h0, hv, rd⟩
     . rw [hk] at h0; cases h0
     . rw [hk] at h0; cases h0
       refine ⟨a, v', rfl, ?_, kk v' H2 Z2 (z1.trans z2) (k1.trans k2) (S2.pop.pop.push rd)⟩
       rw [← hv]
       exact yI.tr (Rd.mono S2.zh ha) hb)
end
theorem M5 : bootBuiltins "set" = some (.type "set") := by decide +kernel
section
variable {X : Cx} {CL : Str -> Addr} {b : Bx} {δ δ1 δ2 : List (Option T)} {e1 e2 e3 : Expr} {pos : Pos}
theorem Xa {op op' : CmpOp} {f g : Int -> Int -> Bool} {i j k : Int} (ho : qC X (compareOp op) (TX fun i j => .bl (f i j))) (HD : qC X (compareOp op') (TX fun i j => .bl (g i j))) (h1 : cF X CL b e1 δ (.int i) δ1) (h2 : cF X CL b e2 δ1 (.int j) δ2) (h3 : cF X CL b e3 δ2 (.int k) δ2) (hm : lastMarks [op, op'] [e2, e3] = false) :
   r9 X CL b (.Compare e1 [op, op'] [e2, e3] pos) δ (f i j && g j k) δ2 /\ bR X CL b (.Compare e1 [op, op'] [e2, e3] pos) δ (.sh (.bl (f i j && g j k))) δ2 := by
 constructor
 . intro H Z σ ts vs Q S q
   refine yJ (Pb ho HD cg cg cg hm) (h1 H Z σ ts vs _ S fun v1 H1 Z1 z1 k1 S1 r1 => h2 H1 Z1 σ ts vs _ S1 fun v2 H2 Z2 z2 k2 S2 r2 => ?_)
   rw [r1.sc rfl, r2.sc rfl]
   refine ⟨i, j, rfl, rfl, f i j, rfl, ?_⟩
   cases hf : f i j with
   | false => exact ite_ff ⟨false, rfl, by rw [hf] at q; exact q H2 Z2 (z1.trans z2) (k1.trans k2) S2⟩
   | true =>
     refine ite_tt (h3 H2 Z2 σ ts vs _ S2 fun v3 H3 Z3 z3 k3 S3 r3 => ?_)
     rw [r3.sc rfl]
     exact ⟨j, k, rfl, rfl, g j k, rfl, by rw [hf] at q; exact q H3 Z3 ((z1.trans z2).trans z3) ((k1.trans k2).trans k3) S3⟩
 . intro H Z σ ts vs Q S q
   refine bY (Pa ho HD cg cg cg hm) (h1 H Z σ ts vs _ S fun v1 H1 Z1 z1 k1 S1 r1 => h2 H1 Z1 σ ts vs _ S1 fun v2 H2 Z2 z2 k2 S2 r2 => ?_)
   rw [r1.sc rfl, r2.sc rfl]
   refine ⟨i, j, rfl, rfl, f i j, rfl, ?_⟩
   cases hf : f i j with
   | false => exact ite_ff (by rw [hf] at q; exact q _ H2 Z2 (z1.trans z2) (k1.trans k2) (S2.push (.bl _)))
   | true =>
     refine ite_tt (h3 H2 Z2 σ ts vs _ S2 fun v3 H3 Z3 z3 k3 S3 r3 => ?_)
     rw [r3.sc rfl]
     exact ⟨j, k, rfl, rfl, by rw [hf] at q; exact q _ H3 Z3 ((z1.trans z2).trans z3) ((k1.trans k2).trans k3) (S3.push (.bl _))⟩
end
section
noncomputable def m8 (ns : List Str) (i : Nat) (q : Str) : Bool := decide (q ∈ ns.take i)
end
section
variable {X : Cx}
noncomputable def Qt (prog : Program) (w : World) (a : Addr) (n : Nat) (h : Heap) : Prop := ∃ S, h.SetOf (strKind prog w) a S n
theorem DX : tu X (.builtin "len") (fun xs H Q => ∃ (p : Addr) (n : Nat), xs = [.ref p] /\ H p = some (.ext (Qt X.prog X.w p n)) /\ n <= 1000 /\ Q (.int n) H) := by
 intro pins s σ H xs us Q I r h
 obtain ⟨p, n, rfl, hp, hn, q⟩ := h
 obtain ⟨u, rfl, ru⟩ := vals1 r
 cases ru
 obtain ⟨⟨S, o, es, ep, t, e, ex, ed, _, _, _, hf, en⟩, _, _⟩ := I.dw p _ hp
 exact call_len_set e ex ed hf (by rw [en]; omega) ⟨.int n, H, I.tok _, ⟨s.toks + 1, by rw [en]⟩, q⟩
end
section
variable {CL : Str -> Addr} {e : Expr}
theorem M6 {K : PySem.W.Frag} {Z : Hp} {l : List Str} {us : List V} (h : aF K CL Z (l.map D.str) us) : us = l.map V.str := by
 refine aF.ind (P := fun ds us => ∀ l : List Str, ds = l.map D.str -> us = l.map V.str) ?_ ?_ h l rfl
 . intro l e
   cases l with
   | nil => rfl
   | cons _ _ => cases e
 . intro d ds v vs r _ ih l e
   cases l with
   | nil => cases e
   | cons x l =>
     obtain ⟨e1, e2⟩ := List.cons.inj e
     subst e1
     cases r
     rw [ih l e2]
     rfl
end
section
variable {X : Cx} {CL : Str -> Addr} {b : Bx} {δ δ1 δ2 : List (Option T)} {e1 e2 : Expr} {pos : Pos} {kvs : List (Key × D)}
theorem Zg (k : Key) (hu : X.A.units + 64 < cLine) (h1 : cF X CL b e1 δ (DT k) δ1) (h2 : cF X CL b e2 δ1 (.mY kvs) δ2) (hm : behindInMarks .In e2 = false) :
   bR X CL b (.Compare e1 [.In] [e2] pos) δ (.sh (.bl (DU kvs k).isSome)) δ2 := fun H Z σ ts vs Q S kk =>
 bY (Xw (Yn (by omega) cg cg) hm) (h1 H Z σ ts vs _ S fun v H1 Z1 z1 k1 S1 r1 => h2 H1 Z1 σ ts vs _ S1 fun v2 H2 Z2 z2 k2 S2 r2 => by
   cases r2 with
   | @mY a gs _ ha rr =>
     refine ⟨a, iL gs k, rfl, by rw [r1.key]; exact yI.k ha, ?_⟩
     rw [Qi rr]
     exact kk _ H2 Z2 (z1.trans z2) (k1.trans k2) (S2.push (.bl _)))
end
section
variable {X : Cx} {CL : Str -> Addr} {b : Bx} {δ δ1 δ2 : List (Option T)} {e1 e2 : Expr} {pos : Pos}
theorem Qu : qC X (binaryOp .FloorDiv) (rI (fun _ j => 0 < j /\ j.natAbs.log2 < 9000) fun i j => .int (i / j)) := opI fun i j _ _ _ _ _ hc q => by
 have h1 : (0 : Int) < j := hc.1
 exact floordiv_int (by omega) (by rw [Int.fdiv_eq_ediv_of_nonneg i (by omega)]; exact q) (.inl (PyProof.noPylong_of_log2 hc.2))
theorem Qv {i j : Int} (h1 : cF X CL b e1 δ (.int i) δ1) (h2 : cF X CL b e2 δ1 (.int j) δ2) (c : 0 < j /\ j.natAbs.log2 < 9000) : bR X CL b (.BinOp e1 .FloorDiv e2 pos) δ (.sh (.int (i / j))) δ2 := qJ Qu h1 h2 rfl rfl rfl fun _ _ q => ⟨i, j, rfl, rfl, c, q⟩
end
section
variable {X : Cx} {CL : Str -> Addr} {b : Bx} {δ δ1 : List (Option T)} {x : Str} {pos : Pos}
variable {H Z : Hp} {σ : L2.St} {ts : List T} {vs : List V} {v : V}
theorem Qw {e1 : Expr} {kj : Nat} {p2 : Pos} (h : cF X CL b e1 δ .non δ1) : r9 X CL b (.Compare e1 [.IsNot] [.Constant .none kj p2] pos) δ false δ1 :=
 fun H Z σ ts vs Q S k => yJ (Xx (TF cg)) (h H Z σ ts vs _ S fun v H1 Z1 z1 k1 S1 r => by
     cases r
     exact ⟨_, rfl, by simpa using k H1 Z1 z1 k1 S1⟩)
end
section
variable {K : PySem.W.Frag} {CL : Str -> Addr} {H Z : Hp} {tl : List T} {t : T}
theorem Az {H Z : Hp} : ∀ {tl : List T} {us : List V} {g : List Addr}, aG K CL H Z (tl ++ [t]) us g -> ∃ OL u g1 g2, us = OL ++ [u] /\ g = g1 ++ g2 /\ aG K CL H Z tl OL g1 /\ bu K CL H Z t u g2
 | [], _, _, .cons (v := v) (fp := fp) r .nil => ⟨[], v, [], fp, rfl, aiK _, .nil, r⟩
 | _ :: _, _, _, .cons (v := v) (fp := fp) r rr => by
   obtain ⟨OL, u, g1, g2, e1, e2, r1, r2⟩ := Az rr
   subst e1 e2
   exact ⟨v :: OL, u, fp ++ g1, g2, rfl, (ain ..).symm, .cons r r1, r2⟩
end
section
variable {prog : Program} {w : World} {A : Around} {E : Value -> Shared -> Prop} {s : Shared}
noncomputable def cD (ns : List Str) : Nat -> Nat
 | 0 => 0
 | i + 1 => cD ns i + (if m8 ns i (ns.getD i Str.empty) = true then 0 else 1)
theorem Lc (ns : List Str) : ∀ i, cD ns i <= i
 | 0 => ait _
 | i + 1 => by have := Lc ns i; unfold cD; split <;> omega
theorem M7 {R : Result -> Shared -> Prop} {I a : Addr} {items : Array Value} (hh : A.in1.handled = none) (W6 : a ≠ I) {S : Addr} (hS1 : S ≠ I) (hS2 : S ≠ a) {ns : List Str} (hn : items.size = ns.length) (hb : ns.length + 1 < scanBound)
   (hv : ∀ (i : Nat) (v : Value), items[i]? = some v -> ∃ x t, ns[i]? = some x /\ v = Value.str x t) :
   ∀ (k i : Nat) (h : Heap) (tk : Nat), i + k = ns.length -> h.IsListIter I a i -> h.IsList a items -> h.SetOf (strKind prog w) S (m8 ns i) (cD ns i) →
     (∀ h' Zh, (∀ b o, b ≠ S -> b ≠ I -> h.get? b = some o -> h'.get? b = some o) -> h'.SetOf (strKind prog w) S (m8 ns ns.length) (cD ns ns.length) -> R (.ok (.ret .none)) { s with heap := h', toks := Zh }) →
     codeAny (model prog w) A (.builtin "set.update.loop" ⟨[.ref S, .ref I], []⟩) R { s with heap := h, toks := tk } := by
 have W := Walks.list (prog := prog) (w := w) (A := A.in1) hh I a W6 items
 have Xb : ∀ {h h' : Heap} {f : Str -> Bool} {n : Nat}, (∀ b o, b ∉ [I] -> h.get? b = some o -> h'.get? b = some o) -> h.SetOf (strKind prog w) S f n -> h'.SetOf (strKind prog w) S f n := fun hk ⟨o, es, ep, t, ho, r⟩ => ⟨o, es, ep, t, hk S o (by simp [hS1]) ho, r⟩
 intro k
 induction k with
 | zero =>
   intro i h tk hi hit hl hs hR
   have ei : i = items.size := by omega
   refine codeAny_builtin F.entry_set_update_loop ?_
   rw [Around.under_plainId aku _]
   refine aim (m := pyNext (.ref I)) (W.done { s with heap := h, toks := tk } _ _ ⟨ei ▸ hit, hl⟩ fun h' Zh hk => ?_)
   refine aiz (hR h' Zh (fun b o _ b2 e => hk b o (by simp [b2]) e) (Xb hk ?_))
   rw [← hn, ← ei]
   rw [ei] at hs ⊢
   exact hs
 | succ k ih =>
   intro i h tk hi hit hl hs hR
   refine codeAny_builtin F.entry_set_update_loop ?_
   rw [Around.under_plainId aku _]
   refine aim (m := pyNext (.ref I)) (W.item i { s with heap := h, toks := tk } _ _ (by omega) ⟨hit, hl⟩ fun v h1 t1 hv1 st1 hk => ?_)
   obtain ⟨x, t, hx, rfl⟩ := hv i v hv1
   have hs1 := Xb hk hs
   have hxi : i < ns.length := by omega
   have hxe : ns[i] = x := (aiS.mp hx).2
   have hle := Lc ns i
   have hgd : ns.getD i Str.empty = x := by rw [ai6, hx]; rfl
   refine aim (m := holding [Value.str x t] (setAdd S (.str x t))) (aj8 ?_)
   unfold setAdd
   refine aj8 (aim ((strKind prog w).pyHash (k := x) (strKind_is _ _ _ _) ?_))
   refine wpAny_setAddHashed_of (knd := strKind prog w) (strKind_is _ _ _ _) rfl hs1 (by omega) fun h2 sb HV => ?_
   have hs3 : h2.SetOf (strKind prog w) S (m8 ns (i + 1)) (cD ns (i + 1)) := by
     have ec : cD ns (i + 1) = (if m8 ns i x = true then cD ns i else cD ns i + 1) := by
       show cD ns i + (if m8 ns i (ns.getD i Str.empty) = true then 0 else 1) = _
       rw [hgd]
       split <;> rfl
     have e : (fun k' => m8 ns i k' || decide (k' = x)) = m8 ns (i + 1) := by
       funext q
       unfold m8
       rw [ajt, hx, ← Bool.decide_or]
       exact decide_eq_decide.mpr (by simp)
     rw [← e, ec]
     exact HV
   have k12 : ∀ b o, b ≠ S -> h1.get? b = some o -> h2.get? b = some o := fun b o hb e => (sb.2 b hb).trans e
   refine aiz ⟨plainId_quiet aku _, ih (i + 1) h2 _ (by omega) (st1.1.at fun o e => k12 I o (aj2 hS1) e) (st1.2.at fun o e => k12 a o (aj2 hS2) e) hs3 fun h' Zh hk2 K4 => ?_⟩
   exact hR h' Zh (fun b o b1 b2 e => hk2 b o b1 b2 (k12 b o b1 (hk b o (by simp [b2]) e))) K4
theorem DY {a : Addr} {items : Array Value} {ns : List Str} {Q : Value -> Shared -> Prop} (hh : A.handled = none) (hl : s.heap.IsList a items) (hn : items.size = ns.length) (hb : ns.length + 1 < scanBound)
   (hv : ∀ (i : Nat) (v : Value), items[i]? = some v -> ∃ x t, ns[i]? = some x /\ v = Value.str x t)
   (hQ : ∀ h' tk, h'.SetOf (strKind prog w) s.heap.objs.size (m8 ns ns.length) (cD ns ns.length) -> (∀ b o, s.heap.get? b = some o -> h'.get? b = some o) -> Q (.ref s.heap.objs.size) { s with heap := h', toks := tk }) :
   wpAny (model prog w) A (call (.type "set") [.ref a]) Q E s := by
 obtain ⟨c, tl, q1⟩ := aj4.mro
 have q2 := aj4.made; have q3 := aj4.sub; have q4 := aj4.notType; have q5 := aj4.canCreate; have q6 := F.typeCall_set_1 (.ref a)
 refine wpAny_call (codeAny_of_tree (show wpAny _ _ (callAny (.type "set") _) _ _ _ from aiz ⟨Code.quiet_builtin _ (by decide +kernel), codeAny_builtin F.entry_type_call ?_⟩))
 rw [Around.under_plain (weight_type_call_type "set" [.ref a] []) rfl]
 repeat (any_goals (first | assumption | wp_step))
 refine akm (code_set_new_1 (.ref a) (E := E) (Q₁ := fun z s₁ => ∃ led : Bool, z = .ref s.heap.objs.size /\ s₁ = { s with heap := s.heap.push { cls := .type "set", dict := none, data := .set #[] 0 (.fresh 0 0 led) } }) fun led => ⟨led, rfl, rfl⟩) fun r s1 hr => ?_
 cases r with
 | error e => exact hr
 | ok fl =>
   cases fl with
   | ret z =>
     obtain ⟨led, rfl, rfl⟩ := hr
     have hS : (s.heap.push { cls := .type "set", dict := none, data := .set #[] 0 (.fresh 0 0 led) }).get? s.heap.objs.size = some { cls := .type "set", dict := none, data := .set #[] 0 (.fresh 0 0 led) } := aiR _ rfl
     have hT : Shared.TypeIs { s with heap := s.heap.push { cls := .type "set", dict := none, data := .set #[] 0 (.fresh 0 0 led) } } (.ref s.heap.objs.size) "set" := ⟨_, hS, rfl⟩
     have q7 := aj4.init.lookup; have q8 := aj4.init.bind (.ref s.heap.objs.size)
     repeat (any_goals (first | assumption | wp_step))
     refine akm (codeAny_call_builtin (R := wants (fun r s2 => r = .none /\ ∃ h' tk, s2 = { s with heap := h', toks := tk } /\ h'.SetOf (strKind prog w) s.heap.objs.size (m8 ns ns.length) (cD ns ns.length) /\ ∀ b o, s.heap.get? b = some o -> h'.get? b = some o) E) aj4.init.plain F.entry_set_init (check_set_init_1 hT ?body)) fun r2 s2 hr2 => ?back
     case back =>
       cases r2 with
       | error e => exact hr2
       | ok fl =>
         cases fl with
         | ret z =>
           obtain ⟨rfl, h', tk, rfl, hS', hk'⟩ := hr2
           repeat (any_goals (first | assumption | wp_step))
           exact hQ _ _ hS' hk'
         | _ => exact hr2.elim
     case body =>
       have h0 := hl
       obtain ⟨⟨oc, od, ob, os⟩, hol, hcl, nl, hdl⟩ := hl
       cases hcl
       cases hdl
       have afm : (s.heap.push { cls := .type "set", dict := none, data := .set #[] 0 (.fresh 0 0 led) }).get? a = some { cls := .type "list", dict := od, data := .seq items nl, slots := os } := aiv _ hol
       have hl1 : (s.heap.push { cls := .type "set", dict := none, data := .set #[] 0 (.fresh 0 0 led) }).IsList a items := ⟨_, afm, rfl, nl, rfl⟩
       have p1 := F.sub_list_set; have p2 := F.sub_list_frozenset
       have p3 : (Value.type "list" == Value.type "dict") = false := by decide
       have ha : a < s.heap.objs.size := aiF hol
       have hz : (s.heap.push { cls := .type "set", dict := none, data := .set #[] 0 (.fresh 0 0 led) }).objs.size = s.heap.objs.size + 1 := akr ..
       unfold Builtin.«set.__init__» noKeywords Builtin.Frozenset.updateFrom
       generalize hPI : pyIter = PI
       wp_walk
       subst hPI
       refine wpAny_pyIter_list hl1 (aim (wpAny_runValue ?_))
       refine M7 (A := A.in1.in1) (S := s.heap.objs.size) (by simp [hh]) (by rw [hz]; exact aiX (akx ha)) (by rw [hz]; exact aiX (Nat.lt_succ_self _)) (Nat.ne_of_gt ha) hn hb hv ns.length 0 _ _ (Nat.zero_add _) ⟨_, aiR _ rfl, rfl, rfl⟩ (hl1.push _) ?_ fun h' Zh hk hS' => ?_
       . have hg : ((s.heap.push { cls := .type "set", dict := none, data := .set #[] 0 (.fresh 0 0 led) }).push { cls := .type "list_iterator", data := .fields #[.ref a, .int 0 0] }).get? s.heap.objs.size = some { cls := .type "set", dict := none, data := .set #[] 0 (.fresh 0 0 led) } := aiv _ hS
         exact SetOf_congr ((setObjOf_fresh (knd := strKind prog w) led).setOf hg (by unfold scanBound; omega)) (fun q => by unfold m8; simp) rfl
       . refine aiz (aiz ⟨rfl, h', Zh, rfl, hS', fun b o e => hk b o (aiX (aiF e)) ?_ (aiv _ (aiv _ e))⟩)
         rw [hz]
         exact aiX (akx (aiF e))
   | _ => exact hr.elim
end
section
variable {X : Cx}
theorem IU (hc : X.calm = true) : tu X (.type "set") (fun xs H Q => ∃ (p : Addr) (ns : List Str), xs = [.ref p] /\ qk X.K H p (ns.map V.str) /\ ns.length <= 1000 /\ ∀ l, H l = none -> Q (.ref l) (upd H l (.ext (Qt X.prog X.w l (cD ns ns.length))))) := by
 intro pins s σ H xs us Q I r h
 obtain ⟨p, ns, rfl, hp, hn, q⟩ := h
 obtain ⟨u, rfl, ru⟩ := vals1 r
 cases ru
 obtain ⟨its, rv, pl, hz⟩ := I.list hp
 have hl : its.length = ns.length := by rw [← rv.length, aio]
 have hv : ∀ {ns : List Str} {us : List Value}, Vals (ns.map V.str) us -> ∀ (i : Nat) (v : Value), us[i]? = some v -> ∃ x t, ns[i]? = some x /\ v = Value.str x t := by
   intro ns
   induction ns with
   | nil => intro us h i v e; cases h; cases i <;> cases e
   | cons y ns ih =>
     intro us h i v e
     cases h with
     | cons r rr =>
       obtain ⟨t, rfl⟩ := r
       cases i with
       | zero => cases e; exact ⟨y, t, rfl, rfl⟩
       | succ i => exact ih rr i v e
 refine DY (ns := ns) (I.ok.hd hc) pl.isList (by rw [List.size_toArray, hl]) (by unfold scanBound; omega) (fun i v e => hv rv i v (by simpa using e)) fun h' tk hS ek => ?_
 have hS2 : Qt X.prog X.w s.heap.objs.size (cD ns ns.length) h' := ⟨_, hS⟩
 refine ⟨.ref s.heap.objs.size, _, I.laid (t' := tk) (o := .ext (Qt X.prog X.w s.heap.objs.size (cD ns ns.length))) ek (ait _) ⟨hS2, ?_, ?_⟩, rfl, q _ (I.dw.fresh (ait _))⟩
 . obtain ⟨_, o, _, _, _, e, _⟩ := hS2
   exact ⟨o, e⟩
 . rintro h1 h2 ⟨S, o, es, ep, t, e, rest⟩ k
   exact ⟨S, o, es, ep, t, k o e, rest⟩
end
section
variable {X : Cx} {CL : Str -> Addr} {b : Bx} {δ δ1 : List (Option T)} {e : Expr} {pos pp pq pr : Pos}
theorem IV {ns : List Str} (g : Gx X) (hm : X.mg "len" = none) (hmr : X.mg "set" = none) (h : cF X CL b e δ (.lst (ns.map D.str)) δ1) (hn : ns.length <= 1000) (hg : Gl X "len") (hgr : Gl X "set") (hs : starEach [e] X.env = (false, eval e X.env) :: starEach [] X.env := by exact aY rfl) :
   bR X CL b (.Call (.Name "len" pp) [.Call (.Name "set" pq) [e] [] pr] [] pos) δ (.sh (.int (cD ns ns.length : Nat))) δ1 := fun H Z σ ts vs Q S k =>
 bY (z6 DX hg hm PySem.boot_len (bG (ji (IU g.calm) hgr hmr M5 (bG cg dM hs) (he := hs)) dM (aY rfl)) (he := aY rfl)) (h H Z σ ts vs _ S fun v H1 Z1 z1 k1 S1 r => by
   cases r with
   | lst hq rr =>
   have eu := M6 rr
   refine ⟨_, ns, rfl, by rw [← eu]; exact hq, hn, fun r hr => ⟨r, cD ns ns.length, rfl, aE, aje (Lc ns ns.length) hn, ?_⟩⟩
   have same : aB H1 (upd H1 r (.ext (Qt X.prog X.w r (cD ns ns.length)))) := aB.upd hr
   obtain ⟨Z', z', S2⟩ := S1.back (t := .sh (.int (cD ns ns.length : Nat))) (v := .int (cD ns ns.length : Nat)) (fp := []) (W := Z1) (W' := Z1) same (.refl _) (.refl _) (S1.zh.trans same) (fun a o q z => by rw [q] at z; cases z) (fun a o q im => by
     by_cases ha : a = r
     . subst ha; rw [aE] at q; cases q; cases im
     . rw [aj ha] at q; exact S1.tp a o q im) (.sh (.int _)) ajI (fun a ha => by cases ha) (.inl rfl)
   exact k _ _ _ (z1.trans z') (k1.trans same) S2)
end
theorem Ld {ns : List Str} : ∀ i, i <= ns.length -> (cD ns i = i ↔ (ns.take i).Nodup)
 | 0, _ => by rw [List.take_zero]; exact ⟨fun _ => ajI, fun _ => rfl⟩
 | i + 1, hi => by
   have ih := Ld (ns := ns) i (by omega)
   have hle := Lc ns i
   have hx : ns[i]? = some (ns.getD i Str.empty) := by rw [ai6, aiG (by omega)]; rfl
   rw [ajt, hx, Option.toList_some, aiW, ← ih]
   show cD ns i + (if m8 ns i (ns.getD i Str.empty) = true then 0 else 1) = i + 1 ↔ _
   unfold m8
   by_cases z : ns.getD i Str.empty ∈ ns.take i
   . rw [aiC (aiA z)]
     refine ⟨fun q => by omega, fun q => absurd rfl (q.2.2 _ z _ (ajy.mpr rfl))⟩
   . rw [aiu (fun q => z (aiT q))]
     refine ⟨fun q => ⟨by omega, ai3.mpr ⟨aiD, ajI⟩, fun a ha c hc e => z ?_⟩, fun q => by omega⟩
     rw [← ajy.mp hc, ← e]
     exact ha
theorem Zi {ns : List Str} : cD ns ns.length = ns.length ↔ ns.Nodup := by
 have := Ld (ns := ns) ns.length (ait _)
 rwa [ajx] at this
inductive Cj where
 | ix (j : Nat) | fld (f : Str)
noncomputable def T.core : T -> T
 | .pin _ t => t
 | t => t
noncomputable def T.IW : T -> T -> T
 | .pin y _, u => .pin y u
 | _, u => u
noncomputable def T.Zj : Cj -> T -> Option T
 | .ix j, .lst ts => ts[j]?
 | .ix j, .tup ts => ts[j]?
 | .fld f, .ins _ fs => fs.lookup f
 | _, _ => none
noncomputable def T.Qx : Cj -> T -> T -> T
 | .ix j, .lst ts, u => .lst (ts.set j u)
 | .ix j, .tup ts, u => .tup (ts.set j u)
 | .fld f, .ins c fs, u => .ins c (qx f u fs)
 | _, t, _ => t
noncomputable def T.qP : List Cj -> T -> Option T
 | [], t => some t.core
 | s :: p, t => (t.core.Zj s).bind (T.qP p)
noncomputable def T.qQ : List Cj -> T -> T -> T
 | [], u, t => t.IW u
 | s :: p, u, t => match t.core.Zj s with
   | some k => t.IW (t.core.Qx s (T.qQ p u k))
   | none => t
noncomputable def UX (H : Hp) (v : V) : Cj -> V -> Prop
 | .ix j, w => ∃ a us, v = .ref a /\ (H a = some (.lst us) \/ H a = some (.tup us)) /\ us[j]? = some w
 | .fld f, w => ∃ a C dx gs, v = .ref a /\ H a = some (.ins C dx gs) /\ gs.lookup f = some w
noncomputable def Ck (H : Hp) : V -> List Cj -> V -> Prop
 | v, [], w => v = w
 | v, s :: p, w => ∃ u, UX H v s u /\ Ck H u p w
theorem UX.mono {H H' : Hp} (e : aB H H') {v w : V} {s : Cj} (h : UX H v s w) : UX H' v s w := by
 cases s with
 | ix j => obtain ⟨a, us, h1, h2, h3⟩ := h; exact ⟨a, us, h1, h2.imp (e _ _) (e _ _), h3⟩
 | fld f => obtain ⟨a, C, dx, gs, h1, h2, h3⟩ := h; exact ⟨a, C, dx, gs, h1, e _ _ h2, h3⟩
theorem UX.inj {H : Hp} {v w w' : V} {s : Cj} (h : UX H v s w) (q : UX H v s w') : w = w' := by
 cases s with
 | ix j =>
   obtain ⟨a, us, h1, h2, h3⟩ := h
   obtain ⟨a', OL, q1, q2, q3⟩ := q
   subst h1
   cases q1
   have e : us = OL := by
     rcases h2 with h2 | h2 <;> rcases q2 with q2 | q2 <;> rw [h2] at q2 <;> cases q2 <;> rfl
   subst e
   rw [h3] at q3
   exact aiN q3
 | fld f =>
   obtain ⟨a, C, dx, gs, h1, h2, h3⟩ := h
   obtain ⟨a', C', dx', gs', q1, q2, q3⟩ := q
   subst h1
   cases q1
   rw [h2] at q2
   cases q2
   rw [h3] at q3
   exact aiN q3
theorem Ck.mono {H H' : Hp} (e : aB H H') : ∀ {p : List Cj} {v w : V}, Ck H v p w -> Ck H' v p w
 | [], _, _, h => h
 | _ :: _, _, _, ⟨u, h, q⟩ => ⟨u, h.mono e, Ck.mono e q⟩
theorem Ck.inj {H : Hp} : ∀ {p : List Cj} {v w w' : V}, Ck H v p w -> Ck H v p w' -> w = w'
 | [], _, _, _, h, q => h.symm.trans q
 | _ :: _, _, _, _, ⟨_, h1, h2⟩, ⟨_, q1, q2⟩ => by
   have := h1.inj q1
   subst this
   exact Ck.inj h2 q2
theorem Ck.snoc {H : Hp} {s : Cj} : ∀ {p : List Cj} {v w z : V}, Ck H v p w -> UX H w s z -> Ck H v (p ++ [s]) z
 | [], _, _, z, h, q => by
   have h' : _ = _ := h
   subst h'
   exact ⟨z, q, rfl⟩
 | _ :: _, _, _, _, ⟨u, h1, h2⟩, q => ⟨u, h1, Ck.snoc h2 q⟩
section
variable {K : PySem.W.Frag} {CL : Str -> Addr} {b : Bx} {H H' Z Z' : Hp} {δ : List (Option T)} {σ : L2.St} {ts tl : List T} {vs us : List V} {t u t0 : T} {v v0 w : V} {fp : List Addr} {i : Nat} {p : List Cj}
theorem bu.Qy (h : bu K CL H Z t v fp) : bu K CL H Z t.core v fp /\ ∀ {H' Z' : Hp} {u : T} {g : List Addr}, bu K CL H' Z' u v g -> bu K CL H' Z' (t.IW u) v g := by
 cases h with
 | pin r => exact ⟨r, fun q => .pin q⟩
 | sh r => exact ⟨.sh r, fun q => q⟩
 | tup r q => exact ⟨.tup r q, fun q => q⟩
 | lst r q => exact ⟨.lst r q, fun q => q⟩
 | ins r q => exact ⟨.ins r q, fun q => q⟩
 | mY r q => exact ⟨.mY r q, fun q => q⟩
 | dct r q => exact ⟨.dct r q, fun q => q⟩
theorem cz.at {f : Str} {t : T} : ∀ (fs : List (Str × T)) {gs : List (Str × V)} {fp : List Addr}, cz K CL H Z fs gs fp -> fs.lookup f = some t -> ∃ w f1 f2 f3, gs.lookup f = some w /\ fp = f1 ++ (f2 ++ f3) /\ bu K CL H Z t w f2 ∧
   ∀ {H' : Hp} {t' : T} {g : List Addr}, (∀ a ∈ f1 ++ f3, H' a = H a) -> bu K CL H' Z t' w g -> cz K CL H' Z (qx f t' fs) gs (f1 ++ (g ++ f3)) := by
 intro fs
 induction fs with
 | nil => intro gs fp h e; cases e
 | cons p fs ih =>
   obtain ⟨x, t0⟩ := p
   intro gs fp h e
   cases h with
   | @cons _ _ v _ vs f0 g0 r rs =>
     rw [aiY] at e
     cases hx : f == x with
     | true =>
       rw [hx] at e
       cases e
       have hxe : x = f := (akq.mp hx).symm
       refine ⟨v, [], f0, g0, by rw [aiY, hx], rfl, r, fun {H' t' g} kk r' => ?_⟩
       rw [qx, aiC hxe]
       exact cz.cons (fp := g) (gp := g0) r' (rs.mono (.refl _) fun a ha => kk a (by simpa using ha))
     | false =>
       rw [hx] at e
       obtain ⟨w, f1, f2, f3, h1, h2, h3, h4⟩ := ih rs e
       subst h2
       refine ⟨w, f0 ++ f1, f2, f3, by rw [aiY, hx]; exact h1, by rw [ain], h3, fun {H' t' g} kk r' => ?_⟩
       rw [qx, aiu (fun z => by rw [z, akg] at hx; cases hx), ain]
       exact .cons (r.mono (.refl _) fun a ha => kk a (by simp [ha])) (h4 (fun a ha => kk a (by rw [ain]; exact ail _ ha)) r')
theorem bu.Zj {s : Cj} {k : T} (zh : aB Z H) (h : bu K CL H Z t v fp) (hk : t.Zj s = some k) : ∃ w f1 f2 f3, UX H v s w /\ fp = f1 ++ (f2 ++ f3) /\ bu K CL H Z k w f2 ∧
   ∀ {H' : Hp} {k' : T} {g : List Addr}, (∀ c ∈ f1 ++ f3, H' c = H c) -> bu K CL H' Z k' w g -> bu K CL H' Z (t.Qx s k') v (f1 ++ (g ++ f3)) := by
 cases s with
 | ix j =>
   cases h with
   | @lst a us ts g ha rs =>
     obtain ⟨w, f1, f2, f3, h1, h2, h3, h4⟩ := rs.at (j := j) (t := k) hk
     subst h2
     refine ⟨w, a :: f1, f2, f3, ⟨a, us, rfl, .inl ha, h1⟩, rfl, h3, fun {H' k' g} kk r' => ?_⟩
     have q := h4 (fun c hc => kk c (ais _ hc)) r'
     rw [gu h1] at q
     exact .lst ((kk a aiq).trans ha) q
   | @tup a us ts g ha rs =>
     obtain ⟨w, f1, f2, f3, h1, h2, h3, h4⟩ := rs.at (j := j) (t := k) hk
     subst h2
     refine ⟨w, f1, f2, f3, ⟨a, us, rfl, .inr (zh _ _ ha), h1⟩, rfl, h3, fun {H' k' g} kk r' => ?_⟩
     have q := h4 kk r'
     rw [gu h1] at q
     exact .tup ha q
   | _ => cases hk
 | fld f =>
   cases h with
   | @ins a dx c gs fs g ha rs =>
     obtain ⟨w, f1, f2, f3, h1, h2, h3, h4⟩ := cz.at fs rs (f := f) (t := k) hk
     subst h2
     refine ⟨w, a :: f1, f2, f3, ⟨a, _, dx, gs, rfl, ha, h1⟩, rfl, h3, fun {H' k' g} kk r' => ?_⟩
     exact .ins ((kk a aiq).trans ha) (h4 (fun c hc => kk c (ais _ hc)) r')
   | _ => cases hk
theorem bu.focus (zh : aB Z H) : ∀ (p : List Cj) {t u : T} {v : V} {fp : List Addr}, bu K CL H Z t v fp -> T.qP p t = some u -> ∃ w f1 f2 f3, Ck H v p w /\ fp = f1 ++ (f2 ++ f3) /\ bu K CL H Z u w f2 ∧
   ∀ {H' : Hp} {u' : T} {g : List Addr}, (∀ c ∈ f1 ++ f3, H' c = H c) -> bu K CL H' Z u' w g -> bu K CL H' Z (T.qQ p u' t) v (f1 ++ (g ++ f3))
 | [], t, u, v, fp, h, e => by
   obtain ⟨h1, h2⟩ := h.Qy
   cases e
   exact ⟨v, [], fp, [], rfl, by simp, h1, fun {H' u' g} _ r => by rw [ajw, aiK]; exact h2 r⟩
 | s :: p, t, u, v, fp, h, e => by
   obtain ⟨h1, h2⟩ := h.Qy
   rw [T.qP] at e
   cases hk : t.core.Zj s with
   | none => rw [hk] at e; cases e
   | some k =>
     rw [hk] at e
     obtain ⟨w1, a1, a2, a3, q1, q2, q3, q4⟩ := h1.Zj zh hk
     obtain ⟨w, f1, f2, f3, r1, r2, r3, r4⟩ := bu.focus zh p q3 e
     subst q2 r2
     refine ⟨w, a1 ++ f1, f2, f3 ++ a3, ⟨w1, q1, r1⟩, by simp only [ain], r3, fun {H' u' g} kk r' => ?_⟩
     rw [T.qQ, hk]
     have q := h2 (q4 (k' := T.qQ p u' k) (fun c hc => kk c (by
       rcases aix.mp hc with h | h
       . simp [h]
       . simp [h])) (r4 (fun c hc => kk c (by
       rcases aix.mp hc with h | h
       . simp [h]
       . simp [h])) r'))
     simpa only [List.append_assoc] using q
theorem aO.DZ (S : aO K CL b H Z δ σ ts vs) (ev : σ[i]? = some (some v0)) (hi : δ[i]? = some (some t0)) (hp : T.qP p t0 = some u) (yw : Ck H v0 p w) : ∃ f2 gp, bu K CL H Z u w f2 /\ aG K CL H Z ts vs gp /\ (f2 ++ gp).Nodup ∧
   ∀ {a : Addr} {o : HO} {u' : T} {tl' : List T} {OL : List V} {g K5 : List Addr}, w = .ref a -> a ∈ f2 -> mh o = false -> bu K CL (upd H a o) Z u' w g -> aG K CL (upd H a o) Z tl' OL K5 -> (g ++ K5).Nodup -> (∀ c ∈ g ++ K5, c ∈ f2 ++ gp) →
     aO K CL b (upd H a o) Z (δ.set i (some (T.qQ p u' t0))) σ tl' OL := by
 obtain ⟨fp, gp, e, r, nd, k⟩ := S.rep
 obtain ⟨v1, e1, e2, e3, hv, ql, rt, put, _⟩ := e.get hi
 rw [ev] at hv
 cases hv
 obtain ⟨w', f1, f2, f3, at', hf, ru, put2⟩ := rt.focus S.zh p hp
 have hw := at'.inj yw
 subst hw
 subst hf
 subst ql
 have hpm : ((e1 ++ ((f1 ++ (f2 ++ f3)) ++ e3)) ++ gp).Perm ((e1 ++ (f1 ++ (f3 ++ e3))) ++ (f2 ++ gp)) := ajQ.mpr fun c => by
   simp only [aj0]; omega
 have Ys := hpm.nodup_iff.mp nd
 have HL := aiW.mp Ys
 refine ⟨f2, gp, ru, r, HL.2.1, fun {a o u' tl' OL g K5} hwa ha hm hu ht hnd P4 => ?_⟩
 have hup : ∀ c ∈ e1 ++ (f1 ++ (f3 ++ e3)), upd H a o c = H c := fun c hc => aj fun z => HL.2.2 c hc a (air _ ha) z
 have q1 := put2 (H' := upd H a o) (fun c hc => hup c (by
   rcases aix.mp hc with h | h
   . simp [h]
   . simp [h])) hu
 have q2 := put (H' := upd H a o) (.refl _) (fun c hc => hup c (by
   rcases aix.mp hc with h | h
   . simp [h]
   . simp [h])) q1
 rw [gu ev] at q2
 have acC : ((e1 ++ ((f1 ++ (g ++ f3)) ++ e3)) ++ K5).Perm ((e1 ++ (f1 ++ (f3 ++ e3))) ++ (g ++ K5)) := ajQ.mpr fun c => by
   simp only [aj0]; omega
 refine S.An hm k (by simp [ha]) q2 ht (acC.nodup_iff.mpr (aiW.mpr ⟨HL.1, hnd, fun c hc d hd => HL.2.2 c hc d (P4 d hd)⟩)) fun c hc => ?_
 refine hpm.mem_iff.mpr ?_
 rcases aix.mp (acC.mem_iff.mp hc) with h | h
 . exact air _ h
 . exact ail _ (P4 c h)
theorem aO.UY (S : aO K CL b H Z δ σ ts vs) (ev : σ[i]? = some (some v0)) (hi : δ[i]? = some (some t0)) (hp : T.qP p t0 = some u) : ∃ w f2, Ck H v0 p w /\ bu K CL H Z u w f2 := by
 obtain ⟨fp, gp, e, r, nd, k⟩ := S.rep
 obtain ⟨v1, e1, e2, e3, hv, ql, rt, put, _⟩ := e.get hi
 rw [ev] at hv
 cases hv
 obtain ⟨w', f1, f2, f3, at', hf, ru, put2⟩ := rt.focus S.zh p hp
 exact ⟨w', f2, at', ru⟩
theorem aO.Zk {j : Nat} (S : aO K CL b H Z δ σ (t :: ts) (v :: vs)) (ev : σ[i]? = some (some v0)) (hi : δ[i]? = some (some t0)) (hp : T.qP p t0 = some (.lst tl)) (yw : Ck H v0 p w) (hj : j < tl.length) :
   ∃ a us, w = .ref a /\ H a = some (.lst us) /\ us.length = tl.length /\ aO K CL b (upd H a (.lst (us.set j v))) Z (δ.set i (some (T.qQ p (.lst (tl.set j t)) t0))) σ ts vs := by
 obtain ⟨f2, gp, ru, rr, nd, go⟩ := S.DZ ev hi hp yw
 cases ru with
 | @lst a us _ g ha rs =>
   cases rr with
   | @cons _ _ _ _ ft gr q1 q2 =>
     obtain ⟨w0, g1, g2, g3, h1, h2, h3, h4⟩ := rs.at (aiG hj)
     subst h2
     have ne : ∀ c ∈ (g1 ++ (g2 ++ g3)) ++ (ft ++ gr), c ≠ a := fun c hc z => by subst z; exact (ai3.mp nd).1 hc
     have sb : ((a :: (g1 ++ g3)) ++ (ft ++ gr)).Sublist ((a :: (g1 ++ (g2 ++ g3))) ++ (ft ++ gr)) := by
       simp only [aiP, ain]
       exact List.Sublist.cons₂ _ (ai9 (aja _) (aji _ _))
     have pm : ((a :: (g1 ++ (ft ++ g3))) ++ gr).Perm ((a :: (g1 ++ g3)) ++ (ft ++ gr)) := ajQ.mpr fun c => by simp only [aj0, List.count_cons]; omega
     exact ⟨a, us, rfl, ha, rs.length.symm, go rfl aiq rfl (.lst aE (h4 (fun c hc => aj (ne c (by
         rcases aix.mp hc with h | h
         . simp [h]
         . simp [h]))) (q1.mono (.refl _) fun c hc => aj (ne c (by simp [hc])))))
       (q2.mono (.refl _) fun c hc => aj (ne c (by simp [hc]))) (pm.nodup_iff.mpr (nd.sublist sb)) fun c hc => sb.subset (pm.mem_iff.mp hc)⟩
theorem aO.afo (S : aO K CL b H Z δ σ ts vs) (ev : σ[i]? = some (some v0)) (hi : δ[i]? = some (some t0)) (hp : T.qP p t0 = some (.lst (tl ++ [t]))) (yw : Ck H v0 p w) :
   ∃ a us x, w = .ref a /\ H a = some (.lst (us ++ [x])) /\ aO K CL b (upd H a (.lst us)) Z (δ.set i (some (T.qQ p (.lst tl) t0))) σ (t :: ts) (x :: vs) := by
 obtain ⟨f2, gp, ru, rr, nd, go⟩ := S.DZ ev hi hp yw
 cases ru with
 | @lst a us _ g ha rs =>
   obtain ⟨OL, x, g1, g2, e1, e2, r1, r2⟩ := Az rs
   subst e1
   subst e2
   have ne : ∀ c ∈ (g1 ++ g2) ++ gp, c ≠ a := fun c hc z => by subst z; exact (ai3.mp nd).1 hc
   have pm : ((a :: g1) ++ (g2 ++ gp)).Perm ((a :: (g1 ++ g2)) ++ gp) := ajQ.mpr fun c => by simp only [aj0, List.count_cons]; omega
   exact ⟨a, OL, x, rfl, ha, go rfl aiq rfl (.lst aE (r1.mono (.refl _) fun c hc => aj (ne c (by simp [hc]))))
     (.cons (r2.mono (.refl _) fun c hc => aj (ne c (by simp [hc]))) (rr.mono (.refl _) fun c hc => aj (ne c (by simp [hc])))) (pm.nodup_iff.mpr nd) fun c hc => pm.mem_iff.mp hc⟩
end
section
variable {X : Cx} {CL : Str -> Addr} {b : Bx} {δ δ1 : List (Option T)} {e e0 e2 : Expr} {t t0 t1 u : T} {tl : List T} {d : L3.D} {D : eo} {pos pa ps : Pos} {i : Nat} {x c f : Str} {fC : List Stmt} {p : List Cj} {fs : List (Str × T)}
noncomputable def Qz (X : Cx) (CL : Str -> Addr) (b : Bx) (e : Expr) (δ : List (Option T)) (i : Nat) (p : List Cj) : Prop :=
 ∀ (H Z : Hp) (σ : L2.St) (ts : List T) (vs : List V) (Q : VK), aO X.K CL b H Z δ σ ts vs -> (∀ v0 v H' Z', aB Z Z' -> aB H H' -> aO X.K CL b H' Z' δ σ ts vs -> σ[i]? = some (some v0) -> Ck H' v0 p v -> Q v H') -> F8 X e σ H Q
theorem g7 (n : Vn X i x) (h : δ[i]? = some (some t)) : Qz X CL b (.Name x pos) δ i [] := fun H Z σ ts vs Q S k => by
 obtain ⟨v, hv, _⟩ := S.look h
 exact bY (jo n.hi n.hv n.hd n.oR) ⟨v, hv, k v v H Z (.refl _) (.refl _) S hv rfl⟩
theorem Zm (hc : nJ X.K (CL c)) (n : aC X.K (CL c) f) (h : Qz X CL b e δ i p) (hi : δ[i]? = some (some t)) (hg : T.qP p t = some (.ins c fs)) (hl : fs.lookup f = some u) (hb : attributeBase e f X.env (eval e X.env) = eval e X.env := by rfl) :
   Qz X CL b (.Attribute e f pos) δ i (p ++ [.fld f]) := fun H Z σ ts vs Q S k =>
 bY (HZ cg hb) (h H Z σ ts vs _ S fun v0 v H' Z' z s S' ev yw => by
   obtain ⟨w, f2, at', r⟩ := S'.UY ev hi hg
   have := at'.inj yw
   subst this
   cases r with
   | @ins a dx _ gs _ g ha rs =>
     obtain ⟨w, _, _, _, hw, _, _, _⟩ := cz.at fs rs hl
     exact ⟨a, CL c, dx, gs, w, rfl, ha, hc, n, hw, k v0 w H' Z' z s S' ev (yw.snoc ⟨a, _, dx, gs, rfl, ha, hw⟩)⟩)
theorem nQ {z : Int} {j : Nat} (h : Qz X CL b e δ i p) (hi : δ[i]? = some (some t)) (hg : T.qP p t = some (.lst tl)) (h2 : cF X CL b e2 δ (.int z) δ) (hk : OB tl.length z = some j) (hp : oV e2 := by exact fun _ _ => rfl) :
   Qz X CL b (.Subscript e e2 pos) δ i (p ++ [.ix j]) := fun H Z σ ts vs Q S k =>
 bY (CH Dl cg cg hp) (h H Z σ ts vs _ S fun v0 v H' Z' z1 s1 S' ev yw => h2 H' Z' σ ts vs _ S' fun v2 H2 Z2 z2 s2 S2 r2 => by
   have at2 := yw.mono s2
   obtain ⟨w, f2, at', r⟩ := S2.UY ev hi hg
   have := at'.inj at2
   subst this
   cases r with
   | @lst a us _ g ha rs =>
     have hj : j < tl.length := (zG hk).2.1
     obtain ⟨w, _, _, _, hw, _, _, _⟩ := rs.at (aiG hj)
     refine ⟨a, us, z, w, rfl, r2.sc rfl, qk.of ha, ?_, k v0 w H2 Z2 (z1.trans z2) (s1.trans s2) S2 ev (at2.snoc ⟨a, us, rfl, .inl ha, hw⟩)⟩
     unfold yk
     rw [← rs.length, hk]
     exact hw)
theorem D0 (h : Qz X CL b e δ i p) (hi : δ[i]? = some (some t)) (hg : T.qP p t = some (.sh d)) : bR X CL b e δ (.sh d) δ := fun H Z σ ts vs Q S k =>
 h H Z σ ts vs _ S fun v0 v H' Z' z s S' ev yw => by
   obtain ⟨w, f2, at', r⟩ := S'.UY ev hi hg
   have := at'.inj yw
   subst this
   cases r with
   | sh r => exact k _ H' Z' z s (S'.push r)
theorem su (h : Qz X CL b e δ i p) (hi : δ[i]? = some (some t)) (hg : T.qP p t = some u) (hd : u.cu = d) : cF X CL b e δ d δ := fun H Z σ ts vs Q S k =>
 h H Z σ ts vs _ S fun v0 v H' Z' z s S' ev yw => by
   obtain ⟨w, f2, at', r⟩ := S'.UY ev hi hg
   have := at'.inj yw
   subst this
   subst hd
   exact k _ H' Z' z s S' (r.cu S'.zh fun _ _ => rfl)
theorem Zn {z : Int} {j : Nat} (h : bR X CL b e δ t δ1) (hE : Qz X CL b e0 δ1 i p) (h2 : cF X CL b e2 δ1 (.int z) δ1) (h1 : δ1[i]? = some (some t1)) (hp1 : T.qP p t1 = some (.lst tl)) (hk : OB tl.length z = some j) (kk : e9 X CL b fC (δ1.set i (some (T.qQ p (.lst (tl.set j t)) t1))) D)
   (ha : ∀ v, assign (.Subscript e0 e2 ps) X.env v = (do
     let ov ← holding [v] (eval e0 X.env)
     let iv ← holding [v, ov] (eval e2 X.env)
     standAt ps
     holding [v, ov, iv] (setItem ov iv v)
     release [v, ov, iv] []) := by intro _; rfl)
   (hs : swapsWithSole [.Subscript e0 e2 ps] e pos.line X.env = pure false := by rfl) (hw : swappedStores [.Subscript e0 e2 ps] e X.env = pure none := by rfl) (ha1 : (assignEach [.Subscript e0 e2 ps] X.env).map (·.2) = [assign (.Subscript e0 e2 ps) X.env] := by rfl) :
   e9 X CL b (.Assign [.Subscript e0 e2 ps] e pos :: fC) δ D := by
 refine bO fun H Z σ ts vs E S M => nM (XO cg (XM cg cg set_list ha) hs hw ha1) (h H Z σ ts vs _ S fun v H1 Z1 z1 k1 S1 => ?_)
 have hj : j < tl.length := (zG hk).2.1
 refine hE H1 Z1 σ _ _ _ S1 fun v0 w H2 Z2 z2 k2 S2 ev yw => h2 H2 Z2 σ _ _ _ S2 fun v2 H3 Z3 z3 k3 S3 r3 => ?_
 obtain ⟨a, us, ea, Yr, hu, S4⟩ := S3.Zk ev h1 hp1 (yw.mono k3) hj
 exact ⟨a, us, z, j, ea, r3.sc rfl, Yr, by rw [hu]; exact hk, M.nx _ σ _ Z3 (z1.trans (z2.trans z3)) S4 kk⟩
theorem UZ (hE : Qz X CL b e0 δ i p) (h : δ[i]? = some (some t0)) (hp : T.qP p t0 = some (.lst (tl ++ [t]))) (oj : attributeBase e0 "pop" X.env (eval e0 X.env) = eval e0 X.env := by rfl) (hline : (pa.endLine == pos.line) = true := by rfl) :
   lH X CL b (.Call (.Attribute e0 "pop" pa) [] [] pos) δ t (δ.set i (some (T.qQ p (.lst tl) t0))) := fun H Z σ ts vs Q S k =>
 bY (Yg aj6 PySem.F.slot_list_pop PySem.F.type_list_pop Yj cg oj hline) (hE H Z σ ts vs _ S fun v0 w H0 Z0 z0 s0 S0 ev yw => by
   obtain ⟨a, us, x, ea, ha, S2⟩ := S0.afo ev h hp yw
   subst ea
   refine ⟨.inl ⟨rfl, _, .inl (.inl ha)⟩, a, us ++ [x], x, rfl, rfl, ha, by simp, ?_⟩
   rw [List.dropLast_concat]
   exact k x _ Z0 z0 S2)
end
theorem cz.none {K : PySem.W.Frag} {CL : Str -> Addr} {H Z : Hp} {m : Str} : ∀ {fs : List (Str × T)} {gs : List (Str × V)} {fp : List Addr}, cz K CL H Z fs gs fp -> fs.lookup m = none -> gs.lookup m = none := by
 intro fs
 induction fs with
 | nil => intro gs fp r _; cases r; rfl
 | cons p fs ih =>
   intro gs fp r h
   cases r with
   | cons q r =>
     rw [aiY] at h ⊢
     split at h
     . cases h
     . exact ih r h
theorem lZ.none {K : PySem.W.Frag} {CL : Str -> Addr} {Z : Hp} {m : Str} : ∀ {fs : List (Str × D)} {gs : List (Str × V)}, lZ K CL Z fs gs -> fs.lookup m = none -> gs.lookup m = none := by
 intro fs
 induction fs with
 | nil => intro gs r _; cases r; rfl
 | cons p fs ih =>
   intro gs r h
   cases r with
   | cons q r =>
     rw [aiY] at h ⊢
     split at h
     . cases h
     . exact ih r h
theorem qR {p : T} {δ : List (Option T)} {ds : List D} : Keeps (some p :: δ) (p :: ds.map T.sh) := fun j y t h => by
 cases j with
 | zero => cases h; rfl
 | succ j =>
   have h' : (ds.map T.sh)[j]? = some (T.pin y t) := h
   rw [aiE] at h'
   cases e : ds[j]? with
   | none => rw [e] at h'; cases h'
   | some d => rw [e] at h'; cases h'
section
variable {X : Cx} {CL : Str -> Addr} {b : Bx} {δ δ1 δ2 : List (Option T)} {e : Expr} {p : Bool} {pos : Pos} {D : eo} {fC a c : List Stmt}
noncomputable def TTm (X : Cx) (CL : Str -> Addr) (b : Bx) (e : Expr) (δ : List (Option T)) (p : Bool) (δ' : List (Option T)) : Prop :=
 ∀ (H Z : Hp) (σ : L2.St) (ts : List T) (vs : List V) (Q : Bool -> Hp -> Prop), aO X.K CL b H Z δ σ ts vs -> (∀ H' Z', aB Z Z' -> aO X.K CL b H' Z' δ' σ ts vs -> Q p H') -> PY X e σ H Q
theorem Zo (h : TTm X CL b e δ p δ1) (h1 : p = true -> e9 X CL b a δ1 D) (h2 : p = false -> e9 X CL b c δ1 D) : MD X CL b (.If e a c pos) δ D := fun H Z σ ts vs E S M =>
 nM (WN WY MC MC) (h H Z σ ts vs _ S fun H1 Z1 z1 S1 => by
   cases p with
   | true => exact Im (h1 rfl H1 Z1 σ ts vs E S1 (M.mono z1))
   | false => exact Il (h2 rfl H1 Z1 σ ts vs E S1 (M.mono z1)))
theorem acE (h : TTm X CL b e δ p δ1) (h1 : p = true -> e9 X CL b a δ1 { D with nx := fun δ2 => e9 X CL b fC δ2 D }) (h2 : p = false -> e9 X CL b c δ1 { D with nx := fun δ2 => e9 X CL b fC δ2 D }) : e9 X CL b (.If e a c pos :: fC) δ D := bO (Zo h h1 h2)
end
noncomputable def Zq {α : Type} : Nat -> (List α -> Prop) -> Prop
 | 0, P => P []
 | n + 1, P => ∀ a, Zq n fun r => P (a :: r)
theorem pG {α : Type} {n : Nat} {P : List α -> Prop} (h : Zq n P) : ∀ us : List α, us.length = n -> P us := by
 intro us hl
 induction us generalizing n P with
 | nil => subst hl; exact h
 | cons a r ih => subst hl; exact ih (P := fun r => P (a :: r)) (h a) rfl
noncomputable abbrev qD (K : PySem.W.Frag) (x : Str) (f : Addr) : Prop := PySem.W.nsIn K mainGlobals x = some (some (.ref f))
theorem Zr (P : Program) (w : World) (mg : Str -> Option Value) (base : Heap) {K : PySem.W.Frag} {h : Heap} (CL : Str -> Addr) (XX : K.In h) (G : h.Ns mainGlobals mg) {x qual : Str} {st : Stmt} {f : Addr} {fd : FuncData} {N ps : List Str} (k : Nat) {A : Type} (arg : A -> List D) (Pre : A -> Prop) (res : A -> T) (F : nL K x qual st f fd) (S : aM N ps (ak st)) (m : qD K x f)
   (hb : ∀ (kh : Value) (Ar : Around) (outer : List Env) (s : Shared) (H : Hp) (E : XK) (b : Bx) (a : A), gA k (Ar.deeper (envOfC qual (ak st) s.heap.objs.size f kh)) -> cO (zY uQ P w K mg base N qual (ak st) f kh Ar outer s H E).TJ -> Pre a →
     e9 (zY uQ P w K mg base N qual (ak st) f kh Ar outer s H E).TJ CL b (dU st) (entry N (arg a)) { nx := fun _ => res a = .sh .non, rt := fun t _ => t = res a })
   (q : ∀ (kV doc pm : Value) (an : Option Addr) (kh ct : Value), Zq ps.length fun us => bindArgs (W.fnOf x qual (uW st) (dU st) (ak st) Value.none kV doc pm an kh ct) { pos := us } = pure (ps.zip us) := by (repeat intro _); rfl) :
   ∃ f fd ps', iE P w K mg base uQ (k + 1) f fd ps' (OG K CL ps.length arg Pre res) /\ mg x = some (.ref f) /\ PySem.W.keepIn K (.ref f) = true /\ Binds K fd ps' [] := ⟨f, fd, ps, K3 F S fun a b c d e f g h r p => hb a b c d e f g h r ⟨⟨S.nd, rfl, .never⟩, r.units⟩ p, aiZ XX G m, F.kp, F.binds fun a b c d e f => pG (q a b c d e f)⟩
section
variable {X : Cx} {CL : Str -> Addr} {b : Bx} {δ δ1 δ2 : List (Option T)} {e e1 e2 : Expr} {es : List Expr} {t : T} {d d1 d2 : L3.D} {tl : List T} {ds : List L3.D} {pos pp : Pos}
noncomputable def Zt (X : Cx) (CL : Str -> Addr) (b : Bx) (es : List Expr) (δ : List (Option T)) (tl : List T) (δ' : List (Option T)) : Prop :=
 ∀ (H Z : Hp) (σ : L2.St) (ts : List T) (vs : List V) (Q : List V -> Hp -> Prop), aO X.K CL b H Z δ σ ts vs →
   (∀ us H' Z', us.length = tl.length -> aB Z Z' -> aO X.K CL b H' Z' δ' σ (tl.reverse ++ ts) (us.reverse ++ vs) -> Q us H') -> Io X es σ H Q
theorem HG.m (h : HG X CL b es δ tl δ1) : Zt X CL b es δ tl δ1 := fun H Z σ ts vs Q S k => h H Z σ ts vs Q S fun v H' Z' l z _ S' => k v H' Z' l z S'
theorem ki : Zt X CL b [] δ [] δ := dN.m
theorem bC (h1 : lH X CL b e δ t δ1) (h2 : Zt X CL b es δ1 tl δ2) (hs : starEach (e :: es) X.env = (false, eval e X.env) :: starEach es X.env := by exact aY rfl) : Zt X CL b (e :: es) δ (t :: tl) δ2 := fun H Z σ ts vs Q S k =>
 Aa (bG cg HF hs) (h1 H Z σ ts vs _ S fun v H1 Z1 z1 S1 => h2 H1 Z1 σ _ _ _ S1 fun us H2 Z2 hl z2 S2 => k (v :: us) H2 Z2 (by simp [hl]) (z1.trans z2) (by
   rw [ajb, ajb, ain, ain]
   exact S2))
theorem D3 {op : Operator} {r : R2} {w1 w2 w : V} (ho : qC X (binaryOp op) r) (h1 : lH X CL b e1 δ (.sh d1) δ1) (h2 : lH X CL b e2 δ1 (.sh d2) δ2) (s1 : OD d1 = some w1) (s2 : OD d2 = some w2) (s3 : OD d = some w)
   (hr : ∀ (H : Hp) (Q : VK), Q w H -> r w1 w2 H Q) : lH X CL b (.BinOp e1 op e2 pos) δ (.sh d) δ2 := fun H Z σ ts vs Q S k => by
 refine bY (Ku ho cg cg) (h1 H Z σ ts vs _ S fun v1 H1 Z1 z1 S1 => h2 H1 Z1 σ _ _ _ S1 fun v2 H2 Z2 z2 S2 => ?_)
 have r2 := S2.view
 have r1 := S2.pop.view
 rw [T.cu] at r1 r2
 rw [r1.sc s1, r2.sc s2]
 exact hr H2 Q (k w H2 Z2 (z1.trans z2) (S2.pop.pop.push (K1 s3)))
theorem D4 {i j : Int} (h1 : lH X CL b e1 δ (.sh (.int i)) δ1) (h2 : lH X CL b e2 δ1 (.sh (.int j)) δ2) : lH X CL b (.BinOp e1 .Add e2 pos) δ (.sh (.int (i + j))) δ2 := D3 O6 h1 h2 rfl rfl rfl fun _ _ q => ⟨i, j, rfl, rfl, q⟩
theorem D5 {i j : Int} (h1 : lH X CL b e1 δ (.sh (.int i)) δ1) (h2 : lH X CL b e2 δ1 (.sh (.int j)) δ2) : lH X CL b (.BinOp e1 .Sub e2 pos) δ (.sh (.int (i - j))) δ2 := D3 O7 h1 h2 rfl rfl rfl fun _ _ q => ⟨i, j, rfl, rfl, q⟩
theorem QB {x y : Str} (h1 : lH X CL b e1 δ (.sh (.str x)) δ1) (h2 : lH X CL b e2 δ1 (.sh (.str y)) δ2) (c : x.length + y.length <= sizeLine) : lH X CL b (.BinOp e1 .Add e2 pos) δ (.sh (.str (x ++ y))) δ2 := D3 zX h1 h2 rfl rfl rfl fun _ _ q => ⟨x, y, rfl, rfl, c, q⟩
theorem Le (h : lH X CL b e δ t δ1) : lH X CL b e δ (.sh t.cu) δ1 := fun H Z σ ts vs Q S k => h H Z σ ts vs Q S fun v H1 Z1 z1 S1 => by
 obtain ⟨Z2, z2, S2⟩ := S1.Ab
 exact k v H1 Z2 (z1.trans z2) S2
theorem U0 {j : Nat} (h : Zt X CL b es δ tl δ1) (hl : tl.length <= sizeLine) : lH X CL b (.Tuple es j pos) δ (.tup tl) δ1 := fun H Z σ ts vs Q S k =>
 bY (Pj HF) (h H Z σ ts vs _ S fun us H1 Z1 hu z1 S1 => ⟨by rw [hu]; exact hl, fun p hp => by
   obtain ⟨a, c, S2⟩ := S1.Ad hu hp
   exact k _ _ _ (z1.trans a) S2⟩)
theorem jv {j : Nat} (h : Zt X CL b es δ (ds.map T.sh) δ1) (hl : ds.length <= sizeLine) : lH X CL b (.Tuple es j pos) δ (.sh (.tup ds)) δ1 := by
 have := Le (U0 (pos := pos) (j := j) h (by simpa using hl))
 rwa [T.cu, iR] at this
theorem U1 (h : Zt X CL b es δ tl δ1) (hl : tl.length <= sizeLine) : lH X CL b (.List es pos) δ (.lst tl) δ1 := fun H Z σ ts vs Q S k =>
 bY (Pk HF) (h H Z σ ts vs _ S fun us H1 Z1 hu z1 S1 => ⟨by rw [hu]; exact hl, fun p hp => by
   obtain ⟨c, S2⟩ := S1.pe (g0 := []) hu hp
   exact k _ _ _ z1 S2⟩)
theorem QC (h : lH X CL b e δ t δ1) (q : t.cu = d) : lH X CL b e δ (.sh d) δ1 := q ▸ Le h
theorem D6 {k : Int} (h1 : lH X CL b e1 δ (.sh (.lst ds)) δ1) (h2 : lH X CL b e2 δ1 (.sh (.int k)) δ2) (hk : yk ds k = some d) (hs : oV e2 := by exact fun _ _ => rfl) : lH X CL b (.Subscript e1 e2 pos) δ (.sh d) δ2 := fun H Z σ ts vs Q S kk =>
 bY (CH Dl cg cg hs) (h1 H Z σ ts vs _ S fun v1 H1 Z1 z1 S1 => h2 H1 Z1 σ _ _ _ S1 fun v2 H2 Z2 z2 S2 => by
   have r2 := S2.view
   rw [T.cu] at r2
   obtain ⟨fp, gp, _, r, _, _⟩ := S2.pop.rep
   cases r with
   | cons r _ =>
     cases r with
     | sh r =>
       cases r with
       | lst hq rr =>
         obtain ⟨v, hv, rv⟩ := zH rr hk
         exact ⟨_, _, k, v, rfl, r2.sc rfl, S2.zh.seq hq, hv, kk v H2 Z2 (z1.trans z2) (S2.pop.pop.push rv)⟩)
theorem QD {i : Int} (hm : X.mg "str" = none) (hg : Gl X "str") (h : lH X CL b e δ (.sh (.int i)) δ1) (hi : i.natAbs.log2 < 1920) (hs : starEach [e] X.env = (false, eval e X.env) :: starEach [] X.env := by exact aY rfl) :
   lH X CL b (.Call (.Name "str" pp) [e] [] pos) δ (.sh (.str (toString i))) δ1 := fun H Z σ ts vs Q S k =>
 bY (ji uS hg hm boot_str (bG cg dM hs) (he := hs)) (h H Z σ ts vs _ S fun v H1 Z1 z1 S1 => by
   have r := S1.view
   rw [T.cu] at r
   rw [r.sc rfl]
   exact ⟨i, rfl, hi, k _ H1 Z1 z1 (S1.pop.push (.str _))⟩)
theorem M8 {A : Type} {k n i : Nat} {x : Str} {y : Addr} {al : List Addr -> List T} {arg : A -> List T} {Pre : A -> Prop} {res : A -> T} {out : A -> List T} (a : A) (nt : T) (F : IQ X CL x k n arg Pre res out) (hg : Gl X x) (h : Tf X CL b (e :: es) δ [i] (fun ys => ys.headD 0 = y /\ True) al δ1) (hp : Pre a) (Qp : res a = t) (Zb : tH (out a) [y] [nt])
   (M0 : arg a = al [y] := by rfl) (hlen : (arg a).length = n := by rfl) (La : i < δ1.length := by exact aip rfl)
   (uT : (x == ("__debug__" : Str)) = false := by decide) (he : starEach (e :: es) X.env = (false, eval e X.env) :: starEach es X.env := by exact aY rfl) (qH : (backTo pos (starEach es X.env)).any (·.1) = false := by rfl) :
   lH X CL b (.Call (.Name x pp) (e :: es) [] pos) δ t (δ1.set i (some nt)) :=
 MZ (fun _ => a) nt F hg h (fun _ _ => hp) (fun _ _ => Qp) (fun z hz => (show z = y from hz.1) ▸ Zb) (fun z hz => (show z = y from hz.1) ▸ M0) (fun _ => hlen) La uT he qH
theorem Lf {i : Nat} {x : Str} {pos' pr pc : Pos} {n : Int} {D : eo} {body fC : List Stmt} (g : Gx X) (nm : Ln X i x) (P : Nat -> List (Option T) -> Prop) (hm : X.mg "range" = none) (hg : Gl X "range") (h : lH X CL b e δ (.sh (.int n)) δ1) (hn : -(2 ^ 62) <= n /\ n < 2 ^ 62) (h0 : P 0 δ1) (hl : ∀ j δ, P j δ -> i < δ.length)
   (hs : ∀ (j : Nat) δ, j < n.toNat -> P j δ -> e9 X CL b body (δ.set i (some (.sh (.int j)))) { nx := P (j + 1), rt := D.rt, bk := fun δ2 => e9 X CL b fC δ2 D, ct := P (j + 1) }) (hd : ∀ δ, P n.toNat δ -> e9 X CL b fC δ D)
   (Mj : starEach [e] X.env = [(false, eval e X.env)] := by rfl) (Iw : starEach [e] X.env = (false, eval e X.env) :: starEach [] X.env := by exact aY rfl)
   (hq : ∀ x, foldedSetIterable (.Call (.Name "range" pr) [e] [] pc) X.env x = pure x := by intro _; rfl) :
   e9 X CL b (.For (.Name x pos') (.Call (.Name "range" pr) [e] [] pc) body [] pos :: fC) δ D := bO fun H Z σ ts vs E S M =>
 nM (Dg g.xe g.calm (wR hg hm (bG cg dM Iw) Mj) (m5 g.nd nm.hi nm.loc nm.hf) MC hq) (h H Z σ ts vs _ S fun v H1 Z1 z1 S1 => by
   have r := S1.view
   rw [T.cu] at r
   refine ⟨n, by rw [r.sc rfl], hn.1, hn.2, Mq (lo := 0) (n := n.toNat) (fun j σ H2 => ∃ Z2 δ2, aB Z1 Z2 /\ aO X.K CL b H2 Z2 δ2 σ ts vs /\ P j δ2) ⟨Z1, δ1, .refl _, S1.pop, h0⟩ ?_ ?_⟩
   . rintro j σ H2 hj ⟨Z2, δ2, s, S2, p2⟩
     rw [ajz]
     have S3 := (S2.push (.int (j : Int))).set (hl j δ2 p2)
     refine hs j δ2 hj p2 H2 Z2 _ ts vs _ S3 ⟨fun δ' σ' H' Z' s' S' k => ⟨Z', δ', s.trans s', S', k⟩, fun t v H' Z' δ' σ' s' S' k => M.rt t v H' Z' δ' σ' (z1.trans (s.trans s')) S' k, fun δ' σ' H' Z' s' S' k => M.nx δ' σ' H' Z' (z1.trans (s.trans s')) S' k, fun δ' σ' H' Z' s' S' k => ⟨Z', δ', s.trans s', S', k⟩⟩
   . rintro σ H2 ⟨Z2, δ2, s, S2, p2⟩
     exact M.nx δ2 σ H2 Z2 (z1.trans s) S2 (hd δ2 p2))
end
noncomputable def Cm (δ : List (Option T)) (ix : List Nat) (i : Nat) (t : T) : List (Option T) := ix.map fun k => if k = i then some t else YJ δ[k]?
section
variable {K : PySem.W.Frag} {CL : Str -> Addr} {b : Bx} {H H' Z Z' : Hp} {δ : List (Option T)} {σ : L2.St} {ts tl : List T} {vs : List V} {t : T} {v : V} {i : Nat} {fp : List Addr} {d : D}
theorem QF {ix : List Nat} (h : i ∉ ix) : Cm δ ix i t = Ag δ ix := ajk fun k hk => aiu fun (e : k = i) => h (e ▸ hk)
theorem U3 {o : Option (Option T)} {w : Option V} {r : List (Option T)} {σ' : L2.St} (S : aO K CL b H Z δ σ ts vs) (zz : aB Z Z') (k : Nat) (ih : cG K CL H' Z' r σ' fp) : cG K CL H' Z' (YJ δ[k]? :: r) ((σ[k]?).getD none :: σ') fp := by
 cases e : δ[k]? with
 | none => exact .skip ih
 | some o =>
   cases o with
   | none => exact .skip ih
   | some t =>
     cases t with
     | sh d =>
       obtain ⟨v, hv, rv⟩ := S.P1 e
       rw [hv]
       exact cG.cons (fp := []) (.sh (rv.mono zz)) ih
     | _ => exact .skip ih
theorem Gz (S : aO K CL b H Z δ σ ts vs) (zz : aB Z Z') (hv : σ[i]? = some (some v)) (rt : bu K CL H' Z' t v fp) : ∀ {ix : List Nat}, i ∈ ix -> ix.Nodup -> cG K CL H' Z' (Cm δ ix i t) (ix.map fun k => (σ[k]?).getD none) fp
 | [], h, _ => absurd h aiD
 | k :: r, h, nd => by
   have nd := ai3.mp nd
   show cG K CL H' Z' ((if k = i then some t else YJ δ[k]?) :: Cm δ r i t) (((σ[k]?).getD none) :: r.map fun k => (σ[k]?).getD none) fp
   by_cases e : k = i
   . subst e
     rw [aiC rfl, hv, QF nd.1]
     have q : cG K CL H' Z' (Ag δ r) (r.map fun k => (σ[k]?).getD none) [] := (Ah S r H').mono zz fun a ha => absurd ha aiD
     have := cG.cons (δ := Ag δ r) rt q
     rwa [aiK] at this
   . rw [aiu e]
     exact U3 (o := none) (w := none) S zz k (Gz S zz hv rt ((aiw.mp h).resolve_left fun z => e z.symm) nd.2)
theorem AA (hv : σ[i]? = some (some v)) : ∀ {ix : List Nat} {fp : List Addr}, i ∈ ix -> cG K CL H Z (Cm δ ix i t) (ix.map fun k => (σ[k]?).getD none) fp -> ∃ f3, bu K CL H Z t v f3 /\ f3.Sublist fp
 | [], _, h, _ => absurd h aiD
 | k :: r, fp, h, q => by
   have q : cG K CL H Z ((if k = i then some t else YJ δ[k]?) :: Cm δ r i t) (((σ[k]?).getD none) :: r.map fun k => (σ[k]?).getD none) fp := q
   by_cases e : k = i
   . subst e
     rw [aiC rfl, hv] at q
     cases q with
     | cons rt _ => exact ⟨_, rt, List.sublist_append_left _ _⟩
   . rw [aiu e] at q
     have hm := (aiw.mp h).resolve_left fun z => e z.symm
     generalize YJ δ[k]? = o at q
     generalize (σ[k]?).getD none = w at q
     cases q with
     | skip q => exact AA hv hm q
     | cons _ q2 =>
       obtain ⟨f3, h1, h2⟩ := AA hv hm q2
       exact ⟨f3, h1, h2.trans (aji _ _)⟩
theorem aO.Zu {D : Addr} (S : aO K CL b H Z δ σ (.sh d :: .lst tl :: ts) (v :: .ref D :: vs)) : ∃ us, H D = some (.lst us) /\ us.length = tl.length /\ aO K CL b (upd H D (.lst (us ++ [v]))) Z δ σ (.lst (tl ++ [.sh d]) :: ts) (.ref D :: vs) := by
 obtain ⟨fp, gp, e, r, nd, k⟩ := S.rep
 cases r with
 | cons r1 r2 =>
   cases r1 with
   | sh rd =>
     cases r2 with
     | cons r2 r3 =>
       cases r2 with
       | @lst a us _ g ha rs =>
         rename_i gr
         rw [ajw] at nd k
         have pm : (fp ++ ((D :: g) ++ gr)).Perm (D :: (fp ++ (g ++ gr))) := by
           rw [aiP]
           exact ajn
         have ne : ∀ c ∈ fp ++ (g ++ gr), c ≠ D := fun c hc z => by
           subst z
           exact (ai3.mp (pm.nodup_iff.mp nd)).1 hc
         refine ⟨us, ha, rs.length.symm, S.An rfl k (by simp) (e.mono (.refl _) fun c hc => aj (ne c (by simp [hc]))) (.cons (.lst aE (aG.app (rs.mono (.refl _) fun c hc => aj (ne c (by simp [hc]))) (.cons (.sh rd) .nil))) (r3.mono (.refl _) fun c hc => aj (ne c (by simp [hc])))) ?_ fun c hc => ?_⟩
         . simpa using nd
         . simpa using hc
end
section
variable {X : Cx} {CL : Str -> Addr} {b : Bx} {δ δ1 : List (Option T)} {scope : Scope} {x : Str} {Nc : List Str} {ix : List Nat} {elt e : Expr} {px pr pc pos : Pos} {i n : Nat} {y : Addr}
theorem M9 (t : Nat -> T) (gv : Nat -> L3.D) (sc : g6 X scope x Nc ix) (hc : X.calm = true) (hm : X.mg "range" = none) (hg : Gl X "range") (h : lH X CL b e δ (.sh (.int n)) δ1) (hn : n <= 1000) (hi : δ1[i]? = some (some (.pin y (t 0)))) (Xc : i ∈ ix) (hnd : ix.Nodup)
   (inner : ∀ C s0 H0 f0 b' (j : Nat), j < n -> lH (bP X scope Nc C s0 H0 f0) CL b' elt (some (.sh (.int j)) :: Cm δ1 ix i (.pin y (t j))) (.sh (gv j)) (some (.sh (.int j)) :: Cm δ1 ix i (.pin y (t (j + 1)))))
   (Mj : starEach [e] X.env = [(false, eval e X.env)] := by rfl) (Iw : starEach [e] X.env = (false, eval e X.env) :: starEach [] X.env := by exact aY rfl)
   (hs : ∀ x, foldedSetIterable (.Call (.Name "range" pr) [e] [] pc) X.env x = pure x := by intro _; rfl) :
   lH X CL b (.ListComp elt [⟨.Name x px, .Call (.Name "range" pr) [e] [] pc, [], 0⟩] scope pos) δ (.lst ((List.range n).map fun j => T.sh (gv j))) (δ1.set i (some (.pin y (t n)))) := fun H Z σ ts vs Q S k pins s I => by
 rw [eval_ListComp]
 refine akp (use := none) rfl hs (Iz sc I) sc.kind sc.names ?_
 refine cN ((wR (tg := .Name x px) hg hm (bG cg dM Iw) Mj) pins s σ H (fun J H1 => J = WO 0 n /\ ∃ Z1, aB Z Z1 /\ aO X.K CL b H1 Z1 δ1 σ ts vs) I (h H Z σ ts vs _ S fun v H1 Z1 z1 S1 => ?_)) fun v s1 h1 => cN h1 fun itv s2 zz => ?_
 . have r := S1.view
   rw [T.cu] at r
   exact ⟨n, by rw [r.sc rfl], by omega, by omega, by rw [ajq], Z1, z1, S1.pop⟩
 obtain ⟨it, fp, tn, J, H1, e0, I1, Tn, st, hf, rfl, Z1, z1, S1⟩ := zz
 subst e0
 have La : i < δ1.length := by
   rcases Nat.lt_or_ge i δ1.length with h | h
   . exact h
   . rw [List.getElem?_eq_none h] at hi; cases hi
 refine MF (G := fun D H' => ∃ Z', aB Z1 Z' /\ aO X.K CL b H' Z' (δ1.set i (some (.pin y (t n)))) σ (.lst ((List.range n).map fun j => T.sh (gv j)) :: ts) (.ref D :: vs)) (RR := fun acc C => compPost (model X.prog X.w) X.A X.xe none (EP X pins σ Q) acc C) sc hc I1 Tn st hf (fun D hD => ?_) fun D C' s' H' m io nC ch ci ⟨Z', z', S'⟩ => ?_
 . refine ⟨fun j m H2 => m = n - j /\ j <= n /\ ∃ Z2, aB Z1 Z2 /\ aO X.K CL b H2 Z2 (δ1.set i (some (.pin y (t j)))) σ (.lst ((List.range j).map fun j => T.sh (gv j)) :: ts) (.ref D :: vs), ⟨n, rfl, ai5 _, Z1, .refl _, ?_⟩, ?_⟩
   . rw [gu hi]
     exact (aO.pe (tl := []) (us := []) (g0 := []) S1 rfl hD).2
   rintro j m H2 ⟨rfl, hj, Z2, z2, S2⟩
   by_cases oS : j < n
   . refine .inr ⟨oS, fun H' => ∃ Z2, aB Z1 Z2 /\ aO X.K CL b H' Z2 (δ1.set i (some (.pin y (t (j + 1))))) σ (.lst ((List.range (j + 1)).map fun j => T.sh (gv j)) :: ts) (.ref D :: vs), fun H' h => ⟨n - (j + 1), by omega, rfl, oS, h⟩, fun xv H3 yy C s0 H0 f0 => ?_⟩
     obtain ⟨rfl, rfl⟩ := yy
     unfold Qa
     dsimp only
     rw [aiC rfl]
     obtain ⟨v0, ev, Sm⟩ := S2.move (akc La)
     have hv0 : v0 = .ref y := by
       obtain ⟨_, _, _, r, _, _⟩ := Sm.rep
       cases r with
       | cons r _ => cases r; rfl
     subst hv0
     rw [List.set_set] at Sm
     obtain ⟨gp, r, nd, Sc⟩ := aO.cut (tl := [.pin y (t j)]) (us := [.ref y]) Sm rfl
     have Y0 : ∀ u : T, Cm (δ1.set i (some (.pin y (t j)))) ix i u = Cm δ1 ix i u := fun u => ajk fun q _ => by
       by_cases e : q = i
       . rw [aiC e, aiC e]
       . rw [aiu e, aiu e, List.getElem?_set_ne fun z => e z.symm]
     obtain ⟨g1, r1, hg1⟩ : ∃ g1, bu X.K CL H3 Z2 (.pin y (t j)) (.ref y) g1 /\ gp = g1 := by
       cases r with
       | cons r1 r2 =>
         cases r2
         exact ⟨_, r1, by rw [aiK]⟩
     subst hg1
     have zn : ∀ c ∈ gp, Z2 c = none := fun c hc => by
       cases q : Z2 c with
       | none => rfl
       | some o => exact absurd hc (j4 (Sc.zh c o q)).1
     have acF := Gz (ix := ix) S2 (.refl _) ev r1 Xc hnd
     rw [Y0] at acF
     have S0 : aO X.K CL ⟨sV H3 gp, Z2⟩ H3 Z2 (some (.sh (.int (j : Int))) :: Cm δ1 ix i (.pin y (t j))) (mD σ ix (some (.int (0 + (j : Int))))) [] [] :=
       ⟨⟨[] ++ gp, [], .cons (by rw [ajz]; exact .sh (.int _)) acF, .nil, by rw [aiK]; exact nd, fun c hc => by
         have hc : c ∈ gp := by simpa using hc
         exact ⟨zn c hc, u5 hc⟩⟩, fun c o q => (j4 q).2, .refl _, S2.zh, fun c o q z => (by have z' : Z2 c = none := z; rw [show Z2 c = some o from q] at z'; cases z'), S2.tp, S2.P0⟩
     refine inner C s0 H0 f0 ⟨sV H3 gp, Z2⟩ j oS H3 Z2 _ [] [] _ S0 fun yv H5 Z5 z5 S5 => ?_
     obtain ⟨f1, g5, e1, r5, nd5, afq⟩ := S5.rep
     cases r5 with
     | cons ry rn =>
       cases rn
       cases ry with
       | sh ry =>
         cases e1 with
         | @cons _ _ _ _ f0 f2 rk e2 =>
           obtain ⟨f3, rp, sb⟩ := AA ev Xc e2
           have nf : f2.Nodup := by
             have := (aiW.mp nd5).1
             exact (aiW.mp this).2.1
           have S6 := Sc.W9 (H' := H5) (W' := Z5) (tl := [.pin y (t (j + 1)), .sh (gv j)]) (us := [.ref y, yv]) (fp := f3 ++ ([] ++ [])) S5.bh z5 S5.zh S5.new S5.tp (.cons rp (.cons (.sh ry) .nil)) (by simpa using nf.sublist sb) (fun c hc => by
             have hc : c ∈ f3 := by simpa using hc
             exact afq c (air _ (ail _ (sb.subset hc))))
           have S7 := aO.set (i := i) S6 (by rw [List.length_set]; exact La)
           rw [gu ev, List.set_set] at S7
           obtain ⟨us, hus, hul, S8⟩ := aO.Zu S7
           refine ⟨us, hus, ?_, Z5, z2.trans z5, ?_⟩
           . rw [hul, aio, ajc]
             have := ajg
             exact ai0 (show j < 1000 by omega) (by rw [ajg]; decide)
           . rw [ajX, aiL]
             exact S8
   . have ej : j = n := by omega
     subst ej
     exact .inl ⟨ait _, Z2, z2, S2⟩
 . obtain ⟨m, hn'⟩ := m
   exact ⟨m, hn', fun h' K4 => ⟨.ref D, H', ci h' K4, rfl, k _ H' Z' (z1.trans z') S'⟩⟩
end
section
variable {X : Cx} {CL : Str -> Addr} {b : Bx} {δ δ1 δ2 : List (Option T)} {e1 e2 : Expr} {pos : Pos} {x : Str}
theorem QG {scope : Scope} {Nc : List Str} {C : Addr} {s : Shared} {H : Hp} {fp : List Addr} {k n : Nat} {A : Type} {arg out : A -> List T} {Pre : A -> Prop} {res : A -> T} (F : IQ X CL x k n arg Pre res out) : IQ (bP X scope Nc C s H fp) CL x k n arg Pre res out := ⟨F.ex, F.room⟩
theorem U4 {i j : Int} (h1 : lH X CL b e1 δ (.sh (.int i)) δ1) (h2 : cF X CL b e2 δ1 (.int j) δ2) : TTm X CL b (.Compare e1 [.Eq] [e2] pos) δ (decide (i = j)) δ2 := fun H Z σ ts vs Q S k =>
 yJ (oU Ky cg cg (nI _)) (h1 H Z σ ts vs _ S fun v1 H1 Z1 z1 S1 => h2 H1 Z1 σ _ _ _ S1 fun v2 H2 Z2 z2 s2 S2 r2 => by
   have r1 := S2.view
   rw [T.cu] at r1
   rw [r1.sc rfl, r2.sc rfl]
   exact ⟨rfl, _, rfl, by rw [show decide (V.int i = V.int j) = decide (i = j) by simp]; exact k H2 Z2 (z1.trans z2) S2.pop⟩)
end
section
variable {X : Cx} {CL : Str -> Addr} {b : Bx} {δ δ1 δ2 : List (Option T)} {e e2 : Expr} {t t0 : T} {tl YG : List T} {ds : List L3.D} {pos pp pa pb p2 : Pos} {i : Nat} {x : Str} {fC : List Stmt} {DD : eo}
theorem nR {t2 : T} (h : lH X CL b e δ t δ1) (q : t = t2) : lH X CL b e δ t2 δ1 := q ▸ h
theorem QH (hm : X.mg "tuple" = none) (h : lH X CL b e δ (.lst (ds.map T.sh)) δ1) (hi : D.bK ds = true) (hg : Gl X "tuple") (hs : starEach [e] X.env = (false, eval e X.env) :: starEach [] X.env := by exact aY rfl) : lH X CL b (.Call (.Name "tuple" pp) [e] [] pos) δ (.sh (.tup ds)) δ1 := fun H Z σ ts vs Q S k =>
 bY (ji nK hg hm qL (bG cg dM hs) (he := hs)) (h H Z σ ts vs _ S fun v H1 Z1 z1 S0 => by
   have r := S0.view
   rw [T.cu, iR] at r
   have S1 := S0.pop
   cases r with
   | lst hq rr =>
     refine ⟨_, _, rfl, .inl ⟨hq, fun l hl => ?_⟩⟩
     obtain ⟨a, c, S2⟩ := (aO.tE (aF.kX S1.tp hi rr) S1).Ad (by simp [rr.length]) hl
     obtain ⟨Z3, z3, S3⟩ := S2.Ab
     rw [T.cu, iR] at S3
     exact k _ _ Z3 (z1.trans (a.trans z3)) S3)
theorem IX (n : Vn X i x) (h0 : δ[i]? = some (some (.lst YG))) (h : lH X CL b e δ t δ1) (h1 : δ1[i]? = some (some (.lst tl))) (hl : tl.length <= 1000000) (k : e9 X CL b fC (δ1.set i (some (.lst (tl ++ [t])))) DD)
   (oj : attributeBase (.Name x pp) "append" X.env (eval (.Name x pp) X.env) = eval (.Name x pp) X.env := by rfl)
   (Ds : ((backTo pb (starEach [e] X.env)).all (fun x => !x.1) && (backToKw pb (keywordEach [] X.env)).all (fun x => x.1.isSome) && decide ([e].length + ([] : List Keyword).length + (if ([] : List Keyword).isEmpty then 0 else 1) < 30)) = true := by rfl)
   (hline : (pa.endLine == pb.line) = true := by rfl) (hs : starEach [e] X.env = (false, eval e X.env) :: starEach [] X.env := by exact aY rfl) (Gd : swapsWith (.Call (.Attribute (.Name x pp) "append" pa) [e] [] pb) none pos.line X.env = pure false := by rfl) :
   e9 X CL b (.Expr (.Call (.Attribute (.Name x pp) "append" pa) [e] [] pb) pos :: fC) δ DD := bO fun H Z σ ts vs E S M =>
 nM (zF (PD aj6 PySem.F.slot_list_append PySem.F.type_list_append rZ (jo n.hi n.hv n.hd n.oR) (bG cg dM hs) oj Ds hline hs rfl) Gd) (by
   obtain ⟨v0, e0, r0⟩ := S.look h0
   refine ⟨v0, e0, ?_, ?_⟩
   . rw [T.cu] at r0
     cases r0 with
     | lst hq _ => exact .inl ⟨rfl, _, hq⟩
   . refine h H Z σ ts vs _ S fun v H1 Z1 z1 S1 => ?_
     obtain ⟨a, us, ea, ha, hu, S2⟩ := S1.append h1
     rw [e0] at ea
     cases ea
     exact ⟨a, us, v, rfl, rfl, ha, by rw [hu]; exact ajH hl (by rw [ajg]; decide), M.nx _ σ _ Z1 z1 S2 k⟩)
theorem Nb {h : Int} (h1 : bR X CL b e δ (.sh (.lst ds)) δ1) (hi1 : D.bK ds = true) (h3 : lH X CL b e2 δ1 (.sh (.int h)) δ2) : lH X CL b (.Subscript e (.Slice none (some e2) none p2) pos) δ (.lst ((cutD ds none (some h)).map T.sh)) δ2 := fun H Z σ ts vs Q S k => by
 refine bY (z8 KN cg KJ (KL cg)) (h1 H Z σ ts vs _ S fun v H1 Z1 z1 k1 S1 => h3 H1 Z1 σ _ _ _ S1 fun v2 H2 Z2 z2 S2 => ?_)
 have r2 := S2.view
 rw [T.cu] at r2
 refine ⟨h, r2.sc rfl, ?_⟩
 have r := S2.pop.view
 rw [T.cu] at r
 have S3 := S2.pop.pop
 cases r with
 | lst hq rr =>
   refine ⟨_, _, rfl, hq, fun p hp => ?_⟩
   have rc := aF.kX S3.tp (zJ fun d hd => Ak hi1 d (K6 hd)) (rr.cut none (some h))
   obtain ⟨c, S4⟩ := (aO.tE rc S3).pe (g0 := []) (by simp [rc.length]) hp
   exact k _ _ _ (z1.trans z2) S4
theorem afr {A : Type} {k n i2 : Nat} {x2 : Str} {e1 : Expr} {d d1 : L3.D} {t2 : T} {p3 : Pos} {arg : A -> List T} {Pre : A -> Prop} {res : A -> T} {out : A -> List T} (a : Addr -> A) (F : IQ X CL x k n arg Pre res out) (hg : Gl X x) (h : bR X CL b e δ t0 δ1) (ho : t0.isRef = true) (h1 : bR X CL b e1 δ1 (.sh d1) δ1) (n2 : Vn X i2 x2) (Xd : δ1[i2]? = some (some t2)) (hp : ∀ y, Pre (a y)) (Qp : ∀ y, res (a y) = .sh d) (hd : d.kX = true)
   (M0 : ∀ y, arg (a y) = [.pin y t0, .sh d1, .sh t2.cu]) (hlen : 3 = n := by rfl)
   (uT : (x == ("__debug__" : Str)) = false := by decide) (he : starEach [e, e1, .Name x2 p3] X.env = (false, eval e X.env) :: starEach [e1, .Name x2 p3] X.env := by exact aY rfl) (he1 : starEach [e1, .Name x2 p3] X.env = (false, eval e1 X.env) :: starEach [.Name x2 p3] X.env := by exact aY rfl) (he2 : starEach [.Name x2 p3] X.env = (false, eval (.Name x2 p3) X.env) :: starEach [] X.env := by exact aY rfl) (qH : (backTo pos (starEach [e1, .Name x2 p3] X.env)).any (·.1) = false := by rfl) :
   lH X CL b (.Call (.Name x pp) [e, e1, .Name x2 p3] [] pos) δ (.sh d) δ1 := by
 obtain ⟨⟨f, fd, ps, G, m, q, bd⟩, r⟩ := F
 intro H Z σ ts vs Q S kk
 refine bY (Di G r hg m q bd .nil CK (bG cg (bG cg (bG (jo n2.hi n2.hv n2.hd n2.oR) dM he2) he1) he) uT he qH) (h H Z σ ts vs _ S fun v0 H1 Z1 z1 k1 S1 => h1 H1 Z1 σ _ _ _ S1 fun v1 H2 Z2 z2 k2 S2 => ?_)
 obtain ⟨v2, e2, _⟩ := S2.look Xd
 refine ⟨v2, e2, ?_⟩
 have r1 := S2.Qk
 obtain ⟨g, rr, nd, S3⟩ := aO.cut (tl := [t0]) (us := [v0]) S2.pop rfl
 obtain ⟨y, ey, rp⟩ : ∃ y, v0 = .ref y /\ bu X.K CL H2 Z2 (.pin y t0) (.ref y) g := by
   cases rr with
   | cons r1 r2 =>
     cases r2
     rw [aiK]
     cases r1 with
     | sh r => cases ho
     | tup r _ => cases ho
     | pin r => cases ho
     | lst r q => exact ⟨_, rfl, .pin (.lst r q)⟩
     | ins r q => exact ⟨_, rfl, .pin (.ins r q)⟩
     | mY r q => exact ⟨_, rfl, .pin (.mY r q)⟩
     | dct r q => exact ⟨_, rfl, .pin (.dct r q)⟩
 subst ey
 have r2 : aZ X.K CL (sV H2 g) t2.cu v2 := by
   obtain ⟨fp, gp, e, _, _, _⟩ := S3.rep
   obtain ⟨v', _, f2, _, hv, _, rt, _, _⟩ := e.get Xd
   rw [e2] at hv
   cases hv
   exact rt.cu S3.zh fun _ _ => rfl
 have ra : aG X.K CL H2 (sV H2 g) (arg (a y)) [.ref y, v1, v2] (g ++ ([] ++ ([] ++ []))) := by
   rw [M0]
   exact .cons (rp.mono S3.zh fun _ _ => rfl) (.cons (.sh (r1.mono S3.zh)) (.cons (.sh r2) .nil))
 rw [show g ++ ([] ++ ([] ++ [])) = g by simp] at ra
 have zn : ∀ c ∈ g, Z2 c = none := fun c hc => by
   cases q : Z2 c with
   | none => rfl
   | some o => exact absurd hc (j4 (S3.zh c o q)).1
 refine ⟨sV H2 g, a y, g, .refl _, fun c o q im => ?_, ra, nd, by rw [M0]; exact hlen, hp y, S3.P0.mono S3.zh, fun v H' W' fp hh ww wh nw tp rt HL own => ?_⟩
 . refine (kG fun hc => ?_).trans q
   have := S2.tp c o q im
   rw [zn c hc] at this
   cases this
 . cases rt with
   | @cons _ _ _ _ f1 f2 q1 q2 =>
     rw [Qp] at q1
     obtain ⟨Z', z', S4⟩ := S3.back hh S3.zh ww wh nw tp q1 (aiW.mp HL).1 (fun c hc => own c (air _ hc)) (.inr (by rw [T.clean]; exact hd))
     exact kk v H' Z' (z1.trans (z2.trans z')) S4
end
namespace Dk
section
variable {prog : Program} {w : World} {A : Around} {E : Value -> Shared -> Prop} {s : Shared} {it d : Addr} {i ep : Nat} {es : Array DictEntry} {od : Obj}
theorem GA {Q : Value -> Shared -> Prop} (hd : (d == sysModules) = false) (ho : s.heap.get? d = some od) (hT : s.TypeIs (.ref d) "dict") (AF : od.data = .dict es ep)
   (hQ : Q (.ref s.heap.objs.size) { s with heap := s.heap.push { cls := .type "dict_keyiterator", data := .fields #[.ref d, .int 0 0, .int es.size 0, .int ep 0] } }) : wpAny (model prog w) A (pyIter (.ref d)) Q E s := by
 refine wpAny_pyIter_slot hT PySem.F.slot_dict_iter (aj3 PySem.F.slot_dict_iter hT PySem.F.entry_dict_iter ?_ (PySem.F.args_dict_iter_1 _))
 unfold Builtin.«dict.__iter__» Builtin.Dict.dictSlotNone
 refine aim (aim (wpAny_notOrdered_dict hT (show wpAny _ _ (pure (Value.ref d)) _ _ s from aiz ?_)))
 show wpAny _ _ (Builtin.Dict.showsAll d >>= _) _ _ s
 unfold Builtin.Dict.showsAll
 rw [aiu (by rw [hd]; exact aiy)]
 exact wpAny_bind (wpAny_pure (wpAny_bind (wpAny_dictEntries ho AF (wpAny_bind (wpAny_dictEpoch ho AF (wpAny_bind (wpAny_newObj_type (wpAny_pure ⟨_, rfl, "dict_keyiterator", _, ⟨_, Heap.get?_push_size _ rfl, rfl⟩, PySem.F.slot_dict_keyiterator_next.lookup, by simpa [rawInt] using hQ⟩))))))))
theorem next_item {Q : Option Value -> Shared -> Prop} (hit : s.heap.IsKeyIter it d i es.size ep) (hod : s.heap.get? d = some od) (Zv : od.data = .dict es ep) {e : DictEntry} (hx : es[i]? = some e)
   (hQ : ∀ h', h'.IsKeyIter it d (i + 1) es.size ep -> Heap.SameBut it s.heap h' -> Q (some e.key) { s with heap := h' }) : wpAny (model prog w) A (pyNext (.ref it)) Q E s := by
 obtain ⟨o, ho, hc, hd⟩ := id hit
 have Zw : Builtin.Dict_items.ownsTuple "dict_keyiterator" = false := by decide
 unfold pyNext
 refine aim (akz (ajN (name := Str.ofString "__next__") hit.typeIs ajD (aj3 ajD hit.typeIs PySem.F.entry_dict_keyiterator_next (aim (aiz ?_)) (PySem.F.args_dict_keyiterator_next_1 _))))
 refine aim (aim (aim (ajM hit.typeIs (aiz (aim (wpAny_fieldsOf ho hd ?_))))))
 simp only [Zw, ako, akn]
 show wpAny _ _ (if (Value.ref d == Value.none) = true then _ else _) _ _ s
 rw [aiu (show ¬ ((Value.ref d == Value.none) = true) from aiy)]
 refine aim (aiz (aim (wpAny_dictEntries hod Zv ?_)))
 rw [aiu (by simp)]
 refine aim (aiz (aim (wpAny_dictEpoch hod Zv ?_)))
 rw [aiu (by simp)]
 refine aiz ?_
 obtain ⟨oS, he⟩ := Array.getElem?_eq_some_iff.mp hx
 simp only [show ¬ ((i : Int) < 0) from by omega, akn, ajq, akl oS]
 refine aim (aim (ajM hit.typeIs (aiz (aim (wpAny_isOneOf_keyiter hit.typeIs ?_)))))
 show wpAny _ _ (setField (.ref it) 1 (rawInt ((i : Int) + 1)) >>= _) _ _ s
 have MQ : (s.heap.update it (Obj.mapFields (·.setIfInBounds 1 (rawInt ((i : Int) + 1))))).IsKeyIter it d (i + 1) es.size ep :=
   ⟨_, ake _ ho (Obj.isFreed_of_fields (ajU hd _)), (Obj.cls_mapFields ..).trans hc, by rw [ajU hd]; simp [rawInt]⟩
 refine aim (akt ho hd (by simp) (aim (aj8 (aim (wpAny_isOneOf_keyiter (s := { s with heap := s.heap.update it (Obj.mapFields (·.setIfInBounds 1 (rawInt ((i : Int) + 1)))) }) MQ.typeIs ?_)))))
 show wpAny _ _ (pure es[i].key) _ _ _
 rw [he]
 exact aiz (aiz ⟨_, rfl, aiz (hQ _ MQ (akj ..))⟩)
theorem next_end {Q : Option Value -> Shared -> Prop} (hh : A.handled = none) (hit : s.heap.IsKeyIter it d i es.size ep) (hod : s.heap.get? d = some od) (Zv : od.data = .dict es ep) (hx : es.size <= i)
   (hQ : ∀ h', Heap.ExtBut it s.heap h' -> Q none { s with heap := h' }) : wpAny (model prog w) A (pyNext (.ref it)) Q E s := by
 obtain ⟨o, ho, hc, hd⟩ := id hit
 have Zw : Builtin.Dict_items.ownsTuple "dict_keyiterator" = false := by decide
 unfold pyNext
 refine aim (akz (ajN (name := Str.ofString "__next__") hit.typeIs ajD (aj3 ajD hit.typeIs PySem.F.entry_dict_keyiterator_next (aim (aiz ?_)) (PySem.F.args_dict_keyiterator_next_1 _))))
 refine aim (aim (aim (ajM hit.typeIs (aiz (aim (wpAny_fieldsOf ho hd ?_))))))
 simp only [Zw, ako, akn]
 show wpAny _ _ (if (Value.ref d == Value.none) = true then _ else _) _ _ s
 rw [aiu (show ¬ ((Value.ref d == Value.none) = true) from aiy)]
 refine aim (aiz (aim (wpAny_dictEntries hod Zv ?_)))
 rw [aiu (by simp)]
 refine aim (aiz (aim (wpAny_dictEpoch hod Zv ?_)))
 rw [aiu (by simp)]
 refine aiz ?_
 simp only [show ¬ ((i : Int) < 0) from by omega, akn, ajq, Array.getElem?_eq_none hx]
 refine aim (aim (ajM hit.typeIs (aiz ?_)))
 show wpAny _ _ (setField (.ref it) 0 .none >>= _) _ _ s
 refine aim (akt ho hd (by simp) ?_)
 show wpAny _ _ (newExc (.type "StopIteration") [] >>= _) _ _ _
 refine aim ?_
 simp only [newExc, newTuple]
 refine aim (ajp (aim (m := firstArgMember _ _) (wpAny_of_eq (a := Value.none) (by first | rfl | (simp only [firstArgMember]; rfl)) (ajp ?_ (by size_fits)))) (by size_fits))
 simp only [raiseNew]
 refine aim (wpAny_handled ?_)
 rw [show A.in1.handled = none from hh]
 refine aim (aiz (wpAny_throw ?_))
 exact aim (wpAny_isInstance (T := "StopIteration") (b := true) ⟨_, aiR _ rfl, rfl⟩ isSubtype_stop (aiz (hQ _ (((akj ..).extBut.push _).push _))))
end
end Dk
end L3
namespace L2
open PySem PySem.Spec PyProof.Rows
section
variable {X : Cx} {pins : List (Addr × Obj)} {σ : St} {H : Hp} {s : Shared} {a : Addr} {gs : List (List Key × V)} {o : Obj}
theorem Inv.told {u u0 : HO} (I : Inv X pins σ H s) (ha : H a = some u0) (hu : dJ X.prog X.w (upd H a u) s.heap a u) (ht : ∀ xs, u0 ≠ .tup xs) (hz : ∀ ob q, X.H₀ a ≠ some (.cu ob q)) (hb : ∀ ps, u0 ≠ .WC ps) (hw : ∀ y, u0 ≠ .own y) (hc : ∀ q, u0 ≠ .WD q) : Inv X pins σ (upd H a u) s := by
 have ne : ∀ b, H b = none -> b ≠ a := fun b e z => by rw [z, ha] at e; cases e
 have n1 : ∀ b xs, H b = some (.tup xs) -> upd H a u b = some (.tup xs) := fun b xs e => by
   rw [aj fun z => by rw [z, ha] at e; cases e; exact ht _ rfl]; exact e
 refine ⟨I.ok, I.os, I.bare, ⟨I.base.keep, I.base.slot, fun b ob e n hx => ?_, I.base.there, fun b xs e => n1 b xs (I.base.Cd b xs e), fun b ob q e => ?_, fun b ps e => ?_⟩, I.loc, I.cell, ?_, fun x c e => ?_, fun p hp => ?_, fun b v q => ?_, I.len⟩
 . have := I.base.free b ob e n hx
   rw [aj (ne b this)]; exact this
 . rw [aj fun z => by rw [z] at e; exact hz _ _ e]
   exact I.base.kD b ob q e
 . obtain ⟨more, q⟩ := I.base.Ce b ps e
   exact ⟨more, by rw [aj fun z => by rw [z, ha] at q; cases q; exact hb _ rfl]; exact q⟩
 . rw [aj (ne _ I.free)]; exact I.free
 . rw [aj (ne _ (I.oi x c e))]; exact I.oi x c e
 . obtain ⟨p1, p2, p3⟩ := I.pin p hp
   exact ⟨p1, by rw [aj (ne _ p2)]; exact p2, p3⟩
 . by_cases e : b = a
   . subst e
     rw [aE] at q
     cases q
     exact hu
   . rw [aj e] at q
     exact (I.dw b v q).Cb (fun _ _ _ e => e) (fun c z => by rw [aj fun z2 => by rw [z2, ha] at z; cases z; exact hw _ rfl]; exact z) n1 fun c k z => by rw [aj fun z2 => by rw [z2, ha] at z; cases z; exact hc _ rfl]; exact z
theorem Inv.afs (I : Inv X pins σ H s) (ha : H a = some (.dT gs)) : ∃ o, s.heap.get? a = some o /\ (∀ ob q, X.H₀ a ≠ some (.cu ob q)) /\ Inv X pins σ (upd H a (.cu o (.dT gs))) s := by
 have hz : ∀ ob q, X.H₀ a ≠ some (.cu ob q) := fun ob q e => by
   have := I.base.kD a ob q e
   rw [ha] at this; cases this
 have k := (show dJ X.prog X.w H s.heap a (.dT gs) from I.dw a _ ha)
 obtain ⟨_, _, _, _, o, es, ep, e, _⟩ := id k
 refine ⟨o, e, hz, I.told ha ⟨e, ?_⟩ (fun _ z => nomatch z) hz (fun _ z => nomatch z) (fun _ z => nomatch z) fun _ z => nomatch z⟩
 exact k.Cb (fun _ _ _ e => e) (fun c z => by rw [aj fun z2 => by rw [z2, ha] at z; cases z]; exact z) (fun c xs z => by rw [aj fun z2 => by rw [z2, ha] at z; cases z]; exact z) fun c k z => by rw [aj fun z2 => by rw [z2, ha] at z; cases z]; exact z
theorem Inv.Nf (I : Inv X pins σ H s) (ha : H a = some (.cu o (.dT gs))) (hz : ∀ ob q, X.H₀ a ≠ some (.cu ob q)) : Inv X pins σ (upd H a (.dT gs)) s := by
 obtain ⟨_, k⟩ := (show dJ X.prog X.w H s.heap a (.cu o (.dT gs)) from I.dw a _ ha)
 refine I.told ha ?_ (fun _ z => nomatch z) hz (fun _ z => nomatch z) (fun _ z => nomatch z) fun _ z => nomatch z
 exact k.Cb (fun _ _ _ e => e) (fun c z => by rw [aj fun z2 => by rw [z2, ha] at z; cases z]; exact z) (fun c xs z => by rw [aj fun z2 => by rw [z2, ha] at z; cases z]; exact z) fun c k z => by rw [aj fun z2 => by rw [z2, ha] at z; cases z]; exact z
end
noncomputable def Itd (a : Addr) (o : Obj) (gs : List (List Key × V)) : It :=
 ⟨fun i H => i < gs.length /\ H a = some (.cu o (.dT gs)), fun i H x H' => H' = H /\ ∃ b k v, x = .ref b /\ gs[i]? = some (k, v) /\ H b = some (.tup (k.map kV)), fun i H => gs.length <= i /\ H a = some (.cu o (.dT gs))⟩
theorem Paired.nth {α β : Type} {F : α -> β -> Prop} {l : List α} {m : List β} (r : Paired F l m) : ∀ {i : Nat} {x : α}, l[i]? = some x -> ∃ y, m[i]? = some y /\ F x y := by
 induction r with
 | nil => intro i x e; simp at e
 | cons h _ ih =>
   intro i x e
   cases i with
   | zero => cases e; exact ⟨_, rfl, h⟩
   | succ j => exact ih e
theorem QI {P : Program} {w : World} {K : PySem.W.Frag} {tg : Expr} {a it : Addr} {o : Obj} {gs : List (List Key × V)} {es : Array DictEntry} {ep : Nat} (AF : o.data = .dict es ep) : Turn P w K tg (Itd a o gs) [it] it (fun i h => h.IsKeyIter it a i es.size ep) where
 mem := by simp
 obj := fun i h st b hb => by
   have e : b = it := by simpa using hb
   subst e
   obtain ⟨ob, e, c, d⟩ := st
   exact ⟨ob, e, fun v z => by rw [d] at z; cases z⟩
 keep := fun i h h' st k => st.at fun ob e => k it (by simp) ob e
 item := by
   intro X hP hw hK hc i pins s σ H E I hf st hg
   subst hP hw hK
   obtain ⟨oS, ha⟩ := hg
   obtain ⟨e, z, y, xs, r, o', es', ep', e', c, d, Zx, nd⟩ := (show dJ X.prog X.w H s.heap a (.cu o (.dT gs)) from I.dw a _ ha)
   rw [e] at e'
   cases e'
   rw [AF] at d
   cases d
   obtain ⟨f0, f1, f2, f3, f4, f5⟩ := hf it (by simp)
   obtain ⟨q, hq, q1, q2, q3⟩ := Paired.nth r (i := i) (x := gs[i]) (aiG oS)
   have hx : es[i]? = some (entryOfKey (tupleKind (fE X.prog X.w)) q) := by
     rw [← akf, Zx, aiE, hq]
     rfl
   refine L3.Dk.next_item st e AF hx fun h' FW sb => ?_
   have I1 : Inv X pins σ H { s with heap := h' } := I.turned (t' := s.toks) (fun b ob hb e => (sb.2 b hb).trans e) f0 f1 f3 f4 f5
   obtain ⟨ob, e2, c2, d2⟩ := id FW
   exact ⟨_, rfl, Cz (s := { s with heap := h' }) e2 c2 d2 (by decide) ⟨.ref q.2.1, H, I1, rfl, ⟨rfl, q.2.1, gs[i].1, gs[i].2, rfl, aiG oS, q2⟩, FW, fun b hb => (hf b hb).1⟩⟩
 done := by
   intro X hP hw hK hc i pins s σ H E I hf st hg
   subst hP hw hK
   obtain ⟨hge, ha⟩ := hg
   obtain ⟨e, z, y, xs, r, o', es', ep', e', c, d, Zx, nd⟩ := (show dJ X.prog X.w H s.heap a (.cu o (.dT gs)) from I.dw a _ ha)
   rw [e] at e'
   cases e'
   rw [AF] at d
   cases d
   obtain ⟨f0, f1, f2, f3, f4, f5⟩ := hf it (by simp)
   have hl := aj7 r
   have hsz : es.size = xs.length := by rw [← ajP, Zx, aio]
   exact L3.Dk.next_end (I.ok.hd hc) st e AF (by omega) fun h' eb => ⟨rfl, I.turned (t' := s.toks) (fun b ob hb e => eb b ob hb e) f0 f1 f3 f4 f5⟩
 self := fun _ _ _ _ _ st h => wpAny_pyIter_keyiter st h
end L2
namespace L3
open PySem PySem.Spec PyProof.Rows L2
noncomputable def Conv (Z Z' : Hp) : Prop := ∀ c o, Z c = some o -> Z' c = some o \/ (∃ gs ob, o = .dT gs /\ Z' c = some (.cu ob (.dT gs))) \/ ∃ gs ob, o = .cu ob (.dT gs) /\ Z' c = some (.dT gs)
section
variable {K : PySem.W.Frag} {CL : Str -> Addr} {Z Z' : Hp} {a : Addr}
theorem Conv.keep {o : HO} (e : Conv Z Z') (h : Z a = some o) (h1 : ∀ gs, o ≠ .dT gs) (h2 : ∀ gs ob, o ≠ .cu ob (.dT gs)) : Z' a = some o := by
 rcases e a o h with q | ⟨gs, ob, q, _⟩ | ⟨gs, ob, q, _⟩
 . exact q
 . exact absurd q (h1 gs)
 . exact absurd q (h2 gs ob)
theorem Conv.KY {xs : List V} (e : Conv Z Z') (h : qE K Z a xs) : qE K Z' a xs := by
 rcases h with (h | ⟨o, h⟩) | h
 . exact .inl (.inl (e.keep h (fun _ z => nomatch z) fun _ _ z => nomatch z))
 . exact .inl (.inr ⟨o, e.keep h (fun _ z => nomatch z) fun _ _ z => nomatch z⟩)
 . exact .inr h
theorem Conv.sqL {xs : List V} (e : Conv Z Z') (h : qk K Z a xs) : qk K Z' a xs := by
 rcases h with (h | ⟨o, h⟩) | h
 . exact .inl (.inl (e.keep h (fun _ z => nomatch z) fun _ _ z => nomatch z))
 . exact .inl (.inr ⟨o, e.keep h (fun _ z => nomatch z) fun _ _ z => nomatch z⟩)
 . exact .inr h
theorem Conv.rd {gs : List (List Key × V)} (e : Conv Z Z') (h : Rd Z a (.dT gs)) : Rd Z' a (.dT gs) := by
 rcases h with h | ⟨o, h⟩
 . rcases e a _ h with q | ⟨g, ob, q, z⟩ | ⟨g, ob, q, z⟩
   . exact .inl q
   . cases q; exact .inr ⟨ob, z⟩
   . cases q
 . rcases e a _ h with q | ⟨g, ob, q, z⟩ | ⟨g, ob, q, z⟩
   . exact .inr ⟨o, q⟩
   . cases q
   . cases q; exact .inl z
theorem aZ.conv {Z Z' : Hp} (e : Conv Z Z') {d : D} {v : V} (h : aZ K CL Z d v) : aZ K CL Z' d v :=
 aZ.rec (motive_1 := fun d v _ => aZ K CL Z' d v) (motive_2 := fun d v _ => aF K CL Z' d v) (motive_3 := fun d v _ => lZ K CL Z' d v) (motive_4 := fun d v _ => bA K CL Z' d v) (motive_5 := fun d v _ => fM K CL Z' d v)
   .non .bl .int .str .any .val (fun h _ r => .tup (e.KY h) r) (fun h _ r => .lst (e.sqL h) r) (fun h _ r => .ins (e.keep h (fun _ z => nomatch z) fun _ _ z => nomatch z) r) (fun h _ r => .mY (e.keep h (fun _ z => nomatch z) fun _ _ z => nomatch z) r) (fun h _ r => .dct (e.rd h) r) .nil (fun _ _ h r => .cons h r) .nil (fun _ _ h r => .cons h r) .nil (fun _ _ h r => .cons h r) .nil (fun _ _ h r => .cons h r) h
theorem bA.conv {Z Z' : Hp} (e : Conv Z Z') {d : List (Key × D)} {v : List (Key × V)} (h : bA K CL Z d v) : bA K CL Z' d v :=
 bA.rec (motive_1 := fun d v _ => aZ K CL Z' d v) (motive_2 := fun d v _ => aF K CL Z' d v) (motive_3 := fun d v _ => lZ K CL Z' d v) (motive_4 := fun d v _ => bA K CL Z' d v) (motive_5 := fun d v _ => fM K CL Z' d v)
   .non .bl .int .str .any .val (fun h _ r => .tup (e.KY h) r) (fun h _ r => .lst (e.sqL h) r) (fun h _ r => .ins (e.keep h (fun _ z => nomatch z) fun _ _ z => nomatch z) r) (fun h _ r => .mY (e.keep h (fun _ z => nomatch z) fun _ _ z => nomatch z) r) (fun h _ r => .dct (e.rd h) r) .nil (fun _ _ h r => .cons h r) .nil (fun _ _ h r => .cons h r) .nil (fun _ _ h r => .cons h r) .nil (fun _ _ h r => .cons h r) h
theorem bu.conv {H H' Z Z' : Hp} (e : Conv Z Z') {t : T} {v : V} {fp : List Addr} (k : ∀ a ∈ fp, H' a = H a) (h : bu K CL H Z t v fp) : bu K CL H' Z' t v fp :=
 bu.rec (motive_1 := fun t v fp _ => (∀ a ∈ fp, H' a = H a) -> bu K CL H' Z' t v fp) (motive_2 := fun t v fp _ => (∀ a ∈ fp, H' a = H a) -> aG K CL H' Z' t v fp) (motive_3 := fun t v fp _ => (∀ a ∈ fp, H' a = H a) -> cz K CL H' Z' t v fp) (motive_4 := fun t v fp _ => (∀ a ∈ fp, H' a = H a) -> cA K CL H' Z' t v fp)
   (fun h _ => .sh (h.conv e)) (fun h _ r k => .tup (e.keep h (fun _ z => nomatch z) fun _ _ z => nomatch z) (r k)) (fun h _ r k => .lst ((k _ aiq).trans h) (r fun a ha => k a (ais _ ha))) (fun h _ r k => .ins ((k _ aiq).trans h) (r fun a ha => k a (ais _ ha))) (fun h f k => .mY ((k _ aiq).trans h) (bA.conv e f)) (fun h _ r k => .dct ((k _ aiq).trans h) (r fun a ha => k a (ais _ ha))) (fun _ r k => .pin (r k)) (fun _ => .nil) (fun _ _ h r k => .cons (h fun a ha => k a (air _ ha)) (r fun a ha => k a (ail _ ha))) (fun _ => .nil) (fun _ _ h r k => .cons (h fun a ha => k a (air _ ha)) (r fun a ha => k a (ail _ ha))) (fun _ => .nil) (fun _ _ h r k => .cons (h fun a ha => k a (air _ ha)) (r fun a ha => k a (ail _ ha))) h k
theorem aG.conv {H H' Z Z' : Hp} (e : Conv Z Z') {t : List T} {v : List V} {fp : List Addr} (k : ∀ a ∈ fp, H' a = H a) (h : aG K CL H Z t v fp) : aG K CL H' Z' t v fp :=
 aG.rec (motive_1 := fun t v fp _ => (∀ a ∈ fp, H' a = H a) -> bu K CL H' Z' t v fp) (motive_2 := fun t v fp _ => (∀ a ∈ fp, H' a = H a) -> aG K CL H' Z' t v fp) (motive_3 := fun t v fp _ => (∀ a ∈ fp, H' a = H a) -> cz K CL H' Z' t v fp) (motive_4 := fun t v fp _ => (∀ a ∈ fp, H' a = H a) -> cA K CL H' Z' t v fp)
   (fun h _ => .sh (h.conv e)) (fun h _ r k => .tup (e.keep h (fun _ z => nomatch z) fun _ _ z => nomatch z) (r k)) (fun h _ r k => .lst ((k _ aiq).trans h) (r fun a ha => k a (ais _ ha))) (fun h _ r k => .ins ((k _ aiq).trans h) (r fun a ha => k a (ais _ ha))) (fun h f k => .mY ((k _ aiq).trans h) (bA.conv e f)) (fun h _ r k => .dct ((k _ aiq).trans h) (r fun a ha => k a (ais _ ha))) (fun _ r k => .pin (r k)) (fun _ => .nil) (fun _ _ h r k => .cons (h fun a ha => k a (air _ ha)) (r fun a ha => k a (ail _ ha))) (fun _ => .nil) (fun _ _ h r k => .cons (h fun a ha => k a (air _ ha)) (r fun a ha => k a (ail _ ha))) (fun _ => .nil) (fun _ _ h r k => .cons (h fun a ha => k a (air _ ha)) (r fun a ha => k a (ail _ ha))) h k
theorem cG.conv {H H' : Hp} {δ : List (Option T)} {σ : L2.St} {fp : List Addr} (e : Conv Z Z') (k : ∀ a ∈ fp, H' a = H a) (r : cG K CL H Z δ σ fp) : cG K CL H' Z' δ σ fp := by
 induction r with
 | nil => exact .nil
 | skip _ ih => exact .skip (ih k)
 | cons r _ ih => exact .cons (r.conv e fun a ha => k a (air _ ha)) (ih fun a ha => k a (ail _ ha))
end
noncomputable def aft (X : Cx) (te : TE) : TI := fun σ H R => te σ H fun x H1 => ∃ a gs, x = .ref a /\ ((H1 a = some (.dT gs) /\ ∀ o, (∀ ob q, X.H₀ a ≠ some (.cu ob q)) -> R (Itd a o gs) (upd H1 a (.cu o (.dT gs)))) \/ ∃ o, H1 a = some (.cu o (.dT gs)) /\ R (Itd a o gs) H1)
theorem Zy {X : Cx} {tg e : Expr} {te : TE} (he : PE X e te) : PI X tg e (aft X te) := by
 intro pins s σ H R I h
 refine cN (he pins s σ H _ I h) fun v s1 zz => ?_
 obtain ⟨x, H1, I1, r1, a, gs, ex, q⟩ := zz
 subst ex
 cases r1
 have main : ∀ (H2 : Hp) (o : Obj), L2.Inv X pins σ H2 s1 -> H2 a = some (.cu o (.dT gs)) -> R (Itd a o gs) H2 -> wpAny (model X.prog X.w) X.A (pyIter (.ref a)) (PIE X pins σ tg R) X.xe s1 := fun H2 o I2 ha hR => by
   obtain ⟨e, z, y, xs, r, o', es, ep, e', c, d, Zx, nd⟩ := (show dJ X.prog X.w H2 s1.heap a (.cu o (.dT gs)) from I2.dw a _ ha)
   rw [e] at e'
   cases e'
   obtain ⟨_, _, _, _, dd⟩ := z9 I2.dw (.inr ⟨o, ha⟩)
   refine Dk.GA y e dd.typeIs d ?_
   refine ⟨s1.heap.objs.size, [s1.heap.objs.size], _, _, H2, rfl, I2.kept (t' := s1.toks) fun b ob e => aiv _ e, QI d, ⟨_, aiR _ rfl, rfl, rfl⟩, fun b hb => ?_, hR⟩
   have e : b = s1.heap.objs.size := by simpa using hb
   subst e
   exact I2.zV (ait _) (I2.dw.fresh (ait _))
 rcases q with ⟨ha, q⟩ | ⟨o, ha, q⟩
 . obtain ⟨o, e, hz, I2⟩ := I1.afs ha
   exact main _ o I2 aE (q o hz)
 . exact main _ o I1 ha q
noncomputable def Zz (X : Cx) (E : Ends) : Ends :=
 { nx := fun σ H => E.nx σ H \/ ∃ a o gs, H a = some (.cu o (.dT gs)) /\ (∀ ob q, X.H₀ a ≠ some (.cu ob q)) /\ E.nx σ (upd H a (.dT gs))
   rt := fun v H => E.rt v H \/ ∃ a o gs, H a = some (.cu o (.dT gs)) /\ (∀ ob q, X.H₀ a ≠ some (.cu ob q)) /\ E.rt v (upd H a (.dT gs))
   bk := E.bk
   ct := E.ct }
theorem Ng {X : Cx} {st : Stmt} {E : Ends} {σ : L2.St} {H : Hp} (h : PZ X st (Zz X E) σ H) : PZ X st E σ H := fun pins s I => by
 refine ajB (h pins s I) (fun f s' z => ?_) fun _ _ z => z
 cases f with
 | next =>
   obtain ⟨σ', H', I', q⟩ := z
   rcases q with q | ⟨a, o, gs, ha, hz, q⟩
   . exact ⟨σ', H', I', q⟩
   . exact ⟨σ', _, I'.Nf ha hz, q⟩
 | ret u =>
   obtain ⟨v, σ', H', I', r, q⟩ := z
   rcases q with q | ⟨a, o, gs, ha, hz, q⟩
   . exact ⟨v, σ', H', I', r, q⟩
   . exact ⟨v, σ', _, I'.Nf ha hz, r, q⟩
 | brk => exact z
 | cont => exact z
noncomputable def xh (b : Bx) (a : Addr) (F : HO) : Bx := ⟨fun c => if c = a /\ (b.B a).isSome = true then some F else b.B c, fun c => if c = a /\ (b.Z a).isSome = true then some F else b.Z c⟩
section
variable {K : PySem.W.Frag} {CL : Str -> Addr} {b : Bx} {H Z : Hp} {δ : List (Option T)} {σ : L2.St} {ts : List T} {vs : List V} {a : Addr} {gs : List (List Key × V)} {o : Obj}
theorem dZ {F : HO} {c : Addr} (h : c ≠ a) : (xh b a F).B c = b.B c /\ (xh b a F).Z c = b.Z c := ⟨aiu fun z => h z.1, aiu fun z => h z.1⟩
theorem aO.still (S : aO K CL b H Z δ σ ts vs) (ha : Z a = some (.dT gs)) (o : Obj) : aO K CL (xh b a (.cu o (.dT gs))) (upd H a (.cu o (.dT gs))) (upd Z a (.cu o (.dT gs))) δ σ ts vs := by
 have cv : Conv Z (upd Z a (.cu o (.dT gs))) := fun c u q => by
   by_cases e : c = a
   . subst e
     rw [ha] at q
     cases q
     exact .inr (.inl ⟨gs, o, rfl, aE⟩)
   . exact .inl (by rw [aj e]; exact q)
 obtain ⟨fp, gp, e, r, nd, k⟩ := S.rep
 have ne : ∀ c ∈ fp ++ gp, c ≠ a := fun c hc z => by
   have := (k c hc).1
   rw [z, ha] at this; cases this
 have hH := S.zh a _ ha
 refine ⟨⟨fp, gp, e.conv cv fun c hc => aj (ne c (air _ hc)), r.conv cv fun c hc => aj (ne c (ail _ hc)), nd, fun c hc => ⟨by rw [aj (ne c hc)]; exact (k c hc).1, by rw [(dZ (ne c hc)).1]; exact (k c hc).2⟩⟩, fun c u q => ?_, fun c u q => ?_, fun c u q => ?_, fun c u q z => ?_, fun c u q im => ?_, fun x hx h0 => ?_⟩
 . by_cases e : c = a
   . subst e
     rw [aE]
     have q : (if c = c /\ (b.B c).isSome = true then some _ else b.B c) = some u := q
     by_cases hs : (b.B c).isSome = true
     . rw [aiC ⟨rfl, hs⟩] at q; exact q
     . rw [aiu fun z => hs z.2] at q
       rw [q] at hs; exact absurd rfl hs
   . rw [(dZ e).1] at q
     rw [aj e]; exact S.bh c u q
 . by_cases e : c = a
   . subst e
     rw [aE]
     have q : (if c = c /\ (b.Z c).isSome = true then some _ else b.Z c) = some u := q
     by_cases hs : (b.Z c).isSome = true
     . rw [aiC ⟨rfl, hs⟩] at q; exact q
     . rw [aiu fun z => hs z.2] at q
       rw [q] at hs; exact absurd rfl hs
   . rw [(dZ e).2] at q
     rw [aj e]; exact S.zz c u q
 . by_cases e : c = a
   . subst e
     rw [aE] at q ⊢; exact q
   . rw [aj e] at q ⊢; exact S.zh c u q
 . by_cases e : c = a
   . subst e
     have z : (if c = c /\ (b.Z c).isSome = true then some _ else b.Z c) = none := z
     have hz : b.Z c = none := by
       by_cases hs : (b.Z c).isSome = true
       . rw [aiC ⟨rfl, hs⟩] at z; cases z
       . rw [aiu fun z => hs z.2] at z; exact z
     have hB := S.new c _ ha hz
     show (if c = c /\ (b.B c).isSome = true then some _ else b.B c) = none
     rw [aiu fun z => by rw [hB] at z; exact absurd z.2 (by decide)]
     exact hB
   . rw [aj e] at q
     rw [(dZ e).2] at z
     rw [(dZ e).1]; exact S.new c u q z
 . by_cases e : c = a
   . subst e
     rw [aE] at q ⊢; exact q
   . rw [aj e] at q ⊢; exact S.tp c u q im
 . have q := S.tab x hx h0
   have e : CL x ≠ a := fun z => by
     have := S.zz _ _ q
     rw [z, ha] at this; cases this
   rw [(dZ e).2]; exact q
theorem aO.Nf (S : aO K CL (xh b a (.cu o (.dT gs))) H Z δ σ ts vs) (ha : Z a = some (.cu o (.dT gs))) (h1 : ∀ u, b.B a = some u -> u = .dT gs) (h2 : ∀ u, b.Z a = some u -> u = .dT gs) (h3 : b.Z a = none -> b.B a = none) : aO K CL b (upd H a (.dT gs)) (upd Z a (.dT gs)) δ σ ts vs := by
 have cv : Conv Z (upd Z a (.dT gs)) := fun c u q => by
   by_cases e : c = a
   . subst e
     rw [ha] at q
     cases q
     exact .inr (.inr ⟨gs, o, rfl, aE⟩)
   . exact .inl (by rw [aj e]; exact q)
 obtain ⟨fp, gp, e, r, nd, k⟩ := S.rep
 have ne : ∀ c ∈ fp ++ gp, c ≠ a := fun c hc z => by
   have := (k c hc).1
   rw [z, ha] at this; cases this
 refine ⟨⟨fp, gp, e.conv cv fun c hc => aj (ne c (air _ hc)), r.conv cv fun c hc => aj (ne c (ail _ hc)), nd, fun c hc => ⟨by rw [aj (ne c hc)]; exact (k c hc).1, by rw [← (dZ (F := .cu o (.dT gs)) (ne c hc)).1]; exact (k c hc).2⟩⟩, fun c u q => ?_, fun c u q => ?_, fun c u q => ?_, fun c u q z => ?_, fun c u q im => ?_, fun x hx h0 => ?_⟩
 . by_cases e : c = a
   . subst e
     rw [aE, h1 u q]
   . rw [aj e]
     exact S.bh c u (by rw [(dZ e).1]; exact q)
 . by_cases e : c = a
   . subst e
     rw [aE, h2 u q]
   . rw [aj e]
     exact S.zz c u (by rw [(dZ e).2]; exact q)
 . by_cases e : c = a
   . subst e
     rw [aE] at q ⊢; exact q
   . rw [aj e] at q ⊢; exact S.zh c u q
 . by_cases e : c = a
   . subst e
     exact h3 z
   . rw [aj e] at q
     have := S.new c u q (by rw [(dZ e).2]; exact z)
     rwa [(dZ e).1] at this
 . by_cases e : c = a
   . subst e
     rw [aE] at q
     cases q
     cases im
   . rw [aj e] at q ⊢; exact S.tp c u q im
 . have q := S.tab x hx h0
   have e : CL x ≠ a := fun z => by
     have := S.zz _ _ q
     rw [z, ha] at this; cases this
   rwa [(dZ e).2] at q
end
theorem aO.QJ {K : PySem.W.Frag} {CL : Str -> Addr} {b : Bx} {H Z : Hp} {δ : List (Option T)} {σ : L2.St} {ts : List T} {vs : List V} {t : T} {v : V} (S : aO K CL b H Z δ σ ts vs) (r : bu K CL H Z t v []) : aO K CL b H Z δ σ (t :: ts) (v :: vs) := by
 obtain ⟨fp, gp, e, q, nd, k⟩ := S.rep
 exact ⟨⟨fp, [] ++ gp, e, .cons r q, nd, k⟩, S.bh, S.zz, S.zh, S.new, S.tp, S.tab⟩
section
variable {X : Cx} {CL : Str -> Addr} {b : Bx} {δ δ1 : List (Option T)} {e : Expr} {D : eo} {pos pos' : Pos} {x : Str} {i : Nat} {fC body : List Stmt} {kvs : List (List Key × L3.D)}
theorem U5 (g : Gx X) (nm : Ln X i x) (P : Nat -> List (Option T) -> Prop) (h : bR X CL b e δ (.sh (.dct kvs)) δ1) (h0 : P 0 δ1) (hl : ∀ j δ, P j δ -> i < δ.length)
   (hs : ∀ (b' : Bx) (j : Nat) (k : List Key) (d : L3.D) δ, kvs[j]? = some (k, d) -> P j δ -> e9 X CL b' body (δ.set i (some (oA k))) { nx := P (j + 1), rt := D.rt, bk := fun δ2 => e9 X CL b fC δ2 D, ct := P (j + 1) }) (hd : ∀ δ, P kvs.length δ -> e9 X CL b fC δ D)
   (hq : ∀ x, foldedSetIterable e X.env x = pure x := by intro _; rfl) : e9 X CL b (.For (.Name x pos') e body [] pos :: fC) δ D := bO fun H Z σ ts vs E S M =>
 Ng (nM (Dg g.xe g.calm (Zy cg) (m5 g.nd nm.hi nm.loc nm.hf) MC hq) (h H Z σ ts vs _ S fun v H1 Z1 z1 k1 S1 => by
   have r := S1.Qk
   cases r with
   | @dct a gs _ ha rr =>
     have Ti : kvs.length = gs.length := rr.length
     have T4 : ∀ (j : Nat) (k : List Key) (v : V), gs[j]? = some (k, v) -> ∃ d, kvs[j]? = some (k, d) := fun j k v hj => by
       have e1 := congrArg (·[j]?) rr.keys
       simp only [aiE, hj] at e1
       obtain ⟨p, hp, e2⟩ := aiH.mp e1
       have e2 : p.1 = k := e2
       exact ⟨p.2, by rw [hp, ← e2]⟩
     have acH : ∀ {Z2 H2 : Hp} {kb : Addr} {k : List Key}, (∀ a o, H2 a = some o -> mh o = true -> Z2 a = some o) -> H2 kb = some (.tup (k.map kV)) -> bu X.K CL H2 Z2 (oA k) (.ref kb) [] := fun tp hk => .tup (tp _ _ hk rfl) (aG.ofF (Ax _))
     rcases ha with ha | ⟨o, ha⟩
     . have hH := S1.zh a _ ha
       refine ⟨a, gs, rfl, .inl ⟨hH, fun o hz => ?_⟩⟩
       have S2 := S1.pop.still ha o
       have t1 : ∀ u, b.B a = some u -> u = .dT gs := fun u q => by
         have := S1.bh a u q
         rw [hH] at this; exact (aiN this).symm
       have t2 : ∀ u, b.Z a = some u -> u = .dT gs := fun u q => by
         have := S1.zz a u q
         rw [ha] at this; exact (aiN this).symm
       have t3 : b.Z a = none -> b.B a = none := S1.new a _ ha
       have back : ∀ {Z2 : Hp}, aB (upd Z1 a (.cu o (.dT gs))) Z2 -> aB Z (upd Z2 a (.dT gs)) := fun {Z2} s c u q => by
         have q1 := z1 c u q
         by_cases e : c = a
         . subst e
           rw [ha] at q1
           cases q1
           exact aE
         . rw [aj e]
           exact s c u (by rw [aj e]; exact q1)
       refine ⟨fun j m σ H2 => m = gs.length - j /\ j <= gs.length /\ ∃ Z2 δ2, aB (upd Z1 a (.cu o (.dT gs))) Z2 /\ aO X.K CL (xh b a (.cu o (.dT gs))) H2 Z2 δ2 σ ts vs /\ P j δ2, ⟨_, rfl, ai5 _, _, δ1, .refl _, S2, h0⟩, ?_⟩
       rintro j m σ2 H2 ⟨rfl, hj, Z2, δ2, s, S3, p2⟩
       have za : Z2 a = some (.cu o (.dT gs)) := s a _ aE
       by_cases oS : j < gs.length
       . refine .inr ⟨⟨oS, S3.zh a _ za⟩, fun σ' H' => ∃ Z2 δ2, aB (upd Z1 a (.cu o (.dT gs))) Z2 /\ aO X.K CL (xh b a (.cu o (.dT gs))) H' Z2 δ2 σ' ts vs /\ P (j + 1) δ2, fun σ' H' h => ⟨gs.length - (j + 1), by omega, rfl, oS, h⟩, fun y H' hy => ?_⟩
         obtain ⟨rfl, kb, k, v, rfl, hg, hk⟩ := hy
         obtain ⟨d, OY⟩ := T4 j k v hg
         have S4 := (S3.QJ (acH S3.tp hk)).set (hl j δ2 p2)
         exact hs _ j k d δ2 OY p2 _ Z2 _ ts vs _ S4 ⟨fun δ' σ' H' Z' s' S' k => ⟨Z', δ', s.trans s', S', k⟩, fun t v H' Z' δ' σ' s' S' k => .inr ⟨a, o, gs, S'.zh a _ (s' a _ za), hz, M.rt t v _ _ δ' σ' (back (s.trans s')) (S'.Nf (s' a _ za) t1 t2 t3) k⟩, fun δ' σ' H' Z' s' S' k => .inr ⟨a, o, gs, S'.zh a _ (s' a _ za), hz, M.nx δ' σ' _ _ (back (s.trans s')) (S'.Nf (s' a _ za) t1 t2 t3) k⟩, fun δ' σ' H' Z' s' S' k => ⟨Z', δ', s.trans s', S', k⟩⟩
       . have ej : j = gs.length := by omega
         subst ej
         exact .inl ⟨⟨ait _, S3.zh a _ za⟩, .inr ⟨a, o, gs, S3.zh a _ za, hz, M.nx δ2 σ2 _ _ (back s) (S3.Nf za t1 t2 t3) (hd δ2 (Ti ▸ p2))⟩⟩
     . refine ⟨a, gs, rfl, .inr ⟨o, S1.zh a _ ha, ?_⟩⟩
       refine ⟨fun j m σ H2 => m = gs.length - j /\ j <= gs.length /\ ∃ Z2 δ2, aB Z1 Z2 /\ aO X.K CL b H2 Z2 δ2 σ ts vs /\ P j δ2, ⟨_, rfl, ai5 _, _, δ1, .refl _, S1.pop, h0⟩, ?_⟩
       rintro j m σ2 H2 ⟨rfl, hj, Z2, δ2, s, S3, p2⟩
       have za : Z2 a = some (.cu o (.dT gs)) := s a _ ha
       by_cases oS : j < gs.length
       . refine .inr ⟨⟨oS, S3.zh a _ za⟩, fun σ' H' => ∃ Z2 δ2, aB Z1 Z2 /\ aO X.K CL b H' Z2 δ2 σ' ts vs /\ P (j + 1) δ2, fun σ' H' h => ⟨gs.length - (j + 1), by omega, rfl, oS, h⟩, fun y H' hy => ?_⟩
         obtain ⟨rfl, kb, k, v, rfl, hg, hk⟩ := hy
         obtain ⟨d, OY⟩ := T4 j k v hg
         have S4 := (S3.QJ (acH S3.tp hk)).set (hl j δ2 p2)
         exact hs _ j k d δ2 OY p2 _ Z2 _ ts vs _ S4 ⟨fun δ' σ' H' Z' s' S' k => ⟨Z', δ', s.trans s', S', k⟩, fun t v H' Z' δ' σ' s' S' k => .inl (M.rt t v _ _ δ' σ' (z1.trans (s.trans s')) S' k), fun δ' σ' H' Z' s' S' k => .inl (M.nx δ' σ' _ _ (z1.trans (s.trans s')) S' k), fun δ' σ' H' Z' s' S' k => ⟨Z', δ', s.trans s', S', k⟩⟩
       . have ej : j = gs.length := by omega
         subst ej
         exact .inl ⟨⟨ait _, S3.zh a _ za⟩, .inl (M.nx δ2 σ2 _ _ (z1.trans s) S3 (hd δ2 (Ti ▸ p2)))⟩))
theorem Lg {ks : List Key} (n : Vn X i x) (h : δ[i]? = some (some (oA ks))) : bR X CL b (.Name x pos) δ (oA ks) δ := fun H Z σ ts vs Q S k => by
 obtain ⟨fp, gp, e, q, nd, kk⟩ := S.rep
 obtain ⟨v, f1, f2, f3, hv, ql, rt, _, _⟩ := e.get h
 have h2 : f2 = [] := by
   cases rt with
   | tup hz rr => exact (aG.toF rr).2
 subst h2
 exact bY (jo n.hi n.hv n.hd n.oR) ⟨v, hv, k v H Z (.refl _) (.refl _) (S.QJ rt)⟩
end
section
variable {K : PySem.W.Frag} {CL : Str -> Addr} {b : Bx} {H Z : Hp} {δ : List (Option T)} {σ : L2.St} {ts : List T} {vs : List V} {t t0 : T} {v v0 w : V} {i : Nat} {p : List Cj} {kvs : List (List Key × T)} {k : List Key}
theorem cA.fresh {gs : List (List Key × V)} {fp : List Addr} (rs : cA K CL H Z kvs gs fp) (hk : k ∉ kvs.map (·.1)) (v : V) : putK gs k v = gs ++ [(k, v)] := by
 refine PK v ?_
 cases hx : iL gs k with
 | none => rfl
 | some z =>
   exfalso
   refine hk ?_
   rw [rs.keys]
   unfold iL at hx
   obtain ⟨q, hf, _⟩ := aiH.mp hx
   have h0 := List.find?_some hf
   have h1 : q.1 = k := aiT h0
   rw [← h1]
   exact List.mem_map_of_mem (akk hf)
theorem aO.U6 (S : aO K CL b H Z δ σ (t :: ts) (v :: vs)) (ev : σ[i]? = some (some v0)) (hi : δ[i]? = some (some t0)) (hp : T.qP p t0 = some (.dct kvs)) (yw : Ck H v0 p w) (hk : k ∉ kvs.map (·.1)) :
   ∃ a gs, w = .ref a /\ H a = some (.dT gs) /\ gs.length = kvs.length /\ aO K CL b (upd H a (.dT (putK gs k v))) Z (δ.set i (some (T.qQ p (.dct (kvs ++ [(k, t)])) t0))) σ ts vs := by
 obtain ⟨f2, gp, ru, rr, nd, go⟩ := S.DZ ev hi hp yw
 cases ru with
 | @dct a gs _ g ha rs =>
   cases rr with
   | @cons _ _ _ _ ft gr q1 q2 =>
     have ne : ∀ c ∈ g ++ (ft ++ gr), c ≠ a := fun c hc z => by subst z; exact (ai3.mp nd).1 hc
     have pm : ((a :: (g ++ (ft ++ []))) ++ gr).Perm ((a :: g) ++ (ft ++ gr)) := ajQ.mpr fun c => by simp only [aj0, List.count_cons, List.count_nil]; omega
     refine ⟨a, gs, rfl, ha, rs.length.symm, ?_⟩
     rw [rs.fresh hk]
     exact go rfl aiq rfl (.dct aE (cA.snoc (rs.mono (.refl _) fun c hc => aj (ne c (by simp [hc]))) (q1.mono (.refl _) fun c hc => aj (ne c (by simp [hc])))))
       (q2.mono (.refl _) fun c hc => aj (ne c (by simp [hc]))) (pm.nodup_iff.mpr nd) fun c hc => pm.mem_iff.mp hc
end
section
variable {X : Cx} {CL : Str -> Addr} {b : Bx} {δ δ1 : List (Option T)} {e e0 e2 : Expr} {t t1 : T} {D : eo} {pos ps : Pos} {i : Nat} {fC : List Stmt} {p : List Cj} {kvs : List (List Key × T)}
theorem U7 (k : List Key) (hu : X.A.units + 64 < cLine) (h : bR X CL b e δ t δ1) (hE : Qz X CL b e0 δ1 i p) (h2 : bR X CL b e2 δ1 (oA k) δ1) (h1 : δ1[i]? = some (some t1)) (hp1 : T.qP p t1 = some (.dct kvs)) (hk : k ∉ kvs.map (·.1)) (hl : kvs.length <= 1000000) (kk : e9 X CL b fC (δ1.set i (some (T.qQ p (.dct (kvs ++ [(k, t)])) t1))) D)
   (hs : swapsWith e (some (.Subscript e0 e2 ps)) pos.line X.env = pure false := by rfl) : e9 X CL b (.Assign [.Subscript e0 e2 ps] e pos :: fC) δ D := bO fun H Z σ ts vs E S M =>
 nM (Dw (by omega) cg cg cg hs) (h H Z σ ts vs _ S fun v H1 Z1 z1 k1 S1 => hE H1 Z1 σ _ _ _ S1 fun v0 w H2 Z2 z2 k2 S2 ev yw => h2 H2 Z2 σ _ _ _ S2 fun v2 H3 Z3 z3 k3 S3 => by
   obtain ⟨kb, rfl, hb⟩ := S3.DW
   obtain ⟨a, gs, ea, ha, hg, S4⟩ := S3.pop.U6 ev h1 hp1 (yw.mono k3) hk
   exact ⟨a, _, ea, Du.t ha hb (by rw [hg]; exact ajH hl (by rw [ajg]; decide)), M.nx _ σ _ Z3 (z1.trans (z2.trans z3)) S4 kk⟩)
end
end L3
namespace L2
open PySem PySem.Spec PyProof.Rows
section
variable {X : Cx} {pins : List (Addr × Obj)} {σ : St} {H : Hp} {s : Shared} {a b : Addr} {k : List Key} {gs : List (List Key × V)} {v : V} {r : Value} {A : Around} {E : Value -> Shared -> Prop}
theorem Lh (I : Inv X pins σ H s) (h : qE X.K H b (k.map kV)) : (tupleKind (fE X.prog X.w)).is s.heap k b := by
 obtain ⟨its, rv, ⟨o, h1, h2, n, h3⟩, hz⟩ := I.tuple h
 exact ⟨o, its.toArray, n, h1, h2, h3, by simpa using wX rv⟩
theorem Nh {Q : Value -> Shared -> Prop} (hu : A.units + 1 < cLine) (I : Inv X pins σ H s) (e : Rd H a (.dT gs)) (hb : qE X.K H b (k.map kV)) (l : iL gs k = some v) (h : ∀ w' s', Inv X pins σ H s' -> RelV v w' -> Q w' s') : wpAny (model X.prog X.w) A (getItem (.ref a) (.ref b)) Q E s := by
 obtain ⟨z, hd, xs, rel, dd⟩ := z9 I.dw e
 obtain ⟨w', hw, F3⟩ := sS.some_of (v := v) (o := (atKey xs k).map (·.2)) (by rw [← l]; exact rel.val k)
 obtain ⟨p, hp, hp2⟩ := aiH.mp hw
 refine wpAny_getItem_heap (aka hu) (Lh I hb) dd hp ?_
 rw [hp2]
 exact h w' _ (I.tok _) F3
theorem Ni {Q : Unit -> Shared -> Prop} (hu : A.units + 1 < cLine) (I : Inv X pins σ H s) (e : H a = some (.dT gs)) (hb : qE X.K H b (k.map kV)) (l : (iL gs k).isSome = true) (rv : RelV v r) (h : ∀ s', Inv X pins σ (upd H a (.dT (gs.map fun kv => if kv.1 = k then (kv.1, v) else kv))) s' -> Q () s') : wpAny (model X.prog X.w) A (setItem (.ref a) (.ref b) r) Q E s := by
 obtain ⟨z, hd, xs, rel, dd⟩ := WX I.dw e
 have hz : xs.length <= sizeLine := by rw [← aj7 rel]; exact z
 have ha : (atKey xs k).isSome = true := by
   have := (rel.val k).r6
   rw [l, akw] at this
   exact this.symm
 refine wpAny_setItem_heap (hsz := hz) (aka hu) (Lh I hb) dd fun h' dd' hs => h _ ?_
 obtain ⟨q, es, ep, hq, h2, h3, h4, _, h5⟩ := dd'
 have est : storedH xs k b r = xs.map (putAt k r) := by unfold storedH; rw [aiC ha]
 rw [est] at h4 h5
 refine Dv I (by rw [e]; exact True.intro) hs ⟨q, hq⟩ ⟨by rw [aio]; exact z, hd, _, (rel.repl k rv).keeps fun c ys ec => ?_, q, es, ep, hq, h2, h3, h4, h5⟩
 rw [aj (WG ec e (fun z => nomatch z))]
 exact ec
end
section
variable {X : Cx} {o i value : Expr} {td ty tv : TE} {pos pos' : Pos}
noncomputable def acI (X : Cx) (td ty : TE) : TE := fun σ H Q => td σ H fun x H1 => ty σ H1 fun y H2 => ∃ a v gs k b, x = .ref a /\ y = .ref b /\ Rd H2 a (.dT gs) /\ qE X.K H2 b (k.map kV) /\ iL gs k = some v /\ Q v H2
theorem U8 (hu : X.A.units + 1 < cLine) (ho : PE X o td) (hi : PE X i ty) (hs : MB i) : PE X (.Subscript o i pos) (acI X td ty) := by
 intro pins s σ H Q I h
 refine KS PySem.F.slot_dict_getitem.lookup hs (cN (ho pins s σ H _ I h) fun u s1 ⟨x, H1, I1, rx, q1⟩ => cN (hi pins s1 σ H1 _ I1 q1) fun iv s2 zz => ?_)
 obtain ⟨y, H2, I2, ry, a, v, gs, k, b, ex, ey, g, hb, l, q2⟩ := zz
 subst ex ey
 obtain rfl : u = Value.ref a := rx
 obtain rfl : iv = Value.ref b := ry
 obtain ⟨_, _, _, _, dd⟩ := z9 I2.dw g
 exact ⟨dd.typeIs, Nh hu I2 g hb l fun w' s3 I3 F3 => ⟨v, H2, I3, F3, q2⟩⟩
noncomputable def acJ (X : Cx) (td ty tv : TE) : TS := fun D σ H => tv σ H fun v H1 => td σ H1 fun x H2 => ty σ H2 fun y H3 => ∃ a gs k b, x = .ref a /\ y = .ref b /\ H3 a = some (.dT gs) /\ qE X.K H3 b (k.map kV) /\ (iL gs k).isSome = true /\ D.nx σ (upd H3 a (.dT (gs.map fun kv => if kv.1 = k then (kv.1, v) else kv)))
theorem U9 (hu : X.A.units + 1 < cLine) (ho : PE X o td) (hi : PE X i ty) (hv : PE X value tv) (hs : swapsWith value (some (.Subscript o i pos')) pos.line X.env = pure false) :
   PS X (.Assign [.Subscript o i pos'] value pos) (acJ X td ty tv) := by
 intro pins s σ H D I h
 refine wpAny_Assign_Subscript (cN (hv pins s σ H _ I h) fun r s1 ⟨v, H1, I1, rv, q1⟩ => cN (ho pins s1 σ H1 _ I1 q1) fun u s2 ⟨x, H2, I2, rx, q2⟩ => cN (hi pins s2 σ H2 _ I2 q2) fun iv s3 zz => ?_) hs
 obtain ⟨y, H3, I3, ry, a, gs, k, b, ex, ey, g, hb, l, q3⟩ := zz
 subst ex ey
 obtain rfl : u = Value.ref a := rx
 obtain rfl : iv = Value.ref b := ry
 exact Ni hu I3 g hb l rv fun s4 I4 => ⟨σ, _, I4, q3⟩
end
theorem afu {prog : Program} {w : World} {d : Addr} {od : Obj} {es : Array DictEntry} {ep : Nat} (lo : (d == sysModules) = false) (hc : od.cls = .type "dict") (AF : od.data = .dict es ep) : PySem.W.KdlSrc prog w "dict" d d es.size (fun i v => ∃ e, es[i]? = some e /\ v = e.key) (fun h => h.get? d = some od) where
 type := fun _ hm => ⟨od, hm, hc⟩
 there := fun _ hm => ⟨aiF hm, aiF hm⟩
 keep := fun _ _ hm hk => hk d (.inl rfl) od hm
 notList := by decide
 notTuple := by decide
 hint := fun _ _ _ _ hm hq => PySem.W.kdl_hint_dict ⟨od, hm, hc⟩ hq
 iter := fun A s hh hm => ⟨_, fun i h => h.IsKeyIter s.heap.objs.size d i es.size ep /\ h.get? d = some od, fun _ _ hq => L3.Dk.GA lo hm ⟨od, hm, hc⟩ AF hq,
   { sub := fun b hb => by simp at hb; simp [hb]
     frame := fun _ _ _ st hk => ⟨st.1.at fun o e => hk _ (by simp) o e, hk d (by simp) od st.2⟩
     item := fun i s2 Q E hi st hQ => by
       refine L3.Dk.next_item st.1 st.2 AF (akl hi) fun h' MQ K4 => ?_
       exact hQ _ h' s2.toks ⟨_, akl hi, rfl⟩ ⟨MQ, (K4.2 d (aiX (aiF hm))).trans st.2⟩ fun b o hb e => K4.extBut b o (fun h => hb (by simp [h])) e
     done := fun s2 Q E st hQ => L3.Dk.next_end hh st.1 st.2 AF (ait _) fun h' he' => hQ h' s2.toks fun b o hb e => he' b o (fun h => hb (by simp [h])) e
     self := fun _ _ _ _ st hQ => wpAny_pyIter_keyiter st.1 hQ }, ⟨⟨_, aiR _ rfl, rfl, rfl⟩, aiv _ hm⟩⟩
theorem Cp {X : Cx} (hc : X.calm = true) : tu X (.type "list") (fun xs H Q => ∃ p gs, xs = [.ref p] /\ Rd H p (.dT gs) /\ ∀ l bs, H l = none -> bs.length = gs.length -> (∀ (j : Nat) (k : List Key) (v : V), gs[j]? = some (k, v) -> ∃ b, bs[j]? = some (.ref b) /\ H b = some (.tup (k.map kV))) -> Q (.ref l) (upd H l (.lst bs))) := by
 intro pins s σ H xs us Q I r h
 obtain ⟨p, gs, rfl, hq, q⟩ := h
 obtain ⟨u, rfl, rx⟩ := vals1 r
 cases rx
 obtain ⟨z, hd, ys, rel, o, es, ep, e, c, dat, Zx, nd⟩ := (show dJ X.prog X.w H s.heap p (.dT gs) from PL I.dw hq)
 have hl := aj7 rel
 have hsz : es.size = ys.length := by rw [← ajP, Zx, aio]
 refine PySem.W.kdl_call (afu (ep := ep) hd c.1 dat) (I.ok.hd hc) e (by omega) fun h' tk Va c' hk eh MG => ?_
 have hal : Va.toList.length = ys.length := by rw [ajP]; exact MG.1.trans hsz
 have hv : Vals (ys.map fun y => V.ref y.2.1) Va.toList := by
   have gen : ∀ (l : List (List Key × Addr × Value)) (m : List Value), m.length = l.length -> (∀ (j : Nat) (x : Value), m[j]? = some x -> ∃ y, l[j]? = some y /\ x = .ref y.2.1) -> Vals (l.map fun y => V.ref y.2.1) m := by
     intro l
     induction l with
     | nil => intro m hm _; cases m with
       | nil => exact .nil
       | cons _ _ => simp at hm
     | cons p l ih =>
       intro m hm hx
       cases m with
       | nil => simp at hm
       | cons x m =>
         obtain ⟨y, e1, e2⟩ := hx 0 x rfl
         simp at e1
         subst e1 e2
         exact .cons rfl (ih m (by simpa using hm) fun j x' hj => by simpa using hx (j + 1) x' (by simpa using hj))
   refine gen ys Va.toList hal fun j x hj => ?_
   obtain ⟨en, h1, h2⟩ := MG.2 j x (by rw [← akf]; exact hj)
   rw [← akf, Zx, aiE] at h1
   obtain ⟨y, h3, rfl⟩ := aiH.mp h1
   exact ⟨y, h3, h2⟩
 refine ⟨.ref s.heap.objs.size, _, I.laid (t' := tk) hk (Nat.le_refl _) (show dJ X.prog X.w _ h' _ (.lst (ys.map fun y => V.ref y.2.1)) from ⟨by rw [List.length_map]; omega, Va.toList, c', hv, by simpa using eh⟩), rfl, q _ _ (I.dw.fresh (Nat.le_refl _)) (by rw [List.length_map]; omega) fun j k v hj => ?_⟩
 obtain ⟨y, h1, h2, h3, _⟩ := Paired.nth rel hj
 exact ⟨y.2.1, by rw [aiE, h1]; rfl, h3⟩
end L2
namespace L3
open PySem PySem.Spec PyProof.Rows L2
section
variable {K : PySem.W.Frag} {CL : Str -> Addr} {b : Bx} {H Z : Hp} {δ : List (Option T)} {σ : L2.St} {ts : List T} {vs : List V} {t t0 : T} {v v0 w : V} {i : Nat} {p : List Cj} {kvs : List (List Key × T)} {k : List Key}
theorem AG {ks : List Key} {us : List V} (r : aF K CL Z (ks.map DT) us) : us = ks.map kV := by
 induction ks generalizing us with
 | nil => cases r; rfl
 | cons k ks ih =>
   rw [aiB] at r
   cases r with
   | cons r rr => rw [r.key, ih rr, aiB]
theorem u6 {α : Type} {kvs : List (List Key × α)} {k : List Key} {x : α} (h : ja kvs k = some x) : (k, x) ∈ kvs := by
 unfold ja at h
 obtain ⟨q, hf, rfl⟩ := aiH.mp h
 have h0 := List.find?_some hf
 have h1 : q.1 = k := aiT h0
 rw [← h1]
 exact akk hf
theorem cA.alter {gs : List (List Key × V)} {fp : List Addr} (h : cA K CL H Z kvs gs fp) (hk : ja kvs k = some t0) (nd : (kvs.map (·.1)).Nodup) :
   ∃ f1 f2 f3, fp = f1 ++ (f2 ++ f3) /\ (iL gs k).isSome = true ∧
     ∀ {H' : Hp} {t' : T} {v' : V} {g : List Addr}, (∀ a ∈ f1 ++ f3, H' a = H a) -> bu K CL H' Z t' v' g -> cA K CL H' Z (kvs.map fun kv => if kv.1 = k then (kv.1, t') else kv) (gs.map fun kv => if kv.1 = k then (kv.1, v') else kv) (f1 ++ (g ++ f3)) := by
 refine cA.ind (P := fun kvs gs fp => ja kvs k = some t0 -> (kvs.map (·.1)).Nodup -> ∃ f1 f2 f3, fp = f1 ++ (f2 ++ f3) /\ (iL gs k).isSome = true ∧
     ∀ {H' : Hp} {t' : T} {v' : V} {g : List Addr}, (∀ a ∈ f1 ++ f3, H' a = H a) -> bu K CL H' Z t' v' g -> cA K CL H' Z (kvs.map fun kv => if kv.1 = k then (kv.1, t') else kv) (gs.map fun kv => if kv.1 = k then (kv.1, v') else kv) (f1 ++ (g ++ f3))) (fun e => by cases e) (fun {x t1 v1 ts vs fp gp} r rr i hk nd => ?_) h hk nd
 rw [aiB, ai3] at nd
 by_cases e : x = k
 . subst e
   have no : ∀ {β : Type} (l : List (List Key × β)) (z : β), x ∉ l.map (·.1) -> (l.map fun kv => if kv.1 = x then (kv.1, z) else kv) = l := fun l z hx => by
     have : ∀ kv ∈ l, (if kv.1 = x then (kv.1, z) else kv) = kv := fun kv hkv => aiu fun (e : kv.1 = x) => hx (by rw [← e]; exact aiI.mpr ⟨kv, hkv, rfl⟩)
     exact (ajk this).trans (List.map_id _)
   refine ⟨[], fp, gp, rfl, by rw [om rfl]; rfl, fun {H' t' v' g} ka q => ?_⟩
   rw [aiB, aiB, aiC rfl, aiC rfl, no ts t' nd.1, no vs v' (by rw [← rr.keys]; exact nd.1)]
   exact (show cA K CL H' Z ((x, t') :: ts) ((x, v') :: vs) (g ++ gp) from .cons q (rr.mono (.refl _) fun a ha => ka a ha))
 . rw [ju (p := (x, t1)) e] at hk
   obtain ⟨f1, f2, f3, h2, h3, h4⟩ := i hk nd.2
   refine ⟨fp ++ f1, f2, f3, by rw [h2, ain], by rw [lY (p := (x, v1)) e]; exact h3, fun {H' t' v' g} ka q => ?_⟩
   rw [aiB, aiB, aiu e, aiu e, ain]
   exact .cons (r.mono (.refl _) fun a ha => ka a (by simp [ha])) (h4 (fun a ha => ka a (by rw [ain]; exact ail _ ha)) q)
theorem aO.QK (S : aO K CL b H Z δ σ (t :: ts) (v :: vs)) (ev : σ[i]? = some (some v0)) (hi : δ[i]? = some (some t0)) (hp : T.qP p t0 = some (.dct kvs)) (yw : Ck H v0 p w) {u : T} (hk : ja kvs k = some u) (Ys : (kvs.map (·.1)).Nodup) :
   ∃ a gs, w = .ref a /\ H a = some (.dT gs) /\ (iL gs k).isSome = true /\ aO K CL b (upd H a (.dT (gs.map fun kv => if kv.1 = k then (kv.1, v) else kv))) Z (δ.set i (some (T.qQ p (.dct (kvs.map fun kv => if kv.1 = k then (kv.1, t) else kv)) t0))) σ ts vs := by
 obtain ⟨f2, gp, ru, rr, nd, go⟩ := S.DZ ev hi hp yw
 cases ru with
 | @dct a gs _ g ha rs =>
   cases rr with
   | @cons _ _ _ _ ft gr q1 q2 =>
     obtain ⟨g1, g2, g3, h1, h2, h4⟩ := rs.alter hk Ys
     subst h1
     have ne : ∀ c ∈ (g1 ++ (g2 ++ g3)) ++ (ft ++ gr), c ≠ a := fun c hc z => by subst z; exact (ai3.mp nd).1 hc
     refine ⟨a, gs, rfl, ha, h2, ?_⟩
     have sb : ((a :: (g1 ++ g3)) ++ (ft ++ gr)).Sublist ((a :: (g1 ++ (g2 ++ g3))) ++ (ft ++ gr)) := by
       simp only [aiP, ain]
       exact List.Sublist.cons₂ _ (ai9 (aja _) (aji _ _))
     have pm : ((a :: (g1 ++ (ft ++ g3))) ++ gr).Perm ((a :: (g1 ++ g3)) ++ (ft ++ gr)) := ajQ.mpr fun c => by simp only [aj0, List.count_cons]; omega
     exact go rfl aiq rfl (.dct aE (h4 (fun c hc => aj (ne c (by
       rcases aix.mp hc with h | h
       . simp [h]
       . simp [h]))) (q1.mono (.refl _) fun c hc => aj (ne c (by simp [hc])))))
       (q2.mono (.refl _) fun c hc => aj (ne c (by simp [hc]))) (pm.nodup_iff.mpr (nd.sublist sb)) fun c hc => sb.subset (pm.mem_iff.mp hc)
end
section
variable {X : Cx} {CL : Str -> Addr} {b : Bx} {δ δ1 δ2 : List (Option T)} {e e0 e1 e2 : Expr} {t t1 u : T} {d : L3.D} {D : eo} {pos pp ps : Pos} {i : Nat} {fC : List Stmt} {p : List Cj}
theorem Nj {kvs : List (List Key × L3.D)} (g : Gx X) (hm : X.mg "list" = none) (h : cF X CL b e δ (.dct kvs) δ1) (hg : Gl X "list") (hs : starEach [e] X.env = (false, eval e X.env) :: starEach [] X.env := by exact aY rfl) : bR X CL b (.Call (.Name "list" pp) [e] [] pos) δ (.lst ((kvs.map fun kv => tK kv.1).map T.sh)) δ1 := fun H Z σ ts vs Q S k =>
 bY (ji (Cp g.calm) hg hm bV (bG cg dM hs) (he := hs)) (h H Z σ ts vs _ S fun v H1 Z1 z1 k1 S1 r => by
   cases r with
   | @dct a gs _ ha rr =>
     refine ⟨a, gs, rfl, ha, fun l bs hl hbl hb => ?_⟩
     have Ti := rr.length
     have gen : ∀ {kvs : List (List Key × L3.D)} {gs : List (List Key × V)} {bs : List V}, kvs.map (·.1) = gs.map (·.1) -> bs.length = gs.length -> (∀ (j : Nat) (k : List Key) (v : V), gs[j]? = some (k, v) -> ∃ b, bs[j]? = some (.ref b) /\ H1 b = some (.tup (k.map kV))) -> aF X.K CL Z1 (kvs.map fun kv => tK kv.1) bs := by
       intro kvs
       induction kvs with
       | nil =>
         intro gs bs e1 e2 _
         cases gs with
         | nil =>
           cases bs with
           | nil => exact .nil
           | cons _ _ => simp at e2
         | cons _ _ => simp at e1
       | cons q kvs ih =>
         intro gs bs e1 e2 e3
         cases gs with
         | nil => simp at e1
         | cons p gs =>
           cases bs with
           | nil => simp at e2
           | cons c bs =>
             rw [aiB, aiB] at e1
             injection e1 with e1 e4
             obtain ⟨b, h1, h2⟩ := e3 0 p.1 p.2 rfl
             simp at h1
             subst h1
             rw [aiB]
             refine .cons ?_ (ih e4 (by simpa using e2) fun j k v hj => by simpa using e3 (j + 1) k v (by simpa using hj))
             show aZ X.K CL Z1 (tK q.1) (.ref b)
             rw [e1]
             exact .tup (qE.of (S1.tp _ _ h2 rfl)) (Ax _)
     have hr := gen rr.keys hbl hb
     obtain ⟨c, S2⟩ := (aO.tE hr S1).pe (g0 := []) (by simp [hbl, Ti]) hl
     exact k _ _ _ z1 (k1.trans c) S2)
theorem QL {kvs : List (List Key × L3.D)} (k : List Key) (hu : X.A.units + 64 < cLine) (h1 : cF X CL b e1 δ (.dct kvs) δ1) (h2 : cF X CL b e2 δ1 (tK k) δ2) (hk : ja kvs k = some d) (hs : MB e2 := by exact fun _ _ => rfl) : cF X CL b (.Subscript e1 e2 pos) δ d δ2 := fun H Z σ ts vs Q S kk =>
 bY (U8 (by omega) cg cg hs) (h1 H Z σ ts vs _ S fun v H1 Z1 z1 k1 S1 r1 => h2 H1 Z1 σ ts vs _ S1 fun v2 H2 Z2 z2 k2 S2 r2 => by
   cases r1 with
   | @dct a gs _ ha rr =>
     unfold tK at r2
     cases r2 with
     | tup hq rk =>
       rw [AG rk] at hq
       have rr' := rr.mono k2
       rcases rr'.val (k := k) with ⟨h0, _⟩ | ⟨d', v', h0, hv, rd⟩
       . rw [hk] at h0; cases h0
       . rw [hk] at h0; cases h0
         exact ⟨a, v', gs, k, _, rfl, rfl, Rd.mono k2 ha, hq, hv, kk v' H2 Z2 (z1.trans z2) (k1.trans k2) S2 rd⟩)
theorem QM {kvs : List (List Key × T)} (k : List Key) (hu : X.A.units + 64 < cLine) (h : bR X CL b e δ t δ1) (hE : Qz X CL b e0 δ1 i p) (h2 : cF X CL b e2 δ1 (tK k) δ1) (h1 : δ1[i]? = some (some t1)) (hp1 : T.qP p t1 = some (.dct kvs)) (hk : ja kvs k = some u) (nd : (kvs.map (·.1)).Nodup) (kk : e9 X CL b fC (δ1.set i (some (T.qQ p (.dct (kvs.map fun kv => if kv.1 = k then (kv.1, t) else kv)) t1))) D)
   (hs : swapsWith e (some (.Subscript e0 e2 ps)) pos.line X.env = pure false := by rfl) : e9 X CL b (.Assign [.Subscript e0 e2 ps] e pos :: fC) δ D := bO fun H Z σ ts vs E S M =>
 nM (U9 (by omega) cg cg cg hs) (h H Z σ ts vs _ S fun v H1 Z1 z1 k1 S1 => hE H1 Z1 σ _ _ _ S1 fun v0 w H2 Z2 z2 k2 S2 ev yw => h2 H2 Z2 σ _ _ _ S2 fun v2 H3 Z3 z3 k3 S3 r3 => by
   unfold tK at r3
   cases r3 with
   | tup hq rk =>
     rw [AG rk] at hq
     obtain ⟨a, gs, ea, ha, hg, S4⟩ := S3.QK ev h1 hp1 (yw.mono k3) hk nd
     exact ⟨a, gs, k, _, ea, rfl, ha, hq, hg, M.nx _ σ _ Z3 (z1.trans (z2.trans z3)) S4 kk⟩)
theorem CV {ds : List L3.D} (hm : X.mg "tuple" = none) (h : bR X CL b e δ (.sh (.tup ds)) δ1) (hg : Gl X "tuple") (hs : starEach [e] X.env = (false, eval e X.env) :: starEach [] X.env := by exact aY rfl) : bR X CL b (.Call (.Name "tuple" pp) [e] [] pos) δ (.sh (.tup ds)) δ1 := fun H Z σ ts vs Q S k =>
 bY (ji nK hg hm qL (bG cg dM hs) (he := hs)) (h H Z σ ts vs _ S fun v H1 Z1 z1 k1 S1 => by
   have r := S1.Qk
   cases r with
   | tup hq rr => exact ⟨_, _, rfl, .inr ⟨aB.KY S1.zh hq, k _ H1 Z1 z1 k1 S1⟩⟩)
end
end L3
namespace Law
open PySem L2 L3
noncomputable def top (i : Nat) : Stmt := PySem.Challenge.pw_moodtree_k55_a_table_written_back.main.body.getD i (.Pass ⟨0, 0, 0, 0⟩)
noncomputable def QN : Nat -> List Int -> Int -> List Int
 | 0, _, _ => []
 | n + 1, es, k => if k = -1 then [] else k :: QN n es (es.getD k.toNat 0)
noncomputable def tV (es : List Int) (m : Int) : List Int := QN (es.length + 1) es (es.getD m.toNat 0)
noncomputable def lC (ks : List Str) (es ss : List Int) : L3.D := .ins "Tree" [("kinds", .lst (ks.map .str)), ("elders", .lst (es.map .int)), ("starts", .lst (ss.map .int))]
theorem pH {ks : List Str} {es ss : List Int} : List.lookup ("kinds" : Str) [(("kinds" : Str), L3.D.lst (ks.map .str)), ("elders", .lst (es.map .int)), ("starts", .lst (ss.map .int))] = some (.lst (ks.map .str)) := fW
theorem cP {ks : List Str} {es ss : List Int} : List.lookup ("elders" : Str) [(("kinds" : Str), L3.D.lst (ks.map .str)), ("elders", .lst (es.map .int)), ("starts", .lst (ss.map .int))] = some (.lst (es.map .int)) := by
 rw [bD (by decide +kernel), fW]
theorem qS {ks : List Str} {es ss : List Int} : List.lookup ("starts" : Str) [(("kinds" : Str), L3.D.lst (ks.map .str)), ("elders", .lst (es.map .int)), ("starts", .lst (ss.map .int))] = some (.lst (ss.map .int)) := by
 rw [bD (by decide +kernel), bD (by decide +kernel), fW]
theorem cK (ds : List L3.D) : T.cu (.lst (ds.map T.sh)) = .lst ds := by rw [T.cu, iR]
theorem tW (l : List Int) : (T.lst ((l.map L3.D.int).map T.sh)).clean = true := by rw [oq]; exact yq _
theorem IY (l : List Str) : (T.lst ((l.map L3.D.str).map T.sh)).clean = true := by
 rw [oq]
 induction l with
 | nil => rfl
 | cons x l ih => exact ih
noncomputable def qT (ks : List Str) (es ss : List Int) : List (Str × T) := [("kinds", .lst ((ks.map .str).map T.sh)), ("elders", .lst ((es.map .int).map T.sh)), ("starts", .lst ((ss.map .int).map T.sh))]
theorem Nk (ks : List Str) (es ss : List Int) : T.cu (.ins "Tree" (qT ks es ss)) = lC ks es ss := by
 unfold qT
 rw [T.cu, T.mZ, T.mZ, T.mZ, T.mZ, cK, cK, cK]
 rfl
theorem yx (ks : List Str) (es ss : List Int) : T.bw (qT ks es ss) = true := by
 unfold qT
 rw [T.bw, T.bw, T.bw, T.bw, IY, tW, tW]
 rfl
noncomputable def QO (CW : Int -> Bool) (es : List Int) (a b t : Int) : Prop :=
 (t = -1 /\ ∀ x ∈ tV es a, x ∈ tV es b -> CW x = false) \/ (t ∈ tV es a /\ t ∈ tV es b /\ CW t = true /\ ∀ x ∈ tV es a, x ∈ tV es b -> CW x = true -> x = t \/ x ∈ tV es t)
theorem QO.symm {CW : Int -> Bool} {es : List Int} {a b t : Int} (h : QO CW es a b t) : QO CW es b a t := by
 rcases h with ⟨e, h⟩ | ⟨h1, h2, h3, h4⟩
 . exact .inl ⟨e, fun x hx hy => h x hy hx⟩
 . exact .inr ⟨h2, h1, h3, fun x hx hy => h4 x hy hx⟩
theorem Li : ∀ (n : Nat) (es : List Int) (k : Int), (QN n es k).length <= n
 | 0, _, _ => ait _
 | n + 1, es, k => by
   rw [QN]
   split
   . exact ai5 _
   . exact Nat.succ_le_succ (Li n es _)
noncomputable def jw (bs nm : List L3.D) (tr : L3.D) (is os ws : List L3.D) : L3.D := .ins "Chart" [("boxes", .lst bs), ("names", .lst nm), ("tree", tr), ("ins", .lst is), ("outs", .lst os), ("ways", .lst ws)]
section
variable {bs nm is os ws : List L3.D} {tr : L3.D}
theorem m9 : List.lookup ("boxes" : Str) [(("boxes" : Str), L3.D.lst bs), ("names", .lst nm), ("tree", tr), ("ins", .lst is), ("outs", .lst os), ("ways", .lst ws)] = some (.lst bs) := fW
theorem gU : List.lookup ("names" : Str) [(("boxes" : Str), L3.D.lst bs), ("names", .lst nm), ("tree", tr), ("ins", .lst is), ("outs", .lst os), ("ways", .lst ws)] = some (.lst nm) := by
 rw [bD (by decide +kernel), fW]
theorem AH : List.lookup ("tree" : Str) [(("boxes" : Str), L3.D.lst bs), ("names", .lst nm), ("tree", tr), ("ins", .lst is), ("outs", .lst os), ("ways", .lst ws)] = some tr := by
 rw [bD (by decide +kernel), bD (by decide +kernel), fW]
theorem xj : List.lookup ("ins" : Str) [(("boxes" : Str), L3.D.lst bs), ("names", .lst nm), ("tree", tr), ("ins", .lst is), ("outs", .lst os), ("ways", .lst ws)] = some (.lst is) := by
 rw [bD (by decide +kernel), bD (by decide +kernel), bD (by decide +kernel), fW]
theorem tX : List.lookup ("outs" : Str) [(("boxes" : Str), L3.D.lst bs), ("names", .lst nm), ("tree", tr), ("ins", .lst is), ("outs", .lst os), ("ways", .lst ws)] = some (.lst os) := by
 rw [bD (by decide +kernel), bD (by decide +kernel), bD (by decide +kernel), bD (by decide +kernel), fW]
theorem tY : List.lookup ("ways" : Str) [(("boxes" : Str), L3.D.lst bs), ("names", .lst nm), ("tree", tr), ("ins", .lst is), ("outs", .lst os), ("ways", .lst ws)] = some (.lst ws) := by
 rw [bD (by decide +kernel), bD (by decide +kernel), bD (by decide +kernel), bD (by decide +kernel), bD (by decide +kernel), fW]
end
noncomputable def xm (bs nm : List L3.D) : List (Str × T) := [("boxes", .lst (bs.map T.sh)), ("names", .lst (nm.map T.sh))]
noncomputable def xo (is os ws : List L3.D) : List (Str × T) := [("ins", .lst (is.map T.sh)), ("outs", .lst (os.map T.sh)), ("ways", .lst (ws.map T.sh))]
noncomputable def xq (bs nm : List L3.D) (t : T) (is os ws : List L3.D) : List (Str × T) := xm bs nm ++ (("tree" : Str), t) :: xo is os ws
theorem IZ (bs nm : List L3.D) (t : T) (is os ws : List L3.D) : T.cu (.ins "Chart" (xq bs nm t is os ws)) = jw bs nm t.cu is os ws := by
 unfold xq xm xo
 rw [aiP, aiP, ajw, T.cu, T.mZ, T.mZ, T.mZ, T.mZ, T.mZ, T.mZ, T.mZ, cK, cK, cK, cK, cK]
 rfl
theorem aV {ds : List L3.D} (h : D.bK ds = true) : (T.lst (ds.map T.sh)).clean = true := by
 rw [oq]
 induction ds with
 | nil => rfl
 | cons d ds ih =>
   rw [D.bK, aiO] at h
   rw [aiB, T.gB, ih h.2, T.clean, h.1]; rfl
theorem D7 {bs nm : List L3.D} (h1 : D.bK bs = true) (h2 : D.bK nm = true) : T.bw (xm bs nm) = true := by
 unfold xm
 rw [T.bw, T.bw, T.bw, aV h1, aV h2]; rfl
theorem D8 {is os ws : List L3.D} (h1 : D.bK is = true) (h2 : D.bK os = true) (h3 : D.bK ws = true) : T.bw (xo is os ws) = true := by
 unfold xo
 rw [T.bw, T.bw, T.bw, T.bw, aV h1, aV h2, aV h3]; rfl
noncomputable def jx (ns : List Int) (k : Int) : Int := if k < ns.length then ns.getD k.toNat 0 else 0
noncomputable def afw : List Nat := (List.range 26).map (· + 97) ++ (List.range 10).map (· + 48)
noncomputable def afx (k : Int) : Str := ⟨#[afw.getD k.toNat 0]⟩
noncomputable def acK (m : Int) : Int := (m * 48271 + 11) % 2147483647
noncomputable def I0 (p : Int × Str) : Nat -> Int × Str
 | 0 => p
 | n + 1 => (acK (I0 p n).1, (I0 p n).2 ++ afx (acK (I0 p n).1 % 36))
noncomputable abbrev St3 := List Int × List Int × List Int
inductive J where
 | out (m : Int) | IJ (m : Int) | keep (m p q : Int) | put (x p q : Int) | Tj (w : Str) (ds : List L3.D)
noncomputable def J.w : J -> Str
 | .out _ => "out"
 | .IJ _ => "in"
 | .keep _ _ _ => "keep"
 | .put _ _ _ => "put"
 | .Tj w _ => w
noncomputable def J.ds : J -> List L3.D
 | .out m => [.int m]
 | .IJ m => [.int m]
 | .keep m p q => [.int m, .int p, .int q]
 | .put x p q => [.int x, .int p, .int q]
 | .Tj _ ds => ds
noncomputable def J.d (r : J) : L3.D := .tup (.str r.w :: r.ds)
noncomputable def acL : List Str := ["sign", "way", "call", "say", "rest"]
noncomputable def QS (d : L3.D) : Prop := (∃ i, d = .int i) \/ ∃ x, d = .str x
noncomputable def J.ok (s : St3) : J -> Prop
 | .keep m _ _ => 0 <= m /\ m < s.2.1.length
 | .put x _ _ => 0 <= x /\ x < s.2.2.length
 | .Tj w ds => w ∈ acL /\ ds.length <= 3 /\ ∀ d ∈ ds, QS d
 | _ => True
theorem J.adO {s : St3} {r : J} (h : r.ok s) : r.ds.length <= 3 /\ ∀ d ∈ r.ds, QS d := by
 cases r with
 | Tj w ds => exact h.2
 | out m => exact ⟨aip rfl, fun d hd => by simp only [J.ds, aiw, aiD, ajR] at hd; exact .inl ⟨_, hd⟩⟩
 | IJ m => exact ⟨aip rfl, fun d hd => by simp only [J.ds, aiw, aiD, ajR] at hd; exact .inl ⟨_, hd⟩⟩
 | keep m p q => exact ⟨aip rfl, fun d hd => by
     simp only [J.ds, aiw, aiD, ajR] at hd
     rcases hd with h | h | h <;> exact .inl ⟨_, h⟩⟩
 | put m p q => exact ⟨aip rfl, fun d hd => by
     simp only [J.ds, aiw, aiD, ajR] at hd
     rcases hd with h | h | h <;> exact .inl ⟨_, h⟩⟩
noncomputable def Right (n : Nat) (s : St3) : J -> Prop
 | .out m => m ∈ s.1
 | .IJ m => m ∉ s.1 /\ 0 <= m /\ m < n
 | .keep m p _ => 0 <= m /\ m < s.2.1.length /\ s.2.1.getD m.toNat 0 = p
 | .put x p _ => 0 <= x /\ x < s.2.2.length /\ s.2.2.getD x.toNat 0 = p
 | .Tj w ds => w ∈ acL /\ ds.length <= 3 /\ ∀ d ∈ ds, QS d
theorem Right.ok {n : Nat} {s : St3} {r : J} (h : Right n s r) : r.ok s := by
 cases r with
 | out m => trivial
 | IJ m => trivial
 | keep m p q => exact ⟨h.1, h.2.1⟩
 | put m p q => exact ⟨h.1, h.2.1⟩
 | Tj w ds => exact h
theorem acM (r : J) : yk (L3.D.str r.w :: r.ds) 0 = some (.str r.w) := aW (j := 0) rfl
noncomputable def QT (bx mo : Int) (bs : List Int) : Int := if bx = -1 then mo else bs.getD bx.toNat 0 + mo
inductive yK where
 | put (x b m : Int)
 | call (s : Str)
 | say (s : Str) (b m : Int)
noncomputable def yK.w : yK -> Str
 | .put _ _ _ => "put"
 | .call _ => "call"
 | .say _ _ _ => "say"
noncomputable def yK.ds : yK -> List L3.D
 | .put x b m => [.int x, .tup [.int b, .int m]]
 | .call s => [.str s]
 | .say s b m => [.str s, .tup [.int b, .int m]]
noncomputable def yK.d (q : yK) : L3.D := .tup (.str q.w :: q.ds)
noncomputable def tOk (bs : List Int) (b : Int) : Prop := b = -1 \/ (0 <= b /\ b < bs.length)
noncomputable def yK.ok (bs : List Int) : yK -> Prop
 | .put x b _ => (0 <= x /\ x < bs.length) /\ tOk bs b
 | .call _ => True
 | .say _ b _ => tOk bs b
noncomputable def yK.row (bs : List Int) : yK -> J
 | .put x b m => .put x (bs.getD x.toNat 0) (QT b m bs)
 | .call s => .Tj "call" [.str s]
 | .say s b m => .Tj "say" [.str s, .int (QT b m bs)]
theorem QV (q : yK) : q.d.kX = true := by cases q <;> rfl
inductive It where
 | out (m : Int) | keep (m p q : Int) | way (i : Int) | IJ (m : Int) | pI (q : yK)
noncomputable def It.sj : It -> J
 | .out m => .out m
 | .keep m p q => .keep m p q
 | .way i => .Tj "way" [.int i]
 | .IJ m => .IJ m
 | .pI q => .Tj q.w q.ds
noncomputable def It.d (x : It) : L3.D := x.sj.d
noncomputable def It.j (bs : List Int) : It -> J
 | .pI q => q.row bs
 | x => x.sj
noncomputable def It.ok (bs : List Int) : It -> Prop
 | .pI q => q.ok bs
 | _ => True
noncomputable def It.told : It -> Bool
 | .pI _ => true
 | _ => false
noncomputable def kY : List Str := ["out", "keep", "way", "in"]
theorem Vb (x : It) : decide (x.sj.w ∈ kY) = !x.told := by
 cases x with
 | pI q =>
   cases q with
   | put x b m => show decide (("put" : Str) ∈ kY) = false; decide +kernel
   | call s => show decide (("call" : Str) ∈ kY) = false; decide +kernel
   | say s b m => show decide (("say" : Str) ∈ kY) = false; decide +kernel
 | out m => show decide (("out" : Str) ∈ kY) = true; decide +kernel
 | keep m p q => show decide (("keep" : Str) ∈ kY) = true; decide +kernel
 | way i => show decide (("way" : Str) ∈ kY) = true; decide +kernel
 | IJ m => show decide (("in" : Str) ∈ kY) = true; decide +kernel
theorem mG (x : It) : x.d.kX = true := by
 cases x with
 | pI q => exact QV q
 | _ => rfl
noncomputable def CY (m : Nat) (p : Int) : Int := p % ((m : Int) + 1) - 1
noncomputable def OO (m : Nat) (p : Int) : Int := p / ((m : Int) + 1) / 3
noncomputable def B8 (m : Nat) (p : Int) : Int := if p / ((m : Int) + 1) % 3 = 0 then OO m p % (2 * 10 ^ (9 : Int).toNat + 1) - 10 ^ (9 : Int).toNat else OO m p % 7 - 3
noncomputable def AI (m : Nat) (p : Int) : Int := if p / ((m : Int) + 1) % 3 = 0 then OO m p / (2 * 10 ^ (9 : Int).toNat + 1) else OO m p / 7
noncomputable def wN (k : Int) : Str := ("w" : Str) ++ (toString k : Str)
noncomputable def Lj (m : Nat) (hs : List Str) (p : Int) : It :=
 if p % 9 < 4 then ([.out 1, .keep 0 (-1) 2, .way (p / 9 % 5), .IJ 2] : List It).getD (p % 9).toNat (.out 1)
 else if p % 9 < 6 /\ 0 < m then .pI (.put (p / 9 % (m : Int)) (CY m (p / 9 / (m : Int))) (B8 m (p / 9 / (m : Int))))
 else if p % 9 < 8 then .pI (.say (wN (p / 9 % 3)) (CY m (p / 9 / 3)) (B8 m (p / 9 / 3)))
 else .pI (.call (hs.getD (p / 9 % (hs.length : Int)).toNat Str.empty))
noncomputable def Tp (m : Nat) (hs : List Str) (p : Int) : Int :=
 if p % 9 < 4 then p / 9 / 5
 else if p % 9 < 6 /\ 0 < m then AI m (p / 9 / (m : Int))
 else if p % 9 < 8 then AI m (p / 9 / 3)
 else p / 9 / (hs.length : Int)
noncomputable def Xe (m : Nat) (hs : List Str) (p : Int) : Nat -> Int
 | 0 => p
 | j + 1 => Tp m hs (Xe m hs p j)
noncomputable def HM (m : Nat) (hs : List Str) (p : Int) : List It := (List.range (p % 4).toNat).map fun j => Lj m hs (Xe m hs (p / 4) j)
noncomputable def GB (m : Nat) (hs : List Str) (p : Int) : Int := Xe m hs (p / 4) (p % 4).toNat
noncomputable abbrev D9 := Str × Int × Int × Int × Int
noncomputable def Ea (q : D9) : L3.D := .tup [.str q.1, .tup [.int q.2.1, .int q.2.2.1], .tup [.int q.2.2.2.1, .int q.2.2.2.2]]
noncomputable def HK : List Str := ["<", "<=", "=", "!="]
noncomputable def akO (m : Nat) (p : Int) : D9 := (HK.getD (p % 4).toNat Str.empty, CY m (p / 4), B8 m (p / 4), CY m (AI m (p / 4)), B8 m (AI m (p / 4)))
noncomputable def akP (m : Nat) (p : Int) : Int := AI m (AI m (p / 4))
noncomputable def QW (m : Nat) (p : Int) : Nat -> Int
 | 0 => p
 | j + 1 => akP m (QW m p j)
noncomputable def QX (m : Nat) (p : Int) (n : Nat) : List D9 := (List.range n).map fun j => akO m (QW m p j)
noncomputable abbrev bB := List D9 × List It × Int
noncomputable def qU (r : bB) : L3.D := .tup [.tup (r.1.map Ea), .tup (r.2.1.map It.d), .int r.2.2]
noncomputable def ZC (p : Int) : Nat := (1 + p % 2).toNat
noncomputable def rwQ (m : Nat) (p : Int) : Int := QW m (p / 2) (ZC p)
noncomputable def rwO (m : Nat) (hs : List Str) (f : Nat) (p : Int) : bB := (QX m (p / 2) (ZC p), HM m hs (rwQ m p), GB m hs (rwQ m p) % (f : Int))
noncomputable def rwP (m : Nat) (hs : List Str) (f : Nat) (p : Int) : Int := GB m hs (rwQ m p) / (f : Int)
noncomputable def ZD (m : Nat) (hs : List Str) (f : Nat) (p : Int) : Nat -> Int
 | 0 => p
 | j + 1 => rwP m hs f (ZD m hs f p j)
noncomputable def QY (m : Nat) (hs : List Str) (f : Nat) (p : Int) (n : Nat) : List bB := (List.range n).map fun j => rwO m hs f (ZD m hs f p j)
noncomputable def rwE (m : Nat) (hs : List Str) (f : Nat) (p : Int) : bB := ([], HM m hs p, GB m hs p % (f : Int))
noncomputable def ZE (m : Nat) (hs : List Str) (f : Nat) (c : Int) : List bB :=
 QY m hs f (c % 10 ^ (64 : Int).toNat / 3) (c % 10 ^ (64 : Int).toNat % 3).toNat ++ [rwE m hs f (ZD m hs f (c % 10 ^ (64 : Int).toNat / 3) (c % 10 ^ (64 : Int).toNat % 3).toNat)]
theorem ZF (q : D9) : (Ea q).kX = true := rfl
theorem Eb (r : bB) : (qU r).kX = true := by
 show (D.bK (r.1.map Ea) && (D.bK (r.2.1.map It.d) && (true && true))) = true
 rw [aL (fun _ => rfl), aL mG]
 rfl
theorem Ec (m : Nat) (hs : List Str) (p : Int) : (HM m hs p).length <= 3 := by
 unfold HM
 rw [aio, ajc]
 omega
theorem qy {n : Int} (a : 0 < n) (c : n < 4294967296) : 0 < n /\ n.natAbs.log2 < 9000 := ⟨a, by
 have : n.natAbs ≠ 0 := by omega
 rw [Nat.log2_lt this]
 exact ai0 (show n.natAbs < 2 ^ 32 by omega) (Nat.pow_le_pow_right (by decide) (by decide))⟩
noncomputable def Vc (q : Str × Int) : L3.D := .tup [.str q.1, .int q.2]
noncomputable def AJ (s : List Int) : Int := jx s 0 % 10 ^ (12 : Int).toNat
noncomputable def Nm (s : List Int) : Nat := (AJ s % 4).toNat
noncomputable def GC (s : List Int) : Nat := (1 + AJ s / 4 % 13).toNat
noncomputable def goL : List Str := ["go", "go2"]
noncomputable def OQ (s : List Int) : Nat := (1 + AJ s / 4 / 13 % 2).toNat
noncomputable def FH (s : List Int) : List Str := goL.take (OQ s)
noncomputable def Tq : List Int := [5, 10 ^ (30 : Int).toNat]
noncomputable def Vd (s : List Int) (k : Nat) : Str × Int := (("b" : Str) ++ (toString (k : Int) : Str), jx s (1 + (k : Int)) % 10 ^ (30 : Int).toNat % Tq.getD (k % 2) 0 - 2)
noncomputable def Tr (s : List Int) : List (Str × Int) := (List.range (Nm s)).map (Vd s)
noncomputable def pzX (s : List Int) : List It := HM (Nm s) (FH s) (jx s 3 % 10 ^ (60 : Int).toNat / 7)
noncomputable def AK (k : Nat) : L3.D := .tup [.tup [.int 0, .int (1 + (k : Int))], .tup [.int (-1), .int ((k : Int) - 1)]]
noncomputable abbrev bH := List Key
noncomputable def OS (hs : List Str) (a k : Nat) : bH := [.inl (a : Int), .inr (hs.getD k Str.empty)]
noncomputable def dcR (s : List Int) (m : Nat) (hs : List Str) (f a k : Nat) : List bB := ZE m hs f (jx s (4 + 2 * (a : Int) + (k : Int)))
noncomputable def Ja (s : List Int) (m : Nat) (hs : List Str) (f a n : Nat) : List (bH × List bB) := (List.range n).map fun k => (OS hs a k, dcR s m hs f a k)
noncomputable def Lk (s : List Int) (m : Nat) (hs : List Str) (f n : Nat) : List (bH × List bB) := (List.range n).flatMap fun a => Ja s m hs f a hs.length
noncomputable def Nn (s : List Int) : List (bH × List bB) := Lk s (Nm s) (FH s) (GC s) (GC s)
noncomputable def wL (l : List (bH × List bB)) : List (bH × T) := l.map fun q => (q.1, T.lst ((q.2.map qU).map T.sh))
noncomputable def dcD (l : List (bH × List bB)) : List (bH × L3.D) := l.map fun q => (q.1, L3.D.lst (q.2.map qU))
theorem Ve (s : List Int) : Nm s <= 3 /\ 1 <= GC s /\ GC s <= 13 /\ (FH s).length = OQ s /\ 1 <= OQ s /\ OQ s <= 2 := by
 have h : OQ s <= 2 /\ 1 <= OQ s := by unfold OQ; omega
 refine ⟨by unfold Nm; omega, by unfold GC; omega, by unfold GC; omega, ?_, h.2, h.1⟩
 unfold FH
 rw [ajr]
 show min (OQ s) 2 = OQ s
 omega
theorem QZ (s : List Int) : (FH s).Nodup := by
 unfold FH
 exact List.Nodup.sublist (List.take_sublist _ _) (by decide +kernel)
theorem Lp {hs : List Str} (nd : hs.Nodup) {a k a2 k2 : Nat} (h1 : k < hs.length) (h2 : k2 < hs.length) (e : OS hs a k = OS hs a2 k2) : a = a2 /\ k = k2 := by
 unfold OS at e
 injection e with e1 e2
 injection e2 with e2 _
 have e1 := Sum.inl.inj e1
 have e2 := Sum.inr.inj e2
 refine ⟨by omega, ?_⟩
 refine (List.getElem?_inj h1 nd).mp ?_
 rw [ai6, aiG h1, ai6, aiG h2] at e2
 rw [aiG h1, aiG h2]
 exact congrArg some e2
theorem Lq {s : List Int} {m : Nat} {hs : List Str} {f a n : Nat} (nd : hs.Nodup) (hn : n < hs.length) : OS hs a n ∉ (wL (Lk s m hs f a ++ Ja s m hs f a n)).map (·.1) := fun h => by
 unfold wL at h
 rw [aiQ, aiL, aix] at h
 rcases h with h | h
 . obtain ⟨q, hq, e⟩ := aiI.mp h
   obtain ⟨a2, ha, hq⟩ := ajS.mp hq
   obtain ⟨k, hk, rfl⟩ := aiI.mp hq
   have := (Lp nd (ajd.mp hk) hn e).1
   have := ajd.mp ha
   omega
 . obtain ⟨q, hq, e⟩ := aiI.mp h
   obtain ⟨k, hk, rfl⟩ := aiI.mp hq
   have h3 := ajd.mp hk
   have := (Lp nd (by omega) hn e).2
   omega
theorem Lr {s : List Int} {m : Nat} {hs : List Str} {f a n : Nat} : (Ja s m hs f a n).length = n := by unfold Ja; rw [aio, ajc]
theorem AO {s : List Int} {m : Nat} {hs : List Str} {f n : Nat} : Lk s m hs f (n + 1) = Lk s m hs f n ++ Ja s m hs f n hs.length := by
 unfold Lk
 rw [ajX, List.flatMap_append]
 simp
theorem Ed {s : List Int} {m : Nat} {hs : List Str} {f : Nat} : ∀ n, (Lk s m hs f n).length = n * hs.length
 | 0 => by simp [Lk]
 | n + 1 => by rw [AO, aiU, Lr, Ed n, Nat.succ_mul]
noncomputable def Ls (s : List Int) : T := .lst [.lst (((Tr s).map Vc).map T.sh), .lst (((FH s).map .str).map T.sh), .sh (.tup ((pzX s).map It.d)), .lst (((List.range (GC s)).map AK).map T.sh), .dct (wL (Nn s))]
noncomputable def Ef : List Str := ["all", "and", "box", "call", "do", "far", "if", "in", "leaf", "near", "on", "one", "open", "out", "put", "say", "shut", "then", "to"]
noncomputable def isLt (c : Nat) : Bool := decide (97 <= c) && decide (c <= 122)
noncomputable def Cq (c : Nat) : Bool := decide (48 <= c) && decide (c <= 57)
theorem AQ (c : Nat) : CT ⟨#[c]⟩ "abcdefghijklmnopqrstuvwxyz" = isLt c := by
 unfold CT
 rw [PySem.StrLaws.found_one]
 have e : ("abcdefghijklmnopqrstuvwxyz" : Str).cps.toList = (List.range 26).map (· + 97) := by decide +kernel
 rw [e]
 apply ajv.mpr
 simp only [isLt, ajl, aiO, aiI, ajd]
 constructor
 . rintro ⟨a, h, rfl⟩
   omega
 . intro h
   exact ⟨c - 97, by omega, by omega⟩
theorem Lv (c : Nat) : CT ⟨#[c]⟩ "abcdefghijklmnopqrstuvwxyz0123456789" = (isLt c || Cq c) := by
 unfold CT
 rw [PySem.StrLaws.found_one]
 have e : ("abcdefghijklmnopqrstuvwxyz0123456789" : Str).cps.toList = (List.range 26).map (· + 97) ++ (List.range 10).map (· + 48) := by decide +kernel
 rw [e]
 apply ajv.mpr
 simp only [isLt, Cq, ajl, aiO, Bool.or_eq_true, aix, aiI, ajd]
 constructor
 . rintro (⟨a, h, rfl⟩ | ⟨a, h, rfl⟩) <;> omega
 . intro h
   rcases h with h | h
   . exact .inl ⟨c - 97, by omega, by omega⟩
   . exact .inr ⟨c - 48, by omega, by omega⟩
noncomputable def dB (x : Str) : Bool := decide (1 <= x.length) && (decide (x.length <= 12) && (!decide (x ∈ Ef) && (isLt (x.cps.toList.getD 0 0) && x.cps.toList.all (fun c => isLt c || Cq c))))
theorem Vf {x : Str} (h : x.length = 0) : x = "" := by
 obtain ⟨⟨l⟩⟩ := x
 have : l.length = 0 := h
 have e : l = [] := List.eq_nil_of_length_eq_zero this
 subst e
 rfl
theorem Jb {x : Str} {j : Nat} {d : L3.D} (h : (kF x)[j]? = some d) : ∃ c, d = .str ⟨#[c]⟩ /\ x.cps.toList[j]? = some c := by
 unfold kF at h
 rw [aiE] at h
 obtain ⟨c, hc, rfl⟩ := aiH.mp h
 exact ⟨c, rfl, hc⟩
noncomputable def tL (i : Int) (n : Nat) : Bool := decide (0 <= i) && decide (i < (n : Int))
noncomputable def Q0 (i : Int) : Bool := decide (-(10 ^ (30 : Int).toNat) < i) && decide (i < 10 ^ (30 : Int).toNat)
noncomputable def yz (n : Nat) (a c : Int) : Bool := (decide (a = -1) || tL a n) && Q0 c
inductive ZG
 | Vg (x : Str) (m : Int)
 | num (mk : Str) (a1 c1 a2 c2 : Int)
noncomputable def ZH : ZG -> L3.D
 | .Vg x m => .tup [.str x, .int m]
 | .num mk a1 c1 a2 c2 => .tup [.str mk, .tup [.int a1, .int c1], .tup [.int a2, .int c2]]
noncomputable def lkI (n m : Nat) : ZG -> Bool
 | .Vg _ k => tL k n
 | .num mk a1 c1 a2 c2 => decide (mk ∈ (["<", "<=", "=", "!="] : List Str)) && (yz m a1 c1 && yz m a2 c2)
noncomputable def Vh : ZG -> Prop
 | .Vg x _ => x ∈ (["open", "shut"] : List Str)
 | .num mk _ _ _ _ => ¬ mk ∈ (["open", "shut"] : List Str)
theorem GD : ∀ al : List ZG, D.kX (.tup (al.map ZH)) = true := fun al => aL (fun q => by cases q <;> rfl) al
noncomputable def afz : L3.D -> L3.D
 | .tup [_, _, _, d, _, _] => d
 | d => d
noncomputable def Cr (l : List Int) (s : Int) : List Int := if s ∈ l then l else l ++ [s]
noncomputable def OU (l : List Int) : List (Key × L3.D) := l.map fun s => ((Sum.inl s : Key), L3.D.bl true)
theorem Lw (l : List Int) (s : Int) : ((OU l).any fun kv => decide (kv.1 = Sum.inl s)) = decide (s ∈ l) := by
 unfold OU
 induction l with
 | nil => rfl
 | cons y l ih =>
   rw [aiB, ajA, ih]
   by_cases h : y = s
   . subst h; simp
   . have h' : ¬ s = y := fun e => h e.symm
     have h2 : ¬ (Sum.inl y : Key) = Sum.inl s := fun e => h (Sum.inl.inj e)
     simp [h', h2]
theorem Vi (l : List Int) (s : Int) : Aw (OU l) (.inl s) (.bl true) = OU (Cr l s) := by
 unfold Aw
 rw [Lw]
 unfold Cr
 by_cases h : s ∈ l
 . rw [aiC (aiA h), aiC h]
   unfold OU
   rw [aiQ]
   refine ajk fun y _ => ?_
   show (if (Sum.inl y : Key) = Sum.inl s then ((Sum.inl y : Key), L3.D.bl true) else ((Sum.inl y : Key), L3.D.bl true)) = _
   split <;> rfl
 . rw [if_neg (by simpa using h), if_neg h]
   unfold OU
   rw [aiL]; rfl
noncomputable def adds (l : List Int) : List Int := l.foldl Cr []
theorem Np (l : List Int) (x : Int) : adds (l ++ [x]) = Cr (adds l) x := by unfold adds; rw [List.foldl_append]; rfl
theorem xr : ∀ (l acc : List Int), (l.foldl Cr acc).length <= acc.length + l.length /\ ∀ x, x ∈ l.foldl Cr acc ↔ x ∈ acc \/ x ∈ l
 | [], acc => ⟨ait _, fun x => by simp⟩
 | y :: l, acc => by
   obtain ⟨h1, h2⟩ := xr l (Cr acc y)
   rw [List.foldl_cons]
   refine ⟨?_, fun x => (h2 x).trans ?_⟩
   . have : (Cr acc y).length <= acc.length + 1 := by unfold Cr; split <;> simp
     rw [ai7]; omega
   . unfold Cr
     by_cases hy : y ∈ acc
     . rw [aiC hy, aiw]
       constructor
       . rintro (z | z)
         . exact .inl z
         . exact .inr (.inr z)
       . rintro (z | rfl | z)
         . exact .inl z
         . exact .inl hy
         . exact .inr z
     . rw [aiu hy, aix, ajy, aiw, or_assoc]
theorem Vj (l : List Int) (s : Int) : (DU (OU l) (.inl s)).isSome = decide (s ∈ l) := by
 rw [← Lw]
 unfold DU
 rw [akw]
 generalize OU l = k
 induction k with
 | nil => rfl
 | cons y k ih =>
   rw [ajE, ajA]
   cases h : decide (y.1 = Sum.inl s) with
   | true => rfl
   | false => rw [Bool.false_or]; exact ih
noncomputable def wM (q : Str × Int) : L3.D := .tup [.str q.1, .int q.2]
theorem nbT {b : Bool} (h : (!b) = false) : b = true := by cases b <;> first | rfl | cases h
theorem nbF {b : Bool} (h : (!b) = false) : ¬ b = false := by rw [nbT h]; decide
theorem nb0 {b : Bool} (h : (!b) = true) : b = false := by cases b <;> first | rfl | cases h
theorem afB {α : Type} {p : α -> Bool} {l : List α} (h : ∀ (j : Nat) (x : α), l[j]? = some x -> p x = true) : l.all p = true := ajh.mpr fun x hx => by
 obtain ⟨j, hj, e⟩ := List.getElem_of_mem hx
 exact h j x (by rw [aiG hj, e])
theorem Jc {α : Type} {p : α -> Bool} {l : List α} {x : α} (h : x ∈ l) (hx : p x = false) : l.all p = false := List.all_eq_false.mpr ⟨x, h, by rw [hx]; decide⟩
noncomputable def sW {α : Type} (p : α -> Bool) (l : List α) (j : Nat) : Prop := ∀ (q : Nat) (x : α), q < j -> l[q]? = some x -> p x = true
theorem sW.zero {α : Type} {p : α -> Bool} {l : List α} : sW p l 0 := fun q x h => absurd h (Nat.not_lt_zero q)
theorem sW.next {α : Type} {p : α -> Bool} {l : List α} {j : Nat} {x : α} (h : sW p l j) (hx : l[j]? = some x) (hp : p x = true) : sW p l (j + 1) := fun q y hq hy => by
 by_cases e : q = j
 . subst e
   rw [hx] at hy
   cases hy
   exact hp
 . exact h q y (by omega) hy
theorem sW.all {α : Type} {p : α -> Bool} {l : List α} (h : sW p l l.length) : l.all p = true := afB fun j x hj => h j x (aiS.mp hj).1 hj
inductive B9
 | put (i a c : Int)
 | say (w x : Str) (a c : Int)
 | call (x : Str)
noncomputable def dgV : B9 -> L3.D
 | .put i a c => .tup [.str "put", .int i, .tup [.int a, .int c]]
 | .say w x a c => .tup [.str w, .str x, .tup [.int a, .int c]]
 | .call x => .tup [.str "call", .str x]
noncomputable def dgL : B9 -> Prop
 | .put _ _ _ => True
 | .say w x _ _ => (w ≠ "put" /\ w ≠ "call") /\ x.length <= 1000
 | .call x => x.length <= 1000
noncomputable def Vk (n : Nat) : B9 -> Bool
 | .put i a c => tL i n && yz n a c
 | .say w x a c => decide (w = "say") && (dB x && yz n a c)
 | .call x => dB x
theorem Vl (q : B9) : (dgV q).kX = true := by cases q <;> rfl
noncomputable def fc (l : List B9) : L3.D := .tup (l.map dgV)
theorem oB (l : List B9) : (fc l).kX = true := aL Vl l
structure AU where
 src : Int
 sign : Str
 al : List ZG
 dl : List B9
 tgt : Int
 mode : Str
noncomputable def jZ (w : AU) : L3.D := .tup [.int w.src, .str w.sign, .tup (w.al.map ZH), fc w.dl, .int w.tgt, .str w.mode]
noncomputable def qV : List Str := ["new", "near", "far"]
noncomputable def Q5 (n m : Nat) (w : AU) : Bool := tL w.src n && (dB w.sign && (decide (w.mode ∈ qV) && ((if w.tgt = -1 then decide (w.mode = "new") else tL w.tgt n) && w.al.all (lkI n m))))
noncomputable def AU.ok (w : AU) : Prop := w.sign.length <= 1000 /\ ∀ q ∈ w.al, Vh q
noncomputable def Nq (n m : Nat) : Int -> List AU -> Bool
 | _, [] => true
 | l, w :: ws => !decide (w.src < l) && (Q5 n m w && Nq n m w.src ws)
noncomputable def tZ (l : List Str) : Bool := l.all dB && decide l.Nodup
noncomputable def xu (l : List (Str × Int)) : Bool := l.all (fun q => Q0 q.2) && tZ (l.map (·.1))
noncomputable def AV (nl bl : Nat) (is os : List (List B9)) (ws : List AU) : Bool := decide (is.length = nl) && (decide (os.length = nl) && (is ++ os ++ ws.map (·.dl)).all fun l => l.all (Vk bl))
noncomputable def Eg : List Str := ["leaf", "one", "all"]
noncomputable def kdO (ks : List Str) (es : List Int) (m : Nat) : Bool := decide (ks.getD m Str.empty ∈ Eg) && (decide (ks.getD m Str.empty = "leaf") == !decide ((m : Int) ∈ es))
noncomputable def Q6 (ks : List Str) (es : List Int) : Bool := (List.range ks.length).all (kdO ks es)
noncomputable def Vm (ks : List Str) (es ss : List Int) (m : Nat) : Bool := if ks.getD m Str.empty = "one" then tL (ss.getD m 0) es.length && decide (es.getD (ss.getD m 0).toNat 0 = (m : Int)) else decide (ss.getD m 0 = -1)
noncomputable def Nr (ks : List Str) (es ss : List Int) : Bool := (List.range ss.length).all (Vm ks es ss)
noncomputable def HN (es : List Int) : Nat -> Bool
 | 0 => decide (es.getD 0 0 = -1)
 | j + 1 => HN es j && (decide (es.getD (j + 1) 0 ∈ (j : Int) :: tV es (j : Int)) && decide ((tV es ((j : Int) + 1)).length <= 12))
noncomputable def Tt (ks : List Str) (es ss : List Int) (nl : Nat) : Bool := decide (0 < ks.length) && (decide (es.length = ks.length) && (decide (ss.length = ks.length) && (decide (nl = ks.length) && (HN es (es.length - 1) && (Q6 ks es && Nr ks es ss)))))
noncomputable def Jd (es : List Int) (m : Int) : Prop := ∀ k : Nat, k < es.length -> (k : Int) <= m -> -1 <= es.getD k 0 /\ es.getD k 0 < (k : Int)
theorem Jd.at {es : List Int} {m k : Int} (h : Jd es m) (k0 : 0 <= k) (k1 : k < es.length) (km : k <= m) : -1 <= es.getD k.toNat 0 /\ es.getD k.toNat 0 < k := by
 have := h k.toNat (by omega) (by omega)
 omega
theorem Jd.Eh {es : List Int} {m : Int} (h : Jd es m) : ∀ (n : Nat) {k : Int}, -1 <= k -> k < es.length -> k <= m -> ∀ x ∈ QN n es k, 0 <= x /\ x <= k
 | 0, _, _, _, _, x, hx => by rw [QN] at hx; cases hx
 | n + 1, k, k0, k1, km, x, hx => by
   rw [QN] at hx
   by_cases e : k = -1
   . rw [aiC e] at hx; cases hx
   . rw [aiu e] at hx
     have ha := h.at (k := k) (by omega) k1 km
     rcases aiw.mp hx with rfl | hx
     . omega
     . have := h.Eh n ha.1 (by omega) (by omega) x hx
       omega
theorem Q7 {es : List Int} : ∀ {j : Nat}, j < es.length -> HN es j = true -> Jd es (j : Int)
 | 0, hj, h => fun k hk hm => by
   have e : es.getD 0 0 = -1 := aiT h
   have : k = 0 := by omega
   subst this
   omega
 | j + 1, hj, h => fun k hk hm => by
   rw [HN, aiO, aiO] at h
   have ih := Q7 (j := j) (by omega) h.1
   by_cases e : k = j + 1
   . subst e
     have hin := aiT h.2.1
     rcases aiw.mp hin with z | z
     . omega
     . have ha := ih.at (k := (j : Int)) (by omega) (by omega) (by omega)
       have := ih.Eh (es.length + 1) ha.1 (by omega) (by omega) _ z
       omega
   . exact ih k hk (by omega)
theorem AW {es : List Int} : ∀ {i j : Nat}, i <= j -> HN es i = false -> HN es j = false
 | i, 0, h, e => by
   have : i = 0 := by omega
   subst this
   exact e
 | i, j + 1, h, e => by
   by_cases q : i = j + 1
   . subst q; exact e
   . rw [HN, AW (i := i) (j := j) (by omega) e]
     rfl
noncomputable def Vo (bs : List (Str × Int)) (nm ks : List Str) (es ss : List Int) (is os : List (List B9)) (ws : List AU) : Int :=
 if Tt ks es ss nm.length = false then 0 else if tZ nm = false then 1 else if xu bs = false then 2 else if AV nm.length bs.length is os ws = false then 3 else if Nq nm.length bs.length 0 ws = false then 4 else -1
structure Lx (bs : List (Str × Int)) (nm ks : List Str) (is os : List (List B9)) (ws : List AU) : Prop where
 k1 : ks.length <= 900
 n1 : ∀ x ∈ nm, x.length <= 1000
 n2 : nm.length <= 1000
 b1 : ∀ q ∈ bs, q.1.length <= 1000
 b2 : bs.length <= 1000
 i1 : is.length <= 300
 o1 : os.length <= 300
 w1 : ws.length <= 100
 d1 : ∀ l ∈ is ++ os ++ ws.map (·.dl), ∀ q ∈ l, dgL q
 w2 : ∀ w ∈ ws, w.ok
section
variable {bs hs bg pr : List L3.D} {R : L3.D} {TR : T}
noncomputable def yL (bs hs bg pr : List L3.D) (R : L3.D) : List (Str × L3.D) := [("boxes", .lst bs), ("signs", .lst hs), ("begin", .tup bg), ("flats", .lst pr), ("rows", R)]
noncomputable def sX (bs hs bg pr : List L3.D) (t : T) : List (Str × T) := [("boxes", .lst (bs.map T.sh)), ("signs", .lst (hs.map T.sh)), ("begin", .sh (.tup bg)), ("flats", .lst (pr.map T.sh)), ("rows", t)]
theorem ng : List.lookup ("boxes" : Str) (yL bs hs bg pr R) = some (.lst bs) := by
 unfold yL
 rw [fW]
theorem nh : List.lookup ("signs" : Str) (yL bs hs bg pr R) = some (.lst hs) := by
 unfold yL
 rw [bD (by decide +kernel), fW]
theorem ni : List.lookup ("begin" : Str) (yL bs hs bg pr R) = some (.tup bg) := by
 unfold yL
 rw [bD (by decide +kernel), bD (by decide +kernel), fW]
theorem kI : List.lookup ("flats" : Str) (yL bs hs bg pr R) = some (.lst pr) := by
 unfold yL
 rw [bD (by decide +kernel), bD (by decide +kernel), bD (by decide +kernel), fW]
theorem AX : List.lookup ("rows" : Str) (yL bs hs bg pr R) = some R := by
 unfold yL
 rw [bD (by decide +kernel), bD (by decide +kernel), bD (by decide +kernel), bD (by decide +kernel), fW]
theorem xx : List.lookup ("rows" : Str) (sX bs hs bg pr TR) = some TR := by
 unfold sX
 rw [bD (by decide +kernel), bD (by decide +kernel), bD (by decide +kernel), bD (by decide +kernel), fW]
theorem Q8 {t2 : T} : qx "rows" t2 (sX bs hs bg pr TR) = sX bs hs bg pr t2 := by
 unfold sX
 rw [aJ (by decide +kernel), aJ (by decide +kernel), aJ (by decide +kernel), aJ (by decide +kernel), MJ]
theorem Nt {y : Addr} {l : List (bH × T)} {t2 : T} : T.qQ [.fld "rows"] t2 (.pin y (.ins "Table" (sX bs hs bg pr (.dct l)))) = .pin y (.ins "Table" (sX bs hs bg pr t2)) := by
 have hk : (T.core (.pin y (.ins "Table" (sX bs hs bg pr (.dct l))))).Zj (.fld "rows") = some (.dct l) := xx (bs := bs) (hs := hs) (bg := bg) (pr := pr)
 rw [T.qQ, hk]
 show T.pin y (.ins "Table" (qx "rows" t2 (sX bs hs bg pr (.dct l)))) = _
 rw [Q8]
end
noncomputable def j0 (kvs : List (bH × List L3.D)) : List (bH × T) := kvs.map fun q => (q.1, T.lst (q.2.map T.sh))
noncomputable def kJ (kvs : List (bH × List L3.D)) : List (bH × L3.D) := kvs.map fun q => (q.1, L3.D.lst q.2)
noncomputable def Je (bs hs bg pr : List L3.D) (kvs : List (bH × List L3.D)) : List (Str × T) := sX bs hs bg pr (.dct (j0 kvs))
noncomputable def yM (bs hs bg pr : List L3.D) (kvs : List (bH × List L3.D)) : L3.D := .ins "Table" (yL bs hs bg pr (.dct (kJ kvs)))
theorem Nu (kvs : List (bH × List L3.D)) : T.uY (j0 kvs) = kJ kvs := by
 induction kvs with
 | nil => show T.uY [] = []; rw [T.uY]
 | cons q r ih =>
   show T.uY ((q.1, T.lst (q.2.map T.sh)) :: j0 r) = (q.1, L3.D.lst q.2) :: kJ r
   rw [T.uY, cK, ih]
theorem Q9 (bs hs bg pr : List L3.D) (kvs : List (bH × List L3.D)) : T.cu (.ins "Table" (Je bs hs bg pr kvs)) = yM bs hs bg pr kvs := by
 unfold Je sX yM yL
 rw [T.cu, T.mZ, T.mZ, T.mZ, T.mZ, T.mZ, T.mZ, cK, cK, cK, T.cu, T.cu, Nu]
theorem GF {kvs : List (bH × List L3.D)} (h : ∀ q ∈ kvs, D.bK q.2 = true) : T.jq (j0 kvs) = true := by
 induction kvs with
 | nil => show T.jq [] = true; rw [T.jq]
 | cons q r ih =>
   show T.jq ((q.1, T.lst (q.2.map T.sh)) :: j0 r) = true
   rw [T.jq, aV (h q aiq), ih fun p hp => h p (ais _ hp)]
   rfl
theorem Jf {bs hs bg pr : List L3.D} {kvs : List (bH × List L3.D)} (h1 : D.bK bs = true) (h2 : D.bK hs = true) (h3 : D.bK bg = true) (h4 : D.bK pr = true) (h5 : ∀ q ∈ kvs, D.bK q.2 = true) : T.bw (Je bs hs bg pr kvs) = true := by
 unfold Je sX
 rw [T.bw, T.bw, T.bw, T.bw, T.bw, T.bw, aV h1, aV h2, aV h4, T.clean, T.clean, D.kX, h3, GF h5]
 rfl
theorem Vp {α : Type} {l : List (bH × α)} (nd : (l.map (·.1)).Nodup) {j : Nat} {k : bH} {x : α} (h : l[j]? = some (k, x)) : ja l k = some x := by
 induction l generalizing j with
 | nil => simp at h
 | cons p l ih =>
   rw [aiB, ai3] at nd
   cases j with
   | zero =>
     simp at h
     subst h
     exact kH rfl
   | succ j =>
     have h : l[j]? = some (k, x) := h
     rw [ju (p := p) fun e => nd.1 (by rw [e]; exact aiI.mpr ⟨(k, x), aiM h, rfl⟩)]
     exact ih nd.2 h
theorem Jg (kvs : List (bH × List L3.D)) : (kJ kvs).map (·.1) = kvs.map (·.1) := by
 unfold kJ
 rw [aiQ]
 rfl
theorem Jh (kvs : List (bH × List L3.D)) : (j0 kvs).map (·.1) = kvs.map (·.1) := by
 unfold j0
 rw [aiQ]
 rfl
noncomputable def itG : It -> B9
 | .pI (.put x b m) => .put x b m
 | .pI (.say s b m) => .say "say" s b m
 | .pI (.call s) => .call s
 | _ => .call Str.empty
noncomputable def Vq (q : D9) : ZG := .num q.1 q.2.1 q.2.2.1 q.2.2.2.1 q.2.2.2.2
theorem acV {x : It} (h : x.told = true) : dgV (itG x) = x.d := by
 cases x with
 | pI q => cases q <;> rfl
 | _ => cases h
noncomputable def GH (xs : List It) : List B9 := (xs.filter It.told).map itG
theorem Ly (xs : List It) : fc (GH xs) = .tup ((xs.filter It.told).map It.d) := by
 unfold fc GH
 rw [aiQ]
 congr 1
 exact ajk fun x hx => acV (ajV.mp hx).2
theorem ZI (l : List D9) : (l.map Vq).map ZH = l.map Ea := by
 rw [aiQ]
 rfl
noncomputable def jX (a : Nat) (h : Str) (r : bB) : AU := ⟨(a : Int) + 1, h, r.1.map Vq, GH r.2.1, r.2.2 + 1, "new"⟩
theorem Ei (a : Nat) (h : Str) (r : bB) : jZ (jX a h r) = .tup [.int ((a : Int) + 1), .str h, .tup (r.1.map Ea), .tup ((r.2.1.filter It.told).map It.d), .int (r.2.2 + 1), .str "new"] := by
 unfold jZ jX
 dsimp only
 rw [ZI, Ly]
noncomputable def u9 (a : Nat) (r : bB) : Bool := decide (r.1 = []) && (decide (r.2.1.filter It.told = []) && decide (r.2.2 = (a : Int)))
noncomputable def lD (a : Nat) (h : Str) (l : List bB) : List AU := ((match l.getLast? with | some r => if u9 a r = true then l.dropLast else l | none => l) : List bB).map (jX a h)
theorem mH (a : Nat) (h : Str) (l : List bB) (r : bB) : lD a h (l ++ [r]) = l.map (jX a h) ++ (if u9 a r = true then [] else [jX a h r]) := by
 unfold lD
 rw [List.getLast?_append]
 simp
 by_cases e : u9 a r = true
 . rw [aiC e, aiC e]; simp
 . rw [aiu e, aiu e]; simp
structure Ra (r : bB) : Prop where
 a : ∀ q ∈ r.1, PyData.strOk q.1 = true
 b : ∀ x ∈ r.2.1, ∀ k, iJ (k + 2) x.d
 c : r.2.1.length <= 100
 d : r.1.length <= 100
theorem yN {x y : L3.D} {n : Nat} (h1 : iJ n x) (h2 : iJ n y) : iJ (n + 1) (.tup [x, y]) := .tup fun d hd => by
 simp only [aiw, aiD, ajR] at hd
 rcases hd with rfl | rfl
 . exact h1
 . exact h2
theorem ZJ {x y z : L3.D} {n : Nat} (h1 : iJ n x) (h2 : iJ n y) (h3 : iJ n z) : iJ (n + 1) (.tup [x, y, z]) := .tup fun d hd => by
 simp only [aiw, aiD, ajR] at hd
 rcases hd with rfl | rfl | rfl
 . exact h1
 . exact h2
 . exact h3
theorem AY {l : List D9} (h : ∀ q ∈ l, PyData.strOk q.1 = true) (k : Nat) : iJ (k + 3) (.tup (l.map Ea)) := .tup fun d hd => by
 obtain ⟨q, hq, rfl⟩ := aiI.mp hd
 exact ZJ (.str _ _ (h q hq)) (yN (.int _ _) (.int _ _)) (yN (.int _ _) (.int _ _))
theorem Ej {l : List It} (h : ∀ x ∈ l, ∀ k, iJ (k + 2) x.d) (k : Nat) : iJ (k + 3) (.tup (l.map It.d)) := .tup fun d hd => by
 obtain ⟨q, hq, rfl⟩ := aiI.mp hd
 exact h q hq _
theorem AZ {r : bB} (h : Ra r) (k : Nat) : iJ (k + 3) (.tup ((r.2.1.filter It.told).map It.d)) := Ej (fun x hx => h.b x (ajV.mp hx).1) k
theorem qW (l : List L3.D) : Ai (.tup l) (.tup []) = decide (l = []) := by
 cases l with
 | nil => decide +kernel
 | cons d l => rw [ai1 (fun z => by cases z)]; rfl
theorem vd {a b : L3.D} {l m : List L3.D} : Ai (.tup (a :: l)) (.tup (b :: m)) = (Ai a b && Ai (.tup l) (.tup m)) := by
 unfold Ai
 rw [D.toPy, D.toPy, D.toPy, D.toPy, D.ou, D.ou, PyData.eqv, PyData.eqv, PyData.eqvAll]
theorem Vr (i j : Int) : Ai (.int i) (.int j) = decide (i = j) := by
 unfold Ai
 rw [D.toPy, D.toPy, PyData.eqv]
 rfl
theorem Vs (x y : Str) : Ai (.str x) (.str y) = decide (x = y) := by
 unfold Ai
 rw [D.toPy, D.toPy, PyData.eqv]
 apply ajv.mpr
 simp
theorem GJ (a : Nat) (r : bB) : Ai (.tup [.tup (r.1.map Ea), .tup ((r.2.1.filter It.told).map It.d), .int (r.2.2 + 1), .str "new"]) (.tup [.tup [], .tup [], .int ((a : Int) + 1), .str "new"]) = u9 a r := by
 rw [vd, vd, vd, vd, qW, qW, Vr, Vs, qW, aiA rfl, aiA rfl, Bool.and_true, Bool.and_true]
 unfold u9
 congr 1
 . simp
 . congr 1
   . simp
   . apply ajv.mpr
     simp only [ajl]
     omega
noncomputable def Ct (R : List (bH × List bB)) : List (bH × List L3.D) := R.map fun q => (q.1, q.2.map qU)
theorem Lz {R : List (bH × List bB)} {k : bH} {l : List bB} (h : ja R k = some l) : ja (kJ (Ct R)) k = some (.lst (l.map qU)) := by
 unfold kJ Ct
 rw [aiQ]
 induction R with
 | nil => cases h
 | cons p R ih =>
   by_cases e : p.1 = k
   . rw [kH e] at h
     cases h
     rw [aiB]
     exact kH (p := (p.1, L3.D.lst (p.2.map qU))) e
   . rw [ju e] at h
     rw [aiB]
     exact (ju (p := (p.1, L3.D.lst (p.2.map qU))) e).trans (ih h)
theorem ve (w : AU) : (jZ w).kX = true := by
 show (true && (true && (D.bK (w.al.map ZH) && ((fc w.dl).kX && (true && (true && true)))))) = true
 rw [show D.bK (w.al.map ZH) = true from GD w.al, oB]
 rfl
noncomputable def Rb (a : Nat) (h : Str) : bH := [.inl (a : Int), .inr h]
structure qX (R : List (bH × List bB)) (n : Nat) (hs : List Str) : Prop where
 nn : n <= 13
 hh : hs.length <= 2
 v : ∀ a, a < n -> ∀ x ∈ hs, ∃ l, ja R (Rb a x) = some l /\ l.length <= 3 /\ ∀ r ∈ l, Ra r
noncomputable def xA (R : List (bH × List bB)) (a : Nat) (x : Str) : List bB := (ja R (Rb a x)).getD []
noncomputable def lE (R : List (bH × List bB)) (a : Nat) (hs : List Str) : List AU := hs.flatMap fun x => lD a x (xA R a x)
noncomputable def iP (R : List (bH × List bB)) (n : Nat) (hs : List Str) : List AU := (List.range n).flatMap fun a => lE R a hs
theorem qX.at {R : List (bH × List bB)} {n : Nat} {hs : List Str} (h : qX R n hs) {a : Nat} (ha : a < n) {x : Str} (hx : x ∈ hs) : ja R (Rb a x) = some (xA R a x) /\ (xA R a x).length <= 3 /\ ∀ r ∈ xA R a x, Ra r := by
 obtain ⟨l, e, q⟩ := h.v a ha x hx
 unfold xA
 rw [e]
 exact ⟨rfl, q⟩
theorem xB (a : Nat) (x : Str) (l : List bB) : (lD a x l).length <= l.length := by
 rcases List.eq_nil_or_concat l with rfl | ⟨l0, r, rfl⟩
 . exact ait _
 . rw [List.concat_eq_append, mH, aiU, aiU, aio]
   split
   . show _ + 0 <= _; omega
   . show _ + 1 <= _ + 1; omega
theorem qY {α β : Type} {f : α -> List β} {c : Nat} : ∀ {l : List α}, (∀ x ∈ l, (f x).length <= c) -> (l.flatMap f).length <= c * l.length
 | [], _ => ait _
 | x :: l, h => by
   rw [List.flatMap_cons, aiU, ai7, Nat.mul_succ]
   have := h x aiq
   have := qY (l := l) fun y hy => h y (ais _ hy)
   omega
theorem qX.Ek {R : List (bH × List bB)} {n : Nat} {hs : List Str} (h : qX R n hs) {a : Nat} (ha : a < n) (j : Nat) : (lE R a (hs.take j)).length <= 6 := by
 have h1 := qY (f := fun x => lD a x (xA R a x)) (c := 3) (l := hs.take j) fun x hx => aje (xB _ _ _) (h.at ha (List.mem_of_mem_take hx)).2.1
 have h2 := h.hh
 have h3 : (hs.take j).length <= 2 := by rw [ajr]; omega
 unfold lE
 omega
theorem qX.Ji {R : List (bH × List bB)} {n : Nat} {hs : List Str} (h : qX R n hs) {j : Nat} (hj : j <= n) : (iP R j hs).length <= 78 := by
 have h1 := qY (f := fun a => lE R a hs) (c := 6) (l := List.range j) fun a ha => by
   have := h.Ek (a := a) (by have := ajd.mp ha; omega) hs.length
   rwa [ajx] at this
 have h2 := h.nn
 have h3 : (List.range j).length = j := ajc
 unfold iP
 omega
theorem xC {R : List (bH × List bB)} {hs : List Str} {j : Nat} : iP R (j + 1) hs = iP R j hs ++ lE R j hs := by
 unfold iP
 rw [ajX, List.flatMap_append]
 simp
theorem A0 {R : List (bH × List bB)} {hs : List Str} {a j : Nat} {x : Str} (h : hs[j]? = some x) : lE R a (hs.take (j + 1)) = lE R a (hs.take j) ++ lD a x (xA R a x) := by
 unfold lE
 rw [ajt, h, List.flatMap_append]
 simp
noncomputable def xD (a : Nat) (h : Str) (l : List bB) (j : Nat) : List AU := if j < l.length then (l.take j).map (jX a h) else lD a h l
theorem Nv (a : Nat) (h : Str) (l : List bB) : xD a h l 0 = [] := by
 unfold xD
 split
 . rfl
 . rename_i e
   have : l = [] := List.eq_nil_of_length_eq_zero (by omega)
   subst this
   rfl
theorem Rc (a : Nat) (h : Str) (l : List bB) : xD a h l l.length = lD a h l := aiu (ajY _)
theorem CZ {a : Nat} {h : Str} {l : List bB} {j : Nat} {r : bB} (hr : l[j]? = some r) : xD a h l (j + 1) = xD a h l j ++ (if (decide (j + 1 < l.length) || !u9 a r) = true then [jX a h r] else []) := by
 have hj : j < l.length := (aiS.mp hr).1
 have et : l.take (j + 1) = l.take j ++ [r] := by rw [ajt, hr]; rfl
 unfold xD
 rw [aiC hj]
 by_cases e : j + 1 < l.length
 . rw [aiC e, aiA e, Bool.true_or, aiC rfl, et, aiL]
   rfl
 . rw [aiu e, ai1 e, Bool.false_or]
   have el : l = l.take j ++ [r] := by
     rw [← et]
     exact (List.take_of_length_le (by omega)).symm
   have : lD a h l = lD a h (l.take j ++ [r]) := by rw [← el]
   rw [this, mH]
   cases u9 a r <;> rfl
theorem Rf {a : Nat} {h : Str} {l : List bB} {j : Nat} : (xD a h l j).length <= l.length := by
 unfold xD
 split
 . rw [aio, ajr]; omega
 . exact xB _ _ _
section
variable {X : Cx} {CL : Str -> Addr} {b : Bx} {δ : List (Option T)} {e1 e2 e3 : Expr} {p1 p2 p3 p4 : Pos} {d1 d2 : L3.D} {n : Nat}
theorem Rg {z : Int} (h2 : bR X CL b e2 δ (.sh d2) δ) (h3 : cF X CL b e3 δ (.int z) δ) (hz : z = (n : Int)) (i2 : d2.kX = true) (hn : n <= 100) (s2 : starEach [e2] X.env = (false, eval e2 X.env) :: starEach [] X.env := by exact aY rfl) : bR X CL b (.BinOp (.List [e2] p2) .Mult e3 p3) δ (.lst ((List.replicate n d2).map T.sh)) δ :=
 by
 subst hz
 exact aI (UI (ds := [d2]) (cy (fS (bT h2 dN s2) (aA rfl))) h3 (by show (d2.kX && true) = true; rw [i2]; rfl) (by omega) (by omega) (by rw [ajq, ajg]; show 1 * n <= _; omega)) (by rw [ajq, List.flatten_replicate_singleton])
theorem yC (h1 : bR X CL b e1 δ (.sh d1) δ) (h2 : bR X CL b e2 δ (.sh d2) δ) (h3 : cF X CL b e3 δ (.int (n : Nat)) δ) (i1 : d1.kX = true) (i2 : d2.kX = true) (hn : n <= 100) (s1 : starEach [e1] X.env = (false, eval e1 X.env) :: starEach [] X.env := by exact aY rfl) (s2 : starEach [e2] X.env = (false, eval e2 X.env) :: starEach [] X.env := by exact aY rfl) : bR X CL b (.BinOp (.List [e1] p1) .Add (.BinOp (.List [e2] p2) .Mult e3 p3) p4) δ (.lst ((d1 :: List.replicate n d2).map T.sh)) δ :=
 sq (ds := [d1]) (cy (fS (bT h1 dN s1) (aA rfl))) (cy (Rg h2 h3 rfl i2 hn s2)) (by show (d1.kX && true) = true; rw [i1]; rfl) (zJ fun d hd => by rw [ajL hd]; exact i2) (by rw [ajf, ajg]; show 1 + n <= _; omega)
end
noncomputable def C1 (n : Nat) : List Str := ("one" : Str) :: List.replicate n ("leaf" : Str)
noncomputable def GK (n : Nat) : List Int := -1 :: List.replicate n 0
noncomputable def GL (n : Nat) : List Int := 1 :: List.replicate n (-1)
noncomputable def fN (k : Nat) : Str := ("f" : Str) ++ (toString (k : Int) : Str)
noncomputable def Ca (n : Nat) : List Str := ("flat" : Str) :: (List.range n).map fN
noncomputable def C2 (xs : List It) (n : Nat) : List (List B9) := GH xs :: List.replicate n []
noncomputable def GN (n : Nat) : List (List B9) := List.replicate (n + 1) []
theorem Rh (n : Nat) : (C1 n).map L3.D.str = .str "one" :: List.replicate n (.str "leaf") := by unfold C1; rw [aiB, akb]
theorem Ri (n : Nat) : (GK n).map L3.D.int = .int (-1) :: List.replicate n (.int 0) := by unfold GK; rw [aiB, akb]
theorem Rj (n : Nat) : (GL n).map L3.D.int = .int 1 :: List.replicate n (.int (-1)) := by unfold GL; rw [aiB, akb]
theorem Rk (xs : List It) (n : Nat) : (C2 xs n).map fc = .tup ((xs.filter It.told).map It.d) :: List.replicate n (.tup []) := by
 unfold C2
 rw [aiB, akb, Ly]
 rfl
theorem Rl (n : Nat) : (GN n).map fc = List.replicate (n + 1) (.tup []) := by unfold GN; rw [akb]; rfl
theorem Xf (k : Nat) (h : k <= 13) : (k : Int).natAbs.log2 < 1920 /\ (toString (k : Int) : Str).length <= 2 := by
 have h2 : ((List.range 14).all fun k => decide ((k : Int).natAbs.log2 < 1920) && decide ((toString (k : Int) : Str).length <= 2)) = true := by decide +kernel
 have := ajh.mp h2 k (ajd.mpr (by omega))
 simpa [Bool.and_eq_true] using this
theorem Rm (n : Nat) : ((cB 0 (n : Int).toNat).filter fun _ => true).map (fun d => T.sh (.str (fN d.IA.toNat))) = (((List.range n).map fN).map L3.D.str).map T.sh := by
 rw [kE]
 unfold cB
 rw [aiQ, aiQ, aiQ, ajq]
 refine ajk fun k _ => ?_
 show T.sh (.str (fN (0 + (k : Int)).toNat)) = _
 rw [show (0 + (k : Int)).toNat = k by omega]
 rfl
theorem ZK : ∀ k : Nat, k < 14 -> (fN k).length <= 3 /\ dB (fN k) = true /\ PyData.strOk (fN k) = true := by decide +kernel
theorem ZL {k : Nat} (h : k <= 13) : (fN k).length <= 3 := (ZK k (by omega)).1
theorem Rn : ∀ n : Nat, n < 14 -> (Ca n).Nodup /\ (Ca n).all dB = true := by decide +kernel
noncomputable def unF (bs : List L3.D) (xs : List It) (R : List (bH × List bB)) (n : Nat) (hs : List Str) : List (Str × T) := xq bs ((Ca n).map .str) (.ins "Tree" (qT (C1 n) (GK n) (GL n))) ((C2 xs n).map fc) ((GN n).map fc) ((iP R n hs).map jZ)
theorem GO {x : Str} (h : dB x = true) : PyData.strOk x = true := by
 unfold dB at h
 simp only [aiO] at h
 have h := ajh.mp h.2.2.2.2
 unfold PyData.strOk
 rw [← Array.all_toList, ajh]
 intro c hc
 have := h c hc
 unfold isLt Cq at this
 simp only [Bool.or_eq_true, aiO, ajl] at this
 refine aiA ?_
 omega
theorem GP {x : Str} (h : dB x = true) : x.length <= 1000 := by
 unfold dB at h
 simp only [aiO, ajl] at h
 omega
theorem LC (m : Nat) (p : Int) : yz m (CY m p) (B8 m p) = true := by
 have a := ai4 p (b := (m : Int) + 1) (by omega)
 have b := aiV p (b := (m : Int) + 1) (by omega)
 have p30 : (10 : Int) ^ (30 : Int).toNat = 1000000000000000000000000000000 := by decide +kernel
 have p9 : (10 : Int) ^ (9 : Int).toNat = 1000000000 := by decide +kernel
 have hb : Q0 (B8 m p) = true := by
   have h : -(10 ^ (30 : Int).toNat) < B8 m p /\ B8 m p < 10 ^ (30 : Int).toNat := by
     unfold B8
     rw [p30, p9]
     split <;> omega
   unfold Q0
   rw [aiA h.1, aiA h.2]
   rfl
 unfold yz
 rw [hb]
 unfold CY
 by_cases e : p % ((m : Int) + 1) - 1 = -1
 . rw [aiA e]; rfl
 . unfold tL
   rw [aiA (show 0 <= p % ((m : Int) + 1) - 1 by omega), aiA (show p % ((m : Int) + 1) - 1 < (m : Int) by omega)]
   simp
theorem acW : ∀ k : Nat, k < 3 -> dB (wN (k : Int)) = true := by decide +kernel
theorem ZM : ∀ x ∈ goL, dB x = true := by decide +kernel
noncomputable def Xg (m : Nat) : It -> Prop
 | .pI (.put i a c) => tL i m = true /\ yz m a c = true
 | .pI (.say s a c) => dB s = true /\ yz m a c = true
 | .pI (.call s) => dB s = true
 | _ => True
theorem acX {m : Nat} {hs : List Str} (h0 : 0 < hs.length) (hn : ∀ x ∈ hs, dB x = true) (p : Int) : Xg m (Lj m hs p) := by
 unfold Lj
 split
 . rename_i e
   have a := ai4 p (b := 9) (by decide)
   have : p % 9 = 0 \/ p % 9 = 1 \/ p % 9 = 2 \/ p % 9 = 3 := by omega
   rcases this with z | z | z | z <;> rw [z] <;> exact trivial
 split
 . rename_i e
   refine ⟨?_, LC m _⟩
   unfold tL
   rw [aiA (ai4 _ (by omega)), aiA (aiV _ (by omega))]
   rfl
 split
 . refine ⟨?_, LC m _⟩
   have a := ai4 (p / 9) (b := 3) (by decide)
   have b := aiV (p / 9) (b := 3) (by decide)
   have := acW (p / 9 % 3).toNat (by omega)
   rwa [show (((p / 9 % 3).toNat : Nat) : Int) = p / 9 % 3 by omega] at this
 . have a := ai4 (p / 9) (b := (hs.length : Int)) (by omega)
   have b := aiV (p / 9) (b := (hs.length : Int)) (by omega)
   refine hn _ ?_
   have hl : (p / 9 % (hs.length : Int)).toNat < hs.length := by omega
   rw [ai6, aiG hl]
   exact List.getElem_mem hl
theorem Ro {m : Nat} {hs : List Str} (h0 : 0 < hs.length) (hn : ∀ x ∈ hs, dB x = true) (p : Int) : ∀ x ∈ HM m hs p, Xg m x := fun x hx => by
 obtain ⟨j, _, rfl⟩ := aiI.mp hx
 exact acX h0 hn _
structure GQ (m f : Nat) (r : bB) : Prop where
 a : ∀ q ∈ r.1, q.1 ∈ HK /\ yz m q.2.1 q.2.2.1 = true /\ yz m q.2.2.2.1 q.2.2.2.2 = true
 b : ∀ x ∈ r.2.1, Xg m x
 c : 0 <= r.2.2 /\ r.2.2 < (f : Int)
 d : r.1.length <= 2
 e : r.2.1.length <= 3
theorem acY (m : Nat) (p : Int) (n : Nat) : ∀ q ∈ QX m p n, q.1 ∈ HK /\ yz m q.2.1 q.2.2.1 = true /\ yz m q.2.2.2.1 q.2.2.2.2 = true := fun q hq => by
 obtain ⟨j, _, rfl⟩ := aiI.mp hq
 refine ⟨?_, LC m _, LC m _⟩
 have a := ai4 (QW m p j) (b := 4) (by decide)
 have b := aiV (QW m p j) (b := 4) (by decide)
 have hl : (QW m p j % 4).toNat < HK.length := by show _ < 4; omega
 show HK.getD (QW m p j % 4).toNat Str.empty ∈ HK
 rw [ai6, aiG hl]
 exact List.getElem_mem hl
theorem acZ {m f : Nat} {hs : List Str} (h0 : 0 < hs.length) (hn : ∀ x ∈ hs, dB x = true) (hf : 1 <= f) (p : Int) : GQ m f (rwO m hs f p) := by
 refine ⟨acY m _ _, Ro h0 hn _, ⟨ai4 _ (by omega), aiV _ (by omega)⟩, ?_, Ec _ _ _⟩
 show (QX m (p / 2) (ZC p)).length <= 2
 unfold QX
 rw [aio, ajc]
 unfold ZC
 omega
theorem ac0 {m f : Nat} {hs : List Str} (h0 : 0 < hs.length) (hn : ∀ x ∈ hs, dB x = true) (hf : 1 <= f) (c : Int) : (ZE m hs f c).length <= 3 /\ ∀ r ∈ ZE m hs f c, GQ m f r := by
 unfold ZE
 constructor
 . rw [aiU]
   unfold QY
   rw [aio, ajc]
   show _ + 1 <= 3
   omega
 . intro r hr
   rcases aix.mp hr with h | h
   . obtain ⟨j, _, rfl⟩ := aiI.mp h
     exact acZ h0 hn hf _
   . rw [ajy.mp h]
     exact ⟨fun q hq => absurd hq aiD, Ro h0 hn _, ⟨ai4 _ (by omega), aiV _ (by omega)⟩, ai5 _, Ec _ _ _⟩
structure xE (m f : Nat) (hs : List Str) (R : List (bH × List bB)) : Prop where
 a : ∀ a, a < f -> ∀ x ∈ hs, Rb a x ∈ R.map (·.1)
 b : ∀ q ∈ R, q.2.length <= 3 /\ ∀ r ∈ q.2, GQ m f r
 c : (R.map (·.1)).Nodup
 d : R.length <= 26
theorem u6 {α : Type} {l : List (bH × α)} {k : bH} (h : k ∈ l.map (·.1)) : ∃ x, ja l k = some x /\ (k, x) ∈ l := by
 induction l with
 | nil => cases h
 | cons p l ih =>
   by_cases e : p.1 = k
   . subst e
     exact ⟨p.2, kH rfl, aiq⟩
   . obtain ⟨x, h1, h2⟩ := ih ((aiw.mp h).resolve_left fun z => e z.symm)
     exact ⟨x, (ju e).trans h1, ais _ h2⟩
theorem Rp (s : List Int) : ∀ x ∈ FH s, dB x = true := fun x hx => ZM x (List.mem_of_mem_take hx)
theorem Rq {s : List Int} {m : Nat} {hs : List Str} {f : Nat} (nd : hs.Nodup) : ∀ n, ((Lk s m hs f n).map (·.1)).Nodup
 | 0 => ajI
 | n + 1 => by
   have gen : ∀ k, k <= hs.length -> ((Lk s m hs f n ++ Ja s m hs f n k).map (·.1)).Nodup := fun k => by
     induction k with
     | zero => exact fun _ => by rw [show Ja s m hs f n 0 = [] from rfl, aiK]; exact Rq nd n
     | succ k ih =>
       intro hk
       have e : Ja s m hs f n (k + 1) = Ja s m hs f n k ++ [(OS hs n k, dcR s m hs f n k)] := by
         unfold Ja
         rw [ajX, aiL]
         rfl
       rw [e, ← ain, aiL, aiW]
       refine ⟨ih (by omega), List.pairwise_singleton _ _, fun x hx y hy e => ?_⟩
       rw [ajy.mp hy] at e
       subst e
       refine Lq (s := s) (m := m) (f := f) nd (show k < hs.length by omega) (a := n) ?_
       unfold wL
       rw [aiQ]
       exact hx
   rw [AO]
   exact gen _ (ait _)
theorem ZN (s : List Int) : xE (Nm s) (GC s) (FH s) (Nn s) := by
 obtain ⟨b1, b2, b3, b4, b5, b6⟩ := Ve s
 refine ⟨fun a ha x hx => ?_, fun q hq => ?_, Rq (QZ s) _, ?_⟩
 . obtain ⟨k, hk, e⟩ := List.getElem_of_mem hx
   refine aiI.mpr ⟨(OS (FH s) a k, dcR s (Nm s) (FH s) (GC s) a k), ajS.mpr ⟨a, ajd.mpr ha, aiI.mpr ⟨k, ajd.mpr hk, rfl⟩⟩, ?_⟩
   show OS (FH s) a k = Rb a x
   unfold OS Rb
   rw [ai6, aiG hk, ← e]
   rfl
 . obtain ⟨a, _, h⟩ := ajS.mp hq
   obtain ⟨k, _, rfl⟩ := aiI.mp h
   exact ac0 (by omega) (Rp s) b2 _
 . unfold Nn
   rw [Ed, b4]
   have : GC s * OQ s <= 13 * 2 := Nat.mul_le_mul b3 b6
   omega
noncomputable def Jj (R : List (bH × List bB)) (k : bH) (l : List bB) : List (bH × List bB) := R.map fun q => if q.1 = k then (q.1, l) else q
theorem xF (R : List (bH × List bB)) (k : bH) (l : List bB) : (Jj R k l).map (·.1) = R.map (·.1) := by
 unfold Jj
 rw [aiQ]
 refine ajk fun q _ => ?_
 show (if q.1 = k then (q.1, l) else q).1 = q.1
 split <;> rfl
theorem xE.cut {m f : Nat} {hs : List Str} {R : List (bH × List bB)} (h : xE m f hs R) {k : bH} {l : List bB} (hl : ja R k = some l) (hm : (k, l) ∈ R) : xE m f hs (Jj R k l.dropLast) := by
 refine ⟨fun a ha x hx => by rw [xF]; exact h.a a ha x hx, fun q hq => ?_, by rw [xF]; exact h.c, by unfold Jj; rw [aio]; exact h.d⟩
 obtain ⟨p, hp, rfl⟩ := aiI.mp hq
 split
 . obtain ⟨q1, q2⟩ := h.b (k, l) hm
   exact ⟨by show l.dropLast.length <= 3; rw [List.length_dropLast]; have q1 : l.length <= 3 := q1; omega, fun r hr => q2 r ((List.dropLast_sublist l).subset hr)⟩
 . exact h.b p hp
theorem Vt (R : List (bH × List bB)) (k : bH) (l : List bB) : (wL R).map (fun kv => if kv.1 = k then (kv.1, T.lst ((l.map qU).map T.sh)) else kv) = wL (Jj R k l) := by
 induction R with
 | nil => rfl
 | cons q R ih =>
   show (if q.1 = k then _ else _) :: (wL R).map _ = ((if q.1 = k then (q.1, l) else q).1, T.lst (((if q.1 = k then (q.1, l) else q).2.map qU).map T.sh)) :: wL (Jj R k l)
   rw [ih]
   split <;> rfl
theorem Jk {m : Nat} {x : It} (h : Xg m x) (k : Nat) : iJ (k + 2) x.d := by
 cases x with
 | pI q =>
   cases q with
   | put i a c => exact ZJ (.str _ "put" (by decide +kernel)) (.int _ _) (yN (.int _ _) (.int _ _))
   | say s a c => exact ZJ (.str _ "say" (by decide +kernel)) (.str _ _ (GO h.1)) (yN (.int _ _) (.int _ _))
   | call s => exact yN (.str _ "call" (by decide +kernel)) (.str _ _ (GO h))
 | out i => exact yN (.str _ "out" (by decide +kernel)) (.int _ _)
 | keep i p q =>
   refine .tup (ds := [.str "keep", .int i, .int p, .int q]) fun d hd => ?_
   . simp only [aiw, aiD, ajR] at hd
     rcases hd with rfl | rfl | rfl | rfl
     . exact .str _ _ (by decide +kernel)
     . exact .int _ _
     . exact .int _ _
     . exact .int _ _
 | way i => exact yN (.str _ "way" (by decide +kernel)) (.int _ _)
 | IJ i => exact yN (.str _ "in" (by decide +kernel)) (.int _ _)
theorem Rr {x : Str} (h : x ∈ HK) : PyData.strOk x = true /\ ¬ x ∈ (["open", "shut"] : List Str) := by
 have : ∀ x ∈ HK, PyData.strOk x = true /\ ¬ x ∈ (["open", "shut"] : List Str) := by decide +kernel
 exact this x h
theorem GQ.s {m f : Nat} {r : bB} (h : GQ m f r) : Ra r := ⟨fun q hq => (Rr (h.a q hq).1).1, fun x hx k => Jk (h.b x hx) k, by have := h.e; omega, by have := h.d; omega⟩
theorem xE.ok {m f : Nat} {hs : List Str} {R : List (bH × List bB)} (h : xE m f hs R) (hf : f <= 13) (hh : hs.length <= 2) : qX R f hs := ⟨hf, hh, fun a ha x hx => by
 obtain ⟨l, h1, h2⟩ := u6 (h.a a ha x hx)
 obtain ⟨q1, q2⟩ := h.b _ h2
 exact ⟨l, h1, q1, fun r hr => (q2 r hr).s⟩⟩
theorem LD {a : Nat} {x : Str} {l : List bB} {w : AU} (h : w ∈ lD a x l) : ∃ r ∈ l, w = jX a x r := by
 rcases List.eq_nil_or_concat l with rfl | ⟨l0, r, rfl⟩
 . cases h
 . rw [List.concat_eq_append] at h ⊢
   rw [mH] at h
   rcases aix.mp h with h | h
   . obtain ⟨q, hq, rfl⟩ := aiI.mp h
     exact ⟨q, air _ hq, rfl⟩
   . split at h
     . cases h
     . exact ⟨r, ail _ aiq, ajy.mp h⟩
theorem xE.mem {m f : Nat} {hs : List Str} {R : List (bH × List bB)} (h : xE m f hs R) {w : AU} {n : Nat} (hn : n <= f) (hw : w ∈ iP R n hs) : ∃ a, a < n /\ ∃ x ∈ hs, ∃ r, GQ m f r /\ w = jX a x r := by
 obtain ⟨a, ha, hw⟩ := ajS.mp hw
 obtain ⟨x, hx, hw⟩ := ajS.mp hw
 have ha := ajd.mp ha
 obtain ⟨r, hr, rfl⟩ := LD hw
 obtain ⟨l, h1, h2⟩ := u6 (h.a a (by omega) x hx)
 unfold xA at hr
 rw [h1] at hr
 exact ⟨a, ha, x, hx, r, (h.b _ h2).2 r hr, rfl⟩
theorem sy {R : List (bH × List bB)} {a : Nat} {hs : List Str} {w : AU} (hw : w ∈ lE R a hs) : w.src = (a : Int) + 1 := by
 obtain ⟨x, _, hw⟩ := ajS.mp hw
 obtain ⟨r, _, rfl⟩ := LD hw
 rfl
theorem GR {R : List (bH × List bB)} {hs : List Str} {n : Nat} {w : AU} (hw : w ∈ iP R n hs) : w.src <= (n : Int) /\ 1 <= w.src := by
 obtain ⟨a, ha, hw⟩ := ajS.mp hw
 have := ajd.mp ha
 have := sy hw
 omega
theorem yE (R : List (bH × List bB)) (hs : List Str) : ∀ n, (iP R n hs).Pairwise (fun a b => a.src <= b.src)
 | 0 => List.Pairwise.nil
 | n + 1 => by
   rw [xC]
   refine List.pairwise_append.mpr ⟨yE R hs n, List.Pairwise.imp_of_mem (R := fun _ _ => True) (fun ha hb _ => by rw [sy ha, sy hb]; exact Int.le_refl _) (List.pairwise_of_forall (fun _ _ => trivial)), fun x hx y hy => ?_⟩
   have := GR hx
   have := sy hy
   omega
theorem LJ {n m : Nat} : ∀ {ws : List AU} {l : Int}, (∀ w ∈ ws, l <= w.src /\ Q5 n m w = true) -> ws.Pairwise (fun a b => a.src <= b.src) -> Nq n m l ws = true
 | [], _, _, _ => rfl
 | w :: ws, l, h, hp => by
   obtain ⟨h1, h2⟩ := h w aiq
   cases hp with
   | cons a b =>
     rw [Nq, ai1 (show ¬ w.src < l by omega), h2, LJ (fun v hv => ⟨a v hv, (h v (ais _ hv)).2⟩) b]
     rfl
theorem Rt {n m : Nat} {q : D9} (h : q.1 ∈ HK /\ yz m q.2.1 q.2.2.1 = true /\ yz m q.2.2.2.1 q.2.2.2.2 = true) : lkI n m (Vq q) = true /\ Vh (Vq q) := by
 refine ⟨?_, (Rr h.1).2⟩
 show (decide (q.1 ∈ (["<", "<=", "=", "!="] : List Str)) && (yz m q.2.1 q.2.2.1 && yz m q.2.2.2.1 q.2.2.2.2)) = true
 rw [aiA (show q.1 ∈ (["<", "<=", "=", "!="] : List Str) from h.1), h.2.1, h.2.2]
 rfl
theorem ZO {n m a : Nat} {x : Str} {r : bB} (h : GQ m n r) (ha : a < n) (hx : dB x = true) : Q5 (n + 1) m (jX a x r) = true := by
 obtain ⟨c1, c2⟩ := h.c
 have p1 : tL ((a : Int) + 1) (n + 1) = true := by
   unfold tL
   rw [aiA (by omega), aiA (by omega)]
   rfl
 have p2 : tL (r.2.2 + 1) (n + 1) = true := by
   unfold tL
   rw [aiA (by omega), aiA (by omega)]
   rfl
 unfold Q5 jX
 dsimp only
 rw [p1, hx, aiA (show ("new" : Str) ∈ qV by decide +kernel), aiu (by omega), p2, ajh.mpr fun q hq => by
   obtain ⟨y, hy, rfl⟩ := aiI.mp hq
   exact (Rt (h.a y hy)).1]
 rfl
theorem LK {m : Nat} {xs : List It} (h : ∀ x ∈ xs, Xg m x) : ∀ q ∈ GH xs, dgL q /\ Vk m q = true := fun q hq => by
 obtain ⟨x, hx, rfl⟩ := aiI.mp hq
 obtain ⟨hx, ht⟩ := ajV.mp hx
 have hg := h x hx
 cases x with
 | pI q =>
   cases q with
   | put i a c =>
     refine ⟨trivial, ?_⟩
     show (tL i m && yz m a c) = true
     rw [hg.1, hg.2]
     rfl
   | say s a c =>
     refine ⟨⟨⟨by decide +kernel, by decide +kernel⟩, GP hg.1⟩, ?_⟩
     show (decide (("say" : Str) = "say") && (dB s && yz m a c)) = true
     rw [hg.1, hg.2, aiA rfl]
     rfl
   | call s => exact ⟨GP hg, hg⟩
 | _ => cases ht
theorem Vu {m f a : Nat} {x : Str} {r : bB} (h : GQ m f r) (hx : dB x = true) : iJ 59 (jZ (jX a x r)) := by
 rw [Ei]
 refine .tup fun d hd => ?_
 simp only [aiw, aiD, ajR] at hd
 rcases hd with rfl | rfl | rfl | rfl | rfl | rfl
 . exact .int _ _
 . exact .str _ _ (GO hx)
 . exact AY h.s.a 55
 . exact AZ h.s 55
 . exact .int _ _
 . exact .str _ _ (by decide +kernel)
theorem xE.dep {m f : Nat} {hs : List Str} {R : List (bH × List bB)} (h : xE m f hs R) (hh : ∀ x ∈ hs, dB x = true) : iJ 60 (.lst ((iP R f hs).map jZ)) := .lst fun d hd => by
 obtain ⟨w, hw, rfl⟩ := aiI.mp hd
 obtain ⟨a, ha, x, hx, r, hr, rfl⟩ := h.mem (ait _) hw
 exact Vu hr (hh x hx)
theorem Vv : ∀ n : Nat, n < 14 -> 1 <= n -> Tt (C1 n) (GK n) (GL n) (n + 1) = true := by decide +kernel
noncomputable def bN (k : Nat) : Str := ("b" : Str) ++ (toString (k : Int) : Str)
theorem ac1 : ∀ m : Nat, m < 4 -> tZ ((List.range m).map bN) = true := by decide +kernel
theorem ZP (s : List Int) : xu (Tr s) = true := by
 obtain ⟨b1, _⟩ := Ve s
 unfold xu
 have e : (Tr s).map (·.1) = (List.range (Nm s)).map bN := by
   unfold Tr
   rw [aiQ]
   rfl
 rw [e, ac1 _ (by omega), ajh.mpr fun q hq => ?_]
 . rfl
 . obtain ⟨k, _, rfl⟩ := aiI.mp hq
   have p30 : (10 : Int) ^ (30 : Int).toNat = 1000000000000000000000000000000 := by decide +kernel
   have hf : ∀ j : Nat, j < 2 -> 0 < Tq.getD j 0 /\ Tq.getD j 0 <= 1000000000000000000000000000000 := by decide +kernel
   obtain ⟨f0, f1⟩ := hf (k % 2) (by omega)
   have g0 := ai4 (jx s (1 + (k : Int)) % 10 ^ (30 : Int).toNat) (b := Tq.getD (k % 2) 0) (by omega)
   have g1 := aiV (jx s (1 + (k : Int)) % 10 ^ (30 : Int).toNat) (b := Tq.getD (k % 2) 0) f0
   show Q0 (jx s (1 + (k : Int)) % 10 ^ (30 : Int).toNat % Tq.getD (k % 2) 0 - 2) = true
   unfold Q0
   rw [aiA (by rw [p30]; rw [p30] at g0; omega), aiA (by rw [p30]; rw [p30] at g1; omega)]
   rfl
theorem ZQ {l : List Str} (h : tZ l = true) : (∀ x ∈ l, dB x = true) /\ l.Nodup := by
 unfold tZ at h
 rw [aiO] at h
 exact ⟨ajh.mp h.1, aiT h.2⟩
theorem Ru {l : List (Str × Int)} (h : xu l = true) : ∀ q ∈ l, dB q.1 = true := fun q hq => by
 unfold xu at h
 rw [aiO] at h
 exact (ZQ h.2).1 _ (aiI.mpr ⟨q, hq, rfl⟩)
theorem Rw {bs : List (Str × Int)} (h : xu bs = true) (k : Nat) : iJ (k + 2) (.lst (bs.map wM)) := .lst fun d hd => by
 obtain ⟨q, hq, rfl⟩ := aiI.mp hd
 exact yN (.str _ _ (GO (Ru h q hq))) (.int _ _)
theorem Vw {bs : List (Str × Int)} {xs : List It} {R : List (bH × List bB)} {n : Nat} {hs : List Str} (h : xE bs.length n hs R) (hx : ∀ x ∈ xs, Xg bs.length x) : ∀ l ∈ C2 xs n ++ GN n ++ (iP R n hs).map (·.dl), ∀ q ∈ l, dgL q /\ Vk bs.length q = true := fun l hl => by
 rcases aix.mp hl with hl | hl
 . rcases aix.mp hl with hl | hl
   . rcases aiw.mp hl with rfl | hl
     . exact LK hx
     . rw [ajL hl]
       exact fun q hq => absurd hq aiD
   . rw [ajL hl]
     exact fun q hq => absurd hq aiD
 . obtain ⟨w, hw, rfl⟩ := aiI.mp hl
   obtain ⟨a, ha, x, hx, r, hr, rfl⟩ := h.mem (ait _) hw
   exact LK hr.b
theorem ac2 {bs : List (Str × Int)} {xs : List It} {R : List (bH × List bB)} {n : Nat} {hs : List Str} (h : xE bs.length n hs R) (hx : ∀ x ∈ xs, Xg bs.length x) (hb : xu bs = true) (hl : bs.length <= 1000) (n1 : 1 <= n) (n2 : n <= 13) (h2 : hs.length <= 2) (hh : ∀ x ∈ hs, dB x = true) :
   Lx bs (Ca n) (C1 n) (C2 xs n) (GN n) (iP R n hs) /\ Vo bs (Ca n) (C1 n) (GK n) (GL n) (C2 xs n) (GN n) (iP R n hs) = -1 := by
 have hr := Vw h hx
 obtain ⟨m1, m2⟩ := Rn n (by omega)
 have m3 := ajh.mp m2
 have lk : (C1 n).length = n + 1 := by unfold C1; rw [ai7, ajf]
 have ln : (Ca n).length = n + 1 := by unfold Ca; rw [ai7, aio, ajc]
 have li : (C2 xs n).length = n + 1 := by unfold C2; rw [ai7, ajf]
 have lo : (GN n).length = n + 1 := by unfold GN; rw [ajf]
 have lw := (h.ok n2 h2).Ji (j := n) (ait _)
 refine ⟨⟨by omega, fun x hx => GP (m3 x hx), by omega, fun q hq => GP (Ru hb q hq), hl, by omega, by omega, by omega, fun l hl q hq => (hr l hl q hq).1, fun w hw => ?_⟩, ?_⟩
 . obtain ⟨a, ha, x, hx, r, hr, rfl⟩ := h.mem (ait _) hw
   refine ⟨GP (hh x hx), fun q hq => ?_⟩
   obtain ⟨y, hy, rfl⟩ := aiI.mp hq
   exact (Rt (n := 0) (hr.a y hy)).2
 . unfold Vo
   have z1 : Tt (C1 n) (GK n) (GL n) (Ca n).length = true := by rw [ln]; exact Vv n (by omega) n1
   have z2 : tZ (Ca n) = true := by unfold tZ; rw [m2, aiA m1]; rfl
   have z4 : AV (Ca n).length bs.length (C2 xs n) (GN n) (iP R n hs) = true := by
     unfold AV
     rw [aiA (by omega), aiA (by omega), ajh.mpr fun l hl => ajh.mpr fun q hq => (hr l hl q hq).2]
     rfl
   have z5 : Nq (Ca n).length bs.length 0 (iP R n hs) = true := by
     rw [ln]
     refine LJ (fun w hw => ⟨by have := GR hw; omega, ?_⟩) (yE R hs n)
     obtain ⟨a, ha, x, hx, r, hr, rfl⟩ := h.mem (ait _) hw
     exact ZO hr ha (hh x hx)
   rw [z1, z2, hb, z4, z5]
   rfl
noncomputable def ptU (s : List Int) (R : List (bH × List bB)) : T := .lst [.lst (((Tr s).map wM).map T.sh), .lst (((FH s).map .str).map T.sh), .sh (.tup ((pzX s).map It.d)), .lst (((List.range (GC s)).map AK).map T.sh), .dct (wL R)]
theorem Rx (s : List Int) : Ls s = ptU s (Nn s) := rfl
theorem Nx (R : List (bH × List bB)) : T.jq (wL R) = true := by
 induction R with
 | nil => show T.jq [] = true; rw [T.jq]
 | cons q r ih =>
   show T.jq ((q.1, T.lst ((q.2.map qU).map T.sh)) :: wL r) = true
   rw [T.jq, aV (aL Eb _), ih]
   rfl
theorem El (R : List (bH × List bB)) : T.cu (.dct (wL R)) = .dct (dcD R) := by
 rw [T.cu]
 congr 1
 induction R with
 | nil => show T.uY [] = []; rw [T.uY]
 | cons q r ih =>
   show T.uY ((q.1, T.lst ((q.2.map qU).map T.sh)) :: wL r) = (q.1, L3.D.lst (q.2.map qU)) :: dcD r
   rw [T.uY, cK, ih]
theorem Ny (s : List Int) (R : List (bH × List bB)) : (ptU s R).clean = true := by
 unfold ptU
 rw [T.clean, T.gB, T.gB, T.gB, T.gB, T.gB, T.gB, aV (aL (fun _ => rfl) _), aV (iO _), aV (aL (fun _ => rfl) _), T.clean, T.clean, Nx, D.kX, aL mG]
 rfl
theorem Vx {R : List (bH × List bB)} {k : bH} {l : List bB} (h : ja R k = some l) : ja (wL R) k = some (.lst ((l.map qU).map T.sh)) /\ ja (dcD R) k = some (.lst (l.map qU)) := by
 induction R with
 | nil => cases h
 | cons p R ih =>
   by_cases e : p.1 = k
   . rw [kH e] at h
     cases h
     exact ⟨kH (p := (p.1, T.lst ((p.2.map qU).map T.sh))) e, kH (p := (p.1, L3.D.lst (p.2.map qU))) e⟩
   . rw [ju e] at h
     exact ⟨(ju (p := (p.1, T.lst ((p.2.map qU).map T.sh))) e).trans (ih h).1, (ju (p := (p.1, L3.D.lst (p.2.map qU))) e).trans (ih h).2⟩
theorem Ry (R : List (bH × List bB)) : (wL R).map (·.1) = R.map (·.1) := by
 unfold wL
 rw [aiQ]
 rfl
theorem Vy (R : List (bH × List bB)) : dcD R = kJ (Ct R) := by
 unfold kJ Ct
 rw [aiQ]
 rfl
theorem Vz {α : Type} (l : List α) : cutD l none (some (-1)) = l.dropLast := by
 unfold cutD
 have e1 : HT.iF l.length 0 none = 0 := rfl
 have e2 : HT.iF l.length l.length (some (-1)) = l.length - 1 := by
   unfold HT.iF
   simp
   omega
 rw [e1, e2, List.dropLast_eq_take]
 simp
theorem VA {α : Type} (l : List α) {k : Nat} {z : Int} (hz : z = (k : Int)) : cutD l (some z) none = l.drop k := by
 subst hz
 unfold cutD
 have e1 : HT.iF l.length 0 (some (k : Int)) = min k l.length := by
   unfold HT.iF
   simp
   intro hk
   omega
 have e2 : HT.iF l.length l.length none = l.length := rfl
 rw [e1, e2]
 by_cases h : k <= l.length
 . rw [Nat.min_eq_left h]
   exact List.take_of_length_le (by rw [List.length_drop]; omega)
 . rw [Nat.min_eq_right (by omega), List.drop_eq_nil_of_le (ait _), List.drop_eq_nil_of_le (by omega)]
   exact List.take_nil
theorem Nz {bs : List L3.D} (hb : D.bK bs = true) (xs : List It) (R : List (bH × List bB)) (n : Nat) (hs : List Str) : T.bw (unF bs xs R n hs) = true := by
 have ht : (T.ins "Tree" (qT (C1 n) (GK n) (GL n))).clean = true := by rw [T.clean]; exact yx _ _ _
 unfold unF xq xm xo
 rw [aiP, aiP, ajw, T.bw, T.bw, T.bw, T.bw, T.bw, T.bw, T.bw, aV hb, aV (iO _), ht, aV (aL oB _), aV (aL oB _), aV (aL ve _)]
 rfl
noncomputable def unD (bs : List L3.D) (xs : List It) (R : List (bH × List bB)) (n : Nat) (hs : List Str) : L3.D := jw bs ((Ca n).map .str) (lC (C1 n) (GK n) (GL n)) ((C2 xs n).map fc) ((GN n).map fc) ((iP R n hs).map jZ)
theorem VB (bs : List L3.D) (xs : List It) (R : List (bH × List bB)) (n : Nat) (hs : List Str) : T.cu (.ins "Chart" (unF bs xs R n hs)) = unD bs xs R n hs := by
 unfold unF unD
 rw [IZ, Nk]
theorem LN {R : List (bH × List bB)} : ∀ q ∈ Ct R, D.bK q.2 = true := fun q hq => by
 obtain ⟨p, _, rfl⟩ := aiI.mp hq
 exact aL Eb _
theorem Rz (R : List (bH × List bB)) : (Ct R).map (·.1) = R.map (·.1) := by
 unfold Ct
 rw [aiQ]
 rfl
theorem GU {l : List Str} (h : ∀ x ∈ l, dB x = true) (k : Nat) : iJ (k + 1) (.lst (l.map .str)) := .lst fun d hd => by
 obtain ⟨x, hx, rfl⟩ := aiI.mp hd
 exact .str _ _ (GO (h x hx))
theorem zL {a d : L3.D} {k : Nat} (n : Nat) (h1 : iJ k a) (h2 : iJ k d) : iJ (k + 1) (.lst (a :: List.replicate n d)) := .lst fun x hx => by
 rcases aiw.mp hx with rfl | hx
 . exact h1
 . rw [ajL hx]; exact h2
theorem RA {d : L3.D} {k : Nat} (n : Nat) (h2 : iJ k d) : iJ (k + 1) (.lst (List.replicate n d)) := .lst fun x hx => by
 rw [ajL hx]; exact h2
theorem VC (n k : Nat) : iJ (k + 3) (.lst ((List.range n).map AK)) := .lst fun d hd => by
 obtain ⟨i, _, rfl⟩ := aiI.mp hd
 exact yN (yN (.int _ _) (.int _ _)) (yN (.int _ _) (.int _ _))
theorem GV {d : L3.D} (h : iJ 60 d) : ¬ (!Ai d d) = true := by rw [Aj h]; decide
theorem RB {d e : L3.D} (h : iJ 60 d) (g : iJ 60 e) : ¬ (!Ai d d || !Ai e e) = true := by rw [Aj h, Aj g]; decide
seal L3.e9 L3.MD L3.bR L3.cF L3.r9 L3.HG L3.Uh
noncomputable abbrev sA : Stmt := top 53
noncomputable abbrev sC : Type := List Int × Int
noncomputable def kK : sC -> List L3.D := fun (ns, j) => [.lst (ns.map .int), .int j]
noncomputable def kL : sC -> Prop := fun (ns, j) => 0 <= j
noncomputable def kM : sC -> T := fun (ns, j) => (.sh (.int (jx ns j)) : T)
structure NB (X : Cx) (CL : Str -> Addr) : Prop extends cO X where
 dQ : Ln X 0 "script"
 HP : Ln X 1 "k"
 cW : Gl X "len"
 cX : X.mg "len" = none
theorem NC {X : Cx} {CL : Str -> Addr} {b : Bx} (E : NB X CL) {dW : sC} (h : kL dW) :
   aH X CL b sA ["script", "k"] (kK dW) (kM dW) := by
 obtain ⟨ns, j⟩ := dW
 dsimp only [aH, kL, kK, kM] at h ⊢
 refine dz (CM (aK E.HP) (ah (zI E.cX (aK E.dQ) E.cW))).1 (fun hp => ?_) (fun hp => ?_)
 . have e : j < ns.length := by simpa using of_decide_eq_true hp
   refine bE (gT (i7 (aK E.dQ) (aK E.HP) (tT h e)) rfl) ?_
   show T.sh _ = T.sh (.int (jx ns j))
   rw [jx, aiC e]
 . have e : ¬ j < ns.length := by simpa using of_decide_eq_false hp
   refine aq (bE ai ?_)
   show T.sh _ = T.sh (.int (jx ns j))
   rw [jx, aiu e]
theorem t6 : pA (ak sA) ([("script", ay), ("k", ay), ("len", au)]) = true := by decide +kernel
theorem Jl : aM ["script", "k"] ["script", "k"] (ak sA) := bz
noncomputable abbrev Em : Stmt := top 54
noncomputable abbrev En : Type := Addr × Int × Int
noncomputable def jy : En -> List T := fun (y, p, m) => [.pin y (.lst [.sh (.int p)]), .sh (.int m)]
noncomputable def iQ : En -> List T := fun (y, p, m) => [.pin y (.lst [.sh (.int (p / m))]), .sh (.int m)]
noncomputable def pre_take : En -> Prop := fun (y, p, m) => 0 < m /\ m.natAbs.log2 < 9000
noncomputable def jz : En -> T := fun (y, p, m) => (.sh (.int (p % m)) : T)
structure ZR (X : Cx) (CL : Str -> Addr) : Prop extends cO X where
 cQ : Ln X 0 "pot"
 aT : Ln X 1 "many"
 LQ : Ln X 2 "digit"
theorem ZS {X : Cx} {CL : Str -> Addr} {b : Bx} (E : ZR X CL) (y p m) (h : pre_take (y, p, m)) :
   e9 X CL b (dU Em) (xg ["pot", "many", "digit"] (jy (y, p, m))) { nx := fun δ => jz (y, p, m) = .sh .non /\ Keeps δ (iQ (y, p, m)), rt := fun UM δ => UM = jz (y, p, m) /\ Keeps δ (iQ (y, p, m)) } := by
 dsimp only [pre_take, jy, jz, iQ] at h ⊢
 refine cC E.g E.LQ (oX (ah (D0 (p := [.ix 0]) (nQ (g7 E.cQ.1 rfl) rfl rfl (ah ai) rfl) rfl rfl)) (aK E.aT) h.1) ?_
 refine Zn (Qv (ah (D0 (p := [.ix 0]) (nQ (g7 E.cQ.1 rfl) rfl rfl (ah ai) rfl) rfl rfl)) (aK E.aT) h) (g7 E.cQ.1 rfl) (ah ai) rfl rfl rfl ?_
 exact bE (v_ E.LQ.1) ⟨rfl, qR (ds := [_])⟩
theorem Eo : pA (ak Em) ([("pot", ay), ("many", ay), ("digit", ay)]) = true := by decide +kernel
theorem LR : aM ["pot", "many", "digit"] ["pot", "many"] (ak Em) := bz
noncomputable abbrev Ep : Stmt := top 55
noncomputable abbrev Er : Type := Addr × Int × Nat
noncomputable def oE : Er -> List T := fun (y, p, m) => [.pin y (.lst [.sh (.int p)]), .sh (.int m)]
noncomputable def mJ : Er -> List T := fun (y, p, m) => [.pin y (.lst [.sh (.int (AI m p))]), .sh (.int m)]
noncomputable def qZ : Er -> Prop := fun (y, p, m) => m <= 10
noncomputable def oF : Er -> T := fun (y, p, m) => (.sh (.tup [.int (CY m p), .int (B8 m p)]) : T)
structure ZT (X : Cx) (CL : Str -> Addr) : Prop extends cO X where
 cQ : Ln X 0 "pot"
 aT : Ln X 1 "many"
 vf : Ln X 2 "box"
 aP : Gl X "_law_take"
 dX : IQ X CL "_law_take" 1 2 jy pre_take jz iQ
theorem ZU {X : Cx} {CL : Str -> Addr} {b : Bx} (E : ZT X CL) (y p m) (h : qZ (y, p, m)) :
   e9 X CL b (dU Ep) (xg ["pot", "many", "box"] (oE (y, p, m))) { nx := fun δ => oF (y, p, m) = .sh .non /\ Keeps δ (mJ (y, p, m)), rt := fun UM δ => UM = oF (y, p, m) /\ Keeps δ (mJ (y, p, m)) } := by
 dsimp only [qZ, oE, oF, mJ] at h ⊢
 have h : m <= 10 := h
 refine mF E.g E.vf (nR (D5 (M8 (t := .sh (.int (p % ((m : Int) + 1)))) (y, p, ((m : Int) + 1)) (.pin y (.lst [.sh (.int (p / ((m : Int) + 1)))])) E.dX E.aP (oz E.cQ.1 rfl (fD (iG (aK E.aT) (ah ai)) c5)) (qy (by omega) (by omega)) rfl ⟨rfl, .inr rfl, trivial⟩) ai.m) (t2 := .sh (.int (CY m p))) rfl) ?_
 refine acE (U4 (M8 (t := .sh (.int ((p / ((m : Int) + 1)) % 3))) (y, (p / ((m : Int) + 1)), 3) (.pin y (.lst [.sh (.int ((p / ((m : Int) + 1)) / 3))])) E.dX E.aP (oz E.cQ.1 rfl (fD ai c5)) (qy (by decide) (by decide)) rfl ⟨rfl, .inr rfl, trivial⟩) (ah ai)) (fun hp => ?_) (fun hp => aq ?_)
 . have hp := aiT hp
   refine tU (jv (ds := [.int (CY m p), .int (OO m p % (2 * 10 ^ (9 : Int).toNat + 1) - 10 ^ (9 : Int).toNat)]) (bC (v_ E.vf.1).m (bC (D5 (M8 (t := .sh (.int ((OO m p) % (2 * 10 ^ (9 : Int).toNat + 1)))) (y, (OO m p), (2 * 10 ^ (9 : Int).toNat + 1)) (.pin y (.lst [.sh (.int ((OO m p) / (2 * 10 ^ (9 : Int).toNat + 1)))])) E.dX E.aP (oz E.cQ.1 rfl (fD (iG (ah (Ac (ah ai) (ah (nO (ah ai) (ah ai) ⟨by decide, by decide, by decide⟩)) (.inl ⟨by decide, by decide⟩))) (ah ai)) c5)) (qy (by decide) (by decide)) rfl ⟨rfl, .inr rfl, trivial⟩) ((nO (ah ai) (ah ai) ⟨by decide, by decide, by decide⟩)).m) ki)) (aA rfl)) ⟨?_, ?_⟩
   . show _ = T.sh (.tup [.int (CY m p), .int (B8 m p)])
     unfold B8
     rw [aiC hp]
   . show Keeps _ [.pin y (.lst [.sh (.int (AI m p))]), .sh (.int m)]
     unfold AI
     rw [aiC hp]
     exact qR (ds := [_])
 . have hp := ajJ hp
   refine tU (jv (ds := [.int (CY m p), .int (OO m p % 7 - 3)]) (bC (v_ E.vf.1).m (bC (D5 (M8 (t := .sh (.int ((OO m p) % 7))) (y, (OO m p), 7) (.pin y (.lst [.sh (.int ((OO m p) / 7))])) E.dX E.aP (oz E.cQ.1 rfl (fD ai c5)) (qy (by decide) (by decide)) rfl ⟨rfl, .inr rfl, trivial⟩) ai.m) ki)) (aA rfl)) ⟨?_, ?_⟩
   . show _ = T.sh (.tup [.int (CY m p), .int (B8 m p)])
     unfold B8
     rw [aiu hp]
   . show Keeps _ [.pin y (.lst [.sh (.int (AI m p))]), .sh (.int m)]
     unfold AI
     rw [aiu hp]
     exact qR (ds := [_])
theorem zM : pA (ak Ep) ([("pot", ay), ("many", ay), ("box", ay), ("_law_take", au)]) = true := by decide +kernel
theorem LV : aM ["pot", "many", "box"] ["pot", "many"] (ak Ep) := bz
noncomputable abbrev zN : Stmt := top 56
noncomputable abbrev zO : Type := Addr × Int × Nat × List Str
noncomputable def oG : zO -> List T := fun (y, p, m, hs) => [.pin y (.lst [.sh (.int p)]), .sh (.int m), .sh (.lst (hs.map .str))]
noncomputable def lT : zO -> List T := fun (y, p, m, hs) => [.pin y (.lst [.sh (.int (Tp m hs p))]), .sh (.int m), .sh (.lst (hs.map .str))]
noncomputable def sE : zO -> Prop := fun (y, p, m, hs) => m <= 10 /\ 0 < hs.length /\ hs.length <= 10
noncomputable def oH : zO -> T := fun (y, p, m, hs) => (.sh (Lj m hs p).d : T)
structure VD (X : Cx) (CL : Str -> Addr) : Prop extends cO X where
 cQ : Ln X 0 "pot"
 aT : Ln X 1 "many"
 gE : Ln X 2 "heard"
 lF : Ln X 3 "way"
 vf : Ln X 4 "box"
 aP : Gl X "_law_take"
 kN : Gl X "_law_term"
 ac3 : Gl X "str"
 cW : Gl X "len"
 dX : IQ X CL "_law_take" 1 2 jy pre_take jz iQ
 A1 : IQ X CL "_law_term" 2 2 oE qZ oF mJ
 GX : X.mg "str" = none
 cX : X.mg "len" = none
theorem VF {X : Cx} {CL : Str -> Addr} {b : Bx} (E : VD X CL) (y p m hs) (h : sE (y, p, m, hs)) :
   e9 X CL b (dU zN) (xg ["pot", "many", "heard", "way", "box"] (oG (y, p, m, hs))) { nx := fun δ => oH (y, p, m, hs) = .sh .non /\ Keeps δ (lT (y, p, m, hs)), rt := fun UM δ => UM = oH (y, p, m, hs) /\ Keeps δ (lT (y, p, m, hs)) } := by
 dsimp only [sE, oG, oH, lT] at h ⊢
 obtain ⟨hm, h0, h1⟩ := h
 have w0 := ai4 p (b := 9) (by decide)
 have w1 := aiV p (b := 9) (by decide)
 refine mF E.g E.lF (M8 (t := .sh (.int (p % 9))) (y, p, 9) (.pin y (.lst [.sh (.int (p / 9))])) E.dX E.aP (oz E.cQ.1 rfl (fD ai c5)) (qy (by decide) (by decide)) rfl ⟨rfl, .inr rfl, trivial⟩) ?_
 refine dz (CM (aK E.lF) (ah ai)).1 (fun hp => ?_) (fun hp => aq ?_)
 . have hp := aiT hp
   refine tU (D6 (QC (U1 (tl := (([.out 1, .keep 0 (-1) 2, .way (p / 9 % 5), .IJ 2] : List It).map It.d).map T.sh) (bC ((cV (aX b7 (aX ai fO)) (aA rfl))).m (bC ((cV (aX b7 (aX ai (aX (jr (ah ai)) (aX ai fO)))) (aA rfl))).m (bC (jv (ds := [.str "way", .int (p / 9 % 5)]) (bC b7.m (bC (M8 (t := .sh (.int ((p / 9) % 5))) (y, (p / 9), 5) (.pin y (.lst [.sh (.int ((p / 9) / 5))])) E.dX E.aP (oz E.cQ.1 rfl (fD ai c5)) (qy (by decide) (by decide)) rfl ⟨rfl, .inr rfl, trivial⟩) ki)) (aA rfl)) (bC ((cV (aX b7 (aX ai fO)) (aA rfl))).m ki)))) (aA rfl)) (cK _)) (v_ E.lF.1).m (Al (.out 1) w0 (show p % 9 < 4 by omega))) ⟨?_, ?_⟩
   . show T.sh _ = T.sh (Lj m hs p).d
     unfold Lj
     rw [aiC hp]
     try rfl
   . show Keeps _ [.pin y (.lst [.sh (.int (Tp m hs p))]), .sh (.int m), .sh (.lst (hs.map .str))]
     unfold Tp
     rw [aiC hp]
     exact qR (ds := [_, _])
 have n4 := ajJ hp
 refine dz (tS (Iq (CM (aK E.lF) (ah ai)).1 (fun hb => (K2 (P7 (aK E.aT) (ah ai)).1)))) (fun hp => ?_) (fun hp => aq ?_)
 . rw [aiO] at hp
   have p1 := aiT hp.1
   have p2 := aiT hp.2
   have hq : p % 9 < 6 /\ 0 < m := ⟨p1, by omega⟩
   refine mF E.g E.vf (M8 (t := .sh (.int ((p / 9) % (m : Int)))) (y, (p / 9), (m : Int)) (.pin y (.lst [.sh (.int ((p / 9) / (m : Int)))])) E.dX E.aP (oz E.cQ.1 rfl (fD (v_ E.aT.1) c5)) (qy (by omega) (by omega)) rfl ⟨rfl, .inr rfl, trivial⟩) ?_
   refine tU (jv (ds := [.str "put", .int (p / 9 % (m : Int)), .tup [.int (CY m (p / 9 / (m : Int))), .int (B8 m (p / 9 / (m : Int)))]]) (bC b7.m (bC (v_ E.vf.1).m (bC (M8 (t := .sh (.tup [.int (CY m (p / 9 / (m : Int))), .int (B8 m (p / 9 / (m : Int)))])) (y, (p / 9 / (m : Int)), m) (.pin y (.lst [.sh (.int (AI m (p / 9 / (m : Int))))])) E.A1 E.kN (oz E.cQ.1 rfl (fD (v_ E.aT.1) c5)) (show m <= 10 by omega) rfl ⟨rfl, .inr rfl, trivial⟩) ki))) (aA rfl)) ⟨?_, ?_⟩
   . show T.sh _ = T.sh (Lj m hs p).d
     unfold Lj
     rw [aiu n4, aiC hq]
     try rfl
   . show Keeps _ [.pin y (.lst [.sh (.int (Tp m hs p))]), .sh (.int m), .sh (.lst (hs.map .str))]
     unfold Tp
     rw [aiu n4, aiC hq]
     exact qR (ds := [_, _])
 have n6 : ¬ (p % 9 < 6 /\ 0 < m) := fun ⟨z1, z2⟩ => by
   rw [aiA z1, aiA (show (0 : Int) < (m : Int) by omega)] at hp
   exact absurd hp (by decide)
 refine dz (CM (aK E.lF) (ah ai)).1 (fun hp => ?_) (fun hp => aq ?_)
 . have hp := aiT hp
   have s0 := ai4 (p / 9) (b := 3) (by decide)
   have s1 := aiV (p / 9) (b := 3) (by decide)
   have cl : ∀ k : Nat, k < 3 -> (toString (k : Int) : Str).length <= 2 /\ (k : Int).natAbs.log2 < 1920 := by decide +kernel
   obtain ⟨sl, sg⟩ := cl (p / 9 % 3).toNat (by omega)
   rw [show (((p / 9 % 3).toNat : Nat) : Int) = p / 9 % 3 by omega] at sl sg
   refine tU (jv (ds := [.str "say", .str (wN (p / 9 % 3)), .tup [.int (CY m (p / 9 / 3)), .int (B8 m (p / 9 / 3))]]) (bC b7.m (bC (QB b7.m (QD E.GX E.ac3 (M8 (t := .sh (.int ((p / 9) % 3))) (y, (p / 9), 3) (.pin y (.lst [.sh (.int ((p / 9) / 3))])) E.dX E.aP (oz E.cQ.1 rfl (fD ai c5)) (qy (by decide) (by decide)) rfl ⟨rfl, .inr rfl, trivial⟩) sg) (by rw [ajg]; have h1 : ("w" : Str).length = 1 := (by decide +kernel); show ("w" : Str).length + (toString (p / 9 % 3) : Str).length <= _; omega)) (bC (M8 (t := .sh (.tup [.int (CY m (p / 9 / 3)), .int (B8 m (p / 9 / 3))])) (y, (p / 9 / 3), m) (.pin y (.lst [.sh (.int (AI m (p / 9 / 3)))])) E.A1 E.kN (oz E.cQ.1 rfl (fD (v_ E.aT.1) c5)) (show m <= 10 by omega) rfl ⟨rfl, .inr rfl, trivial⟩) ki))) (aA rfl)) ⟨?_, ?_⟩
   . show T.sh _ = T.sh (Lj m hs p).d
     unfold Lj
     rw [aiu n4, aiu n6, aiC hp]
     try rfl
   . show Keeps _ [.pin y (.lst [.sh (.int (Tp m hs p))]), .sh (.int m), .sh (.lst (hs.map .str))]
     unfold Tp
     rw [aiu n4, aiu n6, aiC hp]
     exact qR (ds := [_, _])
 have n8 := ajJ hp
 have g0 := ai4 (p / 9) (b := (hs.length : Int)) (by omega)
 have g1 := aiV (p / 9) (b := (hs.length : Int)) (by omega)
 . refine tU (jv (ds := [.str "call", .str (hs.getD (p / 9 % (hs.length : Int)).toNat Str.empty)]) (bC b7.m (bC (D6 (v_ E.gE.1).m (M8 (t := .sh (.int ((p / 9) % (hs.length : Int)))) (y, (p / 9), (hs.length : Int)) (.pin y (.lst [.sh (.int ((p / 9) / (hs.length : Int)))])) E.dX E.aP (oz E.cQ.1 rfl (fD (er (aio ..) E.cX (aK E.gE) E.cW) c5)) (qy (by omega) (by omega)) rfl ⟨rfl, .inr rfl, trivial⟩) (Al Str.empty g0 g1)) ki)) (aA rfl)) ⟨?_, ?_⟩
   . show T.sh _ = T.sh (Lj m hs p).d
     unfold Lj
     rw [aiu n4, aiu n6, aiu n8]
     try rfl
   . show Keeps _ [.pin y (.lst [.sh (.int (Tp m hs p))]), .sh (.int m), .sh (.lst (hs.map .str))]
     unfold Tp
     rw [aiu n4, aiu n6, aiu n8]
     exact qR (ds := [_, _])
theorem jA : pA (ak zN) ([("pot", ay), ("many", ay), ("heard", ay), ("way", ay), ("box", ay), ("_law_take", au), ("_law_term", au), ("str", au), ("len", au)]) = true := by decide +kernel
theorem GY : aM ["pot", "many", "heard", "way", "box"] ["pot", "many", "heard"] (ak zN) := bz
noncomputable abbrev vg : Stmt := top 57
noncomputable abbrev vh : Type := Addr × Int × Nat × List Str
noncomputable def j5 : vh -> List T := fun (y, p, m, hs) => [.pin y (.lst [.sh (.int p)]), .sh (.int m), .sh (.lst (hs.map .str))]
noncomputable def jb : vh -> List T := fun (y, p, m, hs) => [.pin y (.lst [.sh (.int (GB m hs p))]), .sh (.int m), .sh (.lst (hs.map .str))]
noncomputable def mK : vh -> Prop := fun (y, p, m, hs) => m <= 10 /\ 0 < hs.length /\ hs.length <= 10
noncomputable def j6 : vh -> T := fun (y, p, m, hs) => (.sh (.tup ((HM m hs p).map It.d)) : T)
structure RC (X : Cx) (CL : Str -> Addr) : Prop extends cO X where
 cQ : Ln X 0 "pot"
 ac4 : X.env.kindOf "pot" = some .cell
 aT : Ln X 1 "many"
 ZV : X.env.kindOf "many" = some .cell
 gE : Ln X 2 "heard"
 VG : X.env.kindOf "heard" = some .cell
 iS : Gl X "tuple"
 cY : Gl X "range"
 aP : Gl X "_law_take"
 iT : X.mg "tuple" = none
 cZ : X.mg "range" = none
 dX : IQ X CL "_law_take" 1 2 jy pre_take jz iQ
 VH : IQ X CL "_law_piece" 3 3 oG sE oH lT
theorem RD {X : Cx} {CL : Str -> Addr} {b : Bx} (E : RC X CL) (y p m hs) (h : mK (y, p, m, hs)) :
   e9 X CL b (dU vg) (xg ["pot", "many", "heard"] (j5 (y, p, m, hs))) { nx := fun δ => j6 (y, p, m, hs) = .sh .non /\ Keeps δ (jb (y, p, m, hs)), rt := fun UM δ => UM = j6 (y, p, m, hs) /\ Keeps δ (jb (y, p, m, hs)) } := by
 dsimp only [mK, j5, j6, jb] at h ⊢
 have hh := h
 obtain ⟨hm, h0, h1⟩ := h
 have w0 := ai4 p (b := 4) (by decide)
 have w1 := aiV p (b := 4) (by decide)
 obtain ⟨n, hn⟩ : ∃ n : Nat, n = (p % 4).toNat := ⟨_, rfl⟩
 have hn2 : p % 4 = (n : Int) := by omega
 refine tU (QH (ds := (HM m hs p).map It.d) E.iT (nR (M9 (n := n) (i := 0) (y := y) (fun j => .lst [.sh (.int (Xe m hs (p / 4) j))]) (fun j => (Lj m hs (Xe m hs (p / 4) j)).d) (fU (.cons E.gE.1 (.inl E.VG) (.cons E.aT.1 (.inl E.ZV) (.cons E.cQ.1 (.inl E.ac4) .nil))) (by decide +kernel)) E.g.calm E.cZ E.cY (nR (M8 (t := .sh (.int (p % 4))) (y, p, 4) (.pin y (.lst [.sh (.int (p / 4))])) E.dX E.aP (oz E.cQ.1 rfl (fD ai c5)) (qy (by decide) (by decide)) rfl ⟨rfl, .inr rfl, trivial⟩) (t2 := .sh (.int (n : Nat))) (by rw [hn2])) (by omega) rfl (by decide) (by decide) (fun C s0 H0 f0 b' j hj => ?Jm)) (t2 := .lst (((HM m hs p).map It.d).map T.sh)) ?VJ) (aL mG _) E.iS) ⟨rfl, ?_⟩
 case Jm =>
   exact M8 (t := .sh (Lj m hs (Xe m hs (p / 4) j)).d) (y, Xe m hs (p / 4) j, m, hs) (.pin y (.lst [.sh (.int (Xe m hs (p / 4) (j + 1)))])) (QG E.VH) (sd (by decide +kernel)) (oz (DF (i := 3) rfl (by decide +kernel)) rfl (fD (v_ (DF (i := 2) rfl (by decide +kernel))) (fD (v_ (DF (i := 1) rfl (by decide +kernel))) c5))) hh rfl ⟨rfl, .inr rfl, trivial⟩
 case VJ =>
   unfold HM
   rw [← hn, aiQ, aiQ]
   rfl
 show Keeps _ [.pin y (.lst [.sh (.int (GB m hs p))]), .sh (.int m), .sh (.lst (hs.map .str))]
 unfold GB
 rw [← hn]
 exact qR (ds := [_, _])
theorem g8 : pA (ak vg) ([("pot", .cell), ("many", .cell), ("heard", .cell), ("tuple", au), ("range", au), ("_law_take", au)]) = true := by decide +kernel
theorem C3 : aM ["pot", "many", "heard"] ["pot", "many", "heard"] (ak vg) := bz
noncomputable abbrev Es : Stmt := top 58
noncomputable abbrev Et : Type := Int × Nat × List Str × Nat
noncomputable def vj : Et -> List L3.D := fun (c, m, hs, f) => [.int c, .int m, .lst (hs.map .str), .int f]
noncomputable def rg : Et -> Prop := fun (c, m, hs, f) => (m <= 10 /\ 0 < hs.length /\ hs.length <= 10) /\ 1 <= f /\ f <= 100
noncomputable def vm : Et -> T := fun (c, m, hs, f) => (.lst (((ZE m hs f c).map qU).map T.sh) : T)
structure ZW (X : Cx) (CL : Str -> Addr) : Prop extends cO X where
 ZX : Ln X 0 "cell"
 aT : Ln X 1 "many"
 gE : Ln X 2 "heard"
 lI : Ln X 3 "flats"
 cQ : Ln X 4 "pot"
 dD : Ln X 5 "rows"
 HP : Ln X 6 "k"
 Jo : Ln X 7 "asks"
 l_j : Ln X 8 "j"
 rj : Ln X 9 "mark"
 Xh : Ln X 10 "one"
 sF : Ln X 11 "piece"
 cY : Gl X "range"
 aP : Gl X "_law_take"
 kN : Gl X "_law_term"
 ko : Gl X "_law_script"
 iS : Gl X "tuple"
 cZ : X.mg "range" = none
 dX : IQ X CL "_law_take" 1 2 jy pre_take jz iQ
 A1 : IQ X CL "_law_term" 2 2 oE qZ oF mJ
 vn : IQ X CL "_law_script" 4 3 j5 mK j6 jb
 iT : X.mg "tuple" = none
theorem ZY {X : Cx} {CL : Str -> Addr} {b : Bx} (E : ZW X CL) {dW : Et} (h : rg dW) :
   aH X CL b Es ["cell", "many", "heard", "flats", "pot", "rows", "k", "asks", "j", "mark", "one", "piece"] (vj dW) (vm dW) := by
 obtain ⟨c, m, hs, f⟩ := dW
 dsimp only [aH, rg, vj, vm] at h ⊢
 obtain ⟨hh, f0, f1⟩ := h
 have hh2 := hh
 obtain ⟨hm, h0, h1⟩ := hh2
 refine cC E.g E.cQ (fS (bT (oX (aK E.ZX) (ah (nO (ah ai) (ah ai) ⟨by decide, by decide, by decide⟩)) (by decide)) dN) (aA rfl)) ?_
 obtain ⟨p, hp⟩ : ∃ p : Int, p = c % 10 ^ (64 : Int).toNat := ⟨_, rfl⟩
 rw [← hp]
 refine cC E.g E.dD (fS dN (ai5 _)) ?_
 have w0 := ai4 p (b := 3) (by decide)
 have w1 := aiV p (b := 3) (by decide)
 have mk4 : HK.length = 4 := rfl
 refine Lf E.g E.HP (fun j δ => ∃ o6 o7 o8 o9 OV o11, δ = [some (.sh (.int c)), some (.sh (.int m)), some (.sh (.lst (hs.map .str))), some (.sh (.int f)), some (.lst [.sh (.int (ZD m hs f (p / 3) j))]), some (.lst (((QY m hs f (p / 3) j).map qU).map T.sh)), o6, o7, o8, o9, OV, o11]) E.cZ E.cY (MZ (t := .sh (.int (p % 3))) (fun z => (z, p, 3)) (.lst [.sh (.int (p / 3))]) E.dX E.aP (qm E.cQ.1 rfl rfl (fD ai c5)) (fun _ _ => (qy (by decide) (by decide))) (fun _ _ => rfl) (fun _ _ => ⟨rfl, .inl rfl, trivial⟩)) (by omega) ⟨_, _, _, _, _, _, rfl⟩ (fun j δ ⟨_, _, _, _, _, _, e⟩ => by subst e; exact aip rfl) ?turn ?fin
 case turn =>
   rintro j δ hj ⟨o6, o7, o8, o9, OV, o11, rfl⟩
   obtain ⟨q, hq⟩ : ∃ q, q = ZD m hs f (p / 3) j := ⟨_, rfl⟩
   rw [← hq]
   have hRl : (QY m hs f (p / 3) j).length = j := by unfold QY; rw [aio, ajc]
   refine cC E.g E.Jo (fS dN (ai5 _)) ?_
   have q0 := ai4 q (b := 2) (by decide)
   have q1 := aiV q (b := 2) (by decide)
   refine Lf E.g E.l_j (fun i δ => ∃ o8 o9 OV, δ = [some (.sh (.int c)), some (.sh (.int m)), some (.sh (.lst (hs.map .str))), some (.sh (.int f)), some (.lst [.sh (.int (QW m (q / 2) i))]), some (.lst (((QY m hs f (p / 3) j).map qU).map T.sh)), some (.sh (.int (j : Nat))), some (.lst (((QX m (q / 2) i).map Ea).map T.sh)), o8, o9, OV, o11]) E.cZ E.cY (D4 ai.m (MZ (t := .sh (.int (q % 2))) (fun z => (z, q, 2)) (.lst [.sh (.int (q / 2))]) E.dX E.aP (qm E.cQ.1 rfl rfl (fD ai c5)) (fun _ _ => (qy (by decide) (by decide))) (fun _ _ => rfl) (fun _ _ => ⟨rfl, .inl rfl, trivial⟩))) (by omega) ⟨_, _, _, rfl⟩ (fun j δ ⟨_, _, _, e⟩ => by subst e; exact aip rfl) ?oJ ?fin2
   case oJ =>
     rintro i δ hi ⟨o8, o9, OV, rfl⟩
     obtain ⟨r, hr⟩ : ∃ r, r = QW m (q / 2) i := ⟨_, rfl⟩
     rw [← hr]
     have hAl : (QX m (q / 2) i).length = i := by unfold QX; rw [aio, ajc]
     have r0 := ai4 r (b := 4) (by decide)
     have r1 := aiV r (b := 4) (by decide)
     refine mF E.g E.rj (nR (D6 (zK (DN (sf (l := HK) rfl) (aA rfl))).m (MZ (t := .sh (.int (r % 4))) (fun z => (z, r, 4)) (.lst [.sh (.int (r / 4))]) E.dX E.aP (qm E.cQ.1 rfl rfl (fD ai c5)) (fun _ _ => (qy (by decide) (by decide))) (fun _ _ => rfl) (fun _ _ => ⟨rfl, .inl rfl, trivial⟩)) (Al Str.empty (l := HK) r0 (by rw [mk4]; exact r1))) (t2 := .sh (.str (HK.getD (r % 4).toNat Str.empty))) rfl) ?_
     refine mF E.g E.Xh (MZ (t := .sh (.tup [.int (CY m (r / 4)), .int (B8 m (r / 4))])) (fun z => (z, (r / 4), m)) (.lst [.sh (.int (AI m (r / 4)))]) E.A1 E.kN (qm E.cQ.1 rfl rfl (fD (v_ E.aT.1) c5)) (fun _ _ => show m <= 10 by omega) (fun _ _ => rfl) (fun _ _ => ⟨rfl, .inl rfl, trivial⟩)) ?_
     refine IX E.Jo.1 rfl (nR (jv (ds := [.str (HK.getD (r % 4).toNat Str.empty), .tup [.int (CY m (r / 4)), .int (B8 m (r / 4))], .tup [.int (CY m (AI m (r / 4))), .int (B8 m (AI m (r / 4)))]]) (bC (v_ E.rj.1).m (bC (v_ E.Xh.1).m (bC (MZ (t := .sh (.tup [.int (CY m (AI m (r / 4))), .int (B8 m (AI m (r / 4)))])) (fun z => (z, (AI m (r / 4)), m)) (.lst [.sh (.int (AI m (AI m (r / 4))))]) E.A1 E.kN (qm E.cQ.1 rfl rfl (fD (v_ E.aT.1) c5)) (fun _ _ => show m <= 10 by omega) (fun _ _ => rfl) (fun _ _ => ⟨rfl, .inl rfl, trivial⟩)) ki))) (aA rfl)) (t2 := .sh (Ea (akO m r))) rfl) rfl (by rw [aio, aio, hAl]; omega) (aq ?_)
     have e : ((QX m (q / 2) i).map Ea).map T.sh ++ [T.sh (Ea (akO m r))] = ((QX m (q / 2) (i + 1)).map Ea).map T.sh := by
       unfold QX
       rw [ajX, aiL, aiL, aiL, hr]
       rfl
     rw [e]
     have e2 : QW m (q / 2) (i + 1) = AI m (AI m (r / 4)) := by rw [hr]; rfl
     rw [e2]
     exact ⟨_, _, _, rfl⟩
   case fin2 =>
     rintro δ ⟨o8, o9, OV, rfl⟩
     rw [show (1 + q % 2).toNat = ZC q from rfl]
     obtain ⟨u, hu⟩ : ∃ u, u = rwQ m q := ⟨_, rfl⟩
     rw [show QW m (q / 2) (ZC q) = u by rw [hu]; rfl]
     refine mF E.g E.sF (MZ (t := .sh (.tup ((HM m hs u).map It.d))) (fun z => (z, u, m, hs)) (.lst [.sh (.int (GB m hs u))]) E.vn E.ko (qm E.cQ.1 rfl rfl (fD (v_ E.aT.1) (fD (v_ E.gE.1) c5))) (fun _ _ => hh) (fun _ _ => rfl) (fun _ _ => ⟨rfl, .inl rfl, trivial⟩)) ?_
     refine IX E.dD.1 rfl (nR (jv (ds := [.tup ((QX m (q / 2) (ZC q)).map Ea), .tup ((HM m hs u).map It.d), .int (GB m hs u % (f : Int))]) (bC (se E.iT (vL E.Jo.1) (aL (fun _ => rfl) _) E.iS).m (bC (v_ E.sF.1).m (bC (MZ (t := .sh (.int ((GB m hs u) % (f : Int)))) (fun z => (z, (GB m hs u), (f : Int))) (.lst [.sh (.int ((GB m hs u) / (f : Int)))]) E.dX E.aP (qm E.cQ.1 rfl rfl (fD (v_ E.lI.1) c5)) (fun _ _ => (qy (by omega) (by omega))) (fun _ _ => rfl) (fun _ _ => ⟨rfl, .inl rfl, trivial⟩)) ki))) (aA rfl)) (t2 := .sh (qU (rwO m hs f q))) (by rw [hu]; rfl)) rfl (by rw [aio, aio, hRl]; omega) (aq ?_)
     have e : ((QY m hs f (p / 3) j).map qU).map T.sh ++ [T.sh (qU (rwO m hs f q))] = ((QY m hs f (p / 3) (j + 1)).map qU).map T.sh := by
       unfold QY
       rw [ajX, aiL, aiL, aiL, hq]
       rfl
     rw [e]
     have e2 : ZD m hs f (p / 3) (j + 1) = GB m hs u / (f : Int) := by rw [hu, hq]; rfl
     rw [e2]
     exact ⟨_, _, _, _, _, _, rfl⟩
 case fin =>
   rintro δ ⟨o6, o7, o8, o9, OV, o11, rfl⟩
   obtain ⟨q, hq⟩ : ∃ q, q = ZD m hs f (p / 3) (p % 3).toNat := ⟨_, rfl⟩
   rw [← hq]
   have hRl : (QY m hs f (p / 3) (p % 3).toNat).length = (p % 3).toNat := by unfold QY; rw [aio, ajc]
   refine mF E.g E.sF (MZ (t := .sh (.tup ((HM m hs q).map It.d))) (fun z => (z, q, m, hs)) (.lst [.sh (.int (GB m hs q))]) E.vn E.ko (qm E.cQ.1 rfl rfl (fD (v_ E.aT.1) (fD (v_ E.gE.1) c5))) (fun _ _ => hh) (fun _ _ => rfl) (fun _ _ => ⟨rfl, .inl rfl, trivial⟩)) ?_
   refine IX E.dD.1 rfl (nR (jv (ds := [.tup [], .tup ((HM m hs q).map It.d), .int (GB m hs q % (f : Int))]) (bC (cV (ds := []) fO (aA rfl)).m (bC (v_ E.sF.1).m (bC (MZ (t := .sh (.int ((GB m hs q) % (f : Int)))) (fun z => (z, (GB m hs q), (f : Int))) (.lst [.sh (.int ((GB m hs q) / (f : Int)))]) E.dX E.aP (qm E.cQ.1 rfl rfl (fD (v_ E.lI.1) c5)) (fun _ _ => (qy (by omega) (by omega))) (fun _ _ => rfl) (fun _ _ => ⟨rfl, .inl rfl, trivial⟩)) ki))) (aA rfl)) (t2 := .sh (qU (rwE m hs f q))) rfl) rfl (by rw [aio, aio, hRl]; omega) ?_
   refine bE (vM E.dD.1) ?_
   show T.lst _ = T.lst (((ZE m hs f c).map qU).map T.sh)
   unfold ZE
   rw [← hp, ← hq, aiL, aiL]
   rfl
theorem eF : pA (ak Es) ([("cell", ay), ("many", ay), ("heard", ay), ("flats", ay), ("pot", ay), ("rows", ay), ("k", ay), ("asks", ay), ("j", ay), ("mark", ay), ("one", ay), ("piece", ay), ("range", au), ("_law_take", au), ("_law_term", au), ("_law_script", au), ("tuple", au)]) = true := by decide +kernel
theorem VL : aM ["cell", "many", "heard", "flats", "pot", "rows", "k", "asks", "j", "mark", "one", "piece"] ["cell", "many", "heard", "flats"] (ak Es) := bz
theorem afE {α : Type} {l : List α} {k : Nat} {z : Int} (hz : z = (k : Int)) : cutD l none (some z) = l.take k := by
 subst hz
 unfold cutD
 have e1 : HT.iF l.length 0 none = 0 := rfl
 have e2 : HT.iF l.length l.length (some (k : Int)) = min k l.length := by
   unfold HT.iF
   simp
   intro hk
   omega
 rw [e1, e2]
 simp [List.take_eq_take_iff]
noncomputable abbrev vo : Stmt := top 59
noncomputable abbrev A2 : Type := List Int
noncomputable def pJ : A2 -> List L3.D := fun s => [.lst (s.map .int)]
noncomputable def pK : A2 -> Prop := fun s => s.length <= 1000
noncomputable def pL : A2 -> T := fun s => (Ls s : T)
structure RG (X : Cx) (CL : Str -> Addr) : Prop extends cO X where
 dQ : Ln X 0 "script"
 A3 : X.env.kindOf "script" = some .cell
 cQ : Ln X 1 "pot"
 aT : Ln X 2 "many"
 lI : Ln X 3 "flats"
 gE : Ln X 4 "heard"
 HP : Ln X 5 "k"
 lJ : Ln X 6 "boxes"
 dD : Ln X 7 "rows"
 rm : Ln X 8 "flat"
 zP : Ln X 9 "begin"
 LW : Ln X 10 "pairs"
 gV : Gl X "_law_cell_at"
 aP : Gl X "_law_take"
 cY : Gl X "range"
 cW : Gl X "len"
 GZ : Gl X "_law_rows"
 ko : Gl X "_law_script"
 lU : Fc X CL "_law_cell_at" 1 2 kK kL kM
 dX : IQ X CL "_law_take" 1 2 jy pre_take jz iQ
 cZ : X.mg "range" = none
 cX : X.mg "len" = none
 ZZ : Fc X CL "_law_rows" 5 4 vj rg vm
 vn : IQ X CL "_law_script" 4 3 j5 mK j6 jb
 GX : X.mg "str" = none
theorem RH {X : Cx} {CL : Str -> Addr} {b : Bx} (E : RG X CL) {s} (h : pK s) :
   aH X CL b vo ["script", "pot", "many", "flats", "heard", "k", "boxes", "rows", "flat", "begin", "pairs"] (pJ s) (pL s) := by
 dsimp only [aH, pK, pJ, pL] at h ⊢
 have hs0 : s.length <= 1000 := h
 obtain ⟨b1, b2, b3, b4, b5, b6⟩ := Ve s
 have hnd := QZ s
 have c0 := ai4 (AJ s) (b := 4) (by decide)
 have c1 := aiV (AJ s) (b := 4) (by decide)
 have d0 := ai4 (AJ s / 4) (b := 13) (by decide)
 have d1 := aiV (AJ s / 4) (b := 13) (by decide)
 have e0 := ai4 (AJ s / 4 / 13) (b := 2) (by decide)
 have e1 := aiV (AJ s / 4 / 13) (b := 2) (by decide)
 have z0 : (0 : Int) <= 0 := by decide
 have z3 : (0 : Int) <= 3 := by decide
 refine cC E.g E.cQ (aI (fS (bT (oX (ah (c_ ((s, 0)) E.lU E.gV (ao (aK E.dQ) (ao (ah ai) aS)) (z0) rfl)) (ah (nO (ah ai) (ah ai) ⟨by decide, by decide, by decide⟩)) (by decide)) dN) (aA rfl)) (t2 := .lst [.sh (.int (AJ s))]) rfl) ?_
 refine mF E.g E.aT (nR (MZ (t := .sh (.int ((AJ s) % 4))) (fun z => (z, (AJ s), 4)) (.lst [.sh (.int ((AJ s) / 4))]) E.dX E.aP (qm E.cQ.1 rfl rfl (fD ai c5)) (fun _ _ => (qy (by decide) (by decide))) (fun _ _ => rfl) (fun _ _ => ⟨rfl, .inl rfl, trivial⟩)) (t2 := .sh (.int (Nm s : Nat))) (by rw [show ((Nm s : Nat) : Int) = AJ s % 4 by unfold Nm; omega])) ?_
 refine mF E.g E.lI (nR (D4 ai.m (MZ (t := .sh (.int ((AJ s / 4) % 13))) (fun z => (z, (AJ s / 4), 13)) (.lst [.sh (.int ((AJ s / 4) / 13))]) E.dX E.aP (qm E.cQ.1 rfl rfl (fD ai c5)) (fun _ _ => (qy (by decide) (by decide))) (fun _ _ => rfl) (fun _ _ => ⟨rfl, .inl rfl, trivial⟩))) (t2 := .sh (.int (GC s : Nat))) (by rw [show ((GC s : Nat) : Int) = 1 + AJ s / 4 % 13 by unfold GC; omega])) ?_
 have RJ : cutD (goL.map L3.D.str) none (some (1 + AJ s / 4 / 13 % 2)) = (FH s).map L3.D.str := by
   rw [afE (k := OQ s) (by unfold OQ; omega), ← List.map_take]
   rfl
 refine mF E.g E.gE (nR (Nb (ds := goL.map .str) (zK (DN (sf (l := goL) rfl) (aA rfl))) (iO _) (D4 ai.m (MZ (t := .sh (.int ((AJ s / 4 / 13) % 2))) (fun z => (z, (AJ s / 4 / 13), 2)) (.lst [.sh (.int ((AJ s / 4 / 13) / 2))]) E.dX E.aP (qm E.cQ.1 rfl rfl (fD ai c5)) (fun _ _ => (qy (by decide) (by decide))) (fun _ _ => rfl) (fun _ _ => ⟨rfl, .inl rfl, trivial⟩)))) (t2 := .lst (((FH s).map .str).map T.sh)) (by rw [RJ])) ?_
 obtain ⟨q, hq⟩ : ∃ q, q = AJ s / 4 / 13 / 2 := ⟨_, rfl⟩
 rw [← hq]
 obtain ⟨m, hm⟩ : ∃ m, m = Nm s := ⟨_, rfl⟩
 obtain ⟨f, hf⟩ : ∃ f, f = GC s := ⟨_, rfl⟩
 obtain ⟨hs, hhs⟩ : ∃ hs, hs = FH s := ⟨_, rfl⟩
 have eP : Ls s = .lst [.lst ((((List.range m).map (Vd s)).map Vc).map T.sh), .lst ((hs.map .str).map T.sh), .sh (.tup ((HM m hs (jx s 3 % 10 ^ (60 : Int).toNat / 7)).map It.d)), .lst (((List.range f).map AK).map T.sh), .dct (wL (Lk s m hs f f))] := by rw [hm, hf, hhs]; rfl
 rw [eP, ← hm, ← hf, ← hhs]
 rw [← hm] at b1
 rw [← hf] at b2 b3
 rw [← hhs] at b4 hnd
 clear eP RJ
 have hl0 : 0 < hs.length := by omega
 have hl2 : hs.length <= 2 := by omega
 have pre : m <= 10 /\ 0 < hs.length /\ hs.length <= 10 := ⟨by omega, hl0, by omega⟩
 refine Ql (p := fun _ => true) (gg := fun d => T.sh (Vc (Vd s d.IA.toNat))) E.g E.lJ (fU (.cons E.dQ.1 (.inl E.A3) .nil) (by decide +kernel)) (iM E.cZ (aK E.aT) (by omega) E.cY) (.inr rfl) (fun C s0 H0 f0 b' d hd => ?Jm) (ajj (cU (by simp [cB]; omega))) ?rest (by exact aip rfl) (Gh ⟨_, rfl⟩)
 case Jm =>
   obtain ⟨i, hi, rfl⟩ := aiI.mp hd
   have Xd : i < m := by simpa using hi
   have cl : ∀ k : Nat, k < 10 -> (toString (k : Int) : Str).length <= 2 /\ (k : Int).natAbs.log2 < 1920 := by decide +kernel
   obtain ⟨sl, sg⟩ := cl i (by omega)
   have ei : (0 + (i : Int)) = (i : Int) := ajz _
   have et : (L3.D.int (0 + (i : Int))).IA.toNat = i := by show (0 + (i : Int)).toNat = i; omega
   have fv : ∀ j : Nat, j < 2 -> 0 < Tq.getD j 0 := by decide +kernel
   have i0 := ai4 (0 + (i : Int)) (b := 2) (by decide)
   have i1 := aiV (0 + (i : Int)) (b := 2) (by decide)
   have hfv := fv ((0 + (i : Int)) % 2).toNat (by omega)
   refine ⟨rfl, fun _ => aI (cV (ds := [.str (("b" : Str) ++ (toString (0 + (i : Int)) : Str)), .int (jx s (1 + (0 + (i : Int))) % 10 ^ (30 : Int).toNat % Tq.getD ((0 + (i : Int)) % 2).toNat 0 - 2)]) (aX (P5 (ah b7) (ah (K8 E.GX (sd (by decide +kernel)) (ah (v_ (jt (i := 0) rfl (by decide +kernel)))) (by rw [ei]; exact sg))) ((by rw [ei, ajg]; have h1 : ("b" : Str).length = 1 := (by decide +kernel); show ("b" : Str).length + (toString (i : Int) : Str).length <= _; omega))) (aX (Dz (ah (oX (ah (oX (ah (c_ ((s, 1 + (0 + (i : Int)))) (Ur E.lU) (sd (by decide +kernel)) (ao (ah (v_ (DF (i := 1) rfl (by decide +kernel)))) (ao (ah (iG (ah ai) (ah (v_ (jt (i := 0) rfl (by decide +kernel)))))) aS)) (show (0 : Int) <= 1 + (0 + (i : Int)) by omega) rfl)) (ah (nO (ah ai) (ah ai) ⟨by decide, by decide, by decide⟩)) (by decide))) (i7 (cy (aI (fS (bT ai (bT (nO (ah ai) (ah ai) ⟨by decide, by decide, by decide⟩) dN)) (aA rfl)) (t2 := .lst ((Tq.map L3.D.int).map T.sh)) rfl)) (ah (oX (ah (v_ (jt (i := 0) rfl (by decide +kernel)))) (ah ai) (by decide))) (tT (bs := Tq) i0 (show (0 + (i : Int)) % 2 < 2 by omega))) hfv)) (ah ai)) fO)) (aA rfl)) ?_⟩
   show T.sh _ = T.sh (Vc (Vd s (L3.D.int (0 + (i : Int))).IA.toNat))
   rw [et, ei, show ((i : Int) % 2).toNat = i % 2 by omega]
   rfl
 case rest =>
 have em : ((cB 0 (m : Int).toNat).filter fun _ => true).map (fun d => T.sh (Vc (Vd s d.IA.toNat))) = (((List.range m).map (Vd s)).map Vc).map T.sh := by
   rw [kE]
   unfold cB
   rw [aiQ, aiQ, aiQ, ajq]
   refine ajk fun k _ => ?_
   show T.sh (Vc (Vd s (0 + (k : Int)).toNat)) = _
   rw [show (0 + (k : Int)).toNat = k by omega]
   rfl
 rw [em]
 refine cC E.g E.dD Gw ?_
 have hrl : ∀ l : List bB, (T.lst ((l.map qU).map T.sh)).clean = true := fun l => aV (aL Eb _)
 refine jY E.g E.rm (fun j δ => ∃ o5 o8, δ = [some (.sh (.lst (s.map .int))), some (.lst [.sh (.int q)]), some (.sh (.int m)), some (.sh (.int f)), some (.lst ((hs.map .str).map T.sh)), o5, some (.lst ((((List.range m).map (Vd s)).map Vc).map T.sh)), some (.dct (wL (Lk s m hs f j))), o8, none, none]) (iM E.cZ (aK E.lI) (by omega) E.cY) ⟨_, _, rfl⟩ (fun j δ ⟨_, _, e⟩ => by subst e; exact aip rfl) ?turn ?fin
 case turn =>
   rintro j d δ hj ⟨o5, o8, rfl⟩
   obtain ⟨rfl, OW⟩ := mE hj
   have OW : j < f := by simpa using OW
   rw [ajz]
   refine jY E.g E.HP (fun i δ => ∃ o5, δ = [some (.sh (.lst (s.map .int))), some (.lst [.sh (.int q)]), some (.sh (.int m)), some (.sh (.int f)), some (.lst ((hs.map .str).map T.sh)), o5, some (.lst ((((List.range m).map (Vd s)).map Vc).map T.sh)), some (.dct (wL (Lk s m hs f j ++ Ja s m hs f j i))), some (.sh (.int (j : Nat))), none, none]) (iM E.cZ (ah (er (aio ..) E.cX (vL E.gE.1) E.cW)) (by omega) E.cY) ⟨_, by rw [show Ja s m hs f j 0 = [] from rfl, aiK]; rfl⟩ (fun j δ ⟨_, e⟩ => by subst e; exact aip rfl) ?oJ ?fin2
   case oJ =>
     rintro i d δ hi ⟨o5, rfl⟩
     obtain ⟨rfl, La⟩ := mE hi
     have La : i < hs.length := by simpa using La
     rw [ajz]
     have Qo : yk (hs.map L3.D.str) (i : Int) = some (.str (hs.getD i Str.empty)) := (Al Str.empty (by omega) (by omega)).trans (by rw [ajq])
     refine UW (OS hs j i) E.u E.dD.1 (aI (c_ (jx s (4 + 2 * (j : Int) + (i : Int)), m, hs, f) E.ZZ E.GZ (ao (ah (c_ ((s, 4 + 2 * (j : Int) + (i : Int))) E.lU E.gV (ao (aK E.dQ) (ao (ah (iG (ah (iG (ah ai) (ah (Ac (ah ai) (aK E.rm) (.inl ⟨by decide, by decide⟩))))) (aK E.HP))) aS)) (show (0 : Int) <= 4 + 2 * (j : Int) + (i : Int) by omega) rfl)) (ao (aK E.aT) (ao (vL E.gE.1) (ao (aK E.lI) aS)))) (by dsimp only [rg]; exact ⟨pre, b2, by omega⟩) (hrl _)) (t2 := .lst (((dcR s m hs f j i).map qU).map T.sh)) rfl) (aI (DC (bT (v_ E.rm.1) (bT (gT (i7 (vL E.gE.1) (aK E.HP) Qo) rfl) dN)) (aA rfl)) (t2 := oA (OS hs j i)) rfl) rfl (Lq hnd La) ?_ (aq ?_)
     . unfold wL
       rw [aio, aiU, Ed, Lr]
       have : j * hs.length <= 13 * 2 := Nat.mul_le_mul (by omega) hl2
       omega
     have e : wL (Lk s m hs f j ++ Ja s m hs f j i) ++ [(OS hs j i, T.lst (((dcR s m hs f j i).map qU).map T.sh))] = wL (Lk s m hs f j ++ Ja s m hs f j (i + 1)) := by
       unfold wL Ja
       rw [ajX, aiL, aiL, aiL, aiL, ain]
       rfl
     rw [e]
     exact ⟨_, rfl⟩
   case fin2 =>
     rintro δ ⟨o5, rfl⟩
     rw [show (cB 0 (hs.length : Int).toNat).length = hs.length by simp [cB], ← AO]
     exact aq ⟨_, _, rfl⟩
 case fin =>
   rintro δ ⟨o5, o8, rfl⟩
   rw [show (cB 0 (f : Int).toNat).length = f by simp [cB]]
   refine mF E.g E.zP (afr (d := .tup ((HM m hs (jx s 3 % 10 ^ (60 : Int).toNat / 7)).map It.d)) (fun y => (y, jx s 3 % 10 ^ (60 : Int).toNat / 7, m, hs)) E.vn E.ko (t0 := .lst [.sh (.int (jx s 3 % 10 ^ (60 : Int).toNat / 7))]) (fS (bT (DB (ah (oX (ah (c_ ((s, 3)) E.lU E.gV (ao (aK E.dQ) (ao (ah ai) aS)) (z3) rfl)) (ah (nO (ah ai) (ah ai) ⟨by decide, by decide, by decide⟩)) (by decide))) (ah ai) ⟨by decide, by decide⟩) dN) (aA rfl)) rfl (v_ E.aT.1) E.gE.1 rfl (fun _ => pre) (fun _ => rfl) (aL mG _) (fun y => by rw [cK]; rfl)) ?_
   refine Ql (p := fun _ => true) (gg := fun d => T.sh (AK d.IA.toNat)) E.g E.LW (fU .nil (by decide +kernel)) (iM E.cZ (aK E.lI) (by omega) E.cY) (.inr rfl) (fun C s0 H0 f0 b' d hd => ?afG) (ajj (cU (by simp [cB]; omega))) ?ac5 (by exact aip rfl) (Gh ⟨_, rfl⟩)
   case afG =>
     obtain ⟨i, hi, rfl⟩ := aiI.mp hd
     refine ⟨rfl, fun _ => aI (cV (aX (cV (aX ai (aX (iG (ah ai) (ah (v_ (jt (i := 0) rfl (by decide +kernel))))) fO)) (aA rfl)) (aX (cV (aX (jr (ah ai)) (aX (Dz (ah (v_ (jt (i := 0) rfl (by decide +kernel)))) (ah ai)) fO)) (aA rfl)) fO)) (aA rfl)) ?_⟩
     show T.sh _ = T.sh (AK (L3.D.int (0 + (i : Int))).IA.toNat)
     rw [show (L3.D.int (0 + (i : Int))).IA.toNat = i from (by show (0 + (i : Int)).toNat = i; omega), ajz]
     rfl
   case ac5 =>
   have em3 : ((cB 0 (f : Int).toNat).filter fun _ => true).map (fun d => T.sh (AK d.IA.toNat)) = ((List.range f).map AK).map T.sh := by
     rw [kE]
     unfold cB
     rw [aiQ, aiQ, ajq]
     refine ajk fun k _ => ?_
     show T.sh (AK (0 + (k : Int)).toNat) = _
     rw [show (0 + (k : Int)).toNat = k by omega]
     rfl
   rw [em3]
   exact bE (fS (bT (vM E.lJ.1) (bT (vM E.gE.1) (bT (v_ E.zP.1) (bT (vM E.LW.1) (bT (vM E.dD.1) dN))))) (aA rfl)) rfl
theorem bZ : pA (ak vo) ([("script", .cell), ("pot", ay), ("many", ay), ("flats", ay), ("heard", ay), ("k", ay), ("boxes", ay), ("rows", ay), ("flat", ay), ("begin", ay), ("pairs", ay), ("_law_cell_at", au), ("_law_take", au), ("range", au), ("len", au), ("_law_rows", au), ("_law_script", au)]) = true := by decide +kernel
theorem NF : aM ["script", "pot", "many", "flats", "heard", "k", "boxes", "rows", "flat", "begin", "pairs"] ["script"] (ak vo) := bz
noncomputable abbrev Eu : Stmt := top 15
noncomputable abbrev Jp : Type := List It
noncomputable def rq : Jp -> List L3.D := fun xs => [.tup (xs.map It.d)]
noncomputable def rz : Jp -> Prop := fun xs => xs.length <= 1000
noncomputable def rA : Jp -> T := fun xs => (.lst (((xs.filter It.told).map It.d).map T.sh) : T)
structure Z6 (X : Cx) (CL : Str -> Addr) : Prop extends cO X where
 dD : Ln X 0 "rows"
 kZ : GT X "MARKS_journal" ["out", "keep", "way", "in"]
theorem Z7 {X : Cx} {CL : Str -> Addr} {b : Bx} (E : Z6 X CL) {xs} (h : rz xs) :
   aH X CL b Eu ["rows"] (rq xs) (rA xs) := by
 dsimp only [aH, rz, rq, rA] at h ⊢
 have h : xs.length <= 1000 := h
 refine bE (aI (sr (p := fun d => !decide (d.at1.toS ∈ kY)) (g := fun d => T.sh d) (fU .nil (by decide +kernel)) E.g.calm (DE (v_ E.dD.1)) (.inr rfl) (fun C s0 H0 f0 b' d hd => ?Jm) (ajj (cU (by simp; omega)))) ?eq) rfl
 case Jm =>
   obtain ⟨r, hr, rfl⟩ := aiI.mp hd
   exact ⟨(DM (l := kY) (bM (ah (v_ (jt (i := 0) rfl (by decide +kernel)))) (ah ai) (acM r.sj)) (ah (qO (by exact E.kZ) (sd (by decide +kernel)))) rfl rfl).1, fun _ => v_ (jt (i := 0) rfl (by decide +kernel))⟩
 case eq =>
   refine congrArg T.lst ?_
   have e : ((fun d : L3.D => !decide (d.at1.toS ∈ kY)) ∘ It.d) = It.told := by
     funext x
     show (!decide (x.sj.w ∈ kY)) = x.told
     rw [Vb, Bool.not_not]
   rw [List.filter_map, e]
theorem VM : pA (ak Eu) ([("rows", ay)]) = true := by decide +kernel
theorem VN : aM ["rows"] ["rows"] (ak Eu) := bz
theorem ac6 {α : Type} {f : α -> L3.D} {l : List α} {x : α} : yk ((l ++ [x]).map f) (-1) = some (f x) := by
 have e : OB ((l ++ [x]).map f).length (-1) = some l.length := by
   unfold OB
   rw [aio, aiU, aiu (by decide), aiC (by show -((l.length + 1 : Nat) : Int) <= -1; omega)]
   congr 1
   show (-1 + ((l.length + 1 : Nat) : Int)).toNat = l.length
   omega
 unfold yk
 rw [e]
 show ((l ++ [x]).map f)[l.length]? = _
 rw [aiE, akh (ait _)]
 simp
noncomputable abbrev sG : Stmt := top 22
noncomputable abbrev sH : Type := List L3.D × List L3.D × List L3.D × List L3.D × (List (bH × List bB)) × Nat × Str × List bB
noncomputable def nj : sH -> List L3.D := fun (bs, hs, bg, pr, R, a, sg, l) => [yM bs hs bg pr (Ct R), .int a, .str sg]
noncomputable def kO : sH -> Prop := fun (bs, hs, bg, pr, R, a, sg, l) => ja R (Rb a sg) = some l /\ l.length <= 1000 /\ ∀ r ∈ l, Ra r
noncomputable def nk : sH -> T := fun (bs, hs, bg, pr, R, a, sg, l) => (.lst (((lD a sg l).map jZ).map T.sh) : T)
structure NK (X : Cx) (CL : Str -> Addr) : Prop extends cO X where
 bX : Ln X 0 "table"
 fP : Ln X 1 "number"
 k6 : Ln X 2 "sign"
 fh : Ln X 3 "ways"
 C4 : Ln X 4 "row"
 iS : Gl X "tuple"
 A4 : Gl X "told"
 iT : X.mg "tuple" = none
 Jq : Fc X CL "told" 1 1 rq rz rA
 bq : nJ X.K (CL "Table")
 g9 : aC X.K (CL "Table") "rows"
theorem NP {X : Cx} {CL : Str -> Addr} {b : Bx} (E : NK X CL) {dW : sH} (h : kO dW) :
   aH X CL b sG ["table", "number", "sign", "ways", "row"] (nj dW) (nk dW) := by
 obtain ⟨bs, hs, bg, pr, R, a, sg, l⟩ := dW
 dsimp only [aH, kO, nj, nk] at h ⊢
 obtain ⟨h1, h2, h3⟩ := h
 refine cC E.g E.fh (fS dN (ai5 _)) ?_
 refine jY E.g E.C4 (fun j δ => ∃ o, δ = [some (.sh (yM bs hs bg pr (Ct R))), some (.sh (.int a)), some (.sh (.str sg)), some (.lst ((((l.take j).map (jX a sg)).map jZ).map T.sh)), o]) (nP (Gy (Rb a sg) E.u (i9 E.bq E.g9 (v_ E.bX.1) AX) (aI (DC (bT (v_ E.fP.1) (bT (v_ E.k6.1) dN)) (aA rfl)) (t2 := oA (Rb a sg)) rfl) (Lz h1))) ⟨_, rfl⟩ (fun j δ ⟨_, e⟩ => by subst e; exact aip rfl) ?turn ?fin
 case turn =>
   rintro j d δ hj ⟨o, rfl⟩
   rw [aiE] at hj
   obtain ⟨r, hr, rfl⟩ := aiH.mp hj
   have hrm := aiM hr
   have Tg := h3 r hrm
   have OW : j < l.length := (aiS.mp hr).1
   refine Qd E.fh.1 rfl (aI (cV (ds := [.int ((a : Int) + 1), .str sg, .tup (r.1.map Ea), .tup ((r.2.1.filter It.told).map It.d), .int (r.2.2 + 1), .str "new"]) (aX (iG (aK E.fP) (ah ai)) (aX (v_ E.k6.1) (aX (CV E.iT (Yz (v_ E.C4.1) (ah ai) (aW (j := 0) rfl)) E.iS) (aX (se E.iT (cy (aI (c_ r.2.1 E.Jq E.A4 (ao (bM (aK E.C4) (ah ai) (aW (j := 1) rfl)) aS) (show r.2.1.length <= 1000 from aje Tg.c (by decide)) (aV (aL mG _))) (t2 := .lst (((r.2.1.filter It.told).map It.d).map T.sh)) rfl)) (aL mG _) E.iS) (aX (iG (bM (aK E.C4) (ah ai) (aW (j := 2) rfl)) (ah ai)) (aX b7 fO)))))) (aA rfl)) (t2 := .sh (jZ (jX a sg r))) (by rw [Ei])) rfl (by simp only [aio, ajr]; omega) (aq ?_)
   have e : (((l.take j).map (jX a sg)).map jZ).map T.sh ++ [T.sh (jZ (jX a sg r))] = (((l.take (j + 1)).map (jX a sg)).map jZ).map T.sh := by
     rw [ajt, hr, aiL, aiL, aiL]
     rfl
   rw [e]
   exact ⟨_, rfl⟩
 case fin =>
   rintro δ ⟨o, rfl⟩
   rw [aio, ajx]
   rcases List.eq_nil_or_concat l with rfl | ⟨l0, r, rfl⟩
   . refine dz (tS (Iq (q := false) (Qq (vL E.fh.1)) (fun hp => by cases hp))) (fun hp => by cases hp) (fun _ => aq ?_)
     exact bE (vM E.fh.1) rfl
   . rw [List.concat_eq_append] at h1 h2 h3 ⊢
     have Tg := h3 r (by simp)
     have el : ((l0 ++ [r]).map (jX a sg)).map jZ = (l0.map (jX a sg)).map jZ ++ [jZ (jX a sg r)] := by simp
     have Qo : yk (((l0 ++ [r]).map (jX a sg)).map jZ) (-1) = some (jZ (jX a sg r)) := by
       rw [aiQ]
       exact ac6 (f := jZ ∘ jX a sg)
     have W6 : (!(((l0 ++ [r]).map (jX a sg)).map jZ).isEmpty) = true := by rw [el]; simp
     have hs4 : ¬ (HT.iF 6 0 (some 2) = 0 /\ HT.iF 6 6 none = 6) := by decide
     have dp : iJ 60 (.tup [.tup (r.1.map Ea), .tup ((r.2.1.filter It.told).map It.d), .int (r.2.2 + 1), .str "new"]) := .tup fun d hd => by
       simp only [aiw, aiD, ajR] at hd
       rcases hd with rfl | rfl | rfl | rfl
       . exact AY Tg.a 56
       . exact AZ Tg 56
       . exact .int _ _
       . exact .str _ _ (by decide +kernel)
     have dp2 : iJ 60 (.tup [.tup [], .tup [], .int ((a : Int) + 1), .str "new"]) := .tup fun d hd => by
       simp only [aiw, aiD, ajR] at hd
       rcases hd with rfl | rfl | rfl | rfl
       . exact .tup fun d hd => absurd hd aiD
       . exact .tup fun d hd => absurd hd aiD
       . exact .int _ _
       . exact .str _ _ (by decide +kernel)
     refine dz (tS (Iq (Qq (vL E.fh.1)) (fun _ => K2 (IB E.u (d1 := .tup [.tup (r.1.map Ea), .tup ((r.2.1.filter It.told).map It.d), .int (r.2.2 + 1), .str "new"]) (d2 := .tup [.tup [], .tup [], .int ((a : Int) + 1), .str "new"]) (ah (aI (IL (ds := [.int ((a : Int) + 1), .str sg, .tup (r.1.map Ea), .tup ((r.2.1.filter It.told).map It.d), .int (r.2.2 + 1), .str "new"]) (aI (gT (i7 (vL E.fh.1) (ah (jr (ah ai))) Qo) (ve _)) (by rw [Ei])) hs4 (DI (ah ai)) DH) rfl)) (ah (cV (ds := [.tup [], .tup [], .int ((a : Int) + 1), .str "new"]) (aX (cV (ds := []) fO (aA rfl)) (aX (cV (ds := []) fO (aA rfl)) (aX (iG (aK E.fP) (ah ai)) (aX b7 fO)))) (aA rfl))) dp dp2).1))) (fun hp => ?_) (fun hp => aq ?_)
     . rw [W6, Bool.true_and, GJ] at hp
       refine UT (UZ (t := .sh (jZ (jX a sg r))) (tl := ((l0.map (jX a sg)).map jZ).map T.sh) (g7 E.fh.1 rfl) rfl (by rw [el, aiL]; rfl)) (aq ?_)
       refine bE (vM E.fh.1) ?_
       show T.lst _ = T.lst (((lD a sg (l0 ++ [r])).map jZ).map T.sh)
       rw [mH, aiC hp, aiK]
     . rw [W6, Bool.true_and, GJ] at hp
       refine bE (vM E.fh.1) ?_
       show T.lst _ = T.lst (((lD a sg (l0 ++ [r])).map jZ).map T.sh)
       rw [mH, aiu (by rw [hp]; decide), aiL]
       rfl
theorem jc : pA (ak sG) ([("table", ay), ("number", ay), ("sign", ay), ("ways", ay), ("row", ay), ("tuple", au), ("told", au)]) = true := by decide +kernel
theorem Jr : aM ["table", "number", "sign", "ways", "row"] ["table", "number", "sign"] (ak sG) := bz
noncomputable abbrev nq : Stmt := inClass (top 17) 0
noncomputable abbrev rB : Type := List Str × List Int × List Int
noncomputable def tM : rB -> List L3.D := fun (ks, es, ss) => [.lst (ks.map .str), .lst (es.map .int), .lst (ss.map .int)]
noncomputable def tN : rB -> Prop := fun (ks, es, ss) => True
noncomputable def tO : rB -> List (Str × T) := fun (ks, es, ss) => (qT ks es ss : List (Str × T))
structure G0 (X : Cx) (CL : Str -> Addr) : Prop extends cO X where
 gW : Ln X 0 "self"
 VP : Ln X 1 "kinds"
 RK : Ln X 2 "elders"
 RL : Ln X 3 "starts"
 fY : Gl X "list"
 fZ : X.mg "list" = none
 cE : nJ X.K (CL "Tree")
 dF : aC X.K (CL "Tree") "kinds"
 aN : aC X.K (CL "Tree") "elders"
 fj : aC X.K (CL "Tree") "starts"
theorem G3 {X : Cx} {CL : Str -> Addr} {b : Bx} (E : G0 X CL) (ks : List Str) (es ss : List Int) (y : Addr) (h : True) :
   e9 X CL b (dU nq) (IC ["self", "kinds", "elders", "starts"] y "Tree" [.lst (ks.map .str), .lst (es.map .int), .lst (ss.map .int)]) { nx := fun δ => δ[0]? = some (some (.pin y (.ins "Tree" (qT ks es ss)))), rt := fun _ _ => False } := by
 have hi : D.bK (ks.map L3.D.str) = true := aL (fun _ => rfl) _
 refine m7 E.cE E.dF E.gW.1 (dO E.fZ (aK E.VP) hi E.fY bV) rfl (aip rfl) ?_
 rw [ez]
 refine m7 E.cE E.aN E.gW.1 (dO E.fZ (aK E.RK) (qM _) E.fY bV) rfl (aip rfl) ?_
 rw [aJ (by decide +kernel), ez]
 refine m7 E.cE E.fj E.gW.1 (dO E.fZ (aK E.RL) (qM _) E.fY bV) rfl (aip rfl) ?_
 rw [aJ (by decide +kernel), aJ (by decide +kernel), ez]
 exact aq rfl
theorem jB : pA (ak nq) ([("self", ay), ("kinds", ay), ("elders", ay), ("starts", ay), ("list", au)]) = true := by decide +kernel
theorem vp : aM ["self", "kinds", "elders", "starts"] ["self", "kinds", "elders", "starts"] (ak nq) := bz
noncomputable abbrev lK : Stmt := inClass (top 11) 0
noncomputable abbrev pM : Type := List L3.D × List L3.D × V × List L3.D × List L3.D × List L3.D
noncomputable def rC : pM -> List L3.D := fun (bs, nm, tv, is, os, ws) => [.lst bs, .lst nm, .val tv, .lst is, .lst os, .lst ws]
noncomputable def rD : pM -> Prop := fun (bs, nm, tv, is, os, ws) => D.bK bs = true /\ D.bK nm = true /\ D.bK is = true /\ D.bK os = true /\ D.bK ws = true
noncomputable def rE : pM -> List (Str × T) := fun (bs, nm, tv, is, os, ws) => (xq bs nm (.sh (.val tv)) is os ws : List (Str × T))
structure Ew (X : Cx) (CL : Str -> Addr) : Prop extends cO X where
 gW : Ln X 0 "self"
 lJ : Ln X 1 "boxes"
 kr : Ln X 2 "names"
 bL : Ln X 3 "tree"
 LX : Ln X 4 "ins"
 Z8 : Ln X 5 "outs"
 fh : Ln X 6 "ways"
 fY : Gl X "list"
 fZ : X.mg "list" = none
 aQ : nJ X.K (CL "Chart")
 bq : nJ X.K (CL "Table")
 b8 : aC X.K (CL "Chart") "boxes"
 b9 : aC X.K (CL "Table") "boxes"
 bI : aC X.K (CL "Chart") "names"
 jC : aC X.K (CL "Chart") "tree"
 jj : aC X.K (CL "Chart") "ins"
 ia : aC X.K (CL "Chart") "outs"
 f6 : aC X.K (CL "Chart") "ways"
theorem Ex {X : Cx} {CL : Str -> Addr} {b : Bx} (E : Ew X CL) (bs nm : List L3.D) (tv : V) (is os ws : List L3.D) (y : Addr) (h : D.bK bs = true /\ D.bK nm = true /\ D.bK is = true /\ D.bK os = true /\ D.bK ws = true) :
   e9 X CL b (dU lK) (IC ["self", "boxes", "names", "tree", "ins", "outs", "ways"] y "Chart" [.lst bs, .lst nm, .val tv, .lst is, .lst os, .lst ws]) { nx := fun δ => δ[0]? = some (some (.pin y (.ins "Chart" (xq bs nm (.sh (.val tv)) is os ws)))), rt := fun _ _ => False } := by
 obtain ⟨h1, h2, h3, h4, h5⟩ := h
 refine m7 E.aQ E.b8 E.gW.1 (dO E.fZ (aK E.lJ) h1 E.fY bV) rfl (aip rfl) ?_
 rw [ez]
 refine m7 E.aQ E.bI E.gW.1 (dO E.fZ (aK E.kr) h2 E.fY bV) rfl (aip rfl) ?_
 rw [aJ (by decide +kernel), ez]
 refine m7 E.aQ E.jC E.gW.1 (v_ E.bL.1) rfl (aip rfl) ?_
 rw [aJ (by decide +kernel), aJ (by decide +kernel), ez]
 refine m7 E.aQ E.jj E.gW.1 (dO E.fZ (aK E.LX) h3 E.fY bV) rfl (aip rfl) ?_
 rw [aJ (by decide +kernel), aJ (by decide +kernel), aJ (by decide +kernel), ez]
 refine m7 E.aQ E.ia E.gW.1 (dO E.fZ (aK E.Z8) h4 E.fY bV) rfl (aip rfl) ?_
 rw [aJ (by decide +kernel), aJ (by decide +kernel), aJ (by decide +kernel), aJ (by decide +kernel), ez]
 refine m7 E.aQ E.f6 E.gW.1 (dO E.fZ (aK E.fh) h5 E.fY bV) rfl (aip rfl) ?_
 rw [aJ (by decide +kernel), aJ (by decide +kernel), aJ (by decide +kernel), aJ (by decide +kernel), aJ (by decide +kernel), ez]
 exact aq rfl
theorem dG : pA (ak lK) ([("self", ay), ("boxes", ay), ("names", ay), ("tree", ay), ("ins", ay), ("outs", ay), ("ways", ay), ("list", au)]) = true := by decide +kernel
theorem tP : aM ["self", "boxes", "names", "tree", "ins", "outs", "ways"] ["self", "boxes", "names", "tree", "ins", "outs", "ways"] (ak lK) := bz
noncomputable abbrev pN : Stmt := top 21
noncomputable abbrev pO : Type := List L3.D × List Str × List It × List L3.D × (List (bH × List bB))
noncomputable def lM : pO -> List L3.D := fun (bs, hs, xs, pr, R) => [yM bs (hs.map .str) (xs.map It.d) pr (Ct R)]
noncomputable def jD : pO -> Prop := fun (bs, hs, xs, pr, R) => qX R pr.length hs /\ D.bK bs = true /\ xs.length <= 1000
noncomputable def jE : pO -> T := fun (bs, hs, xs, pr, R) => (.ins "Chart" (unF bs xs R pr.length hs) : T)
structure Js (X : Cx) (CL : Str -> Addr) : Prop extends cO X where
 bX : Ln X 0 "table"
 aT : Ln X 1 "many"
 bL : Ln X 2 "tree"
 fP : Ln X 3 "number"
 kr : Ln X 4 "names"
 LX : Ln X 5 "ins"
 fh : Ln X 6 "ways"
 k6 : Ln X 7 "sign"
 cW : Gl X "len"
 Z9 : Gl X "Tree"
 cY : Gl X "range"
 iS : Gl X "tuple"
 A4 : Gl X "told"
 xG : Gl X "ways_of"
 VQ : Gl X "Chart"
 cX : X.mg "len" = none
 aac : Fm X CL "Tree" 1 4 tM tN tO
 cZ : X.mg "range" = none
 iT : X.mg "tuple" = none
 Jq : Fc X CL "told" 1 1 rq rz rA
 NQ : Fc X CL "ways_of" 2 3 nj kO nk
 VR : Fm X CL "Chart" 1 7 rC rD rE
 aQ : nJ X.K (CL "Chart")
 bq : nJ X.K (CL "Table")
 cL : aC X.K (CL "Table") "flats"
 dH : aC X.K (CL "Table") "signs"
 b8 : aC X.K (CL "Chart") "boxes"
 b9 : aC X.K (CL "Table") "boxes"
 fk : aC X.K (CL "Table") "begin"
theorem Jt {X : Cx} {CL : Str -> Addr} {b : Bx} (E : Js X CL) {dW : pO} (h : jD dW) :
   aH X CL b pN ["table", "many", "tree", "number", "names", "ins", "ways", "sign"] (lM dW) (jE dW) := by
 obtain ⟨bs, hs, xs, pr, R⟩ := dW
 dsimp only [aH, jD, lM, jE] at h ⊢
 obtain ⟨h, hb, hx⟩ := h
 have hn := h.nn
 obtain ⟨n, hnn⟩ : ∃ n, n = pr.length := ⟨_, rfl⟩
 rw [← hnn] at h hn ⊢
 refine cC E.g E.aT (aI (zI E.cX (bf E.bq E.cL (aK E.bX) kI) E.cW) (t2 := .sh (.int (n : Nat))) (by rw [hnn])) ?_
 refine cC E.g E.bL (aI (mk_ (C1 n, GK n, GL n) E.aac E.Z9
   (ao (tG (cy (yC b7 b7 (aK E.aT) rfl rfl (by omega))) (by rw [Rh]))
   (ao (tG (cy (yC (jr (ah ai)) ai (aK E.aT) rfl rfl (by omega))) (by rw [Ri]))
   (ao (tG (cy (yC ai (jr (ah ai)) (aK E.aT) rfl rfl (by omega))) (by rw [Rj])) aS))) trivial (yx _ _ _)) (t2 := .ins "Tree" (qT (C1 n) (GK n) (GL n))) rfl) ?_
 refine cC E.g E.kr (aI (sq (ds := [.str "flat"]) (OI := ((List.range n).map fN).map .str) (cy (fS (bT b7 dN) (aA rfl))) (cy (aI (sr (p := fun _ => true) (g := fun d => T.sh (.str (fN d.IA.toNat))) (fU .nil (by decide +kernel)) E.g.calm (iM E.cZ (aK E.aT) (by omega) E.cY) (.inr rfl) (fun C s0 H0 f0 b' d hd => ?Jm) (ajj (cU (by simp [cB]; omega)))) ?VJ)) rfl (iO _) (by rw [aio, aio, ajc, ajg]; show 1 + n <= _; omega)) (t2 := .lst (((Ca n).map .str).map T.sh)) rfl) ?rest
 case VJ => exact congrArg T.lst (Rm n)
 case Jm =>
   obtain ⟨i, hi, rfl⟩ := aiI.mp hd
   have Xd : i < n := by simpa using hi
   obtain ⟨q1, q2⟩ := Xf i (by omega)
   have q3 := ZL (k := i) (by omega)
   have ei : (0 + (i : Int)) = (i : Int) := ajz _
   have et : (L3.D.int (0 + (i : Int))).IA.toNat = i := by show (0 + (i : Int)).toNat = i; omega
   have hz : ∀ {x : Str}, x.length <= 1000 -> x.length <= sizeLine := fun {x} q => by rw [ajg]; omega
   have e0 : Str.empty ++ ("f" : Str) = ("f" : Str) := by decide +kernel
   refine ⟨rfl, fun _ => aI (M3 (res := fN i) (Lb (x := "f") (ah b7) (Lb (x := toString (i : Int)) (ah (aI (UU (ah (v_ (jt (i := 0) rfl (by decide +kernel)))) (by rw [ei]; exact q1)) (by rw [ei]))) (by
     rw [e0]
     exact Zd (hz (by show (fN i).length <= 1000; omega))) (by rw [e0]; exact hz (by show (fN i).length <= 1000; omega))) (by rw [e0]; exact hz (by decide +kernel)))) ?_⟩
   show T.sh (.str (fN i)) = T.sh (.str (fN (L3.D.int (0 + (i : Int))).IA.toNat))
   rw [et]
 case rest =>
 have hti : D.bK ((xs.filter It.told).map It.d) = true := aL mG _
 refine cC E.g E.LX (aI (yC (d1 := .tup ((xs.filter It.told).map It.d)) (se E.iT (cy (aI (c_ xs E.Jq E.A4 (ao (bf E.bq E.fk (aK E.bX) ni) aS) hx (aV hti)) (t2 := .lst (((xs.filter It.told).map It.d).map T.sh)) rfl)) hti E.iS) (cV (ds := []) fO (aA rfl)) (aK E.aT) hti rfl (by omega)) (t2 := .lst (((C2 xs n).map fc).map T.sh)) (by rw [Rk])) ?_
 refine cC E.g E.fh (fS dN (ai5 _)) ?_
 refine jY E.g E.fP (fun j δ => ∃ o3 o7, δ = [some (.sh (yM bs (hs.map .str) (xs.map It.d) pr (Ct R))), some (.sh (.int (n : Nat))), some (.ins "Tree" (qT (C1 n) (GK n) (GL n))), o3, some (.lst (((Ca n).map .str).map T.sh)), some (.lst (((C2 xs n).map fc).map T.sh)), some (.lst (((iP R j hs).map jZ).map T.sh)), o7]) (iM E.cZ (aK E.aT) (by omega) E.cY) ⟨_, _, rfl⟩ (fun j δ ⟨_, _, e⟩ => by subst e; exact aip rfl) ?turn ?fin
 case turn =>
   rintro a d δ hj ⟨o3, o7, rfl⟩
   obtain ⟨rfl, ha⟩ := mE hj
   have ha : a < n := by simpa using ha
   rw [ajz]
   have hal := h.Ji (j := a) (by omega)
   refine jY E.g E.k6 (fun j δ => ∃ o7, δ = [some (.sh (yM bs (hs.map .str) (xs.map It.d) pr (Ct R))), some (.sh (.int (n : Nat))), some (.ins "Tree" (qT (C1 n) (GK n) (GL n))), some (.sh (.int (a : Nat))), some (.lst (((Ca n).map .str).map T.sh)), some (.lst (((C2 xs n).map fc).map T.sh)), some (.lst (((iP R a hs ++ lE R a (hs.take j)).map jZ).map T.sh)), o7]) (nP (i9 E.bq E.dH (v_ E.bX.1) nh)) ⟨_, by rw [List.take_zero, show lE R a [] = [] from rfl, aiK]; rfl⟩ (fun j δ ⟨_, e⟩ => by subst e; exact aip rfl) ?oJ ?fin2
   case oJ =>
     rintro i d δ hi ⟨o7, rfl⟩
     rw [aiE] at hi
     obtain ⟨x, hx, rfl⟩ := aiH.mp hi
     obtain ⟨q1, q2, q3⟩ := h.at ha (aiM hx)
     have hsl := h.Ek ha i
     have hwl := xB a x (xA R a x)
     refine acv E.fh.1 rfl (aI (c_ (bs, hs.map .str, xs.map It.d, pr, R, a, x, xA R a x) E.NQ E.xG (ao (aK E.bX) (ao (aK E.fP) (ao (aK E.k6) aS))) (by dsimp only [kO]; exact ⟨q1, by omega, q3⟩) (aV (aL ve _))) (t2 := .lst (((lD a x (xA R a x)).map jZ).map T.sh)) rfl) rfl (by simp only [List.length_map, List.length_append]; omega) (aq ?_)
     have e : ((iP R a hs ++ lE R a (hs.take i)).map jZ).map T.sh ++ ((lD a x (xA R a x)).map jZ).map T.sh = ((iP R a hs ++ lE R a (hs.take (i + 1))).map jZ).map T.sh := by
       rw [A0 hx, ← ain]
       simp only [aiL]
     rw [e]
     exact ⟨_, rfl⟩
   case fin2 =>
     rintro δ ⟨o7, rfl⟩
     rw [aio, ajx, ← xC]
     exact aq ⟨_, _, rfl⟩
 case fin =>
   rintro δ ⟨o3, o7, rfl⟩
   rw [show (cB 0 (n : Int).toNat).length = n by simp [cB]]
   have im : ∀ l : List (List B9), D.bK (l.map fc) = true := fun l => aL oB _
   have iw : D.bK ((iP R n hs).map jZ) = true := aL ve _
   exact bE (mkP (f := "tree") (Gu := xm bs ((Ca n).map .str)) (OJ := xo ((C2 xs n).map fc) ((GN n).map fc) ((iP R n hs).map jZ)) (fun v => (bs, (Ca n).map .str, v, (C2 xs n).map fc, (GN n).map fc, (iP R n hs).map jZ)) E.VR E.VQ
     (Gv (bf E.bq E.b9 (aK E.bX) ng) (Gv (vL E.kr.1)
       (Qj (vM E.bL.1)
         (ao (vL E.LX.1)
         (ao (tG (cy (Rg (n := n + 1) (cV (ds := []) fO (aA rfl)) (ah (iG (aK E.aT) (ah ai))) (by omega) rfl (by omega))) (by rw [Rl]))
         (ao (vL E.fh.1) aS))))))
     (fun v => rfl) (fun v => ⟨hb, iO _, im _, im _, iw⟩) (fun v => rfl) (D7 hb (iO _)) (D8 (im _) (im _) iw)) rfl
theorem bQ : pA (ak pN) ([("table", ay), ("many", ay), ("tree", ay), ("number", ay), ("names", ay), ("ins", ay), ("ways", ay), ("sign", ay), ("len", au), ("Tree", au), ("range", au), ("tuple", au), ("told", au), ("ways_of", au), ("Chart", au)]) = true := by decide +kernel
theorem G4 : aM ["table", "many", "tree", "number", "names", "ins", "ways", "sign"] ["table"] (ak pN) := bz
noncomputable def qo : List Str := ["put", "call", "say"]
theorem VW (x : It) : decide (x.sj.w ∈ qo) = x.told := by
 cases x with
 | pI q =>
   cases q with
   | put x b m => show decide (("put" : Str) ∈ qo) = true; decide +kernel
   | call s => show decide (("call" : Str) ∈ qo) = true; decide +kernel
   | say s b m => show decide (("say" : Str) ∈ qo) = true; decide +kernel
 | out m => show decide (("out" : Str) ∈ qo) = false; decide +kernel
 | keep m p q => show decide (("keep" : Str) ∈ qo) = false; decide +kernel
 | way i => show decide (("way" : Str) ∈ qo) = false; decide +kernel
 | IJ m => show decide (("in" : Str) ∈ qo) = false; decide +kernel
noncomputable abbrev sI : Stmt := top 60
noncomputable abbrev xH : Type := List It
noncomputable def kP : xH -> List L3.D := fun xs => [.tup (xs.map It.d)]
noncomputable def kQ : xH -> Prop := fun xs => xs.length <= 1000
noncomputable def kR : xH -> T := fun xs => (.sh (.tup ((xs.filter It.told).map It.d)) : T)
structure NR (X : Cx) (CL : Str -> Addr) : Prop extends cO X where
 dQ : Ln X 0 "script"
 iS : Gl X "tuple"
 iT : X.mg "tuple" = none
theorem NS {X : Cx} {CL : Str -> Addr} {b : Bx} (E : NR X CL) {xs} (h : kQ xs) :
   aH X CL b sI ["script"] (kP xs) (kR xs) := by
 dsimp only [aH, kQ, kP, kR] at h ⊢
 have h : xs.length <= 1000 := h
 refine bE (se E.iT (ds := (xs.filter It.told).map It.d) (cy (aI (sr (p := fun d => decide (d.at1.toS ∈ qo)) (g := fun d => T.sh d) (fU .nil (by decide +kernel)) E.g.calm (DE (v_ E.dQ.1)) (.inr rfl) (fun C s0 H0 f0 b' d hd => ?Jm) (ajj (cU (by simp; omega)))) (t2 := .lst (((xs.filter It.told).map It.d).map T.sh)) ?eq)) (aL mG _) E.iS) rfl
 case Jm =>
   obtain ⟨r, hr, rfl⟩ := aiI.mp hd
   exact ⟨(DL (l := qo) (bM (ah (v_ (jt (i := 0) rfl (by decide +kernel)))) (ah ai) (acM r.sj)) (cy (DN (sf (l := qo) rfl) (aA rfl))) rfl rfl).1, fun _ => v_ (jt (i := 0) rfl (by decide +kernel))⟩
 case eq =>
   refine congrArg T.lst ?_
   have e : ((fun d : L3.D => decide (d.at1.toS ∈ qo)) ∘ It.d) = It.told := by
     funext x
     exact VW x
   rw [List.filter_map, e]
theorem A5 : pA (ak sI) ([("script", ay), ("tuple", au)]) = true := by decide +kernel
theorem Ju : aM ["script"] ["script"] (ak sI) := bz
noncomputable abbrev Ey : Stmt := top 61
noncomputable abbrev Ez : Type := List L3.D × List L3.D × List L3.D × List Str × (List (bH × List bB))
noncomputable def vq : Ez -> List L3.D := fun (bs, bg, pr, hs, R) => [yM bs (hs.map .str) bg pr (Ct R)]
noncomputable def rF : Ez -> Prop := fun (bs, bg, pr, hs, R) => qX R pr.length hs
noncomputable def rG : Ez -> T := fun (bs, bg, pr, hs, R) => (.lst (((iP R pr.length hs).map jZ).map T.sh) : T)
structure aad (X : Cx) (CL : Str -> Addr) : Prop extends cO X where
 bX : Ln X 0 "table"
 fh : Ln X 1 "ways"
 rm : Ln X 2 "flat"
 k6 : Ln X 3 "sign"
 dD : Ln X 4 "rows"
 HP : Ln X 5 "k"
 rH : Ln X 6 "told_rows"
 RM : Ln X 7 "idle"
 RN : Ln X 8 "goal"
 cY : Gl X "range"
 cW : Gl X "len"
 rJ : Gl X "_law_told"
 cZ : X.mg "range" = none
 cX : X.mg "len" = none
 xJ : Fc X CL "_law_told" 1 1 kP kQ kR
 bq : nJ X.K (CL "Table")
 dH : aC X.K (CL "Table") "signs"
 cL : aC X.K (CL "Table") "flats"
 g9 : aC X.K (CL "Table") "rows"
theorem aae {X : Cx} {CL : Str -> Addr} {b : Bx} (E : aad X CL) {dW : Ez} (h : rF dW) :
   aH X CL b Ey ["table", "ways", "flat", "sign", "rows", "k", "told_rows", "idle", "goal"] (vq dW) (rG dW) := by
 obtain ⟨bs, bg, pr, hs, R⟩ := dW
 dsimp only [aH, rF, vq, rG] at h ⊢
 have h : qX R pr.length hs := h
 have hn := h.nn
 obtain ⟨n, hnn⟩ : ∃ n, n = pr.length := ⟨_, rfl⟩
 rw [← hnn] at h hn ⊢
 refine cC E.g E.fh (fS dN (ai5 _)) ?_
 refine jY E.g E.rm (fun j δ => ∃ o3 o4 o5 o6 o7 o8 o9, δ = [some (.sh (yM bs (hs.map .str) bg pr (Ct R))), some (.lst (((iP R j hs).map jZ).map T.sh)), o3, o4, o5, o6, o7, o8, o9]) (iM E.cZ (ah (zI E.cX (bf E.bq E.cL (aK E.bX) kI) E.cW)) (by omega) E.cY) ⟨_, _, _, _, _, _, _, rfl⟩ (fun j δ ⟨_, _, _, _, _, _, _, e⟩ => by subst e; exact aip rfl) ?turn ?fin
 case turn =>
   rintro a d δ hj ⟨o3, o4, o5, o6, o7, o8, o9, rfl⟩
   obtain ⟨rfl, ha⟩ := mE hj
   have ha : a < n := by rw [hnn]; simpa using ha
   rw [ajz]
   have hal := h.Ji (j := a) (by omega)
   refine jY E.g E.k6 (fun j δ => ∃ o4 o5 o6 o7 o8 o9, δ = [some (.sh (yM bs (hs.map .str) bg pr (Ct R))), some (.lst (((iP R a hs ++ lE R a (hs.take j)).map jZ).map T.sh)), some (.sh (.int (a : Nat))), o4, o5, o6, o7, o8, o9]) (nP (i9 E.bq E.dH (v_ E.bX.1) nh)) ⟨_, _, _, _, _, _, by rw [List.take_zero, show lE R a [] = [] from rfl, aiK]; rfl⟩ (fun j δ ⟨_, _, _, _, _, _, e⟩ => by subst e; exact aip rfl) ?oJ ?fin2
   case oJ =>
     rintro i d δ hi ⟨o4, o5, o6, o7, o8, o9, rfl⟩
     rw [aiE] at hi
     obtain ⟨x, hx, rfl⟩ := aiH.mp hi
     have hxm := aiM hx
     obtain ⟨q1, q2, q3⟩ := h.at ha hxm
     have hsl := h.Ek ha i
     obtain ⟨W, hW⟩ : ∃ W, W = iP R a hs ++ lE R a (hs.take i) := ⟨_, rfl⟩
     have hWl : W.length <= 84 := by rw [hW, aiU]; omega
     rw [← hW]
     obtain ⟨l, hl⟩ : ∃ l, l = xA R a x := ⟨_, rfl⟩
     rw [← hl] at q1 q2 q3
     refine cC E.g E.dD (Gy (Rb a x) E.u (i9 E.bq E.g9 (v_ E.bX.1) AX) (aI (DC (bT (v_ E.rm.1) (bT (v_ E.k6.1) dN)) (aA rfl)) (t2 := oA (Rb a x)) rfl) (Lz q1)) ?_
     refine jY E.g E.HP (fun j δ => ∃ o6 o7 o8 o9, δ = [some (.sh (yM bs (hs.map .str) bg pr (Ct R))), some (.lst (((W ++ xD a x l j).map jZ).map T.sh)), some (.sh (.int (a : Nat))), some (.sh (.str x)), some (.sh (.lst (l.map qU))), o6, o7, o8, o9]) (iM E.cZ (ah (er (aio ..) E.cX (aK E.dD) E.cW)) (by omega) E.cY) ⟨_, _, _, _, by rw [Nv, aiK]; rfl⟩ (fun j δ ⟨_, _, _, _, e⟩ => by subst e; exact aip rfl) ?ac7 ?afH
     case ac7 =>
       rintro k d δ hk ⟨o6, o7, o8, o9, rfl⟩
       obtain ⟨rfl, Ti⟩ := mE hk
       have Ti : k < l.length := by simpa using Ti
       rw [ajz]
       obtain ⟨r, hr⟩ : ∃ r, l[k]? = some r := ⟨_, aiG Ti⟩
       have Tg := q3 r (aiM hr)
       have Qo : yk (l.map qU) (k : Int) = some (qU r) := aW (by rw [aiE, hr]; rfl)
       have hml := Rf (a := a) (h := x) (l := l) (j := k)
       refine cC E.g E.rH (aI (c_ r.2.1 E.xJ E.rJ (ao (bM (i7 (aK E.dD) (aK E.HP) Qo) (ah ai) (aW (j := 1) rfl)) aS) (show r.2.1.length <= 1000 from aje Tg.c (by decide)) (aL mG _)) (t2 := .sh (.tup ((r.2.1.filter It.told).map It.d))) rfl) ?_
       have dpn : iJ 60 (.tup []) := .tup fun d hd => absurd hd aiD
       refine cC E.g E.RM (aI (mq (IB E.u (d1 := .tup (r.1.map Ea)) (bM (i7 (aK E.dD) (aK E.HP) Qo) (ah ai) (aW (j := 0) rfl)) (ah (cV (ds := []) fO (aA rfl))) (AY Tg.a 57) dpn).2 (fun _ => mq (IB E.u (aK E.rH) (ah (cV (ds := []) fO (aA rfl))) (AZ Tg 57) dpn).2 (fun _ => qK (wY (bM (i7 (aK E.dD) (aK E.HP) Qo) (ah ai) (aW (j := 2) rfl)) (aK E.rm)).2))) (t2 := .sh (.bl (u9 a r))) (by
         rw [qW, qW]
         unfold u9
         refine congrArg (fun b => T.sh (.bl b)) ?_
         congr 1
         . simp
         . congr 1
           simp)) ?_
       refine dz (tS (lB (CM (ah (iG (aK E.HP) (ah ai))) (ah (er (aio ..) E.cX (aK E.dD) E.cW))).1 (fun _ => mj (iH (lA (v_ E.RM.1)))))) (fun hp => ?_) (fun hp => aq ?_)
       . refine cC E.g E.RN (iG (ah ai) (bM (i7 (aK E.dD) (aK E.HP) Qo) (ah ai) (aW (j := 2) rfl))) ?_
         refine Qd E.fh.1 rfl (aI (cV (ds := [.int (1 + (a : Int)), .str x, .tup (r.1.map Ea), .tup ((r.2.1.filter It.told).map It.d), .int (1 + r.2.2), .str "new"]) (aX (iG (ah ai) (aK E.rm)) (aX (v_ E.k6.1) (aX (gT (bM (i7 (aK E.dD) (aK E.HP) Qo) (ah ai) (aW (j := 0) rfl)) (aL ZF _)) (aX (v_ E.rH.1) (aX (v_ E.RN.1) (aX b7 fO)))))) (aA rfl)) (t2 := .sh (jZ (jX a x r))) (by rw [Ei, Int.add_comm 1 (a : Int), Int.add_comm 1 r.2.2])) rfl (by simp only [aio, aiU]; omega) (aq (aq ?_))
         have e : (((W ++ xD a x l k).map jZ).map T.sh) ++ [T.sh (jZ (jX a x r))] = ((W ++ xD a x l (k + 1)).map jZ).map T.sh := by
           rw [CZ hr, aiC (by rw [← hp]; congr 1; apply ajv.mpr; simp only [ajl]; omega), ← ain]
           simp only [aiL, aiB, List.map_nil]
         rw [e]
         exact ⟨_, _, _, _, rfl⟩
       . have e : xD a x l (k + 1) = xD a x l k := by
           rw [CZ hr, aiu, aiK]
           intro z
           rw [← Bool.not_eq_true] at hp
           refine hp ?_
           rw [← z]
           congr 1
           apply ajv.mpr
           simp only [ajl]
           omega
         rw [e]
         exact aq ⟨_, _, _, _, rfl⟩
     case afH =>
       rintro δ ⟨o6, o7, o8, o9, rfl⟩
       rw [show (cB 0 (l.length : Int).toNat).length = l.length by simp [cB], Rc, hW, ain, hl, ← A0 hx]
       exact aq ⟨_, _, _, _, _, _, rfl⟩
   case fin2 =>
     rintro δ ⟨o4, o5, o6, o7, o8, o9, rfl⟩
     rw [aio, ajx, ← xC]
     exact aq ⟨_, _, _, _, _, _, _, rfl⟩
 case fin =>
   rintro δ ⟨o3, o4, o5, o6, o7, o8, o9, rfl⟩
   rw [show (cB 0 (pr.length : Int).toNat).length = n by rw [hnn]; simp [cB]]
   exact bE (vM E.fh.1) rfl
theorem iU : pA (ak Ey) ([("table", ay), ("ways", ay), ("flat", ay), ("sign", ay), ("rows", ay), ("k", ay), ("told_rows", ay), ("idle", ay), ("goal", ay), ("range", au), ("len", au), ("_law_told", au)]) = true := by decide +kernel
theorem VX : aM ["table", "ways", "flat", "sign", "rows", "k", "told_rows", "idle", "goal"] ["table"] (ak Ey) := bz
noncomputable abbrev zQ : Stmt := top 18
noncomputable abbrev zR : Type := List Str × List Int × List Int × Int
noncomputable def oK : zR -> List L3.D := fun (ks, es, ss, m) => [lC ks es ss, .int m]
noncomputable def lV : zR -> Prop := fun (ks, es, ss, m) => Jd es m /\ 0 <= m /\ m < es.length /\ es.length <= 1000
noncomputable def oM : zR -> T := fun (ks, es, ss, m) => (.lst (((tV es m).map .int).map T.sh) : T)
structure VY (X : Cx) (CL : Str -> Addr) : Prop extends cO X where
 bL : Ln X 0 "tree"
 iK : Ln X 1 "mood"
 EA : Ln X 2 "found"
 nu : Ln X 3 "elder"
 cE : nJ X.K (CL "Tree")
 aN : aC X.K (CL "Tree") "elders"
theorem VZ {X : Cx} {CL : Str -> Addr} {b : Bx} (E : VY X CL) {dW : zR} (h : lV dW) :
   aH X CL b zQ ["tree", "mood", "found", "elder"] (oK dW) (oM dW) := by
 obtain ⟨ks, es, ss, m⟩ := dW
 dsimp only [aH, lV, oK, oM] at h ⊢
 obtain ⟨ht, h0, h1, hlen⟩ := h
 refine cC E.g E.EA (fS dN (ai5 _)) ?_
 refine cC E.g E.nu (gT (i7 (bf E.cE E.aN (aK E.bL) cP) (aK E.iK) (tT h0 h1)) rfl) ?_
 have hm := ht.at h0 h1 (Int.le_refl _)
 refine Uw E.g (fun n δ => ∃ (k : Int) (l : List Int), δ = [some (.sh (lC ks es ss)), some (.sh (.int m)), some (.lst ((l.map .int).map T.sh)), some (.sh (.int k))] /\ -1 <= k /\ k < n /\ k < m /\ l ++ QN n es k = tV es m /\ l.length + n <= es.length + 1) (es.length + 1)
   ⟨es.getD m.toNat 0, [], rfl, hm.1, by omega, by omega, rfl, by simp⟩ ?_
 rintro n δ ⟨k, l, rfl, k0, k1, k2, k3, k4⟩
 refine ⟨_, _, (oY (aK E.nu) (ah (jr (ah ai)))).1, fun hp => ?_, fun hp => ?_⟩
 . have hk : ¬ k = -1 := by simpa using hp
   have ha := ht.at (k := k) (by omega) (by omega) (by omega)
   cases n with
   | zero => omega
   | succ n =>
     refine Qd E.EA.1 rfl (v_ E.nu.1) rfl (by simp; omega) ?_
     refine cC E.g E.nu (gT (i7 (bf E.cE E.aN (aK E.bL) cP) (aK E.nu) (tT (by omega) (by omega))) rfl) ?_
     refine aq ⟨n, Nat.lt_succ_self _, es.getD k.toNat 0, l ++ [k], ?_, ha.1, by omega, by omega, ?_, by simp; omega⟩
     . show [_, _, some (T.lst (((l.map D.int).map T.sh) ++ [T.sh (.int k)])), _] = _
       simp
     . rw [← k3, QN, aiu hk, ain]
       rfl
 . have hk : k = -1 := by simpa using hp
   subst hk
   have e : l = tV es m := by
     rw [← k3]
     cases n with
     | zero => rw [QN, aiK]
     | succ n => rw [QN, aiC rfl, aiK]
   subst e
   exact bE (vM E.EA.1) rfl
theorem vt : pA (ak zQ) ([("tree", ay), ("mood", ay), ("found", ay), ("elder", ay)]) = true := by decide +kernel
theorem RP : aM ["tree", "mood", "found", "elder"] ["tree", "mood"] (ak zQ) := bz
noncomputable abbrev zS : Stmt := top 19
noncomputable abbrev zT : Type := List Str × List Int × List Int × Int
noncomputable def sJ : zT -> List L3.D := fun (ks, es, ss, m) => [lC ks es ss, .int m]
noncomputable def oN : zT -> Prop := fun (ks, es, ss, m) => Jd es m /\ 0 <= m /\ m < es.length /\ es.length <= 1000
noncomputable def sL : zT -> T := fun (ks, es, ss, m) => (.sh (.int ((tV es m).length : Nat)) : T)
structure V0 (X : Cx) (CL : Str -> Addr) : Prop extends cO X where
 bL : Ln X 0 "tree"
 iK : Ln X 1 "mood"
 cW : Gl X "len"
 vv : Gl X "above"
 cX : X.mg "len" = none
 EB : Fc X CL "above" 1 2 oK lV oM
theorem V1 {X : Cx} {CL : Str -> Addr} {b : Bx} (E : V0 X CL) {dW : zT} (h : oN dW) :
   aH X CL b zS ["tree", "mood"] (sJ dW) (sL dW) := by
 obtain ⟨ks, es, ss, m⟩ := dW
 dsimp only [aH, oN, sJ, sL] at h ⊢
 have hl : ((tV es m).map L3.D.int).length = (tV es m).length := by simp
 exact bE (er hl E.cX (cy (c_ (ks, es, ss, m) E.EB E.vv (ao (aK E.bL) (ao (aK E.iK) aS)) h (by show (T.lst _).clean = true; rw [oq]; exact yq _))) E.cW) rfl
theorem vz : pA (ak zS) ([("tree", ay), ("mood", ay), ("len", au), ("above", au)]) = true := by decide +kernel
theorem RQ : aM ["tree", "mood"] ["tree", "mood"] (ak zS) := bz
noncomputable abbrev f7 : Stmt := top 39
noncomputable abbrev f9 : Type := List Str × List Int × List Int
noncomputable def eG : f9 -> List L3.D := fun (ks, es, ss) => [lC ks es ss]
noncomputable def cR : f9 -> Prop := fun (ks, es, ss) => 1 <= es.length /\ es.length <= 900
noncomputable def eK : f9 -> T := fun (ks, es, ss) => (.sh (.bl (HN es (es.length - 1))) : T)
structure t7 (X : Cx) (CL : Str -> Addr) : Prop extends cO X where
 bL : Ln X 0 "tree"
 iK : Ln X 1 "mood"
 RT : Ln X 2 "line"
 cY : Gl X "range"
 cW : Gl X "len"
 vv : Gl X "above"
 EC : Gl X "depth"
 NT : Gl X "DEEPEST"
 cZ : X.mg "range" = none
 cX : X.mg "len" = none
 EB : Fc X CL "above" 1 2 oK lV oM
 V2 : Fc X CL "depth" 2 2 sJ oN sL
 NV : ∃ u, X.mg "DEEPEST" = some (.int 12 u)
 cE : nJ X.K (CL "Tree")
 aN : aC X.K (CL "Tree") "elders"
theorem t8 {X : Cx} {CL : Str -> Addr} {b : Bx} (E : t7 X CL) {dW : f9} (h : cR dW) :
   aH X CL b f7 ["tree", "mood", "line"] (eG dW) (eK dW) := by
 obtain ⟨ks, es, ss⟩ := dW
 dsimp only [aH, cR, eG, eK] at h ⊢
 obtain ⟨h1, h2⟩ := h
 refine dz (oY (i := es.getD 0 0) (i7 (bf E.cE E.aN (aK E.bL) cP) (ah ai) (tT (by omega) (by omega))) (ah (jr (ah ai)))).1 (fun hq => ?_) (fun hq => aq ?_)
 . have e : HN es 0 = false := by
     show decide (es.getD 0 0 = -1) = false
     have hq : (!decide (es.getD 0 0 = -1)) = true := hq
     cases hd : decide (es.getD 0 0 = -1) with
     | false => rfl
     | true => rw [hd] at hq; cases hq
   exact bE fB (by rw [AW (ai5 _) e])
 have e0 : HN es 0 = true := by
   show decide (es.getD 0 0 = -1) = true
   have hq : (!decide (es.getD 0 0 = -1)) = false := hq
   cases hd : decide (es.getD 0 0 = -1) with
   | false => rw [hd] at hq; cases hq
   | true => rfl
 refine jY E.g E.iK (fun j δ => ∃ o1 o2, HN es j = true /\ δ = [some (.sh (lC ks es ss)), o1, o2])
   (MH E.cZ (ah ai) (ah (er (aio ..) E.cX (bf E.cE E.aN (aK E.bL) cP) E.cW)) (by omega) E.cY) ⟨_, _, e0, rfl⟩ (fun j δ ⟨_, _, _, e⟩ => by subst e; exact aip rfl) ?turn ?fin
 case turn =>
   rintro j d δ hj ⟨o1, o2, hE, rfl⟩
   obtain ⟨rfl, OW⟩ := mE hj
   have OW : j + 1 < es.length := by simp at OW; omega
   have hT := Q7 (by omega) hE
   have ha := hT.at (k := (j : Int)) (by omega) (by omega) (by omega)
   have hcl : (tV es (j : Int)).length <= es.length + 1 := Li _ _ _
   have ej : (1 + (j : Int)) - 1 = (j : Int) := by omega
   refine cC E.g E.RT (aI (sq (ds := [.int (j : Int)]) (OI := (tV es (j : Int)).map .int) (cy (ds := [.int (j : Int)]) (aI (fS (bT (Dz (aK E.iK) (ah ai)) dN) (aA rfl)) (by rw [ej]; rfl))) (cy (aI (c_ (ks, es, ss, (j : Int)) E.EB E.vv (ao (aK E.bL) (ao (tG (ah (Dz (aK E.iK) (ah ai))) (congrArg L3.D.int ej)) aS)) (by dsimp only [lV]; exact ⟨hT, by omega, by omega, by omega⟩) (tW _)) rfl)) rfl (qM _) (Nat.le_of_lt (cU (by simp; omega)))) (t2 := .lst ((((j : Int) :: tV es (j : Int)).map .int).map T.sh)) rfl) ?_
   have en : (1 + (j : Int)).toNat = j + 1 := by omega
   have e1j : (1 + (j : Int)) = (j : Int) + 1 := by omega
   have eB : HN es (j + 1) = (decide (es.getD (1 + (j : Int)).toNat 0 ∈ (j : Int) :: tV es (j : Int)) && decide ((tV es (1 + (j : Int))).length <= 12)) := by
     rw [HN, hE, en, e1j]
     rfl
   refine dz (tS (lB (q := decide (((tV es (1 + (j : Int))).length : Int) > 12)) (Uy (i := es.getD (1 + (j : Int)).toNat 0) (i7 (bf E.cE E.aN (aK E.bL) cP) (aK E.iK) (tT (by omega) (by omega))) (vL E.RT.1) rfl rfl).1 (fun hn => mj (P7 (ah (aI (c_ (ks, es, ss, 1 + (j : Int)) E.V2 E.EC (ao (aK E.bL) (ao (aK E.iK) aS)) ?pd rfl) (t2 := .sh (.int ((tV es (1 + (j : Int))).length : Nat))) rfl)) (ah (iN E.NV E.NT))).1))) (fun hq => ?_) (fun hq => aq (aq ⟨_, _, ?_, rfl⟩))
   case pd =>
     dsimp only [oN]
     refine ⟨fun k hk hm => ?_, by omega, by omega, by omega⟩
     by_cases e : k = j + 1
     . subst e
       have hn : (!decide (es.getD (1 + (j : Int)).toNat 0 ∈ (j : Int) :: tV es (j : Int))) = false := hn
       have hin : es.getD (1 + (j : Int)).toNat 0 ∈ (j : Int) :: tV es (j : Int) := aiT (nbT hn)
       rw [en] at hin
       rcases aiw.mp hin with z | z
       . omega
       . have := hT.Eh (es.length + 1) ha.1 (by omega) (by omega) _ z
         omega
     . exact hT k hk (by omega)
   . refine bE fB ?_
     have hq : (!decide (es.getD (1 + (j : Int)).toNat 0 ∈ (j : Int) :: tV es (j : Int)) || decide (((tV es (1 + (j : Int))).length : Int) > 12)) = true := hq
     have e : HN es (j + 1) = false := by
       rw [eB]
       cases hd : decide (es.getD (1 + (j : Int)).toNat 0 ∈ (j : Int) :: tV es (j : Int)) with
       | false => rfl
       | true =>
         rw [hd] at hq
         have : ((tV es (1 + (j : Int))).length : Int) > 12 := aiT hq
         rw [ai1 (by omega)]
         rfl
     rw [AW (j := es.length - 1) (by omega) e]
   . have hq : (!decide (es.getD (1 + (j : Int)).toNat 0 ∈ (j : Int) :: tV es (j : Int)) || decide (((tV es (1 + (j : Int))).length : Int) > 12)) = false := hq
     rw [ajC] at hq
     rw [eB, show decide (es.getD (1 + (j : Int)).toNat 0 ∈ (j : Int) :: tV es (j : Int)) = true from nbT hq.1, aiA (by have := ajJ hq.2; omega)]
     rfl
 case fin =>
   rintro δ ⟨o1, o2, hE, rfl⟩
   have e : (cB 1 (((es.length : Nat) : Int) - 1).toNat).length = es.length - 1 := by simp [cB]
   have hE2 : HN es (es.length - 1) = true := by
     first
       | (rw [e] at hE; exact hE)
       | (simp [cB] at hE; exact hE)
   exact bE fB (by rw [hE2])
theorem bJ : pA (ak f7) ([("tree", ay), ("mood", ay), ("line", ay), ("range", au), ("len", au), ("above", au), ("depth", au), ("DEEPEST", au)]) = true := by decide +kernel
theorem sY : aM ["tree", "mood", "line"] ["tree"] (ak f7) := bz
noncomputable abbrev gF : Stmt := top 40
noncomputable abbrev gG : Type := List Str × List Int × List Int
noncomputable def fF : gG -> List L3.D := fun (ks, es, ss) => [lC ks es ss]
noncomputable def c7 : gG -> Prop := fun (ks, es, ss) => ks.length <= 900 /\ es.length <= 900
noncomputable def fG : gG -> T := fun (ks, es, ss) => (.sh (.bl (Q6 ks es)) : T)
structure vA (X : Cx) (CL : Str -> Addr) : Prop extends cO X where
 bL : Ln X 0 "tree"
 pP : Ln X 1 "with_inner"
 nu : Ln X 2 "elder"
 iK : Ln X 3 "mood"
 Jv : Ln X 4 "kind"
 kT : Gl X "enumerate"
 V3 : Gl X "KINDS"
 kU : X.mg "enumerate" = none
 ED : GT X "KINDS" ["leaf", "one", "all"]
 cE : nJ X.K (CL "Tree")
 aN : aC X.K (CL "Tree") "elders"
 dF : aC X.K (CL "Tree") "kinds"
theorem vC {X : Cx} {CL : Str -> Addr} {b : Bx} (E : vA X CL) {dW : gG} (h : c7 dW) :
   aH X CL b gF ["tree", "with_inner", "elder", "mood", "kind"] (fF dW) (fG dW) := by
 obtain ⟨ks, es, ss⟩ := dW
 dsimp only [aH, c7, fF, fG] at h ⊢
 obtain ⟨h1, h2⟩ := h
 refine cC E.g E.pP UK ?_
 refine jY E.g E.nu (fun j δ => ∃ o2 o3 o4, δ = [some (.sh (lC ks es ss)), some (.mY (OU (adds (es.take j)))), o2, o3, o4])
   (nP (i9 E.cE E.aN (v_ E.bL.1) cP)) ⟨_, _, _, rfl⟩ (fun j δ ⟨_, _, _, e⟩ => by subst e; exact aip rfl) ?turn ?fin
 case turn =>
   rintro j d δ hj ⟨o2, o3, o4, rfl⟩
   obtain ⟨x, rfl, _, _, OW, _, htk⟩ := YZ hj
   have hl := (xr (es.take j) []).1
   have hl2 : (es.take j).length <= 900 := by rw [ajr]; omega
   have Ti : (OU (adds (es.take j))).length <= 1000000 := by unfold OU adds; rw [aio]; simp at hl; omega
   refine Y7 (.inl x) E.u E.pP.1 fB (aK E.nu) rfl Ti (aq ?_)
   rw [Vi, ← Np, ← htk]
   exact ⟨_, _, _, rfl⟩
 case fin =>
 rintro δ ⟨o2, o3, o4, rfl⟩
 rw [aio, ajx]
 have hin : ∀ x : Int, decide (x ∈ adds es) = decide (x ∈ es) := fun x => decide_eq_decide.mpr (((xr es []).2 x).trans (by simp))
 refine IG E.g (DS E.g.nd E.g.calm E.iK E.Jv) (fun j δ => ∃ o2 o3 o4, sW (kdO ks es) (List.range ks.length) j /\ δ = [some (.sh (lC ks es ss)), some (.mY (OU (adds es))), o2, o3, o4])
   (Av (f := L3.D.str) (l := ks) Str.empty E.kU (i9 E.cE E.dF (v_ E.bL.1) pH) E.kT) ⟨_, _, _, .zero, rfl⟩ (fun j δ ⟨_, _, _, _, e⟩ => by subst e; intro i hi; simp only [aiw, aiD, ajR] at hi; rcases hi with rfl | rfl <;> exact aip rfl) ?oJ ?fin2
 case oJ =>
   rintro j d δ hj ⟨o2, o3, o4, hU, rfl⟩
   obtain ⟨i, hij, rfl⟩ : ∃ i, (List.range ks.length)[j]? = some i /\ _ = d := by rw [aiE] at hj; exact aiH.mp hj
   have Xc : i ∈ List.range ks.length := aiM hij
   have La : i < ks.length := ajd.mp Xc
   refine ⟨_, rfl, ?_⟩
   refine dz (tS (lB (DM (l := Eg) (aK E.Jv) (ah (qO E.ED E.V3)) rfl rfl).1 (fun _ => mj (ab1 (w1 := .bl (decide (ks.getD i Str.empty = "leaf"))) (w2 := .bl (decide ((i : Int) ∈ es))) (ah (oZ (aK E.Jv) (ah b7)).2) (ah (aI (Zg (.inl (i : Int)) E.u (aK E.iK) (vE E.pP.1 rfl (by rw [T.cu])) rfl) (t2 := .sh (.bl (decide ((i : Int) ∈ es)))) (congrArg (fun z => T.sh (.bl z)) ((Vj _ _).trans (hin _))))) rfl rfl rfl).1))) (fun hp => ?_) (fun hp => aq (aq ⟨_, _, _, hU.next hij ?_, rfl⟩))
   . refine bE fB ?_
     unfold Q6
     rw [Jc (p := kdO ks es) Xc ?_]
     unfold kdO
     generalize decide (ks.getD i Str.empty ∈ Eg) = b1 at hp ⊢
     generalize decide (ks.getD i Str.empty = "leaf") = b2 at hp ⊢
     generalize decide ((i : Int) ∈ es) = b3 at hp ⊢
     revert hp
     cases b1 <;> cases b2 <;> cases b3 <;> first | (intro _; rfl) | (intro hp; simp at hp)
   . unfold kdO
     generalize decide (ks.getD i Str.empty ∈ Eg) = b1 at hp ⊢
     generalize decide (ks.getD i Str.empty = "leaf") = b2 at hp ⊢
     generalize decide ((i : Int) ∈ es) = b3 at hp ⊢
     revert hp
     cases b1 <;> cases b2 <;> cases b3 <;> first | (intro _; rfl) | (intro hp; simp at hp)
 case fin2 =>
   rintro δ ⟨o2, o3, o4, hU, rfl⟩
   refine bE fB ?_
   unfold Q6
   rw [sW.all (by simpa using hU)]
theorem ck : pA (ak gF) ([("tree", ay), ("with_inner", ay), ("elder", ay), ("mood", ay), ("kind", ay), ("enumerate", au), ("KINDS", au)]) = true := by decide +kernel
theorem t9 : aM ["tree", "with_inner", "elder", "mood", "kind"] ["tree"] (ak gF) := bz
noncomputable abbrev pQ : Stmt := top 50
noncomputable abbrev pR : Type := Int × List L3.D
noncomputable def eN : pR -> List L3.D := fun (i, ds) => [.int i, .lst ds]
noncomputable def eO : pR -> Prop := fun (i, ds) => True
noncomputable def eS : pR -> T := fun (i, ds) => (.sh (.bl (tL i ds.length)) : T)
structure Jw (X : Cx) (CL : Str -> Addr) : Prop extends cO X where
 fP : Ln X 0 "number"
 C4 : Ln X 1 "row"
 cW : Gl X "len"
 cX : X.mg "len" = none
theorem Jx {X : Cx} {CL : Str -> Addr} {b : Bx} (E : Jw X CL) {dW : pR} (h : eO dW) :
   aH X CL b pQ ["number", "row"] (eN dW) (eS dW) := by
 obtain ⟨i, ds⟩ := dW
 dsimp only [aH, eO, eN, eS] at h ⊢
 exact bE (Xa abF Kz (ah ai) (aK E.fP) (ah (er rfl E.cX (aK E.C4) E.cW)) (by with_unfolding_all rfl)).2 rfl
theorem rK : pA (ak pQ) ([("number", ay), ("row", ay), ("len", au)]) = true := by decide +kernel
theorem G5 : aM ["number", "row"] ["number", "row"] (ak pQ) := bz
noncomputable abbrev gb : Stmt := top 41
noncomputable abbrev gf : Type := List Str × List Int × List Int
noncomputable def eU : gf -> List L3.D := fun (ks, es, ss) => [lC ks es ss]
noncomputable def cS : gf -> Prop := fun (ks, es, ss) => ks.length = es.length /\ ss.length = es.length /\ es.length <= 900
noncomputable def eV : gf -> T := fun (ks, es, ss) => (.sh (.bl (Nr ks es ss)) : T)
structure ua (X : Cx) (CL : Str -> Addr) : Prop extends cO X where
 bL : Ln X 0 "tree"
 iK : Ln X 1 "mood"
 vD : Ln X 2 "start"
 kT : Gl X "enumerate"
 cH : Gl X "is_place"
 kU : X.mg "enumerate" = none
 dR : Fc X CL "is_place" 1 2 eN eO eS
 cE : nJ X.K (CL "Tree")
 fj : aC X.K (CL "Tree") "starts"
 dF : aC X.K (CL "Tree") "kinds"
 aN : aC X.K (CL "Tree") "elders"
theorem uc {X : Cx} {CL : Str -> Addr} {b : Bx} (E : ua X CL) {dW : gf} (h : cS dW) :
   aH X CL b gb ["tree", "mood", "start"] (eU dW) (eV dW) := by
 obtain ⟨ks, es, ss⟩ := dW
 dsimp only [aH, cS, eU, eV] at h ⊢
 obtain ⟨h1, h2, h3⟩ := h
 refine IG E.g (DS E.g.nd E.g.calm E.iK E.vD) (fun j δ => ∃ o1 o2, sW (Vm ks es ss) (List.range ss.length) j /\ δ = [some (.sh (lC ks es ss)), o1, o2])
   (Av (f := L3.D.int) (l := ss) 0 E.kU (i9 E.cE E.fj (v_ E.bL.1) qS) E.kT) ⟨_, _, .zero, rfl⟩ (fun j δ ⟨_, _, _, e⟩ => by subst e; intro i hi; simp only [aiw, aiD, ajR] at hi; rcases hi with rfl | rfl <;> exact aip rfl) ?turn ?fin
 case turn =>
   rintro j d δ hj ⟨o1, o2, hU, rfl⟩
   obtain ⟨i, hij, rfl⟩ : ∃ i, (List.range ss.length)[j]? = some i /\ _ = d := by rw [aiE] at hj; exact aiH.mp hj
   have Xc : i ∈ List.range ss.length := aiM hij
   have La : i < ss.length := ajd.mp Xc
   refine ⟨_, rfl, ?_⟩
   have hk : yk (ks.map L3.D.str) (i : Int) = some (.str (ks.getD i Str.empty)) := (Al Str.empty (by omega) (by omega)).trans (by rw [ajq])
   have bad : Vm ks es ss i = false -> (T.sh (.bl false)) = T.sh (.bl (Nr ks es ss)) := fun e => by
     unfold Nr
     rw [Jc (p := Vm ks es ss) Xc e]
   refine dz (P6 (i7 (bf E.cE E.dF (aK E.bL) pH) (aK E.iK) hk) (ah b7)).1 (fun hp => ?_) (fun hp => ?_)
   . have e1 : ¬ ks.getD i Str.empty = "one" := by simpa using hp
     refine dz (oY (aK E.vD) (ah (jr (ah ai)))).1 (fun hp => ?_) (fun hp => aq (aq (aq ⟨_, _, hU.next hij ?_, rfl⟩)))
     . refine bE fB (bad ?_)
       unfold Vm
       rw [aiu e1]
       simpa using hp
     . unfold Vm
       rw [aiu e1]
       simpa using hp
   . have e1 : ks.getD i Str.empty = "one" := by simpa using hp
     by_cases e2 : tL (ss.getD i 0) es.length = true
     . have e4 := e2
       unfold tL at e4
       rw [aiO] at e4
       have p0 := aiT e4.1
       have p1 := aiT e4.2
       have eL : tL (ss.getD i 0) (es.map L3.D.int).length = true := by rw [aio]; exact e2
       refine dz (tS (lB (iH (lA (aI (c_ (ss.getD i 0, es.map L3.D.int) E.dR E.cH (ao (aK E.vD) (ao (bf E.cE E.aN (aK E.bL) cP) aS)) trivial rfl) (t2 := .sh (.bl true)) (congrArg (fun z => T.sh (.bl z)) eL)))) (fun _ => mj (oY (i7 (bf E.cE E.aN (aK E.bL) cP) (aK E.vD) (tT p0 p1)) (aK E.iK)).1))) (fun hp => ?_) (fun hp => aq (aq (aq ⟨_, _, hU.next hij ?_, rfl⟩)))
       . refine bE fB (bad ?_)
         unfold Vm
         rw [aiC e1, e2]
         simpa using hp
       . unfold Vm
         rw [aiC e1, e2]
         simpa using hp
     . have e2 : tL (ss.getD i 0) es.length = false := by simpa using e2
       have eL : tL (ss.getD i 0) (es.map L3.D.int).length = false := by rw [aio]; exact e2
       refine dz (tS (lB (q := true) (iH (lA (aI (c_ (ss.getD i 0, es.map L3.D.int) E.dR E.cH (ao (aK E.vD) (ao (bf E.cE E.aN (aK E.bL) cP) aS)) trivial rfl) (t2 := .sh (.bl false)) (congrArg (fun z => T.sh (.bl z)) eL)))) (fun hz => by cases hz))) (fun hp => ?_) (fun hp => by cases hp)
       refine bE fB (bad ?_)
       unfold Vm
       rw [aiC e1, e2]
       rfl
 case fin =>
   rintro δ ⟨o1, o2, hU, rfl⟩
   refine bE fB ?_
   unfold Nr
   rw [sW.all (by simpa using hU)]
theorem c9 : pA (ak gb) ([("tree", ay), ("mood", ay), ("start", ay), ("enumerate", au), ("is_place", au)]) = true := by decide +kernel
theorem sZ : aM ["tree", "mood", "start"] ["tree"] (ak gb) := bz
noncomputable abbrev iV : Stmt := top 38
noncomputable abbrev iW : Type := List Str × List Int × List Int × List L3.D
noncomputable def gH : iW -> List L3.D := fun (ks, es, ss, nm) => [lC ks es ss, .lst nm]
noncomputable def gI : iW -> Prop := fun (ks, es, ss, nm) => ks.length <= 900
noncomputable def gJ : iW -> T := fun (ks, es, ss, nm) => (.sh (.bl (Tt ks es ss nm.length)) : T)
structure yO (X : Cx) (CL : Str -> Addr) : Prop extends cO X where
 bL : Ln X 0 "tree"
 kr : Ln X 1 "names"
 aT : Ln X 2 "many"
 cW : Gl X "len"
 jd : Gl X "are_elders_right"
 jF : Gl X "are_kinds_right"
 je : Gl X "are_starts_right"
 cX : X.mg "len" = none
 ud : Fc X CL "are_elders_right" 3 1 eG cR eK
 vF : Fc X CL "are_kinds_right" 1 1 fF c7 fG
 uf : Fc X CL "are_starts_right" 2 1 eU cS eV
 cE : nJ X.K (CL "Tree")
 dF : aC X.K (CL "Tree") "kinds"
 aN : aC X.K (CL "Tree") "elders"
 fj : aC X.K (CL "Tree") "starts"
theorem yP {X : Cx} {CL : Str -> Addr} {b : Bx} (E : yO X CL) {dW : iW} (h : gI dW) :
   aH X CL b iV ["tree", "names", "many"] (gH dW) (gJ dW) := by
 obtain ⟨ks, es, ss, nm⟩ := dW
 dsimp only [aH, gI, gH, gJ] at h ⊢
 refine cC E.g E.aT (er (n := ks.length) (aio ..) E.cX (bf E.cE E.dF (aK E.bL) pH) E.cW) ?_
 refine dz (tS (lB (wY (aK E.aT) (ah ai)).1 (fun _ => lB (oY (ah (er (n := es.length) (aio ..) E.cX (bf E.cE E.aN (aK E.bL) cP) E.cW)) (aK E.aT)).1 (fun _ => lB (oY (ah (er (n := ss.length) (aio ..) E.cX (bf E.cE E.fj (aK E.bL) qS) E.cW)) (aK E.aT)).1 (fun _ => mj (oY (ah (er (n := nm.length) rfl E.cX (aK E.kr) E.cW)) (aK E.aT)).1))))) (fun hp => ?_) (fun hp => aq ?_)
 . refine bE fB ?_
   simp only [Bool.or_eq_true, Bool.not_eq_true', ajl, akv] at hp
   unfold Tt
   by_cases h1 : 0 < ks.length
   . by_cases h2 : es.length = ks.length
     . by_cases h3 : ss.length = ks.length
       . by_cases h4 : nm.length = ks.length
         . exfalso; omega
         . rw [ai1 h4, ajG, ajm, ajm, ajm]
       . rw [ai1 h3, ajG, ajm, ajm]
     . rw [ai1 h2, ajG, ajm]
   . rw [ai1 h1, ajG]
 simp only [ajC, Bool.not_eq_false', ajl, akv] at hp
 have h2 : es.length = ks.length := by omega
 have h3 : ss.length = ks.length := by omega
 refine bE (mq (aI (c_ (ks, es, ss) E.ud E.jd (ao (aK E.bL) aS) (by dsimp only [cR]; omega) rfl) (t2 := .sh (.bl (HN es (es.length - 1)))) rfl) (fun _ => mq (aI (c_ (ks, es, ss) E.vF E.jF (ao (aK E.bL) aS) (by dsimp only [c7]; omega) rfl) (t2 := .sh (.bl (Q6 ks es))) rfl) (fun _ => qK (aI (c_ (ks, es, ss) E.uf E.je (ao (aK E.bL) aS) (by dsimp only [cS]; omega) rfl) (t2 := .sh (.bl (Nr ks es ss))) rfl)))) ?_
 unfold Tt
 rw [aiA (show 0 < ks.length by omega), aiA h2, aiA h3, aiA (show nm.length = ks.length by omega)]
 rfl
theorem cI : pA (ak iV) ([("tree", ay), ("names", ay), ("many", ay), ("len", au), ("are_elders_right", au), ("are_kinds_right", au), ("are_starts_right", au)]) = true := by decide +kernel
theorem xK : aM ["tree", "names", "many"] ["tree", "names"] (ak iV) := bz
noncomputable abbrev sM : Stmt := top 12
noncomputable abbrev xM : Type := Str
noncomputable def jk : xM -> List L3.D := fun x => [.str x]
noncomputable def jl : xM -> Prop := fun x => x.length <= 1000
noncomputable def jm : xM -> T := fun x => (.sh (.bl (dB x)) : T)
structure NW (X : Cx) (CL : Str -> Addr) : Prop extends cO X where
 A6 : Ln X 0 "text"
 k6 : Ln X 1 "sign"
 cW : Gl X "len"
 A7 : Gl X "LONGEST_NAME"
 V4 : Gl X "WORDS"
 NX : Gl X "LETTERS"
 qz : Gl X "LETTERS_AND_FIGURES"
 cX : X.mg "len" = none
 A8 : ∃ u, X.mg "LONGEST_NAME" = some (.int 12 u)
 EE : GT X "WORDS" ["all", "and", "box", "call", "do", "far", "if", "in", "leaf", "near", "on", "one", "open", "out", "put", "say", "shut", "then", "to"]
 NZ : ∃ u, X.mg "LETTERS" = some (.str "abcdefghijklmnopqrstuvwxyz" u)
 qA : ∃ u, X.mg "LETTERS_AND_FIGURES" = some (.str "abcdefghijklmnopqrstuvwxyz0123456789" u)
theorem N1 {X : Cx} {CL : Str -> Addr} {b : Bx} (E : NW X CL) {x} (h : jl x) :
   aH X CL b sM ["text", "sign"] (jk x) (jm x) := by
 dsimp only [aH, jl, jk, jm] at h ⊢
 have hz : x.length <= sizeLine := ajj (cU h)
 refine dz (tS (lB (oZ (aK E.A6) (ah b7)).1 (fun hb => (lB (P7 (ah (Uk E.cX (aK E.A6) (hz) E.cW)) (ah (iN E.A8 E.A7))).1 (fun hb2 => (mj (DL (aK E.A6) (ah (qO E.EE E.V4)) (rfl) rfl).1)))))) (fun hp => ?_) (fun hp => aq ?_)
 . refine bE fB ?_
   have hp : (decide (x = "") || (decide ((12 : Int) < (x.length : Nat)) || decide (x ∈ Ef))) = true := hp
   show T.sh _ = T.sh (.bl (dB x))
   refine congrArg (fun z => T.sh (.bl z)) ?_
   simp only [Bool.or_eq_true, ajl] at hp
   unfold dB
   rcases hp with z | z | z
   . subst z; decide +kernel
   . rw [ai1 (p := x.length <= 12) (by omega), ajG, ajm]
   . rw [aiA z, Bool.not_true, ajG, ajm, ajm]
 have hp : (decide (x = "") || (decide ((12 : Int) < (x.length : Nat)) || decide (x ∈ Ef))) = false := hp
 simp only [ajC, akv] at hp
 obtain ⟨h1, h2, h3⟩ := hp
 have hl1 : 1 <= x.length := by
   rcases Nat.eq_zero_or_pos x.length with z | z
   . exact absurd (Vf z) h1
   . exact z
 have hll : x.cps.toList.length = x.length := by simp [Str.length]
 have hnm : dB x = (isLt (x.cps.toList.getD 0 0) && x.cps.toList.all (fun c => isLt c || Cq c)) := by
   unfold dB
   rw [aiA hl1, aiA (show x.length <= 12 by omega), ai1 h3]
   rfl
 refine dz (yt (ah (Yy (aK E.A6) (ah ai) hz (YR 0 (by omega) (by omega)))) (ah (Gq E.NZ E.NX)) rfl).1 (fun hp => ?_) (fun hp => aq ?_)
 . refine bE fB ?_
   rw [AQ] at hp
   have hp : (!isLt (x.cps.toList.getD 0 0)) = true := hp
   rw [Bool.not_eq_true'] at hp
   show T.sh _ = T.sh (.bl (dB x))
   rw [hnm, hp]
   rfl
 rw [AQ] at hp
 have hp : (!isLt (x.cps.toList.getD 0 0)) = false := hp
 rw [Bool.not_eq_false'] at hp
 refine jY E.g E.k6 (fun j δ => (∃ o, δ = [some (.sh (.str x)), o]) /\ (x.cps.toList.take j).all (fun c => isLt c || Cq c) = true)
   (Y4 (v_ E.A6.1)) ⟨⟨_, rfl⟩, rfl⟩ (fun j δ ⟨⟨_, e⟩, _⟩ => by subst e; exact aip rfl) ?turn ?fin
 case turn =>
   rintro j d δ hj ⟨⟨o, rfl⟩, Mx⟩
   obtain ⟨c, rfl, hc⟩ := Jb hj
   refine dz (yt (aK E.k6) (ah (Gq E.qA E.qz)) rfl).1 (fun hq => ?_) (fun hq => aq (aq ⟨⟨_, rfl⟩, ?_⟩))
   . refine bE fB ?_
     rw [Lv] at hq
     have hq : (isLt c || Cq c) = false := by simpa using hq
     show T.sh _ = T.sh (.bl (dB x))
     have ha : x.cps.toList.all (fun c => isLt c || Cq c) = false := by
       rw [List.all_eq_false]
       exact ⟨c, aiM hc, by rw [hq]; decide⟩
     rw [hnm, ha, ajm]
   . rw [Lv] at hq
     have hq : (!(isLt c || Cq c)) = false := hq
     rw [Bool.not_eq_false'] at hq
     rw [ajt, hc, List.all_append, Mx]
     show (true && ([c].all fun c => isLt c || Cq c)) = true
     rw [aky, hq]
     rfl
 case fin =>
   rintro δ ⟨⟨o, rfl⟩, Mx⟩
   refine bE fB ?_
   rw [show (kF x).length = x.cps.toList.length by simp [kF], ajx] at Mx
   show T.sh _ = T.sh (.bl (dB x))
   rw [hnm, hp, Mx]
   rfl
theorem jf : pA (ak sM) ([("text", ay), ("sign", ay), ("len", au), ("LONGEST_NAME", au), ("WORDS", au), ("LETTERS", au), ("LETTERS_AND_FIGURES", au)]) = true := by decide +kernel
theorem Jy : aM ["text", "sign"] ["text"] (ak sM) := bz
noncomputable abbrev gK : Stmt := top 42
noncomputable abbrev jG : Type := List Str
noncomputable def dg : jG -> List L3.D := fun l => [.lst (l.map .str)]
noncomputable def bW : jG -> Prop := fun l => (∀ x ∈ l, x.length <= 1000) /\ l.length <= 1000
noncomputable def dh : jG -> T := fun l => (.sh (.bl (tZ l)) : T)
structure vG (X : Cx) (CL : Str -> Addr) : Prop extends cO X where
 kr : Ln X 0 "names"
 RV : Ln X 1 "name"
 jn : Gl X "is_name"
 cW : Gl X "len"
 ac9 : Gl X "set"
 lW : Fc X CL "is_name" 1 1 jk jl jm
 cX : X.mg "len" = none
 ada : X.mg "set" = none
theorem vH {X : Cx} {CL : Str -> Addr} {b : Bx} (E : vG X CL) {l} (h : bW l) :
   aH X CL b gK ["names", "name"] (dg l) (dh l) := by
 dsimp only [aH, bW, dg, dh] at h ⊢
 obtain ⟨h1, h3⟩ := h
 refine jY E.g E.RV (fun j δ => ∃ o, sW dB l j /\ δ = [some (.sh (.lst (l.map .str))), o]) (nP (v_ E.kr.1)) ⟨_, .zero, rfl⟩ (fun j δ ⟨_, _, e⟩ => by subst e; exact aip rfl) ?turn ?fin
 case turn =>
   rintro j d δ hj ⟨o, hU, rfl⟩
   obtain ⟨x, hxj, rfl⟩ : ∃ x, l[j]? = some x /\ L3.D.str x = d := by rw [aiE] at hj; exact aiH.mp hj
   have hx : x ∈ l := aiM hxj
   refine dz (iH (lA (aI (c_ x E.lW E.jn (ao (aK E.RV) aS) (h1 x hx) rfl) (t2 := .sh (.bl (dB x))) rfl))) (fun hp => ?_) (fun hp => aq (aq ⟨_, hU.next hxj (by simpa using hp), rfl⟩))
   refine bE fB ?_
   unfold tZ
   rw [Jc hx (by simpa using hp)]
   rfl
 case fin =>
   rintro δ ⟨o, hU, rfl⟩
   rw [aio] at hU
   refine bE (aI (wY (ah (IV E.g E.cX E.ada (aK E.kr) h3 E.cW E.ac9)) (ah (er (aio ..) E.cX (aK E.kr) E.cW))).2 (t2 := .sh (.bl (tZ l))) (congrArg (fun z => T.sh (.bl z)) ?_)) rfl
   unfold tZ
   rw [hU.all, Bool.true_and]
   refine decide_eq_decide.mpr ?_
   rw [← Zi]
   omega
theorem dS : pA (ak gK) ([("names", ay), ("name", ay), ("is_name", au), ("len", au), ("set", au)]) = true := by decide +kernel
theorem ug : aM ["names", "name"] ["names"] (ak gK) := bz
noncomputable abbrev lN : Stmt := top 51
noncomputable abbrev pS : Type := Int
noncomputable def gX : pS -> List L3.D := fun i => [.int i]
noncomputable def gY : pS -> Prop := fun i => True
noncomputable def gZ : pS -> T := fun i => (.sh (.bl (Q0 i)) : T)
structure EF (X : Cx) (CL : Str -> Addr) : Prop extends cO X where
 fP : Ln X 0 "number"
theorem EG {X : Cx} {CL : Str -> Addr} {b : Bx} (E : EF X CL) {i} (h : gY i) :
   aH X CL b lN ["number"] (gX i) (gZ i) := by
 dsimp only [aH, gY, gX, gZ] at h ⊢
 exact bE (Xa Kz Kz (ah (jr (ah (nO (ah ai) (ah ai) ⟨by decide, by decide, by decide⟩)))) (aK E.fP) (ah (nO (ah ai) (ah ai) ⟨by decide, by decide, by decide⟩)) (by with_unfolding_all rfl)).2 rfl
theorem Cu : pA (ak lN) ([("number", ay)]) = true := by decide +kernel
theorem Cv : aM ["number"] ["number"] (ak lN) := bz
noncomputable abbrev gM : Stmt := top 43
noncomputable abbrev jH : Type := (List (Str × Int))
noncomputable def fH : jH -> List L3.D := fun l => [.lst (l.map wM)]
noncomputable def di : jH -> Prop := fun l => (∀ q ∈ l, q.1.length <= 1000) /\ l.length <= 1000
noncomputable def fJ : jH -> T := fun l => (.sh (.bl (xu l)) : T)
structure vI (X : Cx) (CL : Str -> Addr) : Prop extends cO X where
 lJ : Ln X 0 "boxes"
 vf : Ln X 1 "box"
 jI : Gl X "is_bounded"
 eW : Gl X "are_names_right"
 pT : Fc X CL "is_bounded" 1 1 gX gY gZ
 jJ : Fc X CL "are_names_right" 2 1 dg bW dh
theorem vJ {X : Cx} {CL : Str -> Addr} {b : Bx} (E : vI X CL) {l} (h : di l) :
   aH X CL b gM ["boxes", "box"] (fH l) (fJ l) := by
 dsimp only [aH, di, fH, fJ] at h ⊢
 obtain ⟨h1, h3⟩ := h
 refine jY E.g E.vf (fun j δ => ∃ o, sW (fun q : Str × Int => Q0 q.2) l j /\ δ = [some (.sh (.lst (l.map wM))), o]) (nP (v_ E.lJ.1)) ⟨_, .zero, rfl⟩ (fun j δ ⟨_, _, e⟩ => by subst e; exact aip rfl) ?turn ?fin
 case turn =>
   rintro j d δ hj ⟨o, hU, rfl⟩
   obtain ⟨q, Xi, rfl⟩ : ∃ q, l[j]? = some q /\ wM q = d := by rw [aiE] at hj; exact aiH.mp hj
   refine dz (iH (lA (aI (c_ q.2 E.pT E.jI (ao (bM (aK E.vf) (ah ai) (aW (j := 1) rfl)) aS) trivial rfl) (t2 := .sh (.bl (Q0 q.2))) rfl))) (fun hp => ?_) (fun hp => aq (aq ⟨_, hU.next Xi (by simpa using hp), rfl⟩))
   refine bE fB ?_
   unfold xu
   rw [Jc (p := fun q : Str × Int => Q0 q.2) (List.mem_of_getElem? Xi) (by simpa using hp)]
   rfl
 case fin =>
   rintro δ ⟨o, hU, rfl⟩
   rw [aio] at hU
   have hl : ∀ x ∈ l.map (·.1), x.length <= 1000 := fun x hx => by
     obtain ⟨q, hq, rfl⟩ := aiI.mp hx
     exact h1 q hq
   refine bE (aI (c_ (l.map (·.1)) E.jJ E.eW (ao (cy (aI (sr (p := fun _ => true) (g := fun d => T.sh (.str d.at1.toS)) (fU .nil (by decide +kernel)) E.g.calm (nP (v_ E.lJ.1)) (.inr rfl) (fun C s0 H0 f0 b' d hd => ?Jm) (Nat.le_of_lt (cU (by rw [List.length_map]; omega)))) ?VJ)) aS) (by dsimp only [bW]; exact ⟨hl, by rw [List.length_map]; exact h3⟩) rfl) (t2 := .sh (.bl (tZ (l.map (·.1))))) rfl) ?res
   case Jm =>
     obtain ⟨q, hq, rfl⟩ := aiI.mp hd
     exact ⟨rfl, fun _ => gT (bM (ah (v_ (jt (i := 0) rfl (by decide +kernel)))) (ah ai) (aW (j := 0) rfl)) rfl⟩
   case VJ =>
     rw [kE, aiQ, aiQ, aiQ]
     rfl
   case res =>
     unfold xu
     rw [hU.all]
     rfl
theorem gi : pA (ak gM) ([("boxes", ay), ("box", ay), ("is_bounded", au), ("are_names_right", au)]) = true := by decide +kernel
theorem uh : aM ["boxes", "box"] ["boxes"] (ak gM) := bz
noncomputable abbrev iX : Stmt := top 49
noncomputable abbrev iY : Type := List L3.D × List L3.D × L3.D × List L3.D × List L3.D × List L3.D × Int × Int
noncomputable def eX : iY -> List L3.D := fun (bs, nm, tr, is, os, ws, i, c) => [jw bs nm tr is os ws, .tup [.int i, .int c]]
noncomputable def eY : iY -> Prop := fun (bs, nm, tr, is, os, ws, i, c) => True
noncomputable def eZ : iY -> T := fun (bs, nm, tr, is, os, ws, i, c) => (.sh (.bl (yz bs.length i c)) : T)
structure yQ (X : Cx) (CL : Str -> Addr) : Prop extends cO X where
 aR : Ln X 0 "chart"
 A9 : Ln X 1 "term"
 cH : Gl X "is_place"
 jI : Gl X "is_bounded"
 dR : Fc X CL "is_place" 1 2 eN eO eS
 pT : Fc X CL "is_bounded" 1 1 gX gY gZ
 aQ : nJ X.K (CL "Chart")
 bq : nJ X.K (CL "Table")
 b8 : aC X.K (CL "Chart") "boxes"
 b9 : aC X.K (CL "Table") "boxes"
theorem yR {X : Cx} {CL : Str -> Addr} {b : Bx} (E : yQ X CL) {dW : iY} (h : eY dW) :
   aH X CL b iX ["chart", "term"] (eX dW) (eZ dW) := by
 obtain ⟨bs, nm, tr, is, os, ws, i, c⟩ := dW
 dsimp only [aH, eY, eX, eZ] at h ⊢
 exact bE (mq (ab2 (wY (bM (aK E.A9) (ah ai) rfl) (ah (jr (ah ai)))).2 (fun _ => qK (aI (c_ (i, bs) E.dR E.cH (ao (bM (aK E.A9) (ah ai) rfl) (ao (bf E.aQ E.b8 (aK E.aR) m9) aS)) trivial rfl) (t2 := .sh (.bl (tL i bs.length))) rfl))) (fun _ => qK (aI (c_ c E.pT E.jI (ao (bM (aK E.A9) (ah ai) rfl) aS) trivial rfl) (t2 := .sh (.bl (Q0 c))) rfl))) rfl
theorem ic : pA (ak iX) ([("chart", ay), ("term", ay), ("is_place", au), ("is_bounded", au)]) = true := by decide +kernel
theorem xN : aM ["chart", "term"] ["chart", "term"] (ak iX) := bz
noncomputable abbrev iZ : Stmt := top 48
noncomputable abbrev i6 : Type := List L3.D × List L3.D × L3.D × List L3.D × List L3.D × List L3.D × B9
noncomputable def gO : i6 -> List L3.D := fun (bs, nm, tr, is, os, ws, q) => [jw bs nm tr is os ws, dgV q]
noncomputable def gP : i6 -> Prop := fun (bs, nm, tr, is, os, ws, q) => dgL q
noncomputable def gQ : i6 -> T := fun (bs, nm, tr, is, os, ws, q) => (.sh (.bl (Vk bs.length q)) : T)
structure yS (X : Cx) (CL : Str -> Addr) : Prop extends cO X where
 aR : Ln X 0 "chart"
 mL : Ln X 1 "deed"
 nS : Ln X 2 "word"
 cH : Gl X "is_place"
 c6 : Gl X "is_term_right"
 jn : Gl X "is_name"
 dR : Fc X CL "is_place" 1 2 eN eO eS
 gw : Fc X CL "is_term_right" 2 2 eX eY eZ
 lW : Fc X CL "is_name" 1 1 jk jl jm
 aQ : nJ X.K (CL "Chart")
 bq : nJ X.K (CL "Table")
 b8 : aC X.K (CL "Chart") "boxes"
 b9 : aC X.K (CL "Table") "boxes"
theorem yT {X : Cx} {CL : Str -> Addr} {b : Bx} (E : yS X CL) {dW : i6} (h : gP dW) :
   aH X CL b iZ ["chart", "deed", "word"] (gO dW) (gQ dW) := by
 obtain ⟨bs, nm, tr, is, os, ws, q⟩ := dW
 dsimp only [aH, gP, gO, gQ] at h ⊢
 cases q with
 | put i a' c =>
   refine cC E.g E.nS (gT (bM (aK E.mL) (ah ai) (aW (j := 0) rfl)) rfl) ?_
   refine dz (oZ (aK E.nS) (ah b7)).1 (fun _ => ?_) (fun hp => absurd (ajJ hp) (by decide +kernel))
   exact bE (mq (aI (c_ (i, bs) E.dR E.cH (ao (bM (aK E.mL) (ah ai) (aW (j := 1) rfl)) (ao (bf E.aQ E.b8 (aK E.aR) m9) aS)) trivial rfl) (t2 := .sh (.bl (tL i bs.length))) rfl) (fun _ => qK (aI (c_ (bs, nm, tr, is, os, ws, a', c) E.gw E.c6 (ao (aK E.aR) (ao (bM (aK E.mL) (ah ai) (aW (j := 2) rfl)) aS)) trivial rfl) (t2 := .sh (.bl (yz bs.length a' c))) rfl))) rfl
 | say w x a' c =>
   obtain ⟨⟨w1, w2⟩, hx⟩ : (w ≠ "put" /\ w ≠ "call") /\ x.length <= 1000 := h
   refine cC E.g E.nS (gT (bM (aK E.mL) (ah ai) (aW (j := 0) rfl)) rfl) ?_
   refine dz (oZ (aK E.nS) (ah b7)).1 (fun hp => absurd (aiT hp) w1) (fun _ => aq ?_)
   refine dz (oZ (aK E.nS) (ah b7)).1 (fun hp => ?_) (fun hp => aq ?_)
   . refine bE (mq (aI (c_ x E.lW E.jn (ao (bM (aK E.mL) (ah ai) (aW (j := 1) rfl)) aS) hx rfl) (t2 := .sh (.bl (dB x))) rfl) (fun _ => qK (aI (c_ (bs, nm, tr, is, os, ws, a', c) E.gw E.c6 (ao (aK E.aR) (ao (bM (aK E.mL) (ah ai) (aW (j := 2) rfl)) aS)) trivial rfl) (t2 := .sh (.bl (yz bs.length a' c))) rfl))) ?_
     have hp : decide (w = "say") = true := hp
     show T.sh (.bl (dB x && yz bs.length a' c)) = T.sh (.bl (decide (w = "say") && (dB x && yz bs.length a' c)))
     rw [hp]
     rfl
   . refine bE (mq (q := false) (oZ (aK E.nS) (ah b7)).2 (fun hq => absurd (aiT hq) w2)) ?_
     have hp : decide (w = "say") = false := hp
     show T.sh (.bl (_ && false)) = T.sh (.bl (decide (w = "say") && (dB x && yz bs.length a' c)))
     rw [hp, ajm]
     rfl
 | call x =>
   have hx : x.length <= 1000 := h
   refine cC E.g E.nS (gT (bM (aK E.mL) (ah ai) (aW (j := 0) rfl)) rfl) ?_
   refine dz (oZ (aK E.nS) (ah b7)).1 (fun hp => absurd (aiT hp) (by decide +kernel)) (fun _ => aq ?_)
   refine dz (oZ (aK E.nS) (ah b7)).1 (fun hp => absurd (aiT hp) (by decide +kernel)) (fun _ => aq ?_)
   exact bE (aI (mq (oZ (aK E.nS) (ah b7)).2 (fun _ => qK (aI (c_ x E.lW E.jn (ao (bM (aK E.mL) (ah ai) (aW (j := 1) rfl)) aS) hx rfl) (t2 := .sh (.bl (dB x))) rfl))) (t2 := .sh (.bl (dB x))) (congrArg (fun z => T.sh (.bl z)) (by rw [aiA rfl]; rfl))) rfl
theorem dI : pA (ak iZ) ([("chart", ay), ("deed", ay), ("word", ay), ("is_place", au), ("is_term_right", au), ("is_name", au)]) = true := by decide +kernel
theorem xO : aM ["chart", "deed", "word"] ["chart", "deed"] (ak iZ) := bz
noncomputable abbrev gR : Stmt := top 44
noncomputable abbrev gS : Type := List L3.D × List L3.D × L3.D × List (List B9) × List (List B9) × List AU
noncomputable def fK : gS -> List L3.D := fun (bs, nm, tr, is, os, ws) => [jw bs nm tr (is.map fc) (os.map fc) (ws.map jZ)]
noncomputable def dm : gS -> Prop := fun (bs, nm, tr, is, os, ws) => is.length <= 300 /\ os.length <= 300 /\ ws.length <= 100 /\ (∀ l ∈ is ++ os ++ ws.map (·.dl), ∀ q ∈ l, dgL q)
noncomputable def fL : gS -> T := fun (bs, nm, tr, is, os, ws) => (.sh (.bl (AV nm.length bs.length is os ws)) : T)
structure vK (X : Cx) (CL : Str -> Addr) : Prop extends cO X where
 aR : Ln X 0 "chart"
 aT : Ln X 1 "many"
 LY : Ln X 2 "deeds"
 mL : Ln X 3 "deed"
 cW : Gl X "len"
 k7 : Gl X "is_deed_right"
 cX : X.mg "len" = none
 yU : Fc X CL "is_deed_right" 3 2 gO gP gQ
 V5 : ∃ u, X.mg "DEEDS" = some (.int 3 u)
 aQ : nJ X.K (CL "Chart")
 bI : aC X.K (CL "Chart") "names"
 jj : aC X.K (CL "Chart") "ins"
 ia : aC X.K (CL "Chart") "outs"
 f6 : aC X.K (CL "Chart") "ways"
theorem vN {X : Cx} {CL : Str -> Addr} {b : Bx} (E : vK X CL) {dW : gS} (h : dm dW) :
   aH X CL b gR ["chart", "many", "deeds", "deed"] (fK dW) (fL dW) := by
 obtain ⟨bs, nm, tr, is, os, ws⟩ := dW
 dsimp only [aH, dm, fK, fL] at h ⊢
 obtain ⟨h1, h2, h4, h5⟩ := h
 refine cC E.g E.aT (er (n := nm.length) rfl E.cX (bf E.aQ E.bI (aK E.aR) gU) E.cW) ?_
 refine dz (tS (lB (oY (ah (er (n := is.length) (aio ..) E.cX (bf E.aQ E.jj (aK E.aR) xj) E.cW)) (aK E.aT)).1 (fun _ => mj (oY (ah (er (n := os.length) (aio ..) E.cX (bf E.aQ E.ia (aK E.aR) tX) E.cW)) (aK E.aT)).1))) (fun hp => ?_) (fun hp => aq ?_)
 . refine bE fB ?_
   have hp : (!decide (((is.length : Nat) : Int) = (nm.length : Nat)) || !decide (((os.length : Nat) : Int) = (nm.length : Nat))) = true := hp
   unfold AV
   by_cases e1 : is.length = nm.length
   . by_cases e2 : os.length = nm.length
     . rw [aiA (show ((is.length : Nat) : Int) = (nm.length : Nat) by omega), aiA (show ((os.length : Nat) : Int) = (nm.length : Nat) by omega)] at hp
       cases hp
     . rw [ai1 e2, ajG, ajm]
   . rw [ai1 e1, ajG]
 have hp : (!decide (((is.length : Nat) : Int) = (nm.length : Nat)) || !decide (((os.length : Nat) : Int) = (nm.length : Nat))) = false := hp
 rw [ajC] at hp
 have e1 : is.length = nm.length := by have : ((is.length : Nat) : Int) = (nm.length : Nat) := by simpa using hp.1
                                       omega
 have e2 : os.length = nm.length := by have : ((os.length : Nat) : Int) = (nm.length : Nat) := by simpa using hp.2
                                       omega
 have Zv : AV nm.length bs.length is os ws = (is ++ os ++ ws.map (·.dl)).all fun l => l.all (Vk bs.length) := by
   unfold AV
   rw [aiA e1, aiA e2]
   rfl
 have im : ∀ l : List (List B9), D.bK (l.map fc) = true := fun l => aL oB l
 rw [Zv]
 refine jY E.g E.LY (fun j δ => ∃ o1 o2, sW (fun l => l.all (Vk bs.length)) (is ++ os ++ ws.map (·.dl)) j /\ δ = [some (.sh (jw bs nm tr (is.map fc) (os.map fc) (ws.map jZ))), some (.sh (.int nm.length)), o1, o2])
   (nP (zK (ds := (is ++ os ++ ws.map (·.dl)).map fc) (aI (sq (ds := (is ++ os).map fc) (OI := (ws.map (·.dl)).map fc) (cy (aI (sq (bf E.aQ E.jj (aK E.aR) xj) (bf E.aQ E.ia (aK E.aR) tX) (im is) (im os) (ajj (cU (by simp; omega)))) (by rw [← aiL]))) (cy (aI (sr (p := fun _ => true) (g := fun d => T.sh (afz d)) (fU .nil (by decide +kernel)) E.g.calm (nP (i9 E.aQ E.f6 (v_ E.aR.1) tY)) (.inr rfl) (fun C s0 H0 f0 b' d hd => ?Jm) (ajj (cU (by rw [aio]; omega)))) ?VJ)) (im _) (im _) (ajj (cU (by simp; omega)))) (by rw [← aiL])))) ⟨_, _, .zero, rfl⟩ (fun j δ ⟨_, _, _, e⟩ => by subst e; exact aip rfl) ?turn ?fin
 case Jm =>
   obtain ⟨w, hw, rfl⟩ := aiI.mp hd
   exact ⟨rfl, fun _ => gT (bM (ah (v_ (jt (i := 0) rfl (by decide +kernel)))) (ah (iN (by exact E.V5) (sd (by decide +kernel)))) (aW (j := 3) rfl)) (oB w.dl)⟩
 case VJ =>
   rw [kE, aiQ, aiQ, aiQ]
   rfl
 case turn =>
   rintro j d δ hj ⟨o1, o2, hU, rfl⟩
   obtain ⟨l, hlj, rfl⟩ : ∃ l, (is ++ os ++ ws.map (·.dl))[j]? = some l /\ fc l = d := by rw [aiE] at hj; exact aiH.mp hj
   have hlm := aiM hlj
   have hq := h5 l hlm
   refine jY E.g E.mL (fun j δ => ∃ o2, sW (Vk bs.length) l j /\ δ = [some (.sh (jw bs nm tr (is.map fc) (os.map fc) (ws.map jZ))), some (.sh (.int nm.length)), some (.sh (fc l)), o2]) (DE (v_ E.LY.1)) ⟨_, .zero, rfl⟩ (fun j δ ⟨_, _, e⟩ => by subst e; exact aip rfl) ?oJ ?fin2
   case oJ =>
     rintro i d δ hi ⟨o2, hU2, rfl⟩
     obtain ⟨q, Xi, rfl⟩ : ∃ q, l[i]? = some q /\ dgV q = d := by rw [aiE] at hi; exact aiH.mp hi
     have hqm := aiM Xi
     refine dz (iH (lA (aI (c_ (bs, nm, tr, is.map fc, os.map fc, ws.map jZ, q) E.yU E.k7 (ao (aK E.aR) (ao (aK E.mL) aS)) (hq q hqm) rfl) (t2 := .sh (.bl (Vk bs.length q))) rfl))) (fun hp => ?_) (fun hp => aq (aq ⟨_, hU2.next Xi (by simpa using hp), rfl⟩))
     refine bE fB ?_
     rw [Jc (p := fun l : List B9 => l.all (Vk bs.length)) hlm (Jc hqm (by simpa using hp))]
   case fin2 =>
     rintro δ ⟨o2, hU2, rfl⟩
     rw [aio] at hU2
     exact aq ⟨_, _, hU.next hlj hU2.all, rfl⟩
 case fin =>
   rintro δ ⟨o1, o2, hU, rfl⟩
   rw [aio] at hU
   exact bE fB (by rw [hU.all])
theorem cJ : pA (ak gR) ([("chart", ay), ("many", ay), ("deeds", ay), ("deed", ay), ("len", au), ("is_deed_right", au)]) = true := by decide +kernel
theorem um : aM ["chart", "many", "deeds", "deed"] ["chart"] (ak gR) := bz
noncomputable abbrev jK : Stmt := top 47
noncomputable abbrev jL : Type := List L3.D × List L3.D × L3.D × List L3.D × List L3.D × List L3.D × ZG
noncomputable def ig : jL -> List L3.D := fun (bs, nm, tr, is, os, ws, q) => [jw bs nm tr is os ws, ZH q]
noncomputable def iu : jL -> Prop := fun (bs, nm, tr, is, os, ws, q) => Vh q
noncomputable def iy : jL -> T := fun (bs, nm, tr, is, os, ws, q) => (.sh (.bl (lkI nm.length bs.length q)) : T)
structure Ba (X : Cx) (CL : Str -> Addr) : Prop extends cO X where
 aR : Ln X 0 "chart"
 yF : Ln X 1 "ask"
 rj : Ln X 2 "mark"
 cH : Gl X "is_place"
 yV : Gl X "MARKS_looking"
 c6 : Gl X "is_term_right"
 dR : Fc X CL "is_place" 1 2 eN eO eS
 k8 : GT X "MARKS_looking" ["<", "<=", "=", "!="]
 gw : Fc X CL "is_term_right" 2 2 eX eY eZ
 aQ : nJ X.K (CL "Chart")
 bI : aC X.K (CL "Chart") "names"
theorem Bb {X : Cx} {CL : Str -> Addr} {b : Bx} (E : Ba X CL) {dW : jL} (h : iu dW) :
   aH X CL b jK ["chart", "ask", "mark"] (ig dW) (iy dW) := by
 obtain ⟨bs, nm, tr, is, os, ws, q⟩ := dW
 dsimp only [aH, iu, ig, iy] at h ⊢
 cases q with
 | Vg x m =>
   refine cC E.g E.rj (gT (bM (aK E.yF) (ah ai) (aW (j := 0) rfl)) rfl) ?_
   refine dz (Qe (l := ["open", "shut"]) (aK E.rj) (sf rfl)).1 (fun _ => ?_) (fun hp => absurd (show x ∈ (["open", "shut"] : List Str) from h) (ajJ hp))
   exact bE (aI (c_ (m, nm) E.dR E.cH (ao (bM (aK E.yF) (ah ai) (aW (j := 1) rfl)) (ao (bf E.aQ E.bI (aK E.aR) gU) aS)) trivial rfl) rfl) rfl
 | num mk a1 c1 a2 c2 =>
   refine cC E.g E.rj (gT (bM (aK E.yF) (ah ai) (aW (j := 0) rfl)) rfl) ?_
   refine dz (Qe (l := ["open", "shut"]) (aK E.rj) (sf rfl)).1 (fun hp => absurd (aiT hp) h) (fun _ => aq ?_)
   exact bE (mq (DL (l := ["<", "<=", "=", "!="]) (aK E.rj) (ah (qO E.k8 E.yV)) rfl rfl).2 (fun _ => mq (aI (c_ (bs, nm, tr, is, os, ws, a1, c1) E.gw E.c6 (ao (aK E.aR) (ao (bM (aK E.yF) (ah ai) (aW (j := 1) rfl)) aS)) trivial rfl) (t2 := .sh (.bl (yz bs.length a1 c1))) rfl) (fun _ => qK (aI (c_ (bs, nm, tr, is, os, ws, a2, c2) E.gw E.c6 (ao (aK E.aR) (ao (bM (aK E.yF) (ah ai) (aW (j := 2) rfl)) aS)) trivial rfl) (t2 := .sh (.bl (yz bs.length a2 c2))) rfl)))) rfl
theorem d9 : pA (ak jK) ([("chart", ay), ("ask", ay), ("mark", ay), ("is_place", au), ("MARKS_looking", au), ("is_term_right", au)]) = true := by decide +kernel
theorem yW : aM ["chart", "ask", "mark"] ["chart", "ask"] (ak jK) := bz
noncomputable abbrev jM : Stmt := top 46
noncomputable abbrev jN : Type := List L3.D × List L3.D × L3.D × List L3.D × List L3.D × List L3.D × AU
noncomputable def iz : jN -> List L3.D := fun (bs, nm, tr, is, os, ws, w) => [jw bs nm tr is os ws, jZ w]
noncomputable def iA : jN -> Prop := fun (bs, nm, tr, is, os, ws, w) => w.ok
noncomputable def iB : jN -> T := fun (bs, nm, tr, is, os, ws, w) => (.sh (.bl (Q5 nm.length bs.length w)) : T)
structure Bc (X : Cx) (CL : Str -> Addr) : Prop extends cO X where
 aR : Ln X 0 "chart"
 lF : Ln X 1 "way"
 Bd : Ln X 2 "target"
 Jz : Ln X 3 "mode"
 yF : Ln X 4 "ask"
 RW : Gl X "TARGET"
 aag : Gl X "MODE"
 cH : Gl X "is_place"
 vO : Gl X "SOURCE"
 jn : Gl X "is_name"
 aah : Gl X "SIGN"
 V6 : Gl X "MODES"
 aai : Gl X "ASKS"
 mO : Gl X "is_ask_right"
 RX : ∃ u, X.mg "TARGET" = some (.int 4 u)
 aaj : ∃ u, X.mg "MODE" = some (.int 5 u)
 dR : Fc X CL "is_place" 1 2 eN eO eS
 vP : ∃ u, X.mg "SOURCE" = some (.int 0 u)
 lW : Fc X CL "is_name" 1 1 jk jl jm
 aak : ∃ u, X.mg "SIGN" = some (.int 1 u)
 EH : GT X "MODES" ["new", "near", "far"]
 aal : ∃ u, X.mg "ASKS" = some (.int 2 u)
 Be : Fc X CL "is_ask_right" 3 2 ig iu iy
 aQ : nJ X.K (CL "Chart")
 bI : aC X.K (CL "Chart") "names"
theorem Bf {X : Cx} {CL : Str -> Addr} {b : Bx} (E : Bc X CL) {dW : jN} (h : iA dW) :
   aH X CL b jM ["chart", "way", "target", "mode", "ask"] (iz dW) (iB dW) := by
 obtain ⟨bs, nm, tr, is, os, ws, w⟩ := dW
 dsimp only [aH, iA, iz, iB] at h ⊢
 obtain ⟨src, sg, al, dl, tg, md⟩ := w
 obtain ⟨h2, h6⟩ : sg.length <= 1000 /\ ∀ q ∈ al, Vh q := h
 have hW : Q5 nm.length bs.length ⟨src, sg, al, dl, tg, md⟩ = (tL src nm.length && (dB sg && (decide (md ∈ qV) && ((if tg = -1 then decide (md = "new") else tL tg nm.length) && al.all (lkI nm.length bs.length))))) := rfl
 rw [hW]
 refine cC E.g E.Bd (gT (bM (aK E.lF) (ah (iN E.RX E.RW)) (aW (j := 4) rfl)) rfl) ?_
 refine cC E.g E.Jz (gT (bM (aK E.lF) (ah (iN E.aaj E.aag)) (aW (j := 5) rfl)) rfl) ?_
 refine dz (tS (lB (iH (lA (aI (c_ (src, nm) E.dR E.cH (ao (bM (aK E.lF) (ah (iN E.vP E.vO)) (aW (j := 0) rfl)) (ao (bf E.aQ E.bI (aK E.aR) gU) aS)) trivial rfl) (t2 := .sh (.bl (tL src nm.length))) rfl))) (fun _ => lB (iH (lA (aI (c_ sg E.lW E.jn (ao (bM (aK E.lF) (ah (iN E.aak E.aah)) (aW (j := 1) rfl)) aS) h2 rfl) (t2 := .sh (.bl (dB sg))) rfl))) (fun _ => mj (DM (l := qV) (aK E.Jz) (ah (qO E.EH E.V6)) rfl rfl).1)))) (fun hp => ?_) (fun hp => aq ?_)
 . have hp : (!tL src nm.length || (!dB sg || !decide (md ∈ qV))) = true := hp
   refine bE fB ?_
   generalize decide (md ∈ qV) = b3 at hp ⊢
   generalize tL src nm.length = b1 at hp ⊢
   generalize dB sg = b2 at hp ⊢
   cases b1
   . rfl
   . cases b2
     . rfl
     . cases b3
       . rfl
       . cases hp
 have hp : (!tL src nm.length || (!dB sg || !decide (md ∈ qV))) = false := hp
 rw [ajC, ajC] at hp
 rw [show tL src nm.length = true from by simpa using hp.1, show dB sg = true from by simpa using hp.2.1, show decide (md ∈ qV) = true from by simpa using hp.2.2]
 refine aeX (fun δ => (if tg = -1 then decide (md = "new") else tL tg nm.length) = true /\ δ = [some (.sh (jw bs nm tr is os ws)), some (.sh (jZ ⟨src, sg, al, dl, tg, md⟩)), some (.sh (.int tg)), some (.sh (.str md)), none]) (fun δ2 e2 => ?_) (fun k => ?_)
 . obtain ⟨e1, rfl⟩ := e2
   rw [e1]
   refine jY E.g E.yF (fun j δ => ∃ o, sW (lkI nm.length bs.length) al j /\ δ = [some (.sh (jw bs nm tr is os ws)), some (.sh (jZ ⟨src, sg, al, dl, tg, md⟩)), some (.sh (.int tg)), some (.sh (.str md)), o])
     (DE (gT (bM (aK E.lF) (ah (iN E.aal E.aai)) (aW (j := 2) rfl)) (GD al))) ⟨_, .zero, rfl⟩ (fun j δ ⟨_, _, e⟩ => by subst e; exact aip rfl) ?turn ?fin
   case turn =>
     rintro j d δ hj ⟨o, hU, rfl⟩
     obtain ⟨q, Xi, rfl⟩ : ∃ q, al[j]? = some q /\ ZH q = d := by rw [aiE] at hj; exact aiH.mp hj
     have hqm := aiM Xi
     refine dz (iH (lA (aI (c_ (bs, nm, tr, is, os, ws, q) E.Be E.mO (ao (aK E.aR) (ao (aK E.yF) aS)) (h6 q hqm) rfl) (t2 := .sh (.bl (lkI nm.length bs.length q))) rfl))) (fun hp => ?_) (fun hp => aq (aq ⟨_, hU.next Xi (by simpa using hp), rfl⟩))
     exact bE fB (by rw [Jc hqm (by simpa using hp)]; rfl)
   case fin =>
     rintro δ ⟨o, hU, rfl⟩
     rw [aio] at hU
     exact bE fB (by rw [hU.all]; rfl)
 refine dz (wY (aK E.Bd) (ah (jr (ah ai)))).1 (fun hp => ?_) (fun hp => ?_)
 . have e1 : tg = -1 := aiT hp
   refine dz (P6 (aK E.Jz) (ah b7)).1 (fun hp => ?_) (fun hp => aq (aq (k _ ⟨by rw [if_pos e1]; simpa using hp, rfl⟩)))
   refine bE fB ?_
   rw [if_pos e1, show decide (md = "new") = false from by simpa using hp]
   rfl
 . have e1 : ¬ tg = -1 := ajJ hp
   refine dz (iH (lA (aI (c_ (tg, nm) E.dR E.cH (ao (aK E.Bd) (ao (bf E.aQ E.bI (aK E.aR) gU) aS)) trivial rfl) (t2 := .sh (.bl (tL tg nm.length))) rfl))) (fun hp => ?_) (fun hp => aq (aq (k _ ⟨by rw [if_neg e1]; simpa using hp, rfl⟩)))
   refine bE fB ?_
   rw [if_neg e1, show tL tg nm.length = false from by simpa using hp]
   rfl
theorem aU : pA (ak jM) ([("chart", ay), ("way", ay), ("target", ay), ("mode", ay), ("ask", ay), ("TARGET", au), ("MODE", au), ("is_place", au), ("SOURCE", au), ("is_name", au), ("SIGN", au), ("MODES", au), ("ASKS", au), ("is_ask_right", au)]) = true := by decide +kernel
theorem yX : aM ["chart", "way", "target", "mode", "ask"] ["chart", "way"] (ak jM) := bz
noncomputable abbrev iC : Stmt := top 45
noncomputable abbrev iD : Type := List L3.D × List L3.D × L3.D × List L3.D × List L3.D × List AU
noncomputable def gj : iD -> List L3.D := fun (bs, nm, tr, is, os, ws) => [jw bs nm tr is os (ws.map jZ)]
noncomputable def gk : iD -> Prop := fun (bs, nm, tr, is, os, ws) => ∀ w ∈ ws, w.ok
noncomputable def gn : iD -> T := fun (bs, nm, tr, is, os, ws) => (.sh (.bl (Nq nm.length bs.length 0 ws)) : T)
structure xP (X : Cx) (CL : Str -> Addr) : Prop extends cO X where
 aR : Ln X 0 "chart"
 JA : Ln X 1 "last"
 lF : Ln X 2 "way"
 vO : Gl X "SOURCE"
 mP : Gl X "is_way_right"
 vP : ∃ u, X.mg "SOURCE" = some (.int 0 u)
 Bg : Fc X CL "is_way_right" 4 2 iz iA iB
 aQ : nJ X.K (CL "Chart")
 f6 : aC X.K (CL "Chart") "ways"
theorem xQ {X : Cx} {CL : Str -> Addr} {b : Bx} (E : xP X CL) {dW : iD} (h : gk dW) :
   aH X CL b iC ["chart", "last", "way"] (gj dW) (gn dW) := by
 obtain ⟨bs, nm, tr, is, os, ws⟩ := dW
 dsimp only [aH, gk, gj, gn] at h ⊢
 refine cC E.g E.JA ai ?_
 refine jY E.g E.lF (fun j δ => ∃ (l : Int) (o : Option T), Nq nm.length bs.length 0 ws = Nq nm.length bs.length l (ws.drop j) /\ δ = [some (.sh (jw bs nm tr is os (ws.map jZ))), some (.sh (.int l)), o])
   (nP (i9 E.aQ E.f6 (v_ E.aR.1) tY)) ⟨0, none, rfl, rfl⟩ (fun j δ ⟨_, _, _, e⟩ => by subst e; exact aip rfl) ?turn ?fin
 case turn =>
   rintro j d δ hj ⟨l, o, hl, rfl⟩
   obtain ⟨w, hw, rfl⟩ : ∃ w, ws[j]? = some w /\ jZ w = d := by rw [aiE] at hj; exact aiH.mp hj
   have OW : j < ws.length := (aiS.mp hw).1
   have hdr : ws.drop j = w :: ws.drop (j + 1) := by rw [List.drop_eq_getElem_cons OW, (aiS.mp hw).2]
   have hwm : w ∈ ws := aiM hw
   rw [hdr, Nq] at hl
   refine dz (tS (lB (CM (bM (aK E.lF) (ah (iN E.vP E.vO)) (aW (j := 0) rfl)) (aK E.JA)).1 (fun _ => mj (iH (lA (aI (c_ (bs, nm, tr, is, os, ws.map jZ, w) E.Bg E.mP (ao (aK E.aR) (ao (aK E.lF) aS)) (h w hwm) rfl) (t2 := .sh (.bl (Q5 nm.length bs.length w))) rfl)))))) (fun hp => ?_) (fun hp => aq ?_)
   . have hp : (decide (w.src < l) || !Q5 nm.length bs.length w) = true := hp
     refine bE fB ?_
     rw [hl]
     cases hd : decide (w.src < l) with
     | true => rfl
     | false =>
       rw [hd] at hp
       rw [show Q5 nm.length bs.length w = false from by simpa using hp]
       rfl
   . have hp : (decide (w.src < l) || !Q5 nm.length bs.length w) = false := hp
     rw [ajC] at hp
     rw [hp.1, show Q5 nm.length bs.length w = true from by simpa using hp.2] at hl
     exact cC E.g E.JA (gT (bM (aK E.lF) (ah (iN E.vP E.vO)) (aW (j := 0) rfl)) rfl) (aq ⟨w.src, _, hl, rfl⟩)
 case fin =>
   rintro δ ⟨l, o, hl, rfl⟩
   rw [aio, List.drop_length] at hl
   exact bE fB (by rw [hl]; rfl)
theorem e7 : pA (ak iC) ([("chart", ay), ("last", ay), ("way", ay), ("SOURCE", au), ("is_way_right", au)]) = true := by decide +kernel
theorem vQ : aM ["chart", "last", "way"] ["chart"] (ak iC) := bz
noncomputable abbrev vR : Stmt := top 37
noncomputable abbrev vS : Type := (List (Str × Int)) × List Str × List Str × List Int × List Int × List (List B9) × List (List B9) × List AU
noncomputable def pU : vS -> List L3.D := fun (bs, nm, ks, es, ss, is, os, ws) => [jw (bs.map wM) (nm.map .str) (lC ks es ss) (is.map fc) (os.map fc) (ws.map jZ)]
noncomputable def mQ : vS -> Prop := fun (bs, nm, ks, es, ss, is, os, ws) => Lx bs nm ks is os ws /\ Vo bs nm ks es ss is os ws = -1
noncomputable def pV : vS -> T := fun (bs, nm, ks, es, ss, is, os, ws) => (.sh .non : T)
structure RZ (X : Cx) (CL : Str -> Addr) : Prop extends cO X where
 aR : Ln X 0 "chart"
 k9 : Gl X "is_tree_right"
 aa9 : Gl X "BadTree"
 eW : Gl X "are_names_right"
 abb : Gl X "BadName"
 jO : Gl X "are_boxes_right"
 adb : Gl X "BadBox"
 jP : Gl X "are_deeds_right"
 abd : Gl X "BadDeed"
 j7 : Gl X "are_ways_right"
 ade : Gl X "BadWay"
 yZ : Fc X CL "is_tree_right" 4 2 gH gI gJ
 jJ : Fc X CL "are_names_right" 2 1 dg bW dh
 vU : Fc X CL "are_boxes_right" 3 1 fH di fJ
 vV : Fc X CL "are_deeds_right" 4 1 fK dm fL
 xR : Fc X CL "are_ways_right" 5 1 gj gk gn
 aQ : nJ X.K (CL "Chart")
 bq : nJ X.K (CL "Table")
 jC : aC X.K (CL "Chart") "tree"
 bI : aC X.K (CL "Chart") "names"
 b8 : aC X.K (CL "Chart") "boxes"
 b9 : aC X.K (CL "Table") "boxes"
theorem R0 {X : Cx} {CL : Str -> Addr} {b : Bx} (E : RZ X CL) {dW : vS} (h : mQ dW) :
   aH X CL b vR ["chart"] (pU dW) (pV dW) := by
 obtain ⟨bs, nm, ks, es, ss, is, os, ws⟩ := dW
 dsimp only [aH, mQ, pU, pV] at h ⊢
 obtain ⟨hs, hr⟩ := h
 have el : (nm.map L3.D.str).length = nm.length := aio ..
 have eb : (bs.map wM).length = bs.length := aio ..
 unfold Vo at hr
 refine dz (iH (lA (aI (c_ (ks, es, ss, nm.map L3.D.str) E.yZ E.k9 (ao (bf E.aQ E.jC (aK E.aR) AH) (ao (bf E.aQ E.bI (aK E.aR) gU) aS)) hs.k1 rfl) (t2 := .sh (.bl (Tt ks es ss nm.length))) (by show T.sh (.bl (Tt ks es ss (nm.map L3.D.str).length)) = _; rw [el])))) (fun hp => ?_) (fun hp => aq ?_)
 . rw [aiC (show Tt ks es ss nm.length = false from nb0 hp)] at hr
   exact absurd hr (by decide)
 rw [aiu (show ¬ Tt ks es ss nm.length = false from nbF hp)] at hr
 refine dz (iH (lA (aI (c_ nm E.jJ E.eW (ao (bf E.aQ E.bI (aK E.aR) gU) aS) (by dsimp only [bW]; exact ⟨hs.n1, hs.n2⟩) rfl) (t2 := .sh (.bl (tZ nm))) rfl))) (fun hp => ?_) (fun hp => aq ?_)
 . rw [aiC (show tZ nm = false from nb0 hp)] at hr
   exact absurd hr (by decide)
 rw [aiu (show ¬ tZ nm = false from nbF hp)] at hr
 refine dz (iH (lA (aI (c_ bs E.vU E.jO (ao (bf E.aQ E.b8 (aK E.aR) m9) aS) (by dsimp only [di]; exact ⟨hs.b1, hs.b2⟩) rfl) (t2 := .sh (.bl (xu bs))) rfl))) (fun hp => ?_) (fun hp => aq ?_)
 . rw [aiC (show xu bs = false from nb0 hp)] at hr
   exact absurd hr (by decide)
 rw [aiu (show ¬ xu bs = false from nbF hp)] at hr
 refine dz (iH (lA (aI (c_ (bs.map wM, nm.map L3.D.str, lC ks es ss, is, os, ws) E.vV E.jP (ao (aK E.aR) aS) (by dsimp only [dm]; exact ⟨hs.i1, hs.o1, hs.w1, hs.d1⟩) rfl) (t2 := .sh (.bl (AV nm.length bs.length is os ws))) (by show T.sh (.bl (AV (nm.map L3.D.str).length (bs.map wM).length is os ws)) = _; rw [el, eb])))) (fun hp => ?_) (fun hp => aq ?_)
 . rw [aiC (show AV nm.length bs.length is os ws = false from nb0 hp)] at hr
   exact absurd hr (by decide)
 rw [aiu (show ¬ AV nm.length bs.length is os ws = false from nbF hp)] at hr
 refine dz (iH (lA (aI (c_ (bs.map wM, nm.map L3.D.str, lC ks es ss, is.map fc, os.map fc, ws) E.xR E.j7 (ao (aK E.aR) aS) hs.w2 rfl) (t2 := .sh (.bl (Nq nm.length bs.length 0 ws))) (by show T.sh (.bl (Nq (nm.map L3.D.str).length (bs.map wM).length 0 ws)) = _; rw [el, eb])))) (fun hp => ?_) (fun hp => aq ?_)
 . rw [aiC (show Nq nm.length bs.length 0 ws = false from nb0 hp)] at hr
   exact absurd hr (by decide)
 rw [aiu (show ¬ Nq nm.length bs.length 0 ws = false from nbF hp)] at hr
 exact aq rfl
theorem fQ : pA (ak vR) ([("chart", ay), ("is_tree_right", au), ("BadTree", au), ("are_names_right", au), ("BadName", au), ("are_boxes_right", au), ("BadBox", au), ("are_deeds_right", au), ("BadDeed", au), ("are_ways_right", au), ("BadWay", au)]) = true := by decide +kernel
theorem N2 : aM ["chart"] ["chart"] (ak vR) := bz
noncomputable abbrev lO : Stmt := inClass (top 31) 0
noncomputable abbrev pW : Type := List L3.D × List L3.D × List L3.D × List L3.D × (List (bH × List L3.D))
noncomputable def rL : pW -> List L3.D := fun (bs, hs, bg, pr, kvs) => [.lst bs, .lst hs, .tup bg, .lst pr, .dct (kJ kvs)]
noncomputable def rM : pW -> Prop := fun (bs, hs, bg, pr, kvs) => D.bK bs = true /\ D.bK hs = true /\ D.bK pr = true /\ (∀ q ∈ kvs, D.bK q.2 = true) /\ (kvs.map (·.1)).Nodup /\ kvs.length <= 1000
noncomputable def rN : pW -> List (Str × T) := fun (bs, hs, bg, pr, kvs) => (Je bs hs bg pr kvs : List (Str × T))
structure EI (X : Cx) (CL : Str -> Addr) : Prop extends cO X where
 gW : Ln X 0 "self"
 lJ : Ln X 1 "boxes"
 V7 : Ln X 2 "signs"
 zP : Ln X 3 "begin"
 lI : Ln X 4 "flats"
 dD : Ln X 5 "rows"
 R1 : Ln X 6 "key"
 fY : Gl X "list"
 iS : Gl X "tuple"
 fZ : X.mg "list" = none
 iT : X.mg "tuple" = none
 aQ : nJ X.K (CL "Chart")
 bq : nJ X.K (CL "Table")
 b8 : aC X.K (CL "Chart") "boxes"
 b9 : aC X.K (CL "Table") "boxes"
 dH : aC X.K (CL "Table") "signs"
 fk : aC X.K (CL "Table") "begin"
 cL : aC X.K (CL "Table") "flats"
 g9 : aC X.K (CL "Table") "rows"
theorem EJ {X : Cx} {CL : Str -> Addr} {b : Bx} (E : EI X CL) (bs hs bg pr : List L3.D) (kvs : List (bH × List L3.D)) (y : Addr) (h : D.bK bs = true /\ D.bK hs = true /\ D.bK pr = true /\ (∀ q ∈ kvs, D.bK q.2 = true) /\ (kvs.map (·.1)).Nodup /\ kvs.length <= 1000) :
   e9 X CL b (dU lO) (IC ["self", "boxes", "signs", "begin", "flats", "rows", "key"] y "Table" [.lst bs, .lst hs, .tup bg, .lst pr, .dct (kJ kvs)]) { nx := fun δ => δ[0]? = some (some (.pin y (.ins "Table" (Je bs hs bg pr kvs)))), rt := fun _ _ => False } := by
 obtain ⟨h1, h2, h3, h4, h5, h6⟩ := h
 refine m7 E.bq E.b9 E.gW.1 (dO E.fZ (aK E.lJ) h1 E.fY bV) rfl (aip rfl) ?_
 rw [ez]
 refine m7 E.bq E.dH E.gW.1 (dO E.fZ (aK E.V7) h2 E.fY bV) rfl (aip rfl) ?_
 rw [aJ (by decide +kernel), ez]
 refine m7 E.bq E.fk E.gW.1 (CV E.iT (v_ E.zP.1) E.iS) rfl (aip rfl) ?_
 rw [aJ (by decide +kernel), aJ (by decide +kernel), ez]
 refine m7 E.bq E.cL E.gW.1 (dO E.fZ (aK E.lI) h3 E.fY bV) rfl (aip rfl) ?_
 rw [aJ (by decide +kernel), aJ (by decide +kernel), aJ (by decide +kernel), ez]
 refine m7 E.bq E.g9 E.gW.1 Gw rfl (aip rfl) ?_
 rw [aJ (by decide +kernel), aJ (by decide +kernel), aJ (by decide +kernel), aJ (by decide +kernel), ez]
 refine U5 E.g E.R1 (fun j δ => ∃ o, δ = [some (.pin y (.ins "Table" (sX bs hs bg pr (.dct (j0 (kvs.take j)))))), some (.sh (.lst bs)), some (.sh (.lst hs)), some (.sh (.tup bg)), some (.sh (.lst pr)), some (.sh (.dct (kJ kvs))), o]) (v_ E.dD.1) ⟨_, rfl⟩ (fun j δ ⟨_, e⟩ => by subst e; exact aip rfl) ?turn ?fin
 case turn =>
   rintro b' j k d δ hj ⟨o, rfl⟩
   have hj0 := hj
   unfold kJ at hj
   rw [aiE] at hj
   obtain ⟨q, hq, e⟩ := aiH.mp hj
   cases e
   have hqm := aiM hq
   have OW : j < kvs.length := (aiS.mp hq).1
   have hv : ja (kJ kvs) q.1 = some (.lst q.2) := Vp (by rw [Jg]; exact h5) hj0
   have hn : q.1 ∉ (j0 (kvs.take j)).map (·.1) := fun hm => by
     rw [Jh, List.map_take] at hm
     obtain ⟨i, hi, e⟩ := List.getElem_of_mem hm
     rw [ajr] at hi
     rw [List.getElem_take] at e
     have Xd : i < (kvs.map (·.1)).length := by omega
     have := (List.getElem?_inj Xd h5).mp (show (kvs.map (·.1))[i]? = (kvs.map (·.1))[j]? by
       rw [aiG Xd, e, aiE, hq]
       rfl)
     omega
   refine U7 q.1 E.u (dO E.fZ (Qs q.1 E.u (aK E.dD) (Lg E.R1.1 rfl) hv) (h4 q hqm) E.fY bV) (Zm E.bq E.g9 (g7 E.gW.1 rfl) rfl rfl xx) (Lg E.R1.1 rfl) rfl (kvs := j0 (kvs.take j)) (by show (List.lookup ("rows" : Str) (sX bs hs bg pr (.dct (j0 (kvs.take j))))).bind _ = _; rw [xx]; rfl) hn (by unfold j0; rw [aio, ajr]; omega) (aq ⟨some (oA q.1), ?_⟩)
   have e : T.qQ [.fld "rows"] (.dct (j0 (kvs.take j) ++ [(q.1, .lst (q.2.map T.sh))])) (.pin y (.ins "Table" (sX bs hs bg pr (.dct (j0 (kvs.take j)))))) = .pin y (.ins "Table" (sX bs hs bg pr (.dct (j0 (kvs.take (j + 1)))))) := by
     have et : j0 (kvs.take j) ++ [(q.1, T.lst (q.2.map T.sh))] = j0 (kvs.take (j + 1)) := by
       unfold j0
       rw [ajt, hq, aiL]
       rfl
     rw [et]
     exact Nt
   show [some (T.qQ [.fld "rows"] _ _), _, _, _, _, _, _] = _
   rw [e]
 case fin =>
   rintro δ ⟨o, rfl⟩
   rw [show (kJ kvs).length = kvs.length by unfold kJ; rw [aio], ajx]
   exact aq rfl
theorem cM : pA (ak lO) ([("self", ay), ("boxes", ay), ("signs", ay), ("begin", ay), ("flats", ay), ("rows", ay), ("key", ay), ("list", au), ("tuple", au)]) = true := by decide +kernel
theorem tQ : aM ["self", "boxes", "signs", "begin", "flats", "rows", "key"] ["self", "boxes", "signs", "begin", "flats", "rows"] (ak lO) := bz
noncomputable abbrev LZ : Stmt := top 62
noncomputable abbrev R3 : Type := List Int
noncomputable def sN : R3 -> List L3.D := fun a => [.lst (a.map .int)]
noncomputable def sO : R3 -> Prop := fun a => a.length <= 63
noncomputable def sP : R3 -> T := fun a => (.sh (.bl true) : T)
structure adf (X : Cx) (CL : Str -> Addr) : Prop extends cO X where
 dQ : Ln X 0 "script"
 aam : Ln X 1 "at"
 pX : Ln X 2 "part"
 R4 : Ln X 3 "bits"
 fP : Ln X 4 "number"
 JB : Ln X 5 "spot"
 bX : Ln X 6 "table"
 G6 : Ln X 7 "fields"
 aR : Ln X 8 "chart"
 aT : Ln X 9 "many"
 bL : Ln X 10 "tree"
 cY : Gl X "range"
 cW : Gl X "len"
 Cw : Gl X "_law_pieces"
 gV : Gl X "_law_cell_at"
 kT : Gl X "enumerate"
 fY : Gl X "list"
 V8 : Gl X "Table"
 uo : Gl X "unnested"
 G7 : Gl X "_law_ways"
 rJ : Gl X "_law_told"
 Bh : Gl X "looked"
 cZ : X.mg "range" = none
 cX : X.mg "len" = none
 R5 : Fc X CL "_law_pieces" 6 1 pJ pK pL
 lU : Fc X CL "_law_cell_at" 1 2 kK kL kM
 kU : X.mg "enumerate" = none
 fZ : X.mg "list" = none
 V9 : Fm X CL "Table" 1 6 rL rM rN
 JC : Fc X CL "unnested" 3 1 lM jD jE
 aan : Fc X CL "_law_ways" 2 1 vq rF rG
 xJ : Fc X CL "_law_told" 1 1 kP kQ kR
 R6 : Fc X CL "looked" 6 1 pU mQ pV
 GX : X.mg "str" = none
 aQ : nJ X.K (CL "Chart")
 bq : nJ X.K (CL "Table")
 cE : nJ X.K (CL "Tree")
 jC : aC X.K (CL "Chart") "tree"
 fk : aC X.K (CL "Table") "begin"
 cL : aC X.K (CL "Table") "flats"
 b8 : aC X.K (CL "Chart") "boxes"
 b9 : aC X.K (CL "Table") "boxes"
 bI : aC X.K (CL "Chart") "names"
 jj : aC X.K (CL "Chart") "ins"
 ia : aC X.K (CL "Chart") "outs"
 dH : aC X.K (CL "Table") "signs"
 dF : aC X.K (CL "Tree") "kinds"
 aN : aC X.K (CL "Tree") "elders"
 fj : aC X.K (CL "Tree") "starts"
 f6 : aC X.K (CL "Chart") "ways"
theorem adg {X : Cx} {CL : Str -> Addr} {b : Bx} (E : adf X CL) {a} (h : sO a) :
   aH X CL b LZ ["script", "at", "part", "bits", "number", "spot", "table", "fields", "chart", "many", "tree"] (sN a) (sP a) := by
 dsimp only [aH, sO, sN, sP] at h ⊢
 have hs : a.length <= 100 := by omega
 refine jY E.g E.aam (fun j δ => ∃ o1 o2 o3 o4 o5 o6 o7 o8 o9 OV, δ = [some (.sh (.lst (a.map .int))), o1, o2, o3, o4, o5, o6, o7, o8, o9, OV]) (iM E.cZ (ah (iG (ah ai) (ah (DB (ah (er (aio ..) E.cX (aK E.dQ) E.cW)) (ah ai) ⟨by decide, by decide⟩)))) (by omega) E.cY) ⟨_, _, _, _, _, _, _, _, _, _, rfl⟩ (fun j δ ⟨_, _, _, _, _, _, _, _, _, _, e⟩ => by subst e; exact aip rfl) ?turn ?fin
 case fin =>
   rintro δ ⟨o1, o2, o3, o4, o5, o6, o7, o8, o9, OV, rfl⟩
   exact bE fB rfl
 rintro j d δ hj ⟨o1, o2, o3, o4, o5, o6, o7, o8, o9, OV, rfl⟩
 obtain ⟨rfl, OW⟩ := mE hj
 rw [ajz]
 clear hj OW
 obtain ⟨s, hsd⟩ : ∃ s, s = a.drop (16 * j) := ⟨_, rfl⟩
 have hsl : s.length <= 1000 := by rw [hsd, List.length_drop]; omega
 have RJ : cutD (a.map L3.D.int) (some (16 * (j : Int))) none = s.map .int := by
   rw [VA (k := 16 * j) _ (by omega), hsd, List.map_drop]
 refine cC E.g E.pX (aI (c_ s E.R5 E.Cw (ao (cy (aI (Gk (aK E.dQ) (qM _) (DI (ah (Ac (ah ai) (aK E.aam) (.inl ⟨by decide, by decide⟩)))) DH) (t2 := .lst ((s.map .int).map T.sh)) (by rw [RJ]))) aS) hsl (by show (Ls s).clean = true; rw [Rx]; exact Ny _ _)) (t2 := ptU s (Nn s)) (Rx s)) ?_
 have z0 : (0 : Int) <= 16 * (j : Int) := by omega
 refine cC E.g E.R4 (oX (ah (c_ ((a, 16 * (j : Int))) E.lU E.gV (ao (aK E.dQ) (ao (ah (Ac (ah ai) (aK E.aam) (.inl ⟨by decide, by decide⟩))) aS)) (z0) rfl)) (ah (nO (ah ai) (ah ai) ⟨by decide, by decide, by decide⟩)) (by decide)) ?_
 obtain ⟨B, hB⟩ : ∃ B : Int, B = jx a (16 * (j : Int)) % 10 ^ (9 : Int).toNat := ⟨_, rfl⟩
 rw [← hB]
 clear hB RJ
 obtain ⟨b1, b2, b3, b4, b5, b6⟩ := Ve s
 have hhn := Rp s
 have hbx := ZP s
 have hbl : (Tr s).length = Nm s := by unfold Tr; rw [aio, ajc]
 have hx : ∀ x ∈ pzX s, Xg (Tr s).length x := by rw [hbl]; exact Ro (by omega) hhn _
 have hxl : (pzX s).length <= 1000 := aje (Ec _ _ _) (by decide)
 have aao := ZN s
 rw [← hbl] at aao
 refine IG E.g (DS E.g.nd E.g.calm E.fP E.JB) (fun i δ => ∃ o4 o5 R, xE (Tr s).length (GC s) (FH s) R /\ R.map (·.1) = (Nn s).map (·.1) /\ δ = [some (.sh (.lst (a.map .int))), some (.sh (.int (j : Nat))), some (ptU s R), some (.sh (.int B)), o4, o5, o6, o7, o8, o9, OV])
   (Av (f := tK) (l := (Nn s).map (·.1)) [] E.kU (zK (aI (Nj (kvs := dcD (Nn s)) E.g E.fZ (su (p := [.ix 4]) (u := .dct (wL (Nn s))) (nQ (j := 4) (g7 E.pX.1 rfl) rfl rfl (ah ai) rfl) rfl rfl (El _)) E.fY) (t2 := .lst ((((Nn s).map (·.1)).map tK).map T.sh)) (by unfold dcD; simp only [aiQ]; rfl))) E.kT) ⟨_, _, _, aao, rfl, rfl⟩ (fun j δ ⟨_, _, _, _, _, e⟩ => by subst e; intro i hi; simp only [aiw, aiD, ajR] at hi; rcases hi with rfl | rfl <;> exact aip rfl) ?oJ ?fin2
 case oJ =>
   rintro i d δ hi ⟨o4, o5, R, hR, hK, rfl⟩
   obtain ⟨q, hq, rfl⟩ : ∃ q, (List.range ((Nn s).map (·.1)).length)[i]? = some q /\ _ = d := by rw [aiE] at hi; exact aiH.mp hi
   have hql : q < ((Nn s).map (·.1)).length := ajd.mp (aiM hq)
   obtain ⟨k, hk⟩ : ∃ k, k = ((Nn s).map (·.1)).getD q [] := ⟨_, rfl⟩
   have hkm : k ∈ R.map (·.1) := by
     rw [hK, hk, ai6, aiG hql]
     exact List.getElem_mem hql
   obtain ⟨l, h1, h2⟩ := u6 hkm
   obtain ⟨h3, h4⟩ := Vx h1
   refine ⟨_, rfl, ?_⟩
   rw [← hk]
   refine dz (wY (ah (oX (ah (iG (ah (DB (aK E.R4) (ah ai) ⟨by decide, by decide⟩)) (ah (Ac (ah ai) (aK E.fP) (.inl ⟨by decide, by decide⟩))))) (ah ai) (by decide))) (ah ai)).1 (fun _ => ?_) (fun _ => aq (aq ⟨_, _, R, hR, hK, rfl⟩))
   refine QM k E.u (aI (Gk (ds := l.map qU) (QL k E.u (su (p := [.ix 4]) (u := .dct (wL R)) (nQ (j := 4) (g7 E.pX.1 rfl) rfl rfl (ah ai) rfl) rfl rfl (El _)) (aK E.JB) h4) (aL Eb _) DH (DI (ah (jr (ah ai))))) (t2 := .lst ((l.dropLast.map qU).map T.sh)) (by rw [Vz]; simp only [List.map_dropLast])) (nQ (j := 4) (g7 E.pX.1 rfl) rfl rfl (ah ai) rfl) (aK E.JB) rfl (kvs := wL R) rfl h3 (by rw [Ry]; exact hR.c) (aq (aq ⟨some (.sh (.int (q : Nat))), some (.sh (tK k)), Jj R k l.dropLast, hR.cut h1 h2, by rw [xF]; exact hK, ?_⟩))
   rw [Vt]
   rfl
 case fin2 =>
 rintro δ ⟨o4, o5, R, hR, hK, rfl⟩
 obtain ⟨bs, hbs⟩ : ∃ bs, bs = Tr s := ⟨_, rfl⟩
 obtain ⟨hh, hhh⟩ : ∃ hh, hh = FH s := ⟨_, rfl⟩
 obtain ⟨xs, hxs⟩ : ∃ xs, xs = pzX s := ⟨_, rfl⟩
 obtain ⟨n, hn⟩ : ∃ n, n = GC s := ⟨_, rfl⟩
 have ept : ptU s R = .lst [.lst ((bs.map wM).map T.sh), .lst ((hh.map .str).map T.sh), .sh (.tup (xs.map It.d)), .lst (((List.range n).map AK).map T.sh), .dct (wL R)] := by rw [hbs, hhh, hxs, hn]; rfl
 rw [ept]
 rw [← hbs] at hbx hbl hx hR
 rw [← hhh] at b4 hhn hR
 rw [← hxs] at hx hxl
 rw [← hn] at b2 b3 hR
 clear ept hK aao
 have ib : D.bK (bs.map wM) = true := aL (fun _ => rfl) _
 have ip : D.bK ((List.range n).map AK) = true := aL (fun _ => rfl) _
 have ix : D.bK (xs.map It.d) = true := aL mG _
 have qH : ((List.range n).map AK).length = n := by rw [aio, ajc]
 have dw : qX R n hh := hR.ok b3 (by omega)
 refine cC E.g E.bX (DP (d := yM (bs.map wM) (hh.map .str) (xs.map It.d) ((List.range n).map AK) (Ct R)) (aI (mk_ (bs.map wM, hh.map .str, xs.map It.d, (List.range n).map AK, Ct R) E.V9 E.V8
   (ao (su (p := [.ix 0]) (u := .lst ((bs.map wM).map T.sh)) (nQ (j := 0) (g7 E.pX.1 rfl) rfl rfl (ah ai) rfl) rfl rfl (cK _))
   (ao (su (p := [.ix 1]) (u := .lst ((hh.map .str).map T.sh)) (nQ (j := 1) (g7 E.pX.1 rfl) rfl rfl (ah ai) rfl) rfl rfl (cK _))
   (ao (ah (D0 (p := [.ix 2]) (d := .tup (xs.map It.d)) (nQ (j := 2) (g7 E.pX.1 rfl) rfl rfl (ah ai) rfl) rfl rfl))
   (ao (su (p := [.ix 3]) (u := .lst (((List.range n).map AK).map T.sh)) (nQ (j := 3) (g7 E.pX.1 rfl) rfl rfl (ah ai) rfl) rfl rfl (cK _))
   (ao (su (p := [.ix 4]) (u := .dct (wL R)) (d := .dct (kJ (Ct R))) (nQ (j := 4) (g7 E.pX.1 rfl) rfl rfl (ah ai) rfl) rfl rfl (by rw [El, Vy])) aS)))))
   (by exact ⟨ib, iO _, ip, LN, by rw [Rz]; exact hR.c, by unfold Ct; rw [aio]; have := hR.d; omega⟩) (Jf ib (iO _) ix ip LN)) (t2 := .ins "Table" (Je (bs.map wM) (hh.map .str) (xs.map It.d) ((List.range n).map AK) (Ct R))) rfl) (Q9 ..)) ?_
 refine cC E.g E.G6 (DP (d := .lst [.lst (bs.map wM), .lst (hh.map .str), .lst ((List.range n).map AK), .tup (xs.map It.d)]) (fS (bT (dO E.fZ (bf E.bq E.b9 (aK E.bX) ng) ib E.fY bV) (bT (dO E.fZ (bf E.bq E.dH (aK E.bX) nh) (iO _) E.fY bV) (bT (dO E.fZ (bf E.bq E.cL (aK E.bX) kI) ip E.fY bV) (bT (i9 E.bq E.fk (v_ E.bX.1) ni) dN)))) (aA rfl)) (by rw [T.cu, T.kD, T.kD, T.kD, T.kD, T.kD, cK, cK, cK, T.cu])) ?_
 refine cC E.g E.aR (DP (d := unD (bs.map wM) xs R n hh) (aI (c_ (bs.map wM, hh, xs, (List.range n).map AK, R) E.JC E.uo (ao (aK E.bX) aS) (by dsimp only [jD]; rw [qH]; exact ⟨dw, ib, hxl⟩) (Nz ib xs R _ hh)) (t2 := .ins "Chart" (unF (bs.map wM) xs R n hh)) (by dsimp only [jE]; rw [qH])) (VB ..)) ?_
 refine cC E.g E.aT (er qH E.cX (bf E.bq E.cL (aK E.bX) kI) E.cW) ?_
 have dpn : ∀ k, iJ (k + 1) (.tup []) := fun k => .tup fun d hd => absurd hd aiD
 have d0 := Rw hbx 58
 refine dz (pC E.u (d1 := .lst (bs.map wM)) (d2 := .lst (bs.map wM)) (bf E.aQ E.b8 (aK E.aR) m9) (bf E.bq E.b9 (aK E.bX) ng) d0 d0).1 (fun hp => absurd hp (GV d0)) (fun _ => aq ?_)
 have d1 := GU (ajh.mp (Rn n (by omega)).2) 59
 refine dz (pC E.u (d1 := .lst ((Ca n).map .str)) (d2 := .lst ((Ca n).map .str)) (bf E.aQ E.bI (aK E.aR) gU) (cy (aI (sq (ds := [.str "flat"]) (OI := ((List.range n).map fN).map .str) (cy (fS (bT b7 dN) (aA rfl))) (cy (aI (sr (p := fun _ => true) (g := fun d => T.sh (.str (fN d.IA.toNat))) (fU .nil (by decide +kernel)) E.g.calm (iM E.cZ (aK E.aT) (by omega) E.cY) (.inr rfl) (fun C s0 H0 f0 b' d hd => ?Jm) (ajj (cU (by simp [cB]; omega)))) ?VJ)) rfl (iO _) (by rw [aio, aio, ajc, ajg]; show 1 + n <= _; omega)) (t2 := .lst (((Ca n).map .str).map T.sh)) rfl)) d1 d1).1 (fun hp => absurd hp (GV d1)) (fun _ => aq ?rest)
 case VJ => exact congrArg T.lst (Rm n)
 case Jm =>
   obtain ⟨i, hi, rfl⟩ := aiI.mp hd
   have Xd : i < n := by simpa using hi
   obtain ⟨q1, q2⟩ := Xf i (by omega)
   have ei : (0 + (i : Int)) = (i : Int) := ajz _
   have et : (L3.D.int (0 + (i : Int))).IA.toNat = i := by show (0 + (i : Int)).toNat = i; omega
   refine ⟨rfl, fun _ => aI (P5 (ah b7) (ah (K8 E.GX (sd (by decide +kernel)) (ah (v_ (jt (i := 0) rfl (by decide +kernel)))) ((by rw [ei]; exact q1)))) ((by rw [ei, ajg]; show 1 + (toString (i : Int) : Str).length <= _; omega))) ?_⟩
   show T.sh _ = T.sh (.str (fN (L3.D.int (0 + (i : Int))).IA.toNat))
   rw [et]
   unfold fN
   rw [ei]
 case rest =>
 refine cC E.g E.bL (i9 E.aQ E.jC (v_ E.aR.1) AH) ?_
 have d2 : iJ 60 (.lst ((C1 n).map .str)) := by rw [Rh]; exact zL n (.str _ _ (by decide +kernel)) (.str _ _ (by decide +kernel))
 have d3 : iJ 60 (.lst ((GK n).map .int)) := by rw [Ri]; exact zL n (.int _ _) (.int _ _)
 have d4 : iJ 60 (.lst ((GL n).map .int)) := by rw [Rj]; exact zL n (.int _ _) (.int _ _)
 refine dz (tS (lB (pC E.u (d1 := .lst ((C1 n).map .str)) (d2 := .lst ((C1 n).map .str)) (bf E.cE E.dF (aK E.bL) pH) (tG (cy (yC b7 b7 (aK E.aT) rfl rfl (by omega))) (by rw [Rh])) d2 d2).1 (fun _ => mj (pC E.u (d1 := .lst ((GK n).map .int)) (d2 := .lst ((GK n).map .int)) (bf E.cE E.aN (aK E.bL) cP) (tG (cy (yC (jr (ah ai)) ai (aK E.aT) rfl rfl (by omega))) (by rw [Ri])) d3 d3).1))) (fun hp => absurd hp (RB d2 d3)) (fun _ => aq ?_)
 have d5 := hR.dep hhn
 refine dz (tS (lB (pC E.u (d1 := .lst ((GL n).map .int)) (d2 := .lst ((GL n).map .int)) (bf E.cE E.fj (aK E.bL) qS) (tG (cy (yC ai (jr (ah ai)) (aK E.aT) rfl rfl (by omega))) (by rw [Rj])) d4 d4).1 (fun _ => mj (pC E.u (d1 := .lst ((iP R n hh).map jZ)) (d2 := .lst ((iP R n hh).map jZ)) (bf E.aQ E.f6 (aK E.aR) tY) (cy (aI (c_ (bs.map wM, xs.map It.d, (List.range n).map AK, hh, R) E.aan E.G7 (ao (aK E.bX) aS) (by dsimp only [rF]; rw [qH]; exact dw) (aV (aL ve _))) (t2 := .lst (((iP R n hh).map jZ).map T.sh)) (by dsimp only [rG]; rw [qH]))) d5 d5).1))) (fun hp => absurd hp (RB d4 d5)) (fun _ => aq ?_)
 have dt : ∀ k, iJ (k + 3) (.tup ((xs.filter It.told).map It.d)) := fun k => Ej (fun x h k => Jk (hx x (ajV.mp h).1) k) k
 have d6 : iJ 60 (.lst ((C2 xs n).map fc)) := by rw [Rk]; exact zL n (dt 56) (dpn 58)
 have hti : D.bK ((xs.filter It.told).map It.d) = true := aL mG _
 refine dz (pC E.u (d1 := .lst ((C2 xs n).map fc)) (d2 := .lst ((C2 xs n).map fc)) (bf E.aQ E.jj (aK E.aR) xj) (tG (cy (yC (d1 := .tup ((xs.filter It.told).map It.d)) (aI (c_ xs E.xJ E.rJ (ao (bf E.bq E.fk (aK E.bX) ni) aS) hxl hti) (t2 := .sh (.tup ((xs.filter It.told).map It.d))) rfl) (cV (ds := []) fO (aA rfl)) (aK E.aT) hti rfl (by omega))) (by rw [Rk])) d6 d6).1 (fun hp => absurd hp (GV d6)) (fun _ => aq ?_)
 have d7 : iJ 60 (.lst ((GN n).map fc)) := by rw [Rl]; exact RA (n + 1) (dpn 58)
 refine dz (pC E.u (d1 := .lst ((GN n).map fc)) (d2 := .lst ((GN n).map fc)) (bf E.aQ E.ia (aK E.aR) tX) (tG (cy (Rg (n := n + 1) (cV (ds := []) fO (aA rfl)) (ah (iG (aK E.aT) (ah ai))) (by omega) rfl (by omega))) (by rw [Rl])) d7 d7).1 (fun hp => absurd hp (GV d7)) (fun _ => aq ?_)
 have hlk : mQ (bs, Ca n, C1 n, GK n, GL n, C2 xs n, GN n, iP R n hh) := ac2 hR hx hbx (by omega) b2 b3 (by omega) hhn
 refine dz (Qw (ah (aI (c_ (bs, Ca n, C1 n, GK n, GL n, C2 xs n, GN n, iP R n hh) E.R6 E.Bh (ao (aK E.aR) aS) hlk rfl) (t2 := .sh .non) rfl))) (fun hp => by cases hp) (fun _ => aq ?_)
 have d8 : iJ 60 (.lst [.lst (bs.map wM), .lst (hh.map .str), .lst ((List.range n).map AK), .tup (xs.map It.d)]) := .lst fun d hd => by
   simp only [aiw, aiD, ajR] at hd
   rcases hd with rfl | rfl | rfl | rfl
   . exact Rw hbx 57
   . exact GU hhn 58
   . exact VC n 56
   . exact Ej (fun x h k => Jk (hx x h) k) 56
 refine dz (pC E.u (d1 := .lst [.lst (bs.map wM), .lst (hh.map .str), .lst ((List.range n).map AK), .tup (xs.map It.d)]) (d2 := .lst [.lst (bs.map wM), .lst (hh.map .str), .lst ((List.range n).map AK), .tup (xs.map It.d)]) (ah (Us (ds := [.lst (bs.map wM), .lst (hh.map .str), .lst ((List.range n).map AK), .tup (xs.map It.d)]) (aX (i9 E.bq E.b9 (v_ E.bX.1) ng) (aX (i9 E.bq E.dH (v_ E.bX.1) nh) (aX (i9 E.bq E.cL (v_ E.bX.1) kI) (aX (i9 E.bq E.fk (v_ E.bX.1) ni) fO)))))) (aK E.G6) d8 d8).1 (fun hp => absurd hp (GV d8)) (fun _ => aq (aq ⟨_, _, _, _, _, _, _, _, _, _, rfl⟩))
theorem dY : pA (ak LZ) ([("script", ay), ("at", ay), ("part", ay), ("bits", ay), ("number", ay), ("spot", ay), ("table", ay), ("fields", ay), ("chart", ay), ("many", ay), ("tree", ay), ("range", au), ("len", au), ("_law_pieces", au), ("_law_cell_at", au), ("enumerate", au), ("list", au), ("Table", au), ("unnested", au), ("_law_ways", au), ("_law_told", au), ("looked", au)]) = true := by decide +kernel
theorem R7 : aM ["script", "at", "part", "bits", "number", "spot", "table", "fields", "chart", "many", "tree"] ["script"] (ak LZ) := bz
noncomputable def cl (av aD az : Addr) : Str -> Addr := fun c => if c = "Chart" then av else if c = "Tree" then aD else if c = "Table" then az else 0
theorem jQ {av aD az : Addr} : cl av aD az "Chart" = av := by unfold cl; rw [aiC rfl]
theorem sQ {av aD az : Addr} : cl av aD az "Tree" = aD := by unfold cl; rw [aiu (by decide +kernel)]; rw [aiC rfl]
theorem kW {av aD az : Addr} : cl av aD az "Table" = az := by unfold cl; rw [aiu (by decide +kernel)]; rw [aiu (by decide +kernel)]; rw [aiC rfl]
theorem aap {av aD az : Addr} {x : Str} (h : KZ x = true) : cl av aD az x = 0 := by unfold cl; rw [aiu (fun e => by rw [e] at h; exact absurd h (by decide +kernel))]; rw [aiu (fun e => by rw [e] at h; exact absurd h (by decide +kernel))]; rw [aiu (fun e => by rw [e] at h; exact absurd h (by decide +kernel))]
theorem all_mk {l : PySem.W.OpenLaw} {w : World} {K : PySem.W.Frag} {h : Heap} {mg : Str -> Option Value} {fa C5 JD JF EK Bj R8 G8 R9 C6 ny lP Bk C7 Sb L0 L1 mR nA Bl mS qp C8 nB vW nE qq qt nF rO rP oO G9 lQ Xj av aD az : Addr} (XX : K.In h) (G : h.Ns mainGlobals mg) (hfa : mg "law" = some (.ref fa))
   {N3 aaq aar Wa Sd aas Se A4 xG Hf EL uo N4 aat vv EC jd jF cH je k9 jn eW jI jO c6 k7 jP mO mP j7 Bh ER Xk : FuncData}
   (EV : qD K "Chart" av) (Bm : PySem.W.plainGet K av Str.empty = true) (Bo : PySem.W.hasDictIn K av = true) (Bp : PySem.W.plainOver K av = true) (Bq : PySem.W.findIn K (.ref av) "__setattr__" = some (some (.builtin "object.__setattr__"))) (Br : PySem.W.makesIn K av = true) (Bs : PySem.W.keepIn K (.ref av) = true)
   (nT : PySem.W.findIn K (.ref av) "boxes" = some none)
   (nU : PySem.W.findIn K (.ref av) "names" = some none)
   (pY : PySem.W.findIn K (.ref av) "tree" = some none)
   (rQ : PySem.W.findIn K (.ref av) "ins" = some none)
   (pZ : PySem.W.findIn K (.ref av) "outs" = some none)
   (p6 : PySem.W.findIn K (.ref av) "ways" = some none)
   (JG : qD K "Tree" aD) (EW : PySem.W.plainGet K aD Str.empty = true) (EX : PySem.W.hasDictIn K aD = true) (EY : PySem.W.plainOver K aD = true) (EZ : PySem.W.findIn K (.ref aD) "__setattr__" = some (some (.builtin "object.__setattr__"))) (E1 : PySem.W.makesIn K aD = true) (E2 : PySem.W.keepIn K (.ref aD) = true)
   (p7 : PySem.W.findIn K (.ref aD) "kinds" = some none)
   (nV : PySem.W.findIn K (.ref aD) "elders" = some none)
   (nW : PySem.W.findIn K (.ref aD) "starts" = some none)
   (E3 : qD K "Table" az) (Bt : PySem.W.plainGet K az Str.empty = true) (Bu : PySem.W.hasDictIn K az = true) (Bv : PySem.W.plainOver K az = true) (Bw : PySem.W.findIn K (.ref az) "__setattr__" = some (some (.builtin "object.__setattr__"))) (By : PySem.W.makesIn K az = true) (BD : PySem.W.keepIn K (.ref az) = true)
   (nX : PySem.W.findIn K (.ref az) "boxes" = some none)
   (nY : PySem.W.findIn K (.ref az) "signs" = some none)
   (n5 : PySem.W.findIn K (.ref az) "begin" = some none)
   (n9 : PySem.W.findIn K (.ref az) "flats" = some none)
   (p8 : PySem.W.findIn K (.ref az) "rows" = some none)
   (xS : qD K "_law_cell_at" C5) (N5 : nL K "_law_cell_at" "_law_cell_at" sA C5 N3)
   (JH : qD K "_law_take" JD) (uq : nL K "_law_take" "_law_take" Em JD aaq)
   (JK : qD K "_law_term" JF) (E4 : nL K "_law_term" "_law_term" Ep JF aar)
   (E5 : qD K "_law_piece" EK) (E6 : nL K "_law_piece" "_law_piece" zN EK Wa)
   (BE : qD K "_law_script" Bj) (vX : nL K "_law_script" "_law_script" vg Bj Sd)
   (JL : qD K "_law_rows" R8) (aau : nL K "_law_rows" "_law_rows" Es R8 aas)
   (BF : qD K "_law_pieces" G8) (Sf : nL K "_law_pieces" "_law_pieces" vo G8 Se)
   (JM : qD K "told" R9) (aav : nL K "told" "told" Eu R9 A4)
   (xT : qD K "ways_of" C6) (N6 : nL K "ways_of" "ways_of" sG C6 xG)
   (rR : PySem.W.findIn K (.ref aD) "__init__" = some (some (.ref ny))) (rS : PySem.W.isFn K (.ref ny) = true) (yG : nL K "__init__" "Tree.__init__" nq ny Hf)
   (qa : PySem.W.findIn K (.ref av) "__init__" = some (some (.ref lP))) (qb : PySem.W.isFn K (.ref lP) = true) (vY : nL K "__init__" "Chart.__init__" lK lP EL)
   (ur : qD K "unnested" Bk) (JN : nL K "unnested" "unnested" pN Bk uo)
   (xU : qD K "_law_told" C7) (N7 : nL K "_law_told" "_law_told" sI C7 N4)
   (JQ : qD K "_law_ways" Sb) (aaw : nL K "_law_ways" "_law_ways" Ey Sb aat)
   (E7 : qD K "above" L0) (Wb : nL K "above" "above" zQ L0 vv)
   (E8 : qD K "depth" L1) (Wc : nL K "depth" "depth" zS L1 EC)
   (jg : qD K "are_elders_right" mR) (uv : nL K "are_elders_right" "are_elders_right" f7 mR jd)
   (jR : qD K "are_kinds_right" nA) (vZ : nL K "are_kinds_right" "are_kinds_right" gF nA jF)
   (uw : qD K "is_place" Bl) (JR : nL K "is_place" "is_place" pQ Bl cH)
   (jh : qD K "are_starts_right" mS) (ux : nL K "are_starts_right" "are_starts_right" gb mS je)
   (lg : qD K "is_tree_right" qp) (y9 : nL K "is_tree_right" "is_tree_right" iV qp k9)
   (xV : qD K "is_name" C8) (N8 : nL K "is_name" "is_name" sM C8 jn)
   (jS : qD K "are_names_right" nB) (v5 : nL K "are_names_right" "are_names_right" gK nB eW)
   (qc : qD K "is_bounded" vW) (E9 : nL K "is_bounded" "is_bounded" lN vW jI)
   (jT : qD K "are_boxes_right" nE) (v7 : nL K "are_boxes_right" "are_boxes_right" gM nE jO)
   (lq : qD K "is_term_right" qq) (zb : nL K "is_term_right" "is_term_right" iX qq c6)
   (lu : qD K "is_deed_right" qt) (zc : nL K "is_deed_right" "is_deed_right" iZ qt k7)
   (jU : qD K "are_deeds_right" nF) (v8 : nL K "are_deeds_right" "are_deeds_right" gR nF jP)
   (mU : qD K "is_ask_right" rO) (BG : nL K "is_ask_right" "is_ask_right" jK rO mO)
   (mV : qD K "is_way_right" rP) (BH : nL K "is_way_right" "is_way_right" jM rP mP)
   (j8 : qD K "are_ways_right" oO) (xW : nL K "are_ways_right" "are_ways_right" iC oO j7)
   (BI : qD K "looked" G9) (Sg : nL K "looked" "looked" vR G9 Bh)
   (qd : PySem.W.findIn K (.ref az) "__init__" = some (some (.ref lQ))) (qe : PySem.W.isFn K (.ref lQ) = true) (v9 : nL K "__init__" "Table.__init__" lO lQ ER)
   (L4 : qD K "law" Xj) (Sh : nL K "law" "law" LZ Xj Xk)
   (Si : PySem.W.nsIn K mainGlobals "len" = some none)
   (Sj : PySem.W.nsIn K mainGlobals "str" = some none)
   (Fb : PySem.W.nsIn K mainGlobals "tuple" = some none)
   (Fd : PySem.W.nsIn K mainGlobals "range" = some none)
   {qu : Addr} {xX : Option Addr} {kZ : Nat} {xY : Array (Option Value)} {uy uz uA uB : Tok} (ly : PySem.W.nsIn K mainGlobals "MARKS_journal" = some (some (.ref qu))) (j9 : K.lookup qu = some ⟨.type "tuple", xX, .seq #[.str "out" uy, .str "keep" uz, .str "way" uA, .str "in" uB] kZ, xY⟩)
   (JS : PySem.W.nsIn K mainGlobals "list" = some none)
   {JT : Tok} (xZ : PySem.W.nsIn K mainGlobals "DEEPEST" = some (some (.int 12 JT)))
   (rT : PySem.W.nsIn K mainGlobals "enumerate" = some none)
   {L5 : Addr} {Sl : Option Addr} {ED : Nat} {Sn : Array (Option Value)} {JV JW JX : Tok} (Fe : PySem.W.nsIn K mainGlobals "KINDS" = some (some (.ref L5))) (BJ : K.lookup L5 = some ⟨.type "tuple", Sl, .seq #[.str "leaf" JV, .str "one" JW, .str "all" JX] ED, Sn⟩)
   {zf : Tok} (mW : PySem.W.nsIn K mainGlobals "LONGEST_NAME" = some (some (.int 12 zf)))
   {L6 : Addr} {Sq : Option Addr} {EE : Nat} {Ss : Array (Option Value)} {JY JZ J1 J2 J3 J4 J5 J6 J7 J8 Hg Hh Hi Hj Hl Ho Hq Hr Hs : Tok} (Ff : PySem.W.nsIn K mainGlobals "WORDS" = some (some (.ref L6))) (BK : K.lookup L6 = some ⟨.type "tuple", Sq, .seq #[.str "all" JY, .str "and" JZ, .str "box" J1, .str "call" J2, .str "do" J3, .str "far" J4, .str "if" J5, .str "in" J6, .str "leaf" J7, .str "near" J8, .str "on" Hg, .str "one" Hh, .str "open" Hi, .str "out" Hj, .str "put" Hl, .str "say" Ho, .str "shut" Hq, .str "then" Hr, .str "to" Hs] EE, Ss⟩)
   {J9 : Tok} (x6 : PySem.W.nsIn K mainGlobals "LETTERS" = some (some (.str "abcdefghijklmnopqrstuvwxyz" J9)))
   {qf : Tok} (gD : PySem.W.nsIn K mainGlobals "LETTERS_AND_FIGURES" = some (some (.str "abcdefghijklmnopqrstuvwxyz0123456789" qf)))
   (Sv : PySem.W.nsIn K mainGlobals "set" = some none)
   {Sw : Tok} (Fg : PySem.W.nsIn K mainGlobals "DEEDS" = some (some (.int 3 Sw)))
   {qv : Addr} {x8 : Option Addr} {k8 : Nat} {x9 : Array (Option Value)} {uC uD uE uF : Tok} (lz : PySem.W.nsIn K mainGlobals "MARKS_looking" = some (some (.ref qv))) (kg : K.lookup qv = some ⟨.type "tuple", x8, .seq #[.str "<" uC, .str "<=" uD, .str "=" uE, .str "!=" uF] k8, x9⟩)
   {N9 : Tok} (BL : PySem.W.nsIn K mainGlobals "TARGET" = some (some (.int 4 N9)))
   {Wd : Tok} (Ka : PySem.W.nsIn K mainGlobals "MODE" = some (some (.int 5 Wd)))
   {Oa : Tok} (BO : PySem.W.nsIn K mainGlobals "SOURCE" = some (some (.int 0 Oa)))
   {Wf : Tok} (Kc : PySem.W.nsIn K mainGlobals "SIGN" = some (some (.int 1 Wf)))
   {L7 : Addr} {Sx : Option Addr} {EH : Nat} {Sy : Array (Option Value)} {Kd Ke Kf : Tok} (Fi : PySem.W.nsIn K mainGlobals "MODES" = some (some (.ref L7))) (BP : K.lookup L7 = some ⟨.type "tuple", Sx, .seq #[.str "new" Kd, .str "near" Ke, .str "far" Kf] EH, Sy⟩)
   {Wg : Tok} (Kg : PySem.W.nsIn K mainGlobals "ASKS" = some (some (.int 2 Wg)))
   : ∃ fd : FuncData, (∀ (s : Shared) (v : Value), BindsTo s fd ⟨[v], []⟩ [("script", v)]) /\ ∀ base : Heap, K.In base -> base.Ns mainGlobals mg -> iE l.prog w K mg base uQ 7 fa fd ["script"] (OG K (fun _ => 0) 1 sN sO sP) := by
 have e := hfa.symm.trans (aiZ XX G L4)
 cases e
 have BQ := aiZ XX G JH
 have BR := uq.binds (ps := ["pot", "many"]) fun _ _ _ _ _ _ => by refine pG ?_; exact fun _ _ => rfl
 have Sz := aiZ XX G JK
 have SD := E4.binds (ps := ["pot", "many"]) fun _ _ _ _ _ _ => by refine pG ?_; exact fun _ _ => rfl
 have Wh := aiZ XX G E5
 have Wi := E6.binds (ps := ["pot", "many", "heard"]) fun _ _ _ _ _ _ => by refine pG ?_; exact fun _ _ _ => rfl
 have Ht := aiZ XX G BE
 have Hu := vX.binds (ps := ["pot", "many", "heard"]) fun _ _ _ _ _ _ => by refine pG ?_; exact fun _ _ _ => rfl
 have Hv := yG.binds (ps := ["self", "kinds", "elders", "starts"]) fun _ _ _ _ _ _ => by refine pG ?_; exact fun _ _ _ _ => rfl
 have Fj := vY.binds (ps := ["self", "boxes", "names", "tree", "ins", "outs", "ways"]) fun _ _ _ _ _ _ => by refine pG ?_; exact fun _ _ _ _ _ _ _ => rfl
 have Fl := v9.binds (ps := ["self", "boxes", "signs", "begin", "flats", "rows"]) fun _ _ _ _ _ _ => by refine pG ?_; exact fun _ _ _ _ _ _ => rfl
 have agx := aiZ XX G L4
 have agy := Sh.binds (ps := ["script"]) fun _ _ _ _ _ _ => by refine pG ?_; exact fun _ => rfl
 have Wj := aiZ XX G EV
 have aQ : nJ K av := ⟨Bm, Bo, Bp, Bq⟩
 have jV : nJ K ((cl av aD az) "Chart") := by rw [jQ]; exact aQ
 have fq : aC K ((cl av aD az) "Chart") "boxes" := by rw [jQ]; exact nT
 have gy : aC K ((cl av aD az) "Chart") "names" := by rw [jQ]; exact nU
 have qg : aC K ((cl av aD az) "Chart") "tree" := by rw [jQ]; exact pY
 have rV : aC K ((cl av aD az) "Chart") "ins" := by rw [jQ]; exact rQ
 have qh : aC K ((cl av aD az) "Chart") "outs" := by rw [jQ]; exact pZ
 have lR : aC K ((cl av aD az) "Chart") "ways" := by rw [jQ]; exact p6
 have aax := aiZ XX G JG
 have cE : nJ K aD := ⟨EW, EX, EY, EZ⟩
 have uG : nJ K ((cl av aD az) "Tree") := by rw [sQ]; exact cE
 have jW : aC K ((cl av aD az) "Tree") "kinds" := by rw [sQ]; exact p7
 have fu : aC K ((cl av aD az) "Tree") "elders" := by rw [sQ]; exact nV
 have ku : aC K ((cl av aD az) "Tree") "starts" := by rw [sQ]; exact nW
 have Wk := aiZ XX G E3
 have bq : nJ K az := ⟨Bt, Bu, Bv, Bw⟩
 have lS : nJ K ((cl av aD az) "Table") := by rw [kW]; exact bq
 have fz : aC K ((cl av aD az) "Table") "boxes" := by rw [kW]; exact nX
 have kB : aC K ((cl av aD az) "Table") "signs" := by rw [kW]; exact nY
 have oh : aC K ((cl av aD az) "Table") "begin" := by rw [kW]; exact n5
 have kC : aC K ((cl av aD az) "Table") "flats" := by rw [kW]; exact n9
 have qi : aC K ((cl av aD az) "Table") "rows" := by rw [kW]; exact p8
 have oQ := ajK XX G Si
 have SG := ajK XX G Sj
 have sR := ajK XX G Fb
 have qj := ajK XX G Fd
 have zg := aiZ XX G ly
 have Fo := ajK XX G JS
 have Ob : ∃ u, mg "DEEPEST" = some (.int 12 u) := ⟨_, aiZ XX G xZ⟩
 have rW := ajK XX G rT
 have Wm := aiZ XX G Fe
 have BU : ∃ u, mg "LONGEST_NAME" = some (.int 12 u) := ⟨_, aiZ XX G mW⟩
 have Wn := aiZ XX G Ff
 have Oc : ∃ u, mg "LETTERS" = some (.str "abcdefghijklmnopqrstuvwxyz" u) := ⟨_, aiZ XX G x6⟩
 have qB : ∃ u, mg "LETTERS_AND_FIGURES" = some (.str "abcdefghijklmnopqrstuvwxyz0123456789" u) := ⟨_, aiZ XX G gD⟩
 have adi := ajK XX G Sv
 have Wo : ∃ u, mg "DEEDS" = some (.int 3 u) := ⟨_, aiZ XX G Fg⟩
 have zj := aiZ XX G lz
 have SJ : ∃ u, mg "TARGET" = some (.int 4 u) := ⟨_, aiZ XX G BL⟩
 have aay : ∃ u, mg "MODE" = some (.int 5 u) := ⟨_, aiZ XX G Ka⟩
 have Hw : ∃ u, mg "SOURCE" = some (.int 0 u) := ⟨_, aiZ XX G BO⟩
 have aaz : ∃ u, mg "SIGN" = some (.int 1 u) := ⟨_, aiZ XX G Kc⟩
 have Wq := aiZ XX G Fi
 have aaA : ∃ u, mg "ASKS" = some (.int 2 u) := ⟨_, aiZ XX G Kg⟩
 refine ⟨Xk, ?bind, fun base _ _ => ?_⟩
 case bind =>
   obtain ⟨oc, od, kV, doc, pm, an, kh, ct, T7, rfl, lk, oR⟩ := Sh.ex
   exact fun s v => .of_eq rfl
 have q := @Zr l.prog w mg base K h (cl av aD az) XX G
 have C9 := q 0 kK kL kM N5 Jl xS fun _ _ _ _ _ _ _ _ hr u p => NC (by exact ⟨u, bU t6 0, bU t6 1, cT t6 2, oQ⟩) p
 have BV : iE l.prog w K mg base uQ 1 JD _ ["pot", "many"] (Y8 K (cl av aD az) 2 jy pre_take jz iQ) := DV uq LR (fun a hp => by
   obtain ⟨p0, p1, p2⟩ := a; dsimp only [jy, iQ]
   repeat (first | exact trivial | refine ⟨rfl, ?_⟩)) fun kh Ar outer s H E b a hr hp => by
   obtain ⟨p0, p1, p2⟩ := a; refine ZS ?_ p0 p1 p2 hp
   exact ⟨⟨⟨LR.nd, rfl, .never⟩, hr.units⟩, bU Eo 0, bU Eo 1, bU Eo 2⟩
 have SK : iE l.prog w K mg base uQ 2 JF _ ["pot", "many"] (Y8 K (cl av aD az) 2 oE qZ oF mJ) := DV E4 LV (fun a hp => by
   obtain ⟨p0, p1, p2⟩ := a; dsimp only [oE, mJ]
   repeat (first | exact trivial | refine ⟨rfl, ?_⟩)) fun kh Ar outer s H E b a hr hp => by
   obtain ⟨p0, p1, p2⟩ := a; refine ZU ?_ p0 p1 p2 hp
   exact ⟨⟨⟨LV.nd, rfl, .never⟩, hr.units⟩, bU zM 0, bU zM 1, bU zM 2, cT zM 3, ⟨⟨_, _, _, BV, BQ, uq.kp, BR⟩, hr.mono (by decide)⟩⟩
 have Wr : iE l.prog w K mg base uQ 3 EK _ ["pot", "many", "heard"] (Y8 K (cl av aD az) 3 oG sE oH lT) := DV E6 GY (fun a hp => by
   obtain ⟨p0, p1, p2, p3⟩ := a; dsimp only [oG, lT]
   repeat (first | exact trivial | refine ⟨rfl, ?_⟩)) fun kh Ar outer s H E b a hr hp => by
   obtain ⟨p0, p1, p2, p3⟩ := a; refine VF ?_ p0 p1 p2 p3 hp
   exact ⟨⟨⟨GY.nd, rfl, .never⟩, hr.units⟩, bU jA 0, bU jA 1, bU jA 2, bU jA 3, bU jA 4, cT jA 5, cT jA 6, cT jA 7, cT jA 8, ⟨⟨_, _, _, BV, BQ, uq.kp, BR⟩, hr.mono (by decide)⟩, ⟨⟨_, _, _, SK, Sz, E4.kp, SD⟩, hr.mono (by decide)⟩, SG, oQ⟩
 have Hx : iE l.prog w K mg base uQ 4 Bj _ ["pot", "many", "heard"] (Y8 K (cl av aD az) 3 j5 mK j6 jb) := DV vX C3 (fun a hp => by
   obtain ⟨p0, p1, p2, p3⟩ := a; dsimp only [j5, jb]
   repeat (first | exact trivial | refine ⟨rfl, ?_⟩)) fun kh Ar outer s H E b a hr hp => by
   obtain ⟨p0, p1, p2, p3⟩ := a; refine RD ?_ p0 p1 p2 p3 hp
   exact ⟨⟨⟨C3.nd, rfl, .never⟩, hr.units⟩, frC g8 0, pB g8 0 rfl, frC g8 1, pB g8 1 rfl, frC g8 2, pB g8 2 rfl, cT g8 3, cT g8 4, cT g8 5, sR, qj, ⟨⟨_, _, _, BV, BQ, uq.kp, BR⟩, hr.mono (by decide)⟩, ⟨⟨_, _, _, Wr, Wh, E6.kp, Wi⟩, hr.mono (by decide)⟩⟩
 have aaB := q 4 vj rg vm aau VL JL fun _ _ _ _ _ _ _ _ hr u p => ZY (by exact ⟨u, bU eF 0, bU eF 1, bU eF 2, bU eF 3, bU eF 4, bU eF 5, bU eF 6, bU eF 7, bU eF 8, bU eF 9, bU eF 10, bU eF 11, cT eF 12, cT eF 13, cT eF 14, cT eF 15, cT eF 16, qj, ⟨⟨_, _, _, BV, BQ, uq.kp, BR⟩, hr.mono (by decide)⟩, ⟨⟨_, _, _, SK, Sz, E4.kp, SD⟩, hr.mono (by decide)⟩, ⟨⟨_, _, _, Hx, Ht, vX.kp, Hu⟩, hr.mono (by decide)⟩, sR⟩) p
 have SM := q 5 pJ pK pL Sf NF BF fun _ _ _ _ _ _ _ _ hr u p => RH (by exact ⟨u, frC bZ 0, pB bZ 0 rfl, bU bZ 1, bU bZ 2, bU bZ 3, bU bZ 4, bU bZ 5, bU bZ 6, bU bZ 7, bU bZ 8, bU bZ 9, bU bZ 10, cT bZ 11, cT bZ 12, cT bZ 13, cT bZ 14, cT bZ 15, cT bZ 16, fX C9 hr, ⟨⟨_, _, _, BV, BQ, uq.kp, BR⟩, hr.mono (by decide)⟩, qj, oQ, fX aaB hr, ⟨⟨_, _, _, Hx, Ht, vX.kp, Hu⟩, hr.mono (by decide)⟩, SG⟩) p
 have SN := q 0 rq rz rA aav VN JM fun _ _ _ _ _ _ _ _ hr u p => Z7 (by exact ⟨u, bU VM 0, Gr zg j9 (aA rfl) (.cons ⟨_, rfl⟩ (.cons ⟨_, rfl⟩ (.cons ⟨_, rfl⟩ (.cons ⟨_, rfl⟩ (.nil)))))⟩) p
 have Od := q 1 nj kO nk N6 Jr xT fun _ _ _ _ _ _ _ _ hr u p => NP (by exact ⟨u, bU jc 0, bU jc 1, bU jc 2, bU jc 3, bU jc 4, cT jc 5, cT jc 6, sR, fX SN hr, lS, qi⟩) p
 have Hy : iE l.prog w K mg base uQ 1 ny _ ["self", "kinds", "elders", "starts"] (spI K (cl av aD az) "Tree" 4 tM tN tO) := DJ yG vp fun kh Ar outer s H E b a y hr hp => by
   obtain ⟨p0, p1, p2⟩ := a; refine G3 ?_ p0 p1 p2 y hp
   exact ⟨⟨⟨vp.nd, rfl, .never⟩, hr.units⟩, bU jB 0, bU jB 1, bU jB 2, bU jB 3, cT jB 4, Fo, uG, jW, fu, ku⟩
 have Fp : iE l.prog w K mg base uQ 1 lP _ ["self", "boxes", "names", "tree", "ins", "outs", "ways"] (spI K (cl av aD az) "Chart" 7 rC rD rE) := DJ vY tP fun kh Ar outer s H E b a y hr hp => by
   obtain ⟨p0, p1, p2, p3, p4, p5⟩ := a; refine Ex ?_ p0 p1 p2 p3 p4 p5 y hp
   exact ⟨⟨⟨tP.nd, rfl, .never⟩, hr.units⟩, bU dG 0, bU dG 1, bU dG 2, bU dG 3, bU dG 4, bU dG 5, bU dG 6, cT dG 7, Fo, jV, lS, fq, fz, gy, qg, rV, qh, lR⟩
 have Kh := q 2 lM jD jE JN G4 ur fun _ _ _ _ _ _ _ _ hr u p => Jt (by exact ⟨u, bU bQ 0, bU bQ 1, bU bQ 2, bU bQ 3, bU bQ 4, bU bQ 5, bU bQ 6, bU bQ 7, cT bQ 8, cT bQ 9, cT bQ 10, cT bQ 11, cT bQ 12, cT bQ 13, cT bQ 14, oQ, ⟨⟨_, _, _, by rw [sQ]; exact ⟨E1, rR, rS, E2⟩, Hy, by rw [sQ]; exact aax, Hv⟩, hr.mono (by decide)⟩, qj, sR, fX SN hr, fX Od hr, ⟨⟨_, _, _, by rw [jQ]; exact ⟨Br, qa, qb, Bs⟩, Fp, by rw [jQ]; exact Wj, Fj⟩, hr.mono (by decide)⟩, jV, lS, kC, kB, fq, fz, oh⟩) p
 have Dc := q 0 kP kQ kR N7 Ju xU fun _ _ _ _ _ _ _ _ hr u p => NS (by exact ⟨u, bU A5 0, cT A5 1, sR⟩) p
 have aaC := q 1 vq rF rG aaw VX JQ fun _ _ _ _ _ _ _ _ hr u p => aae (by exact ⟨u, bU iU 0, bU iU 1, bU iU 2, bU iU 3, bU iU 4, bU iU 5, bU iU 6, bU iU 7, bU iU 8, cT iU 9, cT iU 10, cT iU 11, qj, oQ, fX Dc hr, lS, kB, kC, qi⟩) p
 have L8 := q 0 oK lV oM Wb RP E7 fun _ _ _ _ _ _ _ _ hr u p => VZ (by exact ⟨u, bU vt 0, bU vt 1, bU vt 2, bU vt 3, uG, fu⟩) p
 have Ws := q 1 sJ oN sL Wc RQ E8 fun _ _ _ _ _ _ _ _ hr u p => V1 (by exact ⟨u, bU vz 0, bU vz 1, cT vz 2, cT vz 3, oQ, fX L8 hr⟩) p
 have uH := q 2 eG cR eK uv sY jg fun _ _ _ _ _ _ _ _ hr u p => t8 (by exact ⟨u, bU bJ 0, bU bJ 1, bU bJ 2, cT bJ 3, cT bJ 4, cT bJ 5, cT bJ 6, cT bJ 7, qj, oQ, fX L8 hr, fX Ws hr, Ob, uG, fu⟩) p
 have wc := q 0 fF c7 fG vZ t9 jR fun _ _ _ _ _ _ _ _ hr u p => vC (by exact ⟨u, bU ck 0, bU ck 1, bU ck 2, bU ck 3, bU ck 4, cT ck 5, cT ck 6, rW, Gr Wm BJ (aA rfl) (.cons ⟨_, rfl⟩ (.cons ⟨_, rfl⟩ (.cons ⟨_, rfl⟩ (.nil)))), uG, fu, jW⟩) p
 have mX := q 0 eN eO eS JR G5 uw fun _ _ _ _ _ _ _ _ hr u p => Jx (by exact ⟨u, bU rK 0, bU rK 1, cT rK 2, oQ⟩) p
 have uI := q 1 eU cS eV ux sZ jh fun _ _ _ _ _ _ _ _ hr u p => uc (by exact ⟨u, bU c9 0, bU c9 1, bU c9 2, cT c9 3, cT c9 4, rW, fX mX hr, uG, ku, jW, fu⟩) p
 have zk := q 3 gH gI gJ y9 xK lg fun _ _ _ _ _ _ _ _ hr u p => yP (by exact ⟨u, bU cI 0, bU cI 1, bU cI 2, cT cI 3, cT cI 4, cT cI 5, cT cI 6, oQ, fX uH hr, fX wc hr, fX uI hr, uG, jW, fu, ku⟩) p
 have yb := q 0 jk jl jm N8 Jy xV fun _ _ _ _ _ _ _ _ hr u p => N1 (by exact ⟨u, bU jf 0, bU jf 1, cT jf 2, cT jf 3, cT jf 4, cT jf 5, cT jf 6, oQ, BU, Gr Wn BK (aA rfl) (.cons ⟨_, rfl⟩ (.cons ⟨_, rfl⟩ (.cons ⟨_, rfl⟩ (.cons ⟨_, rfl⟩ (.cons ⟨_, rfl⟩ (.cons ⟨_, rfl⟩ (.cons ⟨_, rfl⟩ (.cons ⟨_, rfl⟩ (.cons ⟨_, rfl⟩ (.cons ⟨_, rfl⟩ (.cons ⟨_, rfl⟩ (.cons ⟨_, rfl⟩ (.cons ⟨_, rfl⟩ (.cons ⟨_, rfl⟩ (.cons ⟨_, rfl⟩ (.cons ⟨_, rfl⟩ (.cons ⟨_, rfl⟩ (.cons ⟨_, rfl⟩ (.cons ⟨_, rfl⟩ (.nil)))))))))))))))))))), Oc, qB⟩) p
 have nG := q 1 dg bW dh v5 ug jS fun _ _ _ _ _ _ _ _ hr u p => vH (by exact ⟨u, bU dS 0, bU dS 1, cT dS 2, cT dS 3, cT dS 4, fX yb hr, oQ, adi⟩) p
 have wg := q 0 gX gY gZ E9 Cv qc fun _ _ _ _ _ _ _ _ hr u p => EG (by exact ⟨u, bU Cu 0⟩) p
 have wj := q 2 fH di fJ v7 uh jT fun _ _ _ _ _ _ _ _ hr u p => vJ (by exact ⟨u, bU gi 0, bU gi 1, cT gi 2, cT gi 3, fX wg hr, fX nG hr⟩) p
 have qw := q 1 eX eY eZ zb xN lq fun _ _ _ _ _ _ _ _ hr u p => yR (by exact ⟨u, bU ic 0, bU ic 1, cT ic 2, cT ic 3, fX mX hr, fX wg hr, jV, lS, fq, fz⟩) p
 have zl := q 2 gO gP gQ zc xO lu fun _ _ _ _ _ _ _ _ hr u p => yT (by exact ⟨u, bU dI 0, bU dI 1, bU dI 2, cT dI 3, cT dI 4, cT dI 5, fX mX hr, fX qw hr, fX yb hr, jV, lS, fq, fz⟩) p
 have wk := q 3 fK dm fL v8 um jU fun _ _ _ _ _ _ _ _ hr u p => vN (by exact ⟨u, bU cJ 0, bU cJ 1, bU cJ 2, bU cJ 3, cT cJ 4, cT cJ 5, oQ, fX zl hr, Wo, jV, gy, rV, qh, lR⟩) p
 have BW := q 2 ig iu iy BG yW mU fun _ _ _ _ _ _ _ _ hr u p => Bb (by exact ⟨u, bU d9 0, bU d9 1, bU d9 2, cT d9 3, cT d9 4, cT d9 5, fX mX hr, Gr zj kg (aA rfl) (.cons ⟨_, rfl⟩ (.cons ⟨_, rfl⟩ (.cons ⟨_, rfl⟩ (.cons ⟨_, rfl⟩ (.nil))))), fX qw hr, jV, gy⟩) p
 have BX := q 3 iz iA iB BH yX mV fun _ _ _ _ _ _ _ _ hr u p => Bf (by exact ⟨u, bU aU 0, bU aU 1, bU aU 2, bU aU 3, bU aU 4, cT aU 5, cT aU 6, cT aU 7, cT aU 8, cT aU 9, cT aU 10, cT aU 11, cT aU 12, cT aU 13, SJ, aay, fX mX hr, Hw, fX yb hr, aaz, Gr Wq BP (aA rfl) (.cons ⟨_, rfl⟩ (.cons ⟨_, rfl⟩ (.cons ⟨_, rfl⟩ (.nil)))), aaA, fX BW hr, jV, gy⟩) p
 have yc := q 4 gj gk gn xW vQ j8 fun _ _ _ _ _ _ _ _ hr u p => xQ (by exact ⟨u, bU e7 0, bU e7 1, bU e7 2, cT e7 3, cT e7 4, Hw, fX BX hr, jV, lR⟩) p
 have SQ := q 5 pU mQ pV Sg N2 BI fun _ _ _ _ _ _ _ _ hr u p => R0 (by exact ⟨u, bU fQ 0, cT fQ 1, cT fQ 2, cT fQ 3, cT fQ 4, cT fQ 5, cT fQ 6, cT fQ 7, cT fQ 8, cT fQ 9, cT fQ 10, fX zk hr, fX nG hr, fX wj hr, fX wk hr, fX yc hr, jV, lS, qg, gy, fq, fz⟩) p
 have Fq : iE l.prog w K mg base uQ 1 lQ _ ["self", "boxes", "signs", "begin", "flats", "rows"] (spI K (cl av aD az) "Table" 6 rL rM rN) := DJ v9 tQ fun kh Ar outer s H E b a y hr hp => by
   obtain ⟨p0, p1, p2, p3, p4⟩ := a; refine EJ ?_ p0 p1 p2 p3 p4 y hp
   exact ⟨⟨⟨tQ.nd, rfl, .never⟩, hr.units⟩, bU cM 0, bU cM 1, bU cM 2, bU cM 3, bU cM 4, bU cM 5, bU cM 6, cT cM 7, cT cM 8, Fo, sR, jV, lS, fq, fz, kB, oh, kC, qi⟩
 have adj : iE l.prog w K mg base uQ 7 _ _ ["script"] (OG K (cl av aD az) 1 sN sO sP) := K3 Sh R7 fun kh Ar outer s H E b a hr hp => by
   refine adg ?_ hp
   exact ⟨⟨⟨R7.nd, rfl, .never⟩, hr.units⟩, bU dY 0, bU dY 1, bU dY 2, bU dY 3, bU dY 4, bU dY 5, bU dY 6, bU dY 7, bU dY 8, bU dY 9, bU dY 10, cT dY 11, cT dY 12, cT dY 13, cT dY 14, cT dY 15, cT dY 16, cT dY 17, cT dY 18, cT dY 19, cT dY 20, cT dY 21, qj, oQ, fX SM hr, fX C9 hr, rW, Fo, ⟨⟨_, _, _, by rw [kW]; exact ⟨By, qd, qe, BD⟩, Fq, by rw [kW]; exact Wk, Fl⟩, hr.mono (by decide)⟩, fX Kh hr, fX aaC hr, fX Dc hr, fX SQ hr, SG, jV, lS, uG, qg, oh, kC, fq, fz, gy, rV, qh, kB, jW, fu, ku, lR⟩
 exact adj.imp (YS (fun _ => rfl) (fun _ => rfl) fun x hx => aap hx)
theorem walk {l : PySem.W.OpenLaw} {q : Program} {loose : List Str} {XP : (Str -> Option Value) -> Heap -> Prop} {YP : World -> Heap -> Prop} {d : DefRec} {K : Params -> PySem.W.Frag} (hn : l.most = some 63) (hdf : d.params.defaults = [])
   (hY : ∀ (w : World) (h : Heap), YP w h -> (K w.params).In h)
   (F : ∀ (w : World) (mg : Str -> Option Value) (fa : Addr) (h : Heap), (K w.params).In h -> h.Ns mainGlobals mg -> mg d.name = some (.ref fa) →
     ∃ fd : FuncData, (∀ (s : Shared) (u : Value), BindsTo s fd ⟨[u], []⟩ [("script", u)]) /\ ∀ base : Heap, (K w.params).In base -> base.Ns mainGlobals mg -> iE l.prog w (K w.params) mg base uQ 7 fa fd ["script"] (OG (K w.params) (fun _ => 0) 1 sN sO sP)) :
   PySem.W.WalkO q loose XP YP l.row.toRowW d [] (fun f vs => PySem.call f vs) :=
 L2.Ud (n := 63) (k := 7) (x := "script") (CX := fun _ => uQ) (sp := fun w => OG (K w.params) (fun _ => 0) 1 sN sO sP) hn (by decide) hdf ⟨rfl, by decide, by decide⟩ hY F (fun _ _ a ns hl _ hS => YL rfl hl rfl hS) fun _ _ _ _ _ z => z
end Law
namespace PySem.W.Fast
 def tw7055586850815133819 := 0
 def tw11013337576194448224 := 0
 def tw7889218747254363483 := 0
 def tw15933160466731027621 := 0
 def tw5384982310202632752 := 0
 def tw6986268191120178239 := 0
 def tw14085120743176423358 := 0
 def tw6032277605546364075 := 0
 def tw93543367090929115 := 0
 def tw16032099355913000514 := 0
 def tw1330011052442894386 := 0
 def tw2250774040471451389 := 0
 def tw9579102245361959691 := 0
 def tw10958588249353659396 := 0
 def tw1899552505481974878 := 0
 def tw15775797632939089433 := 0
 def tw7617089311027883082 := 0
 def tw6655945319553203231 := 0
 def tw18135230805024740125 := 0
 def tw4718142690119060845 := 0
 def tw427822531550848868 := 0
 def tw13306277442945186443 := 0
 def tw12750881854016079210 := 0
 def tw14663287240876993097 := 0
 def tw18227079610995633597 := 0
 def tw1597349674967240736 := 0
 def tw3754014687533956943 := 0
 def tw5018994840120329457 := 0
 def tw4291762480772014114 := 0
 def tw18290051745566980957 := 0
 def tw3332923933000945801 := 0
 def tw11960997313968194362 := 0
 def tw15908655828460695352 := 0
 def tw2144580140622724474 := 0
 def tw11649689189089579797 := 0
 def tw14000511119208749650 := 0
 def tw2580995844030542748 := 0
 def tw5804546608001474767 := 0
 def tw8079155948575919194 := 0
 def tw2302740115110768456 := 0
 def tw15356244114968086239 := 0
 def tw18084462777145607998 := 0
 def tw13213209100429105028 := 0
 def tw13555609284848357947 := 0
 def tw7477832069990645780 := 0
 def tw1877586473799194726 := 0
 def tw13947212938266958160 := 0
 def tw8671118125658660265 := 0
 def tw2018693126941547605 := 0
 def tw12627733839210502677 := 0
 def tw14217234482582587836 := 0
 def tw10551173839847973405 := 0
 def tw9034127569376120680 := 0
 def tw1482196199389029602 := 0
 def tw2769371018190518215 := 0
 def tw243990997945096346 := 0
 def tw10911584951454187891 := 0
 def tw3868191972314373749 := 0
 def tw1451011346691857008 := 0
 def tw9321298323381642816 := 0
 def tw15674106459152115073 := 0
end PySem.W.Fast
open PySem PySem.W PyProof.Rows
set_option maxRecDepth 100000 in
set_option maxHeartbeats 0 in
theorem PySem.Challenge.cw_moodtree_k55_a_table_written_back_holds : PySem.Challenge.rw_moodtree_k55_a_table_written_back.Holds := by
 w_on; o_law; k_head; (case hw => w_witness2)
 k_fill
 refine Law.walk (l := PySem.Challenge.rw_moodtree_k55_a_table_written_back) rfl rfl (fun w h Y => PySem.W.kIn_of Y) ?F
 case F =>
   intro w mg fa h KX G hmg
   refine' Law.all_mk KX G hmg ?EV ?Bm ?Bo ?Bp ?Bq ?Br ?Bs ?nT ?nU ?pY ?rQ ?pZ ?p6 ?JG ?EW ?EX ?EY ?EZ ?E1 ?E2 ?p7 ?nV ?nW ?E3 ?Bt ?Bu ?Bv ?Bw ?By ?BD ?nX ?nY ?n5 ?n9 ?p8 ?xS (L2.bS ?Oe ?Og ?Oh) ?JH (L2.bS ?aaD ?aaE ?aaF) ?JK (L2.bS ?A9 ?aaG ?aaH) ?E5 (L2.bS ?sF ?Wt ?Wu) ?BE (L2.bS ?dQ ?SR ?A3) ?JL (L2.bS ?dD ?aaI ?aaJ) ?BF (L2.bS ?SV ?SW ?SX) ?JM (L2.bS ?aaK ?aaL ?aaM) ?xT (L2.bS ?Oi ?Oj ?Ol) ?rR ?rS (L2.bS ?Hz ?HB ?HC) ?qa ?qb (L2.bS ?Ft ?Fv ?Fw) ?ur (L2.bS ?Kl ?Km ?Kn) ?xU (L2.bS ?Om ?Oo ?Oq) ?JQ (L2.bS ?fh ?aaN ?aaO) ?E7 (L2.bS ?Wv ?Ww ?Wx) ?E8 (L2.bS ?Wy ?Wz ?WB) ?jg (L2.bS ?uJ ?uK ?uL) ?jR (L2.bS ?wm ?wo ?wu) ?uw (L2.bS ?Ko ?Kp ?Kq) ?jh (L2.bS ?uM ?uN ?uO) ?lg (L2.bS ?zm ?zo ?zq) ?xV (L2.bS ?Ot ?Ou ?Ov) ?jS (L2.bS ?wA ?wB ?wC) ?qc (L2.bS ?Fx ?Fy ?Fz) ?jT (L2.bS ?wF ?wG ?wH) ?lq (L2.bS ?zu ?zv ?zx) ?lu (L2.bS ?zy ?zA ?zB) ?jU (L2.bS ?wI ?wJ ?wK) ?mU (L2.bS ?BZ ?B3 ?B4) ?mV (L2.bS ?B5 ?B6 ?B7) ?j8 (L2.bS ?yd ?ye ?yf) ?BI (L2.bS ?SY ?S9 ?Tc) ?qd ?qe (L2.bS ?FD ?FE ?FG) ?L4 (L2.bS ?adk ?adl ?adn) ?Si ?Sj ?Fb ?Fd ?ly ?j9 ?JS ?xZ ?rT ?Fe ?BJ ?mW ?Ff ?BK ?x6 ?gD ?Sv ?Fg ?lz ?kg ?BL ?Ka ?BO ?Kc ?Fi ?BP ?Kg
   case EV | Bm | Bo | Bp | Bq | Br | Bs | nT | nU | pY | rQ | pZ | p6 | JG | EW | EX | EY | EZ | E1 | E2 | p7 | nV | nW | E3 | Bt | Bu | Bv | Bw | By | BD | nX | nY | n5 | n9 | p8 | xS | Oe | Og | Oh | JH | aaD | aaE | aaF | JK | A9 | aaG | aaH | E5 | sF | Wt | Wu | BE | dQ | SR | A3 | JL | dD | aaI | aaJ | BF | SV | SW | SX | JM | aaK | aaL | aaM | xT | Oi | Oj | Ol | rR | rS | Hz | HB | HC | qa | qb | Ft | Fv | Fw | ur | Kl | Km | Kn | xU | Om | Oo | Oq | JQ | fh | aaN | aaO | E7 | Wv | Ww | Wx | E8 | Wy | Wz | WB | jg | uJ | uK | uL | jR | wm | wo | wu | uw | Ko | Kp | Kq | jh | uM | uN | uO | lg | zm | zo | zq | xV | Ot | Ou | Ov | jS | wA | wB | wC | qc | Fx | Fy | Fz | jT | wF | wG | wH | lq | zu | zv | zx | lu | zy | zA | zB | jU | wI | wJ | wK | mU | BZ | B3 | B4 | mV | B5 | B6 | B7 | j8 | yd | ye | yf | BI | SY | S9 | Tc | qd | qe | FD | FE | FG | L4 | adk | adl | adn | Si | Sj | Fb | Fd | ly | j9 | JS | xZ | rT | Fe | BJ | mW | Ff | BK | x6 | gD | Sv | Fg | lz | kg | BL | Ka | BO | Kc | Fi | BP | Kg => (try delta L3.qD); k_is
