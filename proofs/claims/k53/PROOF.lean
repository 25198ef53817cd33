import PyProof.Rows.All
import Wide.All
import OpenK.AllK
import Wide.FinOn
import Lean
import PyProof.EqAt
import PyProof.EqKinds
import PyProof.TupleCall
import PySem.Challenge.RW_moodtree_k53_a_run_of_rows
set_option Elab.async false
set_option linter.all false
set_option maxRecDepth 100000
set_option maxHeartbeats 4000000
namespace L2
open PySem PySem.Spec PyProof.Rows
noncomputable abbrev agS := @List.mem_append_right
noncomputable abbrev agT := @List.append_assoc
noncomputable abbrev agU := @List.length_map
noncomputable abbrev agV := @List.mem_cons_self
noncomputable abbrev agW := @wpAny_bind
noncomputable abbrev agX := @List.mem_append_left
noncomputable abbrev agY := @List.mem_cons_of_mem
noncomputable abbrev agZ := @Nat.le_of_ble_eq_true
noncomputable abbrev ag0 := @List.mem_append
noncomputable abbrev ag1 := @List.map_append
noncomputable abbrev ag2 := @if_neg
noncomputable abbrev ag3 := @List.append_nil
noncomputable abbrev ag4 := @List.mem_cons
noncomputable abbrev ag5 := @Bool.false_ne_true
noncomputable abbrev ag6 := @Nat.le_refl
noncomputable abbrev ag7 := @List.getElem?_eq_getElem
noncomputable abbrev ag8 := @Heap.get?_push_of_some
noncomputable abbrev ag9 := @if_pos
noncomputable abbrev aha := @of_decide_eq_true
noncomputable abbrev ahb := @List.not_mem_nil
noncomputable abbrev ahc := @List.length_append
noncomputable abbrev ahd := @List.map_cons
noncomputable abbrev ahe := @wpAny_pure
noncomputable abbrev ahf := @List.size_toArray
noncomputable abbrev ahg := @Option.some.inj
noncomputable abbrev ahh := @List.getElem?_map
noncomputable abbrev ahi := @List.cons_append
noncomputable abbrev ahj := @Heap.lt_size
noncomputable abbrev ahk := @List.mem_of_getElem?
noncomputable abbrev ahl := @List.perm_append_comm
noncomputable abbrev ahm := @List.mem_map
noncomputable abbrev ahn := @Int.emod_lt_of_pos
noncomputable abbrev aho := @List.lookup_cons
noncomputable abbrev ahp := @List.getElem?_eq_some_iff
noncomputable abbrev ahq := @List.Sublist.append
noncomputable abbrev ahr := @of_decide_eq_false
noncomputable abbrev ahs := @Nat.zero_le
noncomputable abbrev aht := @List.nodup_append
noncomputable abbrev ahu := @List.length_cons
noncomputable abbrev ahv := @List.map_map
noncomputable abbrev ahw := @Option.map_eq_some_iff
noncomputable abbrev ahx := @Nat.lt_of_lt_of_le
noncomputable abbrev ahy := @List.Sublist.refl
noncomputable abbrev ahz := @Bool.and_eq_true
noncomputable abbrev ahA := @List.Perm.append_left
noncomputable abbrev ahB := @Int.emod_nonneg
noncomputable abbrev ahC := @Heap.get?_push_size
noncomputable abbrev ahD := @List.reverse_cons
noncomputable abbrev ahE := @List.nodup_cons
noncomputable abbrev ahF := @Nat.ne_of_lt
noncomputable abbrev ahG := @List.length_take
noncomputable abbrev ahH := @List.filterMap_cons
noncomputable abbrev ahI := @List.sublist_append_right
noncomputable abbrev ahJ := @List.length_filterMap_le
noncomputable abbrev ahK := @decide_eq_true
noncomputable abbrev ahL := @PySem.W.mg_of
noncomputable abbrev ahM := @Nat.le_trans
noncomputable abbrev ahN := @List.mem_singleton
noncomputable abbrev ahO := @PySem.W.mg_none_of
noncomputable abbrev ahP := @List.length_range
noncomputable abbrev ahQ := @List.take_length
noncomputable abbrev ahR := @PySem.mem_of_lookup
noncomputable abbrev ahS := @sizeLine_eq
noncomputable abbrev ahT := @List.getD_eq_getElem?_getD
noncomputable abbrev ahU := @List.take_add_one
noncomputable abbrev ahV := @List.getElem?_eq_none
noncomputable abbrev ahW := @Nat.lt_of_le_of_lt
noncomputable abbrev ahX := @List.perm_middle
noncomputable abbrev ahY := @List.all_eq_true
noncomputable abbrev ahZ := @wpAny_mono
noncomputable abbrev ah0 := @PySem.F.plainAttrs_list
noncomputable abbrev ah1 := @PySem.F.slot_dict_keyiterator_next
noncomputable abbrev ah2 := @decide_eq_false
noncomputable abbrev ah3 := @Nat.le_of_lt
noncomputable abbrev ah4 := @List.length_replicate
noncomputable abbrev ah5 := @List.find?_cons
noncomputable abbrev ah6 := @Int.toNat_natCast
noncomputable abbrev ah7 := @wpAny_typeNameOfWhole_keyiter
noncomputable abbrev ah8 := @List.perm_iff_count
noncomputable abbrev ah9 := @Obj.data_mapFields
noncomputable abbrev aia := @wpAny_passesOwn
noncomputable abbrev aib := @PySem.W.kia_one
noncomputable abbrev aic := @List.nil_append
noncomputable abbrev aid := @Paired.length
noncomputable abbrev aie := @wpAny_newObj_type
noncomputable abbrev aif := @List.count_append
noncomputable abbrev aih := @wpAny_dictEntries
noncomputable abbrev aii := @lookup_relabel_local
noncomputable abbrev aij := @List.mem_of_find?_eq_some
noncomputable abbrev aik := @List.mem_range
noncomputable abbrev ail := @wpAny_call_entry
noncomputable abbrev aim := @beq_eq_false_iff_ne
noncomputable abbrev ain := @List.map_congr_left
noncomputable abbrev aio := @wpAny_callSpecial?_slot
noncomputable abbrev aip := @Nat.lt_irrefl
noncomputable abbrev aiq := @wpAny_Call_Name_kw
noncomputable abbrev air := @tupleKind_room_in1
noncomputable abbrev ais := @Bool.false_eq_true
noncomputable abbrev ait := @List.range_succ
noncomputable abbrev aiu := @List.getElem?_set_self
noncomputable abbrev aiv := @or_false
noncomputable abbrev aiw := @PySem.W.methodCall_KW
noncomputable abbrev aix := @Heap.get?_update_self
noncomputable abbrev aiy := @List.nodup_nil
noncomputable abbrev aiz := @Int.zero_add
noncomputable abbrev aiA := @beq_iff_eq
noncomputable abbrev aiB := @beq_self_eq_true
noncomputable abbrev aiC := @List.mem_flatMap
noncomputable abbrev aiD := @wpAny_holding
noncomputable abbrev aiE := @List.any_cons
noncomputable abbrev aiF := @Heap.SameBut.update
noncomputable abbrev aiG := @List.getElem_of_mem
noncomputable abbrev aiH := @List.mem_filterMap
noncomputable abbrev aiI := @PySem.W.callWith_K
noncomputable abbrev aiJ := @if_false
noncomputable abbrev aiK := @PySem.F.slot_list_append
noncomputable abbrev aiL := @PySem.F.type_list_append
noncomputable abbrev aiM := @wpAny_comprehension_free
noncomputable abbrev aiN := @List.Perm.refl
noncomputable abbrev aiO := @wpAny_setField
noncomputable abbrev aiP := @List.getElem?_cons_succ
noncomputable abbrev aiQ := @wpAny_truthy_bool
noncomputable abbrev aiR := @decide_eq_true_eq
noncomputable abbrev aiS := @List.getElem_take
noncomputable abbrev aiT := @wpAny_attempt
noncomputable abbrev Key := Sum Int Str
noncomputable def Bg : Key -> Value -> Bool
 | .inl k, v => Value.isInt k v
 | .inr x, v => Value.isStrOf x v
noncomputable def acg (w : World) : Key -> Int
 | .inl k => hashInt k
 | .inr x => hashStr w x
theorem d7 : ∀ {k : Key} {v : Value}, Bg k v = true -> (∃ i t, k = Sum.inl i /\ v = Value.int i t) \/ (∃ x t, k = Sum.inr x /\ v = Value.str x t)
 | .inl i, v, h => by
   obtain ⟨t, e⟩ := Value.isInt_shape (k := i) (v := v) h
   exact .inl ⟨i, t, rfl, e⟩
 | .inr x, v, h => by
   obtain ⟨t, e⟩ := Value.isStrOf_shape (x := x) (v := v) h
   exact .inr ⟨x, t, rfl, e⟩
theorem JB (i : Int) (t : Tok) : Bg (.inl i) (.int i t) = true := by simp [Bg, Value.isInt]
theorem JC (x : Str) (t : Tok) : Bg (.inr x) (.str x t) = true := by simp [Bg, Value.isStrOf]
theorem VG (a b : Int) : decide ((Sum.inl a : Key) = Sum.inl b) = (a == b) := by
 by_cases e : a = b
 . subst e; simp
 . have h : ¬ (Sum.inl a : Key) = Sum.inl b := fun q => e (Sum.inl.inj q)
   rw [ah2 h]
   exact (aim.mpr e).symm
theorem VH (a b : Str) : decide ((Sum.inr a : Key) = Sum.inr b) = decide (a = b) := by
 by_cases e : a = b
 . subst e; simp
 . have h : ¬ (Sum.inr a : Key) = Sum.inr b := fun q => e (Sum.inr.inj q)
   rw [ah2 h, ah2 e]
theorem VJ (a : Int) (b : Str) : decide ((Sum.inl a : Key) = Sum.inr b) = false := ah2 (fun q => nomatch q)
theorem VL (a : Str) (b : Int) : decide ((Sum.inr a : Key) = Sum.inl b) = false := ah2 (fun q => nomatch q)
noncomputable def eO (prog : Program) (w : World) : PySem.KeyKind prog w Key where
 is := Bg
 hash := acg w
 inj := fun v a b ha hb => by
   rcases d7 ha with ⟨i, t, rfl, rfl⟩ | ⟨x, t, rfl, rfl⟩
   . rcases d7 hb with ⟨j, u, rfl, e⟩ | ⟨y, u, rfl, e⟩
     . injection e with e1 _; rw [e1]
     . exact nomatch e
   . rcases d7 hb with ⟨j, u, rfl, e⟩ | ⟨y, u, rfl, e⟩
     . exact nomatch e
     . injection e with e1 _; rw [e1]
 byValue := fun k v h => by
   rcases d7 h with ⟨i, t, rfl, rfl⟩ | ⟨x, t, rfl, rfl⟩ <;> rfl
 pyHash := fun hv h => by
   rcases d7 hv with ⟨i, t, rfl, rfl⟩ | ⟨x, t, rfl, rfl⟩
   . exact wpAny_pyHash_int h
   . exact wpAny_pyHash_str h
 eqBool := fun hu hv h => by
   rcases d7 hu with ⟨i, t, rfl, rfl⟩ | ⟨x, t, rfl, rfl⟩
   . rcases d7 hv with ⟨j, u, rfl, rfl⟩ | ⟨y, u, rfl, rfl⟩
     . rw [VG] at h; exact wpAny_eqBool_int h
     . rw [VJ] at h; exact SeqAt.EqAt.int_str i t y u _ _ _ _ h
   . rcases d7 hv with ⟨j, u, rfl, rfl⟩ | ⟨y, u, rfl, rfl⟩
     . rw [VL] at h; exact SeqAt.EqAt.str_int x t j u _ _ _ _ h
     . rw [VH] at h; exact wpAny_eqBool_str h
 «strs» := fun k x t v h => by
   rcases d7 h with ⟨i, u, rfl, e⟩ | ⟨y, u, rfl, e⟩
   . exact nomatch e
   . injection e with e1 _
     subst e1
     cases v <;> rfl
theorem DZ (prog : Program) (w : World) (i : Int) (t : Tok) : (eO prog w).is (.inl i) (.int i t) = true := JB i t
theorem D0 (prog : Program) (w : World) (x : Str) (t : Tok) : (eO prog w).is (.inr x) (.str x t) = true := JC x t
inductive V where
 | non | bl (b : Bool) | int (i : Int) | str (x : Str) | Hr (b : Array UInt8) | flt (b : UInt64) | ref (a : Addr) | ty (n : String)
 deriving DecidableEq
noncomputable def RelV : V -> Value -> Prop
 | .non, u => u = Value.none
 | .bl b, u => u = Value.bool b
 | .int i, u => ∃ t, u = Value.int i t
 | .str x, u => ∃ t, u = Value.str x t
 | .Hr b, u => ∃ t, u = Value.bytes b t
 | .flt b, u => ∃ t, u = Value.float b t
 | .ref a, u => u = Value.ref a
 | .ty n, u => u = Value.type n
noncomputable abbrev Vals : List V -> List Value -> Prop := Paired RelV
theorem Vals.length {xs : List V} {us : List Value} (r : Vals xs us) : xs.length = us.length := aid r
theorem Vals.get : ∀ {xs : List V} {us : List Value} {i : Nat} {x : V}, Vals xs us -> xs[i]? = some x -> ∃ u, us[i]? = some u /\ RelV x u
 | _, _, _, _, .nil, e => by simp at e
 | _, _, 0, _, .cons r _, e => by simp at e; subst e; exact ⟨_, rfl, r⟩
 | _, _, i + 1, x, .cons _ t, e => by
   obtain ⟨u, h1, h2⟩ := Vals.get (i := i) (x := x) t (by simpa using e)
   exact ⟨u, by simpa using h1, h2⟩
theorem Vals.set {x : V} {u : Value} (r : RelV x u) : ∀ {xs : List V} {us : List Value} (i : Nat), Vals xs us -> Vals (xs.set i x) (us.set i u)
 | _, _, _, .nil => .nil
 | _, _, 0, .cons _ t => .cons r t
 | _, _, i + 1, .cons q t => .cons q (Vals.set r i t)
theorem Vals.append : ∀ {xs ys : List V} {us ws : List Value}, Vals xs us -> Vals ys ws -> Vals (xs ++ ys) (us ++ ws)
 | _, _, _, _, .nil, s => s
 | _, _, _, _, .cons r t, s => .cons r (Vals.append t s)
theorem Vals.take : ∀ {xs : List V} {us : List Value} (n : Nat), Vals xs us -> Vals (xs.take n) (us.take n)
 | _, _, 0, _ => .nil
 | _, _, _ + 1, .nil => .nil
 | _, _, n + 1, .cons r t => .cons r (Vals.take n t)
theorem Vals.drop : ∀ {xs : List V} {us : List Value} (n : Nat), Vals xs us -> Vals (xs.drop n) (us.drop n)
 | _, _, 0, r => r
 | _, _, _ + 1, .nil => .nil
 | _, _, n + 1, .cons _ t => Vals.drop n t
noncomputable def oR : Option V -> Option Value -> Prop
 | some v, some u => RelV v u
 | none, none => True
 | _, _ => False
noncomputable def KV {κ : Type} : List (κ × V) -> List (κ × Value) -> Prop := Paired fun (p : κ × V) (q : κ × Value) => p.1 = q.1 /\ RelV p.2 q.2
noncomputable def kV : Key -> V
 | .inl i => .int i
 | .inr x => .str x
inductive HO where
 | lst (xs : List V)
 | tup (xs : List V)
 | dK (kvs : List (Key × V)) | dT (kvs : List (List Key × V))
 | set (S : Int -> Bool) (n : Nat)
 | ins (C dx : Addr) (fs : List (Str × V))
 | own (x : Addr)
 | xd (fs : List (Str × V))
 | met (f x : Addr)
 | rng (lo hi : Int)
 | bS (o : Obj) (u : HO)
 | U1 (ps : Array Value)
 | tabs (q : Str)
 | U3 (q : Str)
 | ext (φ : Heap -> Prop)
noncomputable abbrev Hp := Addr -> Option HO
noncomputable def upd (H : Hp) (a : Addr) (o : HO) : Hp := fun b => if b = a then some o else H b
theorem aI {H : Hp} {a : Addr} {o : HO} : upd H a o a = some o := by unfold upd; rw [ag9 rfl]
theorem aq {H : Hp} {a b : Addr} {o : HO} (h : b ≠ a) : upd H a o b = H b := by unfold upd; rw [ag2 h]
theorem Y9 {H : Hp} {a b : Addr} {o u : HO} (h : H a = some o) (h' : H b = some u) (d : o ≠ u) : a ≠ b := by
 intro e; subst e; rw [h] at h'; exact d (ahg h')
theorem bO {H : Hp} {a b : Addr} {o : HO} (h : H a = some o) (h' : H b = none) : a ≠ b := by
 intro e; subst e; rw [h] at h'; cases h'
section
variable (P : Program) (w : World)
noncomputable def eN (H : Hp) (h : Heap) (a : Addr) : HO -> Prop
 | .lst xs => xs.length <= sizeLine /\ ∃ (its : List Value) (n : Nat), Vals xs its /\ h.get? a = some { cls := .type "list", data := .seq its.toArray n }
 | .tup xs => xs.length <= sizeLine /\ ∃ its : List Value, Vals xs its /\ IsTup h a its.toArray
 | .dK kvs => kvs.length <= sizeLine /\ (a == sysModules) = false /\ ∃ vs, KV kvs vs /\ h.DictOf (eO P w) a vs
 | .dT kvs => kvs.length <= sizeLine /\ (a == sysModules) = false /\ ∃ xs : List (List Key × Addr × Value),
     Paired (fun (p : List Key × V) (q : List Key × Addr × Value) => p.1 = q.1 /\ H q.2.1 = some (.tup (p.1.map kV)) /\ RelV p.2 q.2.2) kvs xs ∧
     ∃ o es ep, h.get? a = some o /\ o.ExactDict /\ o.data = .dict es ep /\ es.toList = xs.map (entryOfKey (tupleKind (eO P w))) /\ (xs.map (·.1)).Nodup
 | .set S n => h.SetOf (intKind P w) a S n
 | .ins C dx fs => H dx = some (.own a) /\ fs.length <= 1000 /\ dx ≠ a /\ h.get? a = some (PySem.W.instObj C dx) ∧
     ∃ mA, h.Ns1 dx mA /\ (∀ f, oR (fs.lookup f) (mA f)) /\ PySem.Within mA (fs.map (·.1))
 | .own _ => ∃ o, h.get? a = some o
 | .xd fs => ∃ mA, h.Ns1 a mA /\ ∀ f, oR (fs.lookup f) (mA f)
 | .rng lo hi => ∃ t u v, h.get? a = some { cls := .type "range", data := .fields #[.int lo t, .int hi u, .int 1 v] }
 | .bS o u => h.get? a = some o /\ eN H h a u
 | .U1 ps => h.get? a = some { cls := .none, data := .fields ps }
 | .tabs q => ∃ ps : Array Value, h.get? a = some { cls := .none, data := .fields ps } /\ TriplesOk ps.toList /\ ∀ pos cv, codeAmong pos ps.toList = some cv -> ∃ c, cv = .ref c /\ H c = some (.U3 q)
 | .U3 q => ∃ o vs t, h.get? a = some o /\ o.data = .fields vs /\ vs[1]? = some (.str q t)
 | .met f x => h.get? a = some (PySem.W.methodObj (.ref f) (.ref x))
 | .ext φ => φ h /\ (∃ o, h.get? a = some o) /\ ∀ h1 h2 : Heap, φ h1 -> (∀ o, h1.get? a = some o -> h2.get? a = some o) -> φ h2
noncomputable def tY (H : Hp) (h : Heap) : Prop := ∀ a o, H a = some o -> eN P w H h a o
end
section
variable {P : Program} {w : World} {H H' : Hp} {h h' : Heap} {a : Addr} {o : HO}
theorem eN.lt (x : eN P w H h a o) : a < h.objs.size := by
 cases o with
 | lst xs => obtain ⟨_, _, _, _, e⟩ := x; exact ahj e
 | tup xs => obtain ⟨_, _, _, p⟩ := x; exact p.lt
 | dK kvs => obtain ⟨_, _, _, _, o, _, _, e, _⟩ := x; exact ahj e
 | dT kvs => obtain ⟨_, _, _, _, o, _, _, e, _⟩ := x; exact ahj e
 | set S n => obtain ⟨o, _, _, _, e, _⟩ := x; exact ahj e
 | ins C dx fs => obtain ⟨_, _, _, e, _⟩ := x; exact ahj e
 | own y => obtain ⟨_, e⟩ := x; exact ahj e
 | xd fs => obtain ⟨_, ⟨_, _, _, e, _⟩, _⟩ := x; exact ahj e
 | rng lo hi => obtain ⟨_, _, _, e⟩ := x; exact ahj e
 | bS ob u => obtain ⟨e, _⟩ := x; exact ahj e
 | U1 ps => exact ahj (show h.get? a = some _ from x)
 | tabs q => obtain ⟨_, e, _⟩ := x; exact ahj e
 | U3 q => obtain ⟨_, _, _, e, _⟩ := x; exact ahj e
 | met f y => exact ahj (show h.get? a = some _ from x)
 | ext φ => obtain ⟨_, ⟨_, e⟩, _⟩ := x; exact ahj e
theorem Paired.VM {α β : Type} {F G : α -> β -> Prop} : ∀ {l₁ : List α} {l₂ : List β}, Paired F l₁ l₂ -> (∀ a b, F a b -> G a b) -> Paired G l₁ l₂
 | _, _, .nil, _ => .nil
 | _, _, .cons r t, f => .cons (f _ _ r) (Paired.VM t f)
theorem eN.BZ (x : eN P w H h a o) (k : ∀ b u, (b = a \/ H b = some (.own a)) -> h.get? b = some u -> h'.get? b = some u)
   (ho : ∀ b, H b = some (.own a) -> H' b = some (.own a)) (ht : ∀ b xs, H b = some (.tup xs) -> H' b = some (.tup xs)) (mS : ∀ b q, H b = some (.U3 q) -> H' b = some (.U3 q) := by intro _ _ q; exact q) : eN P w H' h' a o := by
 induction o with
 | lst xs => obtain ⟨z, its, n, r, e⟩ := x; exact ⟨z, its, n, r, k _ _ (.inl rfl) e⟩
 | tup xs => obtain ⟨z, its, r, ob, e, c⟩ := x; exact ⟨z, its, r, ob, k _ _ (.inl rfl) e, c⟩
 | dK kvs => obtain ⟨z, y, vs, r, ob, es, ep, e, c⟩ := x; exact ⟨z, y, vs, r, ob, es, ep, k _ _ (.inl rfl) e, c⟩
 | dT kvs =>
   obtain ⟨z, y, xs, r, ob, es, ep, e, c⟩ := x
   exact ⟨z, y, xs, Paired.VM r fun p q z => ⟨z.1, ht _ _ z.2.1, z.2.2⟩, ob, es, ep, k _ _ (.inl rfl) e, c⟩
 | set S n => obtain ⟨ob, es, ep, t, e, c⟩ := x; exact ⟨ob, es, ep, t, k _ _ (.inl rfl) e, c⟩
 | ins C dx fs =>
   obtain ⟨d, z, ne, e, mA, ⟨od, es, ep, e2, c⟩, r⟩ := x
   exact ⟨ho _ d, z, ne, k _ _ (.inl rfl) e, mA, ⟨od, es, ep, k _ _ (.inr d) e2, c⟩, r⟩
 | own y => obtain ⟨ob, e⟩ := x; exact ⟨ob, k _ _ (.inl rfl) e⟩
 | xd fs => obtain ⟨mA, ⟨od, es, ep, e, c⟩, r⟩ := x; exact ⟨mA, ⟨od, es, ep, k _ _ (.inl rfl) e, c⟩, r⟩
 | rng lo hi => obtain ⟨t, u, v, e⟩ := x; exact ⟨t, u, v, k _ _ (.inl rfl) e⟩
 | bS ob u ih => obtain ⟨e, q⟩ := x; exact ⟨k _ _ (.inl rfl) e, ih q⟩
 | U1 ps =>
   have e : h.get? a = some { cls := .none, data := .fields ps } := x
   show h'.get? a = some { cls := .none, data := .fields ps }
   exact k a _ (.inl rfl) e
 | met f y =>
   have e : h.get? a = some (PySem.W.methodObj (.ref f) (.ref y)) := x
   show h'.get? a = some (PySem.W.methodObj (.ref f) (.ref y))
   exact k a _ (.inl rfl) e
 | tabs q => obtain ⟨ps, e, tr, cs⟩ := x; exact ⟨ps, k _ _ (.inl rfl) e, tr, fun pos cv z => let ⟨c, e1, e2⟩ := cs pos cv z; ⟨c, e1, mS _ _ e2⟩⟩
 | U3 q => obtain ⟨ob, vs, t, e, r⟩ := x; exact ⟨ob, vs, t, k _ _ (.inl rfl) e, r⟩
 | ext φ => obtain ⟨p, ⟨o, e⟩, st⟩ := x; exact ⟨st _ _ p fun o q => k _ _ (.inl rfl) q, ⟨o, k _ _ (.inl rfl) e⟩, st⟩
theorem tY.lt (x : tY P w H h) (e : H a = some o) : a < h.objs.size := (x a o e).lt
theorem tY.fresh (x : tY P w H h) (e : h.objs.size <= a) : H a = none := by
 cases q : H a with
 | none => rfl
 | some u => exact absurd (ahx (x.lt q) e) (aip _)
theorem tY.kept (x : tY P w H h) (k : ∀ b u, h.get? b = some u -> h'.get? b = some u) : tY P w H h' := fun a o e =>
 (x a o e).BZ (fun b u _ q => k b u q) (fun _ q => q) fun _ _ q => q
theorem tY.laid (x : tY P w H h) (k : ∀ b u, h.get? b = some u -> h'.get? b = some u) (hp : h.objs.size <= a) (new : eN P w (upd H a o) h' a o) : tY P w (upd H a o) h' := fun b u e => by
 have hn := x.fresh hp
 by_cases hb : b = a
 . subst hb; rw [aI] at e; cases e; exact new
 . rw [aq hb] at e
   exact (x b u e).BZ (fun c v _ q => k c v q) (fun c q => by rw [aq (bO q hn)]; exact q) (fun c xs q => by rw [aq (bO q hn)]; exact q) fun c z q => by rw [aq (bO q hn)]; exact q
end
noncomputable def Rd (H : Hp) (a : Addr) (u : HO) : Prop := H a = some u \/ ∃ o, H a = some (.bS o u)
theorem Rd.ok {P : Program} {w : World} {H : Hp} {h : Heap} {a : Addr} {u : HO} (r : Rd H a u) (x : tY P w H h) : eN P w H h a u := by
 rcases r with r | ⟨o, r⟩
 . exact x a u r
 . obtain ⟨_, q⟩ := x a _ r
   exact q
noncomputable def Za : Option HO -> Prop
 | some (.lst _) => True
 | some (.dK _) => True
 | some (.dT _) => True
 | some (.set _ _) => True
 | some (.ins _ _ _) => True
 | some (.ext _) => True
 | some (.tabs _) => True
 | _ => False
section
variable {P : Program} {w : World} {H : Hp} {h h' : Heap} {x e : Addr} {o' : HO}
theorem tY.write (ok : tY P w H h) (mu : Za (H x)) (he : e = x \/ H e = some (.own x)) (k : ∀ b u, b ≠ e -> h.get? b = some u -> h'.get? b = some u) (YD : ∃ u, h'.get? e = some u)
   (new : eN P w (upd H x o') h' x o') : tY P w (upd H x o') h' := fun b u q => by
 have Zb : ∀ c y, H c = some (.own y) -> c ≠ x := fun c y r z => by subst z; rw [r] at mu; exact mu
 have aci : ∀ c xs, H c = some (.tup xs) -> c ≠ x := fun c xs r z => by subst z; rw [r] at mu; exact mu
 have acj : ∀ c q, H c = some (.U3 q) -> c ≠ x := fun c q r z => by subst z; rw [r] at mu; exact mu
 by_cases hb : b = x
 . subst hb; rw [aI] at q; cases q; exact new
 . rw [aq hb] at q
   by_cases VN : b = e
   . have q' : H b = some (.own x) := by
       rcases he with z | z
       . exact absurd (VN.trans z) hb
       . rw [VN]; exact z
     rw [q] at q'; cases q'
     obtain ⟨v, hv⟩ := YD
     exact ⟨v, by rw [VN]; exact hv⟩
   . refine (ok b u q).BZ (fun c v hc r => k c v ?_ r) (fun c r => by rw [aq (Zb c b r)]; exact r) (fun c xs r => by rw [aq (aci c xs r)]; exact r) fun c z r => by rw [aq (acj c z r)]; exact r
     rcases hc with rfl | hc
     . exact VN
     . rintro rfl
       rcases he with z | z
       . exact Zb c b hc z
       . rw [hc] at z; cases z; exact hb rfl
end
structure Un (fs ex : List Addr) (H H' : Hp) (h h' : Heap) : Prop where
 keep : ∀ b o, h.get? b = some o -> H b = none -> b ∉ fs -> b ∉ ex -> h'.get? b = some o
 slot : ∀ b o, h.get? b = some o -> H b = none -> b ∈ fs -> b ∉ ex -> ∃ sl, h'.get? b = some { o with slots := sl }
 free : ∀ b o, h.get? b = some o -> H b = none -> b ∉ ex -> H' b = none
 there : ∀ b o, h.get? b = some o -> b ∉ ex -> ∃ o', h'.get? b = some o'
 Au : ∀ b xs, H b = some (.tup xs) -> H' b = some (.tup xs)
 jn : ∀ b o u, H b = some (.bS o u) -> H' b = some (.bS o u)
 Av : ∀ b ps, H b = some (.U1 ps) -> ∃ more, H' b = some (.U1 (ps ++ more))
section
variable {fs ex : List Addr} {H H1 : Hp} {h h1 h' : Heap} {a x e : Addr} {o : HO}
theorem Un.any (u : Un fs ex H H1 h h1) {b : Addr} {ob : Obj} (q : h.get? b = some ob) (n : H b = none) (hx : b ∉ ex) : ∃ sl, h1.get? b = some { ob with slots := sl } := by
 by_cases hb : b ∈ fs
 . exact u.slot b ob q n hb hx
 . exact ⟨ob.slots, u.keep b ob q n hb hx⟩
theorem Un.kept (k : ∀ b u, h.get? b = some u -> h'.get? b = some u) : Un fs ex H H h h' :=
 ⟨fun b ob q _ _ _ => k b ob q, fun b ob q _ _ _ => ⟨ob.slots, k b ob q⟩, fun _ _ _ n _ => n, fun b ob q _ => ⟨ob, k b ob q⟩, fun _ _ q => q, fun _ _ _ q => q, fun _ ps q => ⟨#[], by rw [q]; simp⟩⟩
theorem Un.refl : Un fs ex H H h h := Un.kept fun _ _ q => q
theorem Un.laid (k : ∀ b u, h.get? b = some u -> h'.get? b = some u) (hp : h.objs.size <= a) (hn : H a = none) : Un fs ex H (upd H a o) h h' where
 keep := fun b u q _ _ _ => k b u q
 slot := fun b u q _ _ _ => ⟨u.slots, k b u q⟩
 free := fun b u q n _ => by rw [aq (ahF (ahx (ahj q) hp))]; exact n
 there := fun b u q _ => ⟨u, k b u q⟩
 Au := fun b xs q => by rw [aq (bO q hn)]; exact q
 jn := fun b u xs q => by rw [aq (bO q hn)]; exact q
 Av := fun b ps q => ⟨#[], by rw [aq (bO q hn), q]; simp⟩
theorem Un.write (mu : Za (H x)) (he : e = x \/ H e = some (.own x)) (k : ∀ b u, b ≠ e -> h.get? b = some u -> h'.get? b = some u) (YD : ∃ u, h'.get? e = some u) : Un fs ex H (upd H x o) h h' := by
 have hx : ∀ b, H b = none -> b ≠ x := fun b n z => by subst z; rw [n] at mu; exact mu
 have hb : ∀ b, H b = none -> b ≠ e := fun b n z => by
   subst z
   rcases he with r | r
   . exact hx b n r
   . rw [n] at r; cases r
 have hm : ∀ b u, H b = some u -> ¬ Za (some u) -> b ≠ x := fun b u q nm z => by subst z; rw [q] at mu; exact nm mu
 refine ⟨fun b u q n _ _ => k b u (hb b n) q, fun b u q n _ _ => ⟨u.slots, k b u (hb b n) q⟩, fun b u q n _ => by rw [aq (hx b n)]; exact n, fun b u q _ => ?_,
   fun b xs q => by rw [aq (hm b _ q fun z => z)]; exact q, fun b u xs q => by rw [aq (hm b _ q fun z => z)]; exact q, fun b ps q => ⟨#[], by rw [aq (hm b _ q fun z => z), q]; simp⟩⟩
 by_cases VN : b = e
 . subst VN; exact YD
 . exact ⟨u, k b u VN q⟩
end
noncomputable def trk (h : Heap) (H : Hp) : List Addr := (List.range h.objs.size).filter fun a => (H a).isSome
noncomputable def B3 (h : Heap) (H : Hp) : Heap := PySem.W.hideAll h (trk h H)
theorem JD (h : Heap) (H : Hp) : (B3 h H).objs.size = h.objs.size := PySem.W.hideAll_size _ _
theorem L0 {h : Heap} {H : Hp} {b : Addr} {o : Obj} (e : h.get? b = some o) (n : H b = none) : (B3 h H).get? b = some o :=
 PySem.W.hideAll_get _ e fun hm => by
   have q : (H b).isSome = true := (List.mem_filter.mp hm).2
   rw [n] at q; simp at q
theorem QD {h : Heap} {H : Hp} {b : Addr} {o : Obj} (e : (B3 h H).get? b = some o) : h.get? b = some o /\ H b = none := by
 have e' : h.get? b = some o := PySem.W.of_hideAll (trk h H) e
 refine ⟨e', ?_⟩
 cases q : H b with
 | none => rfl
 | some x =>
   have hm : b ∈ trk h H := List.mem_filter.mpr ⟨aik.mpr (ahj e'), by simp [q]⟩
   have z : (B3 h H).get? b = none := PySem.W.hideAll_none (trk h H) hm
   rw [z] at e; cases e
noncomputable def QF (g h : Heap) (L : Addr) : List (Addr × Obj) := (List.range h.objs.size).filterMap fun a => if a = L \/ (g.get? a).isSome = true then none else (h.get? a).map fun o => (a, o)
noncomputable def rest (g h : Heap) (L d : Addr) : List (Addr × Obj) := (QF g h L).filter fun p => decide (p.1 ≠ d)
structure Mod (K : PySem.W.Frag) (mg : Str -> Option Value) (base : Heap) : Prop where
 YF : K.In base
 glob : base.Ns mainGlobals mg
 blt : ∃ mb, base.Ns builtinsNs mb /\ ∀ x : Str, x ≠ "__name__" -> mb x = bootBuiltins x
 nolimit : base.NoLimit
structure Cx where
 prog : Program
 w : World
 K : PySem.W.Frag
 mg : Str -> Option Value
 base : Heap
 A : Around
 N : List Str
 s₀ : Shared
 H₀ : Hp
 env : Env
 outer : List Env
 stack : List Env
 ex : List Addr
 fn : Str -> Bool
 calm : Bool
 pn : List (Addr × Obj)
 xe : Value -> Shared -> Prop
noncomputable def LD (l : List Env) : List Addr := l.filterMap (·.frame)
noncomputable abbrev Cx.fs (X : Cx) : List Addr := LD X.outer
noncomputable def U4 (sc : Scope) (x : Str) : Prop := sc.names.lookup x = some .local \/ sc.names.lookup x = some .cell \/ sc.names.lookup x = some .free
noncomputable def Loc (sc : Scope) (x : Str) : Prop := sc.names.lookup x = some .local \/ sc.names.lookup x = some .cell
noncomputable def Look (env : Env) (h : Heap) (m : Str -> Option Value) (x : Str) (u : Value) : Prop :=
 (env.kindOf x = some .local /\ m x = some u) \/ ((env.kindOf x = some .cell \/ env.kindOf x = some .free) /\ ∃ c, env.cells.lookup x = some c /\ h.IsCell c (some u))
structure Cx.Ok (X : Cx) : Prop where
 mod : Mod X.K X.mg X.base
 kind : X.env.scope.kind = .function
 glob : X.env.globals = mainGlobals
 blt : X.env.builtins = builtinsNs
 above : X.s₀.heap.objs.size <= X.env.locals
 inj : ∀ x y c, X.env.cells.lookup x = some c -> X.env.cells.lookup y = some c -> x = y
 has : ∀ x, (X.env.kindOf x = some .cell \/ X.env.kindOf x = some .free) -> ∃ c, X.env.cells.lookup x = some c
 Zc : ∀ x c, X.fn x = true -> X.env.cells.lookup x = some c -> X.s₀.heap.objs.size <= c
 hd : X.calm = true -> X.A.handled = none
 frames : X.A.frames = some X.stack
 stk : X.stack = X.outer \/ (X.stack = X.env :: X.outer /\ X.env.frame = some X.env.locals)
 exf : ∀ b ∈ X.ex, b ≠ X.env.locals /\ ∀ x c, X.env.cells.lookup x = some c -> c ≠ b
 bs : ∀ b o, X.base.get? b = some o -> X.s₀.heap.get? b = some o /\ X.H₀ b = none
 LJ : X.base.objs.size <= X.s₀.heap.objs.size
 JF : ∀ b o, X.base.get? b = some o -> b ∉ X.ex
 QG : ∀ b ∈ X.ex, b ∉ X.fs
 vd : X.s₀.heap.FunFrames X.base X.outer
 U5 : ∀ b ∈ X.fs, X.H₀ b = none
structure Inv (X : Cx) (pins : List (Addr × Obj)) (σ : List (Option V)) (H : Hp) (s : Shared) : Prop where
 ok : X.Ok
 os : s.os = X.s₀.os
 bare : AllBare s.gens
 base : Un X.fs X.ex X.H₀ H X.s₀.heap s.heap
 loc : ∃ m, s.heap.Ns X.env.locals m /\ ∀ (i : Nat) (x : Str) (v : V), X.N[i]? = some x -> σ[i]? = some (some v) -> U4 X.env.scope x -> ∃ u, RelV v u /\ Look X.env s.heap m x u
 cell : ∀ x c, X.env.cells.lookup x = some c -> ∃ v, s.heap.IsCell c v
 free : H X.env.locals = none
 nH : ∀ x c, X.env.cells.lookup x = some c -> H c = none
 pin : ∀ p ∈ X.pn ++ pins, s.heap.get? p.1 = some p.2 /\ H p.1 = none /\ p.1 ≠ X.env.locals /\ p.1 ∉ X.fs /\ ∀ v, p.2.data ≠ .cell v
 dg : tY X.prog X.w H s.heap
 len : σ.length = X.N.length
section
variable {X : Cx} {pins : List (Addr × Obj)} {σ : List (Option V)} {H H' : Hp} {s : Shared} {h' : Heap}
theorem Cx.Ok.ack (ok : X.Ok) {b : Addr} {o : Obj} (e : X.base.get? b = some o) : b ∉ X.fs := fun hb => by
 have := (ok.vd.mem hb).1
 rw [e] at this; cases this
theorem Inv.bs (I : Inv X pins σ H s) : ∀ b o, X.base.get? b = some o -> s.heap.get? b = some o /\ H b = none := fun b o e =>
 ⟨I.base.keep b o (I.ok.bs b o e).1 (I.ok.bs b o e).2 (I.ok.ack e) (I.ok.JF b o e), I.base.free b o (I.ok.bs b o e).1 (I.ok.bs b o e).2 (I.ok.JF b o e)⟩
theorem Inv.bk (I : Inv X pins σ H s) : ∀ b o, X.base.get? b = some o -> s.heap.get? b = some o := fun b o e => (I.bs b o e).1
theorem Inv.mod (I : Inv X pins σ H s) : Mod X.K X.mg X.base := I.ok.mod
theorem Inv.wK (I : Inv X pins σ H s) : X.K.In s.heap := I.ok.mod.YF.keeps I.bk
theorem Inv.lt (I : Inv X pins σ H s) : X.env.locals < s.heap.objs.size := let ⟨_, hn, _⟩ := I.loc; hn.lt
theorem Inv.sz (I : Inv X pins σ H s) : X.s₀.heap.objs.size <= s.heap.objs.size := ahM I.ok.above (ah3 I.lt)
theorem Inv.acm (I : Inv X pins σ H s) {a : Addr} (h : s.heap.objs.size <= a) : a ∉ X.fs := fun hb => by
 obtain ⟨_, o, ho, _⟩ := I.ok.vd.mem hb
 exact absurd (ahx (ahj ho) (ahM I.sz h)) (aip _)
theorem Inv.VP (I : Inv X pins σ H s) : ∀ x c, X.env.cells.lookup x = some c -> c ≠ X.env.locals := fun x c e z => by
 obtain ⟨v, o, ho, hd⟩ := I.cell x c e
 obtain ⟨m, ⟨o', es, ep, VQ, QH, _⟩, _⟩ := I.loc
 rw [z, VQ] at ho; cases ho; rw [QH] at hd; cases hd
theorem Inv.vd (I : Inv X pins σ H s) : s.heap.FunFrames X.base X.outer := by
 have all : ∀ (l : List Env), (∀ b ∈ LD l, b ∈ X.fs) -> X.s₀.heap.FunFrames X.base l -> s.heap.FunFrames X.base l := by
   intro l
   induction l with
   | nil => intro _ _; trivial
   | cons env r ih =>
     intro hs hl
     obtain ⟨hk, ⟨L, o, hf, hn, ho, hd⟩, hr⟩ := hl
     have hL : L ∈ X.fs := hs L (by unfold LD; rw [ahH, hf]; exact agV)
     obtain ⟨sl, e⟩ := I.base.slot L o ho (I.ok.U5 L hL) hL fun z => I.ok.QG L z hL
     exact ⟨hk, ⟨L, _, hf, hn, e, hd⟩, ih (fun b hb => hs b (by unfold LD; rw [ahH, hf]; exact agY _ hb)) hr⟩
 exact all X.outer (fun _ hb => hb) I.ok.vd
theorem Inv.stack (I : Inv X pins σ H s) : s.heap.FunFrames X.base X.stack := by
 rcases I.ok.stk with e | ⟨e, hf⟩
 . rw [e]; exact I.vd
 . rw [e]
   obtain ⟨m, hn, _⟩ := I.loc
   refine .cons (by rw [I.ok.kind]; decide) hf hn ?_ I.vd
   exact Heap.get?_none_of_le (ahM I.ok.LJ I.ok.above)
theorem Inv.ve (I : Inv X pins σ H s) : ∀ b ∈ LD X.stack, b ∈ X.env.locals :: X.fs := fun b hb => by
 rcases I.ok.stk with e | ⟨e, hf⟩
 . rw [e] at hb; exact agY _ hb
 . rw [e] at hb
   unfold LD at hb
   rw [ahH, hf] at hb
   exact hb
theorem Inv.B4 (I : Inv X pins σ H s) : ∀ b ∈ LD X.stack, H b = none := fun b hb => by
 rcases ag4.mp (I.ve b hb) with e | hb
 . rw [e]; exact I.free
 . obtain ⟨_, o, ho, _⟩ := I.ok.vd.mem hb
   exact I.base.free b o ho (I.ok.U5 b hb) fun z => I.ok.QG b z hb
theorem Inv.step {g' : Array GenState} {t' : Nat} {d' : Drawn} {ch : List Addr} (I : Inv X pins σ H s)
   (U6 : ∀ b ∈ ch, (b ∈ X.ex \/ X.s₀.heap.objs.size <= b) /\ b ≠ X.env.locals /\ (∀ x c, X.env.cells.lookup x = some c -> c ≠ b) /\ ∀ p ∈ X.pn ++ pins, p.1 ≠ b)
   (keep : ∀ b o, b ≠ X.env.locals -> b ∉ X.fs -> b ∉ ch -> s.heap.get? b = some o -> H b = none -> h'.get? b = some o)
   (slot : ∀ b o, b ≠ X.env.locals -> b ∈ X.fs -> b ∉ ch -> s.heap.get? b = some o -> H b = none -> ∃ sl, h'.get? b = some { o with slots := sl }) (free : ∀ b o, b ∉ ch -> s.heap.get? b = some o -> H b = none -> H' b = none)
   (there : ∀ b o, b ∉ ch -> s.heap.get? b = some o -> ∃ o', h'.get? b = some o')
   (Au : ∀ b xs, H b = some (.tup xs) -> H' b = some (.tup xs)) (jn : ∀ b o u, H b = some (.bS o u) -> H' b = some (.bS o u)) (Av : ∀ b ps, H b = some (.U1 ps) -> ∃ more, H' b = some (.U1 (ps ++ more)))
   (ns : ∀ m, s.heap.Ns X.env.locals m -> h'.Ns X.env.locals m) (dg : tY X.prog X.w H' h') (hg : AllBare g') :
   Inv X pins σ H' { s with heap := h', gens := g', drawn := d', toks := t' } := by
 have neL : ∀ b o, X.s₀.heap.get? b = some o -> b ≠ X.env.locals := fun b o e => ahF (ahx (ahj e) I.ok.above)
 have neC : ∀ b o, X.s₀.heap.get? b = some o -> b ∉ X.ex -> b ∉ ch := fun b o e hx hb => by
   rcases (U6 b hb).1 with z | z
   . exact hx z
   . exact absurd (ahx (ahj e) z) (aip _)
 have cellK : ∀ x c, X.env.cells.lookup x = some c -> ∀ v, s.heap.IsCell c v -> h'.IsCell c v := fun x c e v ⟨o, ho, hd⟩ => by
   have Zd : c ∉ ch := fun z => (U6 c z).2.2.1 x c e rfl
   by_cases hc : c ∈ X.fs
   . obtain ⟨sl, q⟩ := slot c o (I.VP x c e) hc Zd ho (I.nH x c e)
     exact ⟨_, q, hd⟩
   . exact ⟨o, keep c o (I.VP x c e) hc Zd ho (I.nH x c e), hd⟩
 refine ⟨I.ok, I.os, hg, ⟨fun b o e n hb hx => ?_, fun b o e n hb hx => ?_, fun b o e n hx => ?_, fun b o e hx => ?_, fun b xs e => Au b xs (I.base.Au b xs e), fun b o xs e => jn b o xs (I.base.jn b o xs e), fun b ps e => ?_⟩, ?_, fun x c e => ?_, ?_, fun x c e => ?_, fun p hp => ?_, dg, I.len⟩
 . exact keep b o (neL b o e) hb (neC b o e hx) (I.base.keep b o e n hb hx) (I.base.free b o e n hx)
 . obtain ⟨sl, e1⟩ := I.base.slot b o e n hb hx
   obtain ⟨sl', e2⟩ := slot b _ (neL b o e) hb (neC b o e hx) e1 (I.base.free b o e n hx)
   exact ⟨sl', e2⟩
 . obtain ⟨o', e1⟩ := I.base.there b o e hx
   exact free b o' (neC b o e hx) e1 (I.base.free b o e n hx)
 . obtain ⟨o', e1⟩ := I.base.there b o e hx
   exact there b o' (neC b o e hx) e1
 . obtain ⟨m1, e1⟩ := I.base.Av b ps e
   obtain ⟨m2, e2⟩ := Av b _ e1
   exact ⟨m1 ++ m2, by rw [e2, Array.append_assoc]⟩
 . obtain ⟨m, hn, hl⟩ := I.loc
   refine ⟨m, ns m hn, fun i x v e1 e2 e3 => ?_⟩
   obtain ⟨u, r, l⟩ := hl i x v e1 e2 e3
   refine ⟨u, r, ?_⟩
   rcases l with l | ⟨k, c, e, z⟩
   . exact .inl l
   . exact .inr ⟨k, c, e, cellK x c e _ z⟩
 . obtain ⟨v, z⟩ := I.cell x c e
   exact ⟨v, cellK x c e v z⟩
 . obtain ⟨m, ⟨o, _, _, ho, _⟩, _⟩ := I.loc
   exact free _ o (fun z => (U6 _ z).2.1 rfl) ho I.free
 . obtain ⟨v, o, ho, hd⟩ := I.cell x c e
   exact free c o (fun z => (U6 c z).2.2.1 x c e rfl) ho (I.nH x c e)
 . obtain ⟨e, n, ne, nf, d⟩ := I.pin p hp
   have Zd : p.1 ∉ ch := fun z => (U6 p.1 z).2.2.2 p hp rfl
   exact ⟨keep p.1 p.2 ne nf Zd e n, free p.1 p.2 Zd e n, ne, nf, d⟩
theorem Inv.un {t' : Nat} (I : Inv X pins σ H s) (u : Un X.fs [] H H' s.heap h') (dg : tY X.prog X.w H' h') : Inv X pins σ H' { s with heap := h', toks := t' } := by
 obtain ⟨m, ⟨o, es, ep, ho, r⟩, _⟩ := id I.loc
 obtain ⟨sl, hL⟩ := u.any ho I.free (by simp)
 exact I.step (g' := s.gens) (d' := s.drawn) (ch := []) (fun _ z => nomatch z) (fun b o _ hb _ e n => u.keep b o e n hb (by simp)) (fun b o _ hb _ e n => u.slot b o e n hb (by simp)) (fun b o _ e n => u.free b o e n (by simp)) (fun b o _ e => u.there b o e (by simp)) u.Au u.jn u.Av (fun m' hm => by
   obtain ⟨o', QI, YG, VQ, r'⟩ := hm
   rw [ho] at VQ; cases VQ
   exact ⟨_, QI, YG, hL, r'⟩) dg I.bare
theorem Inv.call {g' : Array GenState} {t' : Nat} {d' : Drawn} {ch : List Addr} (I : Inv X pins σ H s) (u : Un (LD X.stack) ch H H' s.heap h') (dg : tY X.prog X.w H' h') (hg : AllBare g')
   (U6 : ∀ b ∈ ch, (b ∈ X.ex \/ X.s₀.heap.objs.size <= b) /\ b ≠ X.env.locals /\ (∀ x c, X.env.cells.lookup x = some c -> c ≠ b) /\ ∀ p ∈ X.pn ++ pins, p.1 ≠ b) :
   Inv X pins σ H' { s with heap := h', gens := g', drawn := d', toks := t' } := by
 obtain ⟨m, ⟨o, es, ep, ho, r⟩, _⟩ := id I.loc
 obtain ⟨sl, hL⟩ := u.any ho I.free fun z => (U6 _ z).2.1 rfl
 exact I.step (ch := ch) U6 (fun b o hL hb hc e n => u.keep b o e n (fun z => (ag4.mp (I.ve b z)).elim hL hb) hc) (fun b o _ _ hc e n => u.any e n hc) (fun b o hc e n => u.free b o e n hc) (fun b o hc e => u.there b o e hc) u.Au u.jn u.Av (fun m' hm => by
   obtain ⟨o', QI, YG, VQ, r'⟩ := hm
   rw [ho] at VQ; cases VQ
   exact ⟨_, QI, YG, hL, r'⟩) dg hg
theorem Inv.turned {t' : Nat} {it : Addr} (I : Inv X pins σ H s) (k : ∀ b o, b ≠ it -> s.heap.get? b = some o -> h'.get? b = some o) (hn : H it = none) (hL : it ≠ X.env.locals)
   (h1 : it ∈ X.ex \/ X.s₀.heap.objs.size <= it) (h2 : ∀ x c, X.env.cells.lookup x = some c -> c ≠ it) (h3 : ∀ p ∈ X.pn ++ pins, p.1 ≠ it) : Inv X pins σ H { s with heap := h', toks := t' } := by
 have nit : ∀ b u, H b = some u -> b ≠ it := fun b u e z => by rw [z, hn] at e; cases e
 refine I.step (g' := s.gens) (d' := s.drawn) (ch := [it]) (fun b hb => ?_) (fun b o _ _ hc e _ => k b o (fun z => hc (by simp [z])) e) (fun b o _ _ hc e _ => ⟨o.slots, k b o (fun z => hc (by simp [z])) e⟩) (fun _ _ _ _ n => n)
   (fun b o hc e => ⟨o, k b o (fun z => hc (by simp [z])) e⟩) (fun _ _ e => e) (fun _ _ _ e => e) (fun b ps e => ⟨#[], by rw [e]; simp⟩) (fun m hm => ?_) (fun b u e => ?_) I.bare
 . have e : b = it := by simpa using hb
   subst e
   exact ⟨h1, hL, h2, h3⟩
 . obtain ⟨o, es, ep, ho, r⟩ := hm
   exact ⟨o, es, ep, k _ o (Ne.symm hL) ho, r⟩
 . refine (I.dg b u e).BZ (fun c v hc q => k c v ?_ q) (fun _ q => q) fun _ _ q => q
   rcases hc with z | z
   . rw [z]; exact nit b u e
   . exact nit c _ z
theorem Inv.tok (I : Inv X pins σ H s) (t : Nat) : Inv X pins σ H { s with toks := t } := I.un (h' := s.heap) (t' := t) Un.refl I.dg
theorem Inv.kept {t' : Nat} (I : Inv X pins σ H s) (k : ∀ b u, s.heap.get? b = some u -> h'.get? b = some u) : Inv X pins σ H { s with heap := h', toks := t' } := I.un (Un.kept k) (I.dg.kept k)
theorem Inv.laid {a : Addr} {o : HO} {t' : Nat} (I : Inv X pins σ H s) (k : ∀ b u, s.heap.get? b = some u -> h'.get? b = some u) (hp : s.heap.objs.size <= a) (new : eN X.prog X.w (upd H a o) h' a o) :
   Inv X pins σ (upd H a o) { s with heap := h', toks := t' } := I.un (Un.laid k hp (I.dg.fresh hp)) (I.dg.laid k hp new)
theorem Inv.write {x e : Addr} {o : HO} {t' : Nat} (I : Inv X pins σ H s) (mu : Za (H x)) (he : e = x \/ H e = some (.own x)) (k : ∀ b u, b ≠ e -> s.heap.get? b = some u -> h'.get? b = some u) (YD : ∃ u, h'.get? e = some u)
   (new : eN X.prog X.w (upd H x o) h' x o) : Inv X pins σ (upd H x o) { s with heap := h', toks := t' } := I.un (Un.write mu he k YD) (I.dg.write mu he k YD new)
theorem Inv.xj {Hs : List (Addr × Obj)} (I : Inv X pins σ H s) (h : ∀ p ∈ Hs, s.heap.get? p.1 = some p.2 /\ H p.1 = none /\ p.1 ≠ X.env.locals /\ p.1 ∉ X.fs /\ ∀ v, p.2.data ≠ .cell v) : Inv X Hs σ H s :=
 ⟨I.ok, I.os, I.bare, I.base, I.loc, I.cell, I.free, I.nH, fun p hp => (ag0.mp hp).elim (fun z => I.pin p (agX _ z)) (h p), I.dg, I.len⟩
theorem D3 {N : List Str} (hN : N.Nodup) {i j : Nat} {x : Str} (a : N[i]? = some x) (b : N[j]? = some x) : i = j := by
 obtain ⟨h1, e1⟩ := ahp.mp a
 obtain ⟨h2, e2⟩ := ahp.mp b
 exact (List.getElem_inj hN).mp (e1.trans e2.symm)
theorem JG {M : Model} {A : Around} {E : Value -> Shared -> Prop} {i : Nat} {x : Str} {v : V} {u : Value} {Q : Unit -> Shared -> Prop} (I : Inv X pins σ H s) (hN : X.N.Nodup) (hi : X.N[i]? = some x) (hx : Loc X.env.scope x) (r : RelV v u)
   (h : ∀ s', Inv X pins (σ.set i (some v)) H s' -> (∃ a, Heap.SameBut a s.heap s'.heap /\ (a = X.env.locals \/ X.env.cells.lookup x = some a)) -> Q () s') (hf : X.fn x = true \/ X.env.scope.names.lookup x = some .local := by first | exact .inl rfl | exact .inr rfl | assumption) : wpAny M A (storeName X.env x u) Q E s := by
 obtain ⟨m, hn, hl⟩ := id I.loc
 have acn : (X.env.scope.kind == .class || (X.env.scope.kind == .module && X.env.locals != X.env.globals)) = false := by rw [I.ok.kind]; rfl
 have Ze : i < σ.length := by rw [I.len]; exact (ahp.mp hi).1
 have VP := I.VP
 have tracked : ∀ {a : Addr} {h' : Heap}, (∃ o, s.heap.get? a = some o /\ H a = none) -> Heap.SameBut a s.heap h' -> tY X.prog X.w H h' := fun {a h'} ha hs b ob e => by
   obtain ⟨_, _, U7⟩ := ha
   refine (I.dg b ob e).BZ (fun c w' hc q => (hs.2 c ?_).trans q) (fun _ q => q) fun _ _ q => q
   rintro rfl
   rcases hc with rfl | hc
   . rw [U7] at e; cases e
   . rw [U7] at hc; cases hc
 rcases hx with hk | hk
 . refine wpAny_storeName_local hk hn (fun h' hn' hs => ?_) acn
   obtain ⟨oL, _, _, hoL, _⟩ := id hn
   refine h _ ⟨I.ok, I.os, I.bare, ⟨fun b o e n hb hx => ?_, fun b o e n hb hx => ?_, I.base.free, fun b o e hx => ?_, I.base.Au, I.base.jn, I.base.Av⟩, ⟨_, hn', fun j y v' e1 e2 e3 => ?_⟩, fun y c e => ?_, I.free, I.nH, fun p hp => ?_, tracked ⟨oL, hoL, I.free⟩ hs, by simpa using I.len⟩ ⟨_, hs, .inl rfl⟩
   . exact (hs.2 b (ahF (ahx (ahj e) I.ok.above))).trans (I.base.keep b o e n hb hx)
   . obtain ⟨sl, e1⟩ := I.base.slot b o e n hb hx
     exact ⟨sl, (hs.2 b (ahF (ahx (ahj e) I.ok.above))).trans e1⟩
   . obtain ⟨o', e1⟩ := I.base.there b o e hx
     exact ⟨o', (hs.2 b (ahF (ahx (ahj e) I.ok.above))).trans e1⟩
   . by_cases hj : j = i
     . subst hj
       rw [hi] at e1; cases e1
       rw [aiu Ze] at e2
       cases e2
       exact ⟨u, r, .inl ⟨hk, by simp⟩⟩
     . rw [List.getElem?_set_ne (Ne.symm hj)] at e2
       obtain ⟨u', r', q⟩ := hl j y v' e1 e2 e3
       refine ⟨u', r', ?_⟩
       rcases q with ⟨k, e⟩ | ⟨k, c, e, z⟩
       . refine .inl ⟨k, ?_⟩
         have : y ≠ x := fun e => hj (D3 hN e1 (e ▸ hi))
         simp [this, e]
       . exact .inr ⟨k, c, e, z.sameBut hs (VP y c e)⟩
   . obtain ⟨w', z⟩ := I.cell y c e
     exact ⟨w', z.sameBut hs (VP y c e)⟩
   . obtain ⟨e, n, ne, nf, d⟩ := I.pin p hp
     exact ⟨(hs.2 p.1 ne).trans e, n, ne, nf, d⟩
 . have hfn : X.fn x = true := by
     rcases hf with z | z
     . exact z
     . rw [z] at hk; cases hk
   obtain ⟨c, hc⟩ := I.ok.has x (.inl hk)
   obtain ⟨w', z⟩ := I.cell x c hc
   refine wpAny_storeName_cell I.ok.kind hk hc z (fun h' U8 hs => ?_)
   obtain ⟨oc, YH, acq⟩ := id z
   refine h { s with heap := h' } ⟨I.ok, I.os, I.bare, ⟨fun b o e n hb hx => ?_, fun b o e n hb hx => ?_, I.base.free, fun b o e hx => ?_, I.base.Au, I.base.jn, I.base.Av⟩, ⟨m, hn.sameBut hs (Ne.symm (VP x c hc)), fun j y v' e1 e2 e3 => ?_⟩, fun y c' e => ?_, I.free, I.nH, fun p hp => ?_, tracked ⟨oc, YH, I.nH x c hc⟩ hs, by simpa using I.len⟩ ⟨c, hs, .inr hc⟩
   . exact (hs.2 b (ahF (ahx (ahj e) (I.ok.Zc x c hfn hc)))).trans (I.base.keep b o e n hb hx)
   . obtain ⟨sl, e1⟩ := I.base.slot b o e n hb hx
     exact ⟨sl, (hs.2 b (ahF (ahx (ahj e) (I.ok.Zc x c hfn hc)))).trans e1⟩
   . obtain ⟨o', e1⟩ := I.base.there b o e hx
     exact ⟨o', (hs.2 b (ahF (ahx (ahj e) (I.ok.Zc x c hfn hc)))).trans e1⟩
   . by_cases hj : j = i
     . subst hj
       rw [hi] at e1; cases e1
       rw [aiu Ze] at e2
       cases e2
       exact ⟨u, r, .inr ⟨.inl hk, c, hc, U8⟩⟩
     . rw [List.getElem?_set_ne (Ne.symm hj)] at e2
       obtain ⟨u', r', q⟩ := hl j y v' e1 e2 e3
       refine ⟨u', r', ?_⟩
       rcases q with q | ⟨k, c', e, z'⟩
       . exact .inl q
       . refine .inr ⟨k, c', e, z'.sameBut hs ?_⟩
         rintro rfl
         exact hj (D3 hN e1 (I.ok.inj _ _ _ e hc ▸ hi))
   . by_cases hcc : c' = c
     . subst hcc; exact ⟨_, U8⟩
     . obtain ⟨w2, z2⟩ := I.cell y c' e
       exact ⟨w2, z2.sameBut hs hcc⟩
   . obtain ⟨e, n, ne, nf, d⟩ := I.pin p hp
     refine ⟨(hs.2 p.1 ?_).trans e, n, ne, nf, d⟩
     intro q
     rw [q, YH] at e
     have q' : oc = p.2 := ahg e
     exact d w' (by rw [← q']; exact acq)
theorem yf {M : Model} {A : Around} {E : Value -> Shared -> Prop} {i : Nat} {x : Str} {v : V} {u : Value} {Q : Unit -> Shared -> Prop} (I : Inv X pins σ H s) (hN : X.N.Nodup) (hi : X.N[i]? = some x) (hx : Loc X.env.scope x) (r : RelV v u)
   (h : ∀ s', Inv X pins (σ.set i (some v)) H s' -> Q () s') (hf : X.fn x = true \/ X.env.scope.names.lookup x = some .local := by first | exact .inl rfl | exact .inr rfl | assumption) : wpAny M A (storeName X.env x u) Q E s :=
 JG I hN hi hx r (fun s' I' _ => h s' I') hf
end
noncomputable abbrev XK := Value -> Option Addr -> Hp -> Prop
noncomputable abbrev St := List (Option V)
noncomputable abbrev VK := V -> Hp -> Prop
noncomputable abbrev TE := St -> Hp -> VK -> Prop
noncomputable abbrev TT := St -> Hp -> (Bool -> Hp -> Prop) -> Prop
noncomputable abbrev TA := St -> Hp -> (List V -> Hp -> Prop) -> Prop
structure Ends where
 nx : St -> Hp -> Prop
 rt : VK
 bk : St -> Hp -> Prop := fun _ _ => False
 ct : St -> Hp -> Prop := fun _ _ => False
noncomputable abbrev TS := Ends -> St -> Hp -> Prop
noncomputable def EP (X : Cx) (pins : List (Addr × Obj)) (σ : St) (Q : VK) (u : Value) (s' : Shared) : Prop := ∃ v H', Inv X pins σ H' s' /\ RelV v u /\ Q v H'
noncomputable def TP (X : Cx) (pins : List (Addr × Obj)) (σ : St) (Q : Bool -> Hp -> Prop) (b : Bool) (s' : Shared) : Prop := ∃ H', Inv X pins σ H' s' /\ Q b H'
noncomputable def AP (X : Cx) (pins : List (Addr × Obj)) (σ : St) (Q : List V -> Hp -> Prop) (us : List Value) (s' : Shared) : Prop := ∃ vs H', Inv X pins σ H' s' /\ Vals vs us /\ Q vs H'
noncomputable def SP (X : Cx) (pins : List (Addr × Obj)) (D : Ends) (f : Flow) (s' : Shared) : Prop :=
 match f with
 | .next => ∃ σ' H', Inv X pins σ' H' s' /\ D.nx σ' H'
 | .brk => ∃ σ' H', Inv X pins σ' H' s' /\ D.bk σ' H'
 | .cont => ∃ σ' H', Inv X pins σ' H' s' /\ D.ct σ' H'
 | .ret u => ∃ v σ' H', Inv X pins σ' H' s' /\ RelV v u /\ D.rt v H'
noncomputable def PE (X : Cx) (e : Expr) (t : TE) : Prop :=
 ∀ (pins : List (Addr × Obj)) (s : Shared) (σ : St) (H : Hp) (Q : VK), Inv X pins σ H s -> t σ H Q -> wpAny (model X.prog X.w) X.A (eval e X.env) (EP X pins σ Q) X.xe s
noncomputable def PT (X : Cx) (e : Expr) (t : TT) : Prop :=
 ∀ (pins : List (Addr × Obj)) (s : Shared) (σ : St) (H : Hp) (Q : Bool -> Hp -> Prop), Inv X pins σ H s -> t σ H Q -> wpAny (model X.prog X.w) X.A (isTrue e X.env (eval e X.env)) (TP X pins σ Q) X.xe s
noncomputable def PW (X : Cx) (e : Expr) (t : TT) : Prop :=
 ∀ (whole : Sem Value) (pins : List (Addr × Obj)) (s : Shared) (σ : St) (H : Hp) (Q : Bool -> Hp -> Prop), Inv X pins σ H s -> t σ H Q -> wpAny (model X.prog X.w) X.A (isTrue e X.env whole) (TP X pins σ Q) X.xe s
noncomputable def PA (X : Cx) (es : List Expr) (t : TA) : Prop :=
 ∀ (pos : Pos) (pins : List (Addr × Obj)) (s : Shared) (σ : St) (H : Hp) (Q : List V -> Hp -> Prop), Inv X pins σ H s -> t σ H Q -> wpAny (model X.prog X.w) X.A (spliced (backTo pos (starEach es X.env))) (AP X pins σ Q) X.xe s
noncomputable def PS (X : Cx) (st : Stmt) (t : TS) : Prop :=
 ∀ (pins : List (Addr × Obj)) (s : Shared) (σ : St) (H : Hp) (D : Ends), Inv X pins σ H s -> t D σ H -> wpAny (model X.prog X.w) X.A (exec st X.env) (SP X pins D) X.xe s
noncomputable def Ht (X : Cx) (st : List Stmt) (t : TS) : Prop :=
 ∀ (pins : List (Addr × Obj)) (s : Shared) (σ : St) (H : Hp) (D : Ends), Inv X pins σ H s -> t D σ H -> wpAny (model X.prog X.w) X.A (execs st X.env) (SP X pins D) X.xe s
theorem dF {α : Type} {t : Sem α} {Q Q' : α -> Shared -> Prop} {M : Model} {A : Around} {E : Value -> Shared -> Prop} {s : Shared} (h : wpAny M A t Q E s) (hQ : ∀ a s, Q a s -> Q' a s) : wpAny M A t Q' E s := ahZ h hQ fun _ _ x => x
section
variable {X : Cx}
noncomputable def acr (i : Nat) : TE := fun σ H Q => ∃ v, σ[i]? = some (some v) /\ Q v H
noncomputable def tC (v : V) : TE := fun _ H Q => Q v H
theorem fW {i : Nat} {x : Str} {pos : Pos} (hN : X.N[i]? = some x) (hv : U4 X.env.scope x) (hd : (x == ("__debug__" : Str)) = false := by decide) (mS : (x == ("__classdict__" : Str)) = false := by decide) : PE X (.Name x pos) (acr i) := by
 intro pins s σ H Q I h
 obtain ⟨v, e, h⟩ := h
 obtain ⟨m, hn, hl⟩ := I.loc
 obtain ⟨u, r, l⟩ := hl i x v hN e hv
 have fin : EP X pins σ Q u s := ⟨v, H, I, r, h⟩
 rcases l with ⟨hk, hm⟩ | ⟨hk, c, hc, sE⟩
 . exact wpAny_Name (wpAny_loadName_local I.ok.kind hk hn hm fin) hd
 . rcases hk with hk | hk
   . exact wpAny_Name (wpAny_loadName_cell I.ok.kind hk hc sE fin) hd
   . exact wpAny_Name (wpAny_loadName_free I.ok.kind hk hc sE fin mS) hd
theorem Fv {i j pos} : PE X (.Constant (.int i) j pos) (tC (.int i)) := fun _ _ _ H _ I h => wpAny_Constant_int ⟨.int i, H, I.tok _, ⟨_, rfl⟩, h⟩
theorem Zf {b j pos} : PE X (.Constant (.bool b) j pos) (tC (.bl b)) := fun _ _ _ H _ I h => Constant_bool ⟨.bl b, H, I, rfl, h⟩
theorem VR {x j pos} : PE X (.Constant (.str x) j pos) (tC (.str x)) := fun _ _ _ H _ I h => Calls.Constant_str ⟨.str x, H, I.tok _, ⟨_, rfl⟩, h⟩
noncomputable def Gl (X : Cx) (x : Str) : Prop := X.env.kindOf x = some .globalImplicit
theorem xm {E : Value -> Shared -> Prop} {pins : List (Addr × Obj)} {s : Shared} {σ : St} {H : Hp} {x : Str} {u : Value} {pos : Pos} {Q : Value -> Shared -> Prop} (I : Inv X pins σ H s) (hg : Gl X x) (hm : X.mg x = some u) (h : Q u s)
   (hd : (x == ("__debug__" : Str)) = false := by decide) : wpAny (model X.prog X.w) X.A (eval (.Name x pos) X.env) Q E s :=
 Calls.Name_function_global I.ok.kind hg (Calls.loadGlobal_global (by rw [I.ok.glob]; exact I.mod.glob.keeps I.bk) hm h) hd
theorem B5 {E : Value -> Shared -> Prop} {pins : List (Addr × Obj)} {s : Shared} {σ : St} {H : Hp} {x : Str} {u : Value} {pos : Pos} {Q : Value -> Shared -> Prop} (I : Inv X pins σ H s) (hg : Gl X x) (hm : X.mg x = none) (hv : bootBuiltins x = some u) (h : Q u s)
   (hn : x ≠ "__name__" := by decide) (hd : (x == ("__debug__" : Str)) = false := by decide) : wpAny (model X.prog X.w) X.A (eval (.Name x pos) X.env) Q E s := by
 obtain ⟨mb, h1, h2⟩ := I.mod.blt
 exact Calls.Name_function_global I.ok.kind hg (Calls.loadGlobal_builtin (by rw [I.ok.glob]; exact I.mod.glob.keeps I.bk) hm (by rw [I.ok.blt]; exact h1.keeps I.bk) ((h2 x hn).trans hv) h) hd
theorem xo {x : Str} {v : V} {u : Value} {pos : Pos} (hg : Gl X x) (hm : X.mg x = some u) (r : RelV v u) (hd : (x == ("__debug__" : Str)) = false := by decide) : PE X (.Name x pos) (tC v) :=
 fun _ _ _ H _ I h => xm I hg hm ⟨v, H, I, r, h⟩ hd
theorem QJ {x : Str} {v : V} {u : Value} {pos : Pos} (hg : Gl X x) (hm : X.mg x = none) (hv : bootBuiltins x = some u) (r : RelV v u) (hn : x ≠ "__name__" := by decide) (hd : (x == ("__debug__" : Str)) = false := by decide) : PE X (.Name x pos) (tC v) :=
 fun _ _ _ H _ I h => B5 I hg hm hv ⟨v, H, I, r, h⟩ hn hd
variable {a b : Expr} {ta tb : TE} {pos : Pos}
noncomputable def tB (t : TE) : TT := fun σ H Q => t σ H fun x H1 => ∃ c, x = .bl c /\ Q c H1
theorem L1 {e : Expr} {t : TE} (h : PE X e t) (he : ∀ whole, isTrue e X.env whole = (do let v ← whole; standAt e.pos; holding [v] (truthy v)) := by intro _; rfl) : PT X e (tB t) := by
 intro pins s σ H Q I hw
 refine isTrue_plain (dF (h pins s σ H _ I hw) fun v s1 zz => ?_) (he _)
 obtain ⟨x, H1, I1, r1, q1⟩ := zz
 obtain ⟨d, rfl, q⟩ := q1
 cases r1
 exact aiQ ⟨H1, I1, q⟩
variable {tA tB' : TT} {rest : List Expr}
noncomputable def acs (t u : TT) : TT := fun σ H Q => t σ H fun c H1 => if c = true then u σ H1 Q else Q false H1
noncomputable def tOr (t u : TT) : TT := fun σ H Q => t σ H fun c H1 => if c = true then Q true H1 else u σ H1 Q
noncomputable def acu (t : TT) : TT := fun σ H Q => t σ H fun c H1 => Q (!c) H1
theorem QK (ha : PT X a tA) : PW X (.BoolOp .And [a] pos) tA := by
 intro wh pins s σ H Q I h
 refine isTrue_and (dF (ha pins s σ H Q I h) fun c s1 e => ?_)
 cases c with
 | true => exact isTrue_and_nil e
 | false => exact e
theorem VW (ha : PT X a tA) : PW X (.BoolOp .Or [a] pos) tA := by
 intro wh pins s σ H Q I h
 refine isTrue_or (dF (ha pins s σ H Q I h) fun c s1 e => ?_)
 cases c with
 | false => exact isTrue_or_nil e
 | true => exact e
theorem VX (ha : PT X a tA) (hb : PW X (.BoolOp .And (b :: rest) pos) tB') : PW X (.BoolOp .And (a :: b :: rest) pos) (acs tA tB') := by
 intro wh pins s σ H Q I h
 refine isTrue_and (dF (ha pins s σ H _ I h) fun c s1 zz => ?_)
 obtain ⟨H1, I1, q1⟩ := zz
 cases c with
 | true => exact hb wh pins s1 σ H1 Q I1 q1
 | false => exact ⟨H1, I1, q1⟩
theorem Zg (ha : PT X a tA) (hb : PW X (.BoolOp .Or (b :: rest) pos) tB') : PW X (.BoolOp .Or (a :: b :: rest) pos) (tOr tA tB') := by
 intro wh pins s σ H Q I h
 refine isTrue_or (dF (ha pins s σ H _ I h) fun c s1 zz => ?_)
 obtain ⟨H1, I1, q1⟩ := zz
 cases c with
 | true => exact ⟨H1, I1, q1⟩
 | false => exact hb wh pins s1 σ H1 Q I1 q1
theorem L4 (ha : PT X a tA) : PT X (.UnaryOp .Not a pos) (acu tA) := by
 intro pins s σ H Q I h
 exact isTrue_not (ha pins s σ H (fun c H1 => Q (!c) H1) I h)
noncomputable def Zh (ta tb : TE) : TE := fun σ H Q => ta σ H fun x H1 => ∃ c, x = .bl c /\ if c = true then tb σ H1 Q else Q (.bl false) H1
theorem VY {op} {t : TE} (h : PE X a t) : PE X (.BoolOp op [a] pos) t := fun pins s σ H Q I hw => BoolOp_one (h pins s σ H Q I hw)
theorem VZ (ha : PE X a ta) (hb : PE X (.BoolOp .And (b :: rest) pos) tb) : PE X (.BoolOp .And (a :: b :: rest) pos) (Zh ta tb) := by
 intro pins s σ H Q I h
 refine BoolOp_and (dF (ha pins s σ H _ I h) fun v s1 zz => ?_)
 obtain ⟨x, H1, I1, r1, q1⟩ := zz
 obtain ⟨c, rfl, q1⟩ := q1
 cases r1
 refine aiQ ?_
 cases c with
 | true => exact hb pins s1 σ H1 Q I1 q1
 | false => exact ⟨.bl false, H1, I1, rfl, q1⟩
end
noncomputable def oS (K : PySem.W.Frag) (H : Hp) (a : Addr) (xs : List V) : Prop :=
 Rd H a (.lst xs) ∨
   ∃ (o : Obj) (its : Array Value) (n : Nat), K.lookup a = some o /\ o.cls = .type "list" /\ o.dict = none /\ o.data = .seq its n /\ its.size <= sizeLine /\ Vals xs its.toList
noncomputable def sF (K : PySem.W.Frag) (H : Hp) (a : Addr) (xs : List V) : Prop :=
 Rd H a (.tup xs) ∨
   ∃ (o : Obj) (its : Array Value) (n : Nat), K.lookup a = some o /\ o.cls = .type "tuple" /\ o.data = .seq its n /\ its.size <= sizeLine /\ Vals xs its.toList
noncomputable def acv : Value -> Option V
 | .none => some .non
 | .bool b => some (.bl b)
 | .int i _ => some (.int i)
 | .str x _ => some (.str x)
 | .bytes b _ => some (.Hr b)
 | .float b _ => some (.flt b)
 | .ref a => some (.ref a)
 | .type n => some (.ty n)
 | _ => none
theorem RelV.abs {x : V} {u : Value} (r : RelV x u) : acv u = some x := by
 cases x with
 | non => cases r; rfl
 | bl _ => cases r; rfl
 | int _ => obtain ⟨t, rfl⟩ := r; rfl
 | str _ => obtain ⟨t, rfl⟩ := r; rfl
 | Hr _ => obtain ⟨t, rfl⟩ := r; rfl
 | flt _ => obtain ⟨t, rfl⟩ := r; rfl
 | ref _ => cases r; rfl
 | ty _ => cases r; rfl
theorem RelV.inj {x y : V} {u : Value} (r : RelV x u) (q : RelV y u) : x = y := ahg (r.abs.symm.trans q.abs)
theorem Vals.inj {xs ys : List V} {us : List Value} (h : Vals xs us) (q : Vals ys us) : xs = ys := by
 induction h generalizing ys with
 | nil => cases q; rfl
 | cons r _ i => cases q with
   | cons r' t' => rw [r.inj r', i t']
section
variable {X : Cx} {pins : List (Addr × Obj)} {σ : St} {H : Hp} {s : Shared} {a : Addr} {xs ys : List V}
theorem oS.of {K : PySem.W.Frag} (h : H a = some (.lst xs)) : oS K H a xs := .inl (.inl h)
theorem sF.of {K : PySem.W.Frag} (h : H a = some (.tup xs)) : sF K H a xs := .inl (.inl h)
theorem Inv.list (I : Inv X pins σ H s) (h : oS X.K H a xs) : ∃ its : List Value, Vals xs its /\ PlainL s.heap a its.toArray /\ xs.length <= sizeLine := by
 rcases h with h | ⟨o, its, n, hk, hc, hd, hs, hz, r⟩
 . obtain ⟨z, its, n, r, e⟩ := h.ok I.dg
   exact ⟨its, r, ⟨_, n, e, rfl, rfl, rfl⟩, z⟩
 . refine ⟨its.toList, r, ⟨o, n, I.wK a o hk, hc, hd, by simpa using hs⟩, ?_⟩
   have e := r.length
   simp only [Array.length_toList] at e
   omega
theorem Inv.tuple (I : Inv X pins σ H s) (h : sF X.K H a xs) : ∃ its : List Value, Vals xs its /\ IsTup s.heap a its.toArray /\ xs.length <= sizeLine := by
 rcases h with h | ⟨o, its, n, hk, hc, hs, hz, r⟩
 . obtain ⟨z, its, r, p⟩ := h.ok I.dg
   exact ⟨its, r, p, z⟩
 . refine ⟨its.toList, r, ⟨o, I.wK a o hk, hc, n, by simpa using hs⟩, ?_⟩
   have e := r.length
   simp only [Array.length_toList] at e
   omega
theorem Inv.L5 (I : Inv X pins σ H s) (h : oS X.K H a xs) (h' : oS X.K H a ys) : xs = ys := by
 obtain ⟨its, r, ⟨o, n, e, _, _, d⟩, _⟩ := I.list h
 obtain ⟨its', r', ⟨o', n', e', _, _, d'⟩, _⟩ := I.list h'
 rw [e] at e'; cases e'
 rw [d] at d'
 injection d' with d1 _
 have : its = its' := by simpa using congrArg Array.toList d1
 subst this
 exact r.inj r'
theorem Inv.JH (I : Inv X pins σ H s) (h : sF X.K H a xs) (h' : sF X.K H a ys) : xs = ys := by
 obtain ⟨its, r, ⟨o, e, _, n, d⟩, _⟩ := I.tuple h
 obtain ⟨its', r', ⟨o', e', _, n', d'⟩, _⟩ := I.tuple h'
 rw [e] at e'; cases e'
 rw [d] at d'
 injection d' with d1 _
 have : its = its' := by simpa using congrArg Array.toList d1
 subst this
 exact r.inj r'
end
noncomputable abbrev Cx.wish (X : Cx) (E : Value -> Shared -> Prop) : Cx := { X with xe := E }
noncomputable abbrev Cx.QL (X : Cx) : Cx := X.wish fun _ _ => False
theorem Cx.Ok.wish {X : Cx} (ok : X.Ok) (E : Value -> Shared -> Prop) : (X.wish E).Ok :=
 ⟨ok.mod, ok.kind, ok.glob, ok.blt, ok.above, ok.inj, ok.has, ok.Zc, ok.hd, ok.frames, ok.stk, ok.exf, ok.bs, ok.LJ, ok.JF, ok.QG, ok.vd, ok.U5⟩
theorem Cx.Ok.qu {X : Cx} {E : Value -> Shared -> Prop} (ok : (X.wish E).Ok) : X.Ok :=
 ⟨ok.mod, ok.kind, ok.glob, ok.blt, ok.above, ok.inj, ok.has, ok.Zc, ok.hd, ok.frames, ok.stk, ok.exf, ok.bs, ok.LJ, ok.JF, ok.QG, ok.vd, ok.U5⟩
section
variable {X : Cx} {pins : List (Addr × Obj)} {σ : St} {H : Hp} {s : Shared} {E : Value -> Shared -> Prop}
theorem Inv.wish (I : Inv X pins σ H s) (E : Value -> Shared -> Prop) : Inv (X.wish E) pins σ H s := ⟨I.ok.wish E, I.os, I.bare, I.base, I.loc, I.cell, I.free, I.nH, I.pin, I.dg, I.len⟩
theorem Inv.qu (I : Inv (X.wish E) pins σ H s) : Inv X pins σ H s := ⟨I.ok.qu, I.os, I.bare, I.base, I.loc, I.cell, I.free, I.nH, I.pin, I.dg, I.len⟩
theorem SP.qu {D : Ends} {f : Flow} {s' : Shared} (h : SP (X.wish E) pins D f s') : SP X pins D f s' := by
 cases f with
 | next => obtain ⟨σ', H', I, q⟩ := h; exact ⟨σ', H', I.qu, q⟩
 | brk => obtain ⟨σ', H', I, q⟩ := h; exact ⟨σ', H', I.qu, q⟩
 | cont => obtain ⟨σ', H', I, q⟩ := h; exact ⟨σ', H', I.qu, q⟩
 | ret u => obtain ⟨v, σ', H', I, r, q⟩ := h; exact ⟨v, σ', H', I.qu, r, q⟩
theorem Ht.QL {st : List Stmt} {t : TS} (h : Ht X.QL st t) : Ht X st t := fun pins s σ H D I hw =>
 ahZ (h pins s σ H D (I.wish _) hw) (fun _ _ q => q.qu) fun _ _ z => False.elim z
end
section
variable {X : Cx} {st : Stmt} {rest : List Stmt} {t u : TS} {e : Expr} {te : TE} {pos : Pos}
noncomputable def Zi : TS := fun D σ H => D.nx σ H
noncomputable def acw (t u : TS) : TS := fun D σ H => t { D with nx := u D } σ H
theorem QM : Ht X [] Zi := fun _ _ σ H _ I h => wpAny_execs_nil ⟨σ, H, I, h⟩
theorem L6 (h1 : PS X st t) (h2 : Ht X rest u) : Ht X (st :: rest) (acw t u) := by
 intro pins s σ H D I h
 refine wpAny_execs_cons (dF (h1 pins s σ H { D with nx := u D } I h) fun f s1 q => ?_)
 cases f with
 | next =>
   obtain ⟨σ', H', I', q⟩ := q
   exact h2 pins s1 σ' H' D I' q
 | ret v => exact q
 | brk => exact q
 | cont => exact q
noncomputable def V0 : TS := fun D σ H => D.bk σ H
theorem L7 : PS X (.Break pos) V0 := fun _ _ σ H _ I h => wpAny_Break ⟨σ, H, I, h⟩
theorem Inv.quiet {pins : List (Addr × Obj)} {σ : St} {H : Hp} {s : Shared} (I : Inv X pins σ H s) : interactive X.env = false := by simp [interactive, I.ok.kind]
noncomputable def Zj (te : TE) : TS := fun D σ H => te σ H fun _ H1 => D.nx σ H1
theorem rB (he : PE X e te) (hs : swapsWith e none pos.line X.env = pure false := by rfl) : PS X (.Expr e pos) (Zj te) := by
 intro pins s σ H D I h
 exact wpAny_Expr_any (dF (he pins s σ H _ I h) fun v s1 ⟨x, H1, I1, r1, q1⟩ => ⟨σ, H1, I1, q1⟩) I.quiet hs
noncomputable def acy (te : TE) : TS := fun D σ H => te σ H D.rt
theorem L8 (he : PE X e te) : PS X (.Return (some e) pos) (acy te) := by
 intro pins s σ H D I h
 exact wpAny_Return_some (dF (he pins s σ H _ I h) fun v s1 ⟨x, H1, I1, r1, q1⟩ => ⟨x, σ, H1, I1, r1, q1⟩)
noncomputable def acz (c : TT) (t u : TS) : TS := fun D σ H => c σ H fun b H1 => if b = true then t D σ H1 else u D σ H1
theorem U9 {c : Expr} {a b : List Stmt} {tc : TT} (hc : PT X c tc) (ha : Ht X a t) (hb : Ht X b u) : PS X (.If c a b pos) (acz tc t u) := by
 intro pins s σ H D I h
 refine wpAny_If (dF (hc pins s σ H _ I h) fun d s1 zz => ?_)
 obtain ⟨H1, I1, q1⟩ := zz
 cases d with
 | true => exact ha pins s1 σ H1 D I1 q1
 | false => exact hb pins s1 σ H1 D I1 q1
end
noncomputable abbrev TG := V -> St -> Hp -> (St -> Hp -> Prop) -> Prop
noncomputable def PG (X : Cx) (target : Expr) (t : TG) : Prop :=
 ∀ (pins : List (Addr × Obj)) (s : Shared) (σ : St) (H : Hp) (v : V) (u : Value) (Q : St -> Hp -> Prop), Inv X pins σ H s -> RelV v u -> t v σ H Q →
   wpAny (model X.prog X.w) X.A (assign target X.env u) (fun _ s' => ∃ σ' H', Inv X pins σ' H' s' /\ Q σ' H') X.xe s
noncomputable abbrev V1 := V -> V -> V -> Hp -> (Hp -> Prop) -> Prop
noncomputable def Zk (X : Cx) (t : V1) : Prop :=
 ∀ (pins : List (Addr × Obj)) (s : Shared) (σ : St) (H : Hp) (o i v : V) (ov iv u : Value) (Q : Hp -> Prop), Inv X pins σ H s -> RelV o ov -> RelV i iv -> RelV v u -> t o i v H Q →
   wpAny (model X.prog X.w) X.A (setItem ov iv u) (fun _ s' => ∃ H', Inv X pins σ H' s' /\ Q H') X.xe s
noncomputable abbrev TIp := V -> V -> Hp -> VK -> Prop
noncomputable def PIp (X : Cx) (op : Operator) (t : TIp) : Prop :=
 ∀ (pins : List (Addr × Obj)) (s : Shared) (σ : St) (H : Hp) (x y : V) (v u : Value) (Q : VK), Inv X pins σ H s -> RelV x v -> RelV y u -> t x y H Q →
   wpAny (model X.prog X.w) X.A (inplaceOp op v u) (EP X pins σ Q) X.xe s
section
variable {X : Cx} {pos : Pos}
noncomputable def D4 (i : Nat) : TG := fun v σ H Q => Q (σ.set i (some v)) H
theorem rC {i : Nat} {x : Str} (hN : X.N.Nodup) (hi : X.N[i]? = some x) (hx : Loc X.env.scope x) (hf : X.fn x = true \/ X.env.scope.names.lookup x = some .local := by first | exact .inl rfl | exact .inr rfl | assumption) : PG X (.Name x pos) (D4 i) := by
 intro pins s σ H v u Q I r h
 exact wpAny_assign_Name (yf I hN hi hx r (fun s' I' => ⟨_, H, I', h⟩) hf)
noncomputable def acA (to ti : TE) (t : V1) : TG := fun v σ H Q => to σ H fun o H1 => ti σ H1 fun i H2 => t o i v H2 fun H3 => Q σ H3
theorem Ma {o i : Expr} {to ti : TE} {t : V1} (ho : PE X o to) (hi : PE X i ti) (hs : Zk X t)
   (ha : ∀ v, assign (.Subscript o i pos) X.env v = (do
     let ov ← holding [v] (eval o X.env)
     let iv ← holding [v, ov] (eval i X.env)
     standAt pos
     holding [v, ov, iv] (setItem ov iv v)
     release [v, ov, iv] []) := by intro _; rfl) : PG X (.Subscript o i pos) (acA to ti t) := by
 intro pins s σ H v u Q I r h
 rw [ha]
 refine agW (aiD (dF (ho pins s σ H _ I h) fun ov s1 zz => ?_))
 obtain ⟨x, H1, I1, r1, q1⟩ := zz
 refine agW (aiD (dF (hi pins s1 σ H1 _ I1 q1) fun iv s2 zz => ?_))
 obtain ⟨y, H2, I2, r2, q2⟩ := zz
 refine agW (wpAny_standAt (agW (aiD (dF (hs pins s2 σ H2 x y v ov iv u _ I2 r1 r2 r q2) fun _ s3 zz => ?_))))
 obtain ⟨H3, I3, q3⟩ := zz
 exact wpAny_release ⟨σ, H3, I3, q3⟩
noncomputable def Zm (te : TE) (g : TG) : TS := fun D σ H => te σ H fun x H1 => g x σ H1 D.nx
theorem Mb {tg e : Expr} {te : TE} {g : TG} (he : PE X e te) (hg : PG X tg g) (hs : swapsWithSole [tg] e pos.line X.env = pure false := by rfl) (hw : swappedStores [tg] e X.env = pure none := by rfl)
   (h1 : (assignEach [tg] X.env).map (·.2) = [assign tg X.env] := by rfl) : PS X (.Assign [tg] e pos) (Zm te g) := by
 intro pins s σ H D I h
 refine wpAny_Assign_stores (dF (he pins s σ H _ I h) fun v s1 zz => ?_) hs hw
 obtain ⟨x, H1, I1, r1, q1⟩ := zz
 rw [h1]
 exact dF (hg pins s1 σ H1 x v _ I1 r1 q1) fun _ s2 q => q
theorem Mf {i : Nat} {x : Str} {e : Expr} {te : TE} {pos' : Pos} (hN : X.N.Nodup) (hi : X.N[i]? = some x) (hx : Loc X.env.scope x) (he : PE X e te) (hs : swapsWith e (some (.Name x pos')) pos.line X.env = pure false := by rfl) (hf : X.fn x = true \/ X.env.scope.names.lookup x = some .local := by first | exact .inl rfl | exact .inr rfl | assumption) :
   PS X (.Assign [.Name x pos'] e pos) (Zm te (D4 i)) := by
 intro pins s σ H D I h
 refine wpAny_Assign_Name (dF (he pins s σ H _ I h) fun v s1 zz => ?_) hs
 obtain ⟨y, H1, I1, r1, q1⟩ := zz
 exact yf I1 hN hi hx r1 (fun s2 I2 => ⟨_, H1, I2, q1⟩) hf
noncomputable def acB (i : Nat) (te : TE) (ti : TIp) : TS := fun D σ H => ∃ x, σ[i]? = some (some x) /\ te σ H fun y H1 => ti x y H1 fun z H2 => D.nx (σ.set i (some z)) H2
theorem V2 {i : Nat} {x : Str} {e : Expr} {te : TE} {op : Operator} {ti : TIp} {pos' : Pos} (hN : X.N.Nodup) (hi : X.N[i]? = some x) (hx : Loc X.env.scope x) (he : PE X e te) (ho : PIp X op ti) (hf : X.fn x = true \/ X.env.scope.names.lookup x = some .local := by first | exact .inl rfl | exact .inr rfl | assumption) :
   PS X (.AugAssign (.Name x pos') op e pos) (acB i te ti) := by
 intro pins s σ H D I h
 obtain ⟨v, e1, h⟩ := h
 obtain ⟨m, hn, hl⟩ := I.loc
 have vis : U4 X.env.scope x := by rcases hx with k | k; exact .inl k; exact .inr (.inl k)
 obtain ⟨u, r, l⟩ := hl i x v hi e1 vis
 refine wpAny_AugAssign_Name ?_
 have go : wpAny (model X.prog X.w) X.A (eval e X.env) (fun w s₂ => wpAny (model X.prog X.w) X.A (inplaceOp op u w) (fun r s₃ => wpAny (model X.prog X.w) X.A (storeName X.env x r) (fun _ => SP X pins D .next) X.xe s₃) X.xe s₂) X.xe s := by
   refine dF (he pins s σ H _ I h) fun w s1 zz => ?_
   obtain ⟨y, H1, I1, r1, q1⟩ := zz
   refine dF (ho pins s1 σ H1 v y u w _ I1 r r1 q1) fun z s2 zz => ?_
   obtain ⟨zv, H2, I2, r2, q2⟩ := zz
   exact yf I2 hN hi hx r2 (fun s3 I3 => ⟨_, H2, I3, q2⟩) hf
 rcases l with ⟨hk, hm⟩ | ⟨hk, c, hc, sE⟩
 . exact wpAny_loadName_local I.ok.kind hk hn hm go
 . rcases hk with hk | hk
   . exact wpAny_loadName_cell I.ok.kind hk hc sE go
   . rcases hx with k | k
     . have : X.env.scope.names.lookup x = some .free := hk
       rw [k] at this; cases this
     . have : X.env.scope.names.lookup x = some .free := hk
       rw [k] at this; cases this
noncomputable def ipI (f : Int -> Int -> Int) : TIp := fun x y H Q => ∃ i j, x = .int i /\ y = .int j /\ Q (.int (f i j)) H
theorem V3 : PIp X .Add (ipI fun i j => i + j) := by
 intro pins s σ H x y v u Q I r1 r2 h
 obtain ⟨i, j, e1, e2, q⟩ := h
 subst e1; subst e2
 obtain ⟨t, rfl⟩ := r1
 obtain ⟨t', rfl⟩ := r2
 exact iadd_int ⟨.int _, H, I.tok _, ⟨_, rfl⟩, q⟩
end
section
variable {X : Cx} {pos : Pos}
noncomputable def V4 (c : TT) (tb : TS) : TS := fun D σ H => ∃ W : Nat -> St -> Hp -> Prop, (∃ m, W m σ H) /\ ∀ m σ H, W m σ H →
 c σ H fun b H1 => if b = true then ∃ N : St -> Hp -> Prop, (∀ σ' H', N σ' H' -> ∃ m', m' < m /\ W m' σ' H') /\ tb { D with nx := N, ct := N, bk := D.nx } σ H1 else D.nx σ H1
theorem Mg {c : Expr} {body : List Stmt} {tc : TT} {tb : TS} (hp : PassesOwn (model X.prog X.w) X.A X.env X.xe) (hc : PT X c tc) (hb : Ht X body tb) : PS X (.While c body [] pos) (V4 tc tb) := by
 intro pins s σ H D I h
 obtain ⟨W, ⟨m0, w0⟩, turn⟩ := h
 refine wpAny_While (codeAny_whileLoop (fun n s' => ∃ σ' H', Inv X pins σ' H' s' /\ W n σ' H') ?_ m0 ⟨σ, H, I, w0⟩)
 rintro n s1 ⟨σ1, H1, I1, w1⟩
 refine aia hp (dF (hc pins s1 σ1 H1 _ I1 (turn n σ1 H1 w1)) fun b s2 zz => ?_)
 obtain ⟨H2, I2, q2⟩ := zz
 cases b with
 | true =>
   obtain ⟨N, hN, q2⟩ := q2
   rw [ag9 rfl]
   refine aia hp (dF (hb pins s2 σ1 H2 _ I2 q2) fun f s3 q3 => ?_)
   cases f with
   | next =>
     obtain ⟨σ3, H3, I3, n3⟩ := q3
     obtain ⟨m', hm, w3⟩ := hN σ3 H3 n3
     exact ⟨m', hm, σ3, H3, I3, w3⟩
   | cont =>
     obtain ⟨σ3, H3, I3, n3⟩ := q3
     obtain ⟨m', hm, w3⟩ := hN σ3 H3 n3
     exact ⟨m', hm, σ3, H3, I3, w3⟩
   | brk => exact q3
   | ret v => exact q3
 | false =>
   rw [ag2 ag5]
   exact wpAny_execs_nil ⟨σ1, H2, I2, q2⟩
end
structure It where
 go : Nat -> Hp -> Prop
 Qq : Nat -> Hp -> V -> Hp -> Prop
 stop : Nat -> Hp -> Prop
noncomputable def su (X : Cx) (pins : List (Addr × Obj)) (H : Hp) (b : Addr) : Prop :=
 H b = none /\ b ≠ X.env.locals /\ b ∉ X.fs /\ (b ∈ X.ex \/ X.s₀.heap.objs.size <= b) /\ (∀ x c, X.env.cells.lookup x = some c -> c ≠ b) /\ ∀ p ∈ X.pn ++ pins, p.1 ≠ b
theorem Inv.JK {X : Cx} {pins : List (Addr × Obj)} {σ : St} {H H' : Hp} {s : Shared} {b : Addr} (I : Inv X pins σ H s) (hb : s.heap.objs.size <= b) (hn : H' b = none) : su X pins H' b := by
 refine ⟨hn, Nat.ne_of_gt (ahx I.lt hb), I.acm hb, .inr (ahM I.sz hb), fun x c e z => ?_, fun p hp z => ?_⟩
 . obtain ⟨v, q⟩ := I.cell x c e
   exact absurd (ahx q.lt (by rw [z]; exact hb)) (aip _)
 . exact absurd (ahx (ahj (I.pin p hp).1) (by rw [z]; exact hb)) (aip _)
structure Turn (P : Program) (w : World) (K : PySem.W.Frag) (tg : Expr) (J : It) (fp : List Addr) (it : Addr) (tn : Nat -> Heap -> Prop) : Prop where
 mem : it ∈ fp
 obj : ∀ i h, tn i h -> ∀ b ∈ fp, ∃ o, h.get? b = some o /\ ∀ v, o.data ≠ .cell v
 keep : ∀ i h h', tn i h -> (∀ b ∈ fp, ∀ o, h.get? b = some o -> h'.get? b = some o) -> tn i h'
 item : ∀ (X : Cx), X.prog = P -> X.w = w -> X.K = K -> X.calm = true -> ∀ (i : Nat) (pins : List (Addr × Obj)) (s : Shared) (σ : St) (H : Hp) (E : Value -> Shared -> Prop), Inv X pins σ H s -> (∀ b ∈ fp, su X pins H b) -> tn i s.heap -> J.go i H →
   wpAny (model P w) X.A (pyNext (.ref it)) (fun r s1 => ∃ u, r = some u ∧
     wpAny (model P w) X.A (letOwnedTupleGo tg (.ref it) u) (fun _ s2 => ∃ x H', Inv X pins σ H' s2 /\ RelV x u /\ J.Qq i H x H' /\ tn (i + 1) s2.heap /\ ∀ b ∈ fp, H' b = none) E s1) E s
 done : ∀ (X : Cx), X.prog = P -> X.w = w -> X.K = K -> X.calm = true -> ∀ (i : Nat) (pins : List (Addr × Obj)) (s : Shared) (σ : St) (H : Hp) (E : Value -> Shared -> Prop), Inv X pins σ H s -> (∀ b ∈ fp, su X pins H b) -> tn i s.heap -> J.stop i H →
   wpAny (model P w) X.A (pyNext (.ref it)) (fun r s1 => r = none /\ Inv X pins σ H s1) E s
 self : ∀ (A : Around) (i : Nat) (s : Shared) (Q : Value -> Shared -> Prop) (E : Value -> Shared -> Prop), tn i s.heap -> Q (.ref it) s -> wpAny (model P w) A (pyIter (.ref it)) Q E s
noncomputable abbrev TI := St -> Hp -> (It -> Hp -> Prop) -> Prop
noncomputable def PIE (X : Cx) (pins : List (Addr × Obj)) (σ : St) (tg : Expr) (R : It -> Hp -> Prop) (Zn : Value) (s2 : Shared) : Prop :=
 ∃ (it : Addr) (fp : List Addr) (tn : Nat -> Heap -> Prop) (J : It) (H' : Hp), Zn = .ref it /\ Inv X pins σ H' s2 /\ Turn X.prog X.w X.K tg J fp it tn /\ tn 0 s2.heap /\ (∀ b ∈ fp, su X pins H' b) /\ R J H'
noncomputable def PI (X : Cx) (tg iter : Expr) (wi : TI) : Prop :=
 ∀ (pins : List (Addr × Obj)) (s : Shared) (σ : St) (H : Hp) (R : It -> Hp -> Prop), Inv X pins σ H s -> wi σ H R →
   wpAny (model X.prog X.w) X.A (eval iter X.env) (fun v s1 => wpAny (model X.prog X.w) X.A (pyIter v) (PIE X pins σ tg R) X.xe s1) X.xe s
theorem Hu {M : Model} {A : Around} {E : Value -> Shared -> Prop} {s : Shared} {tg : Expr} {it : Addr} {u : Value} {o : Obj} {n : String} {vs : Array Value} {Q : Unit -> Shared -> Prop} (ho : s.heap.get? it = some o) (hc : o.cls = .type n) (hd : o.data = .fields vs)
   (hn : ["enumerate", "zip", "dict_itemiterator", "dict_reverseitemiterator", "odict_iterator", "itertools.zip_longest", "itertools.pairwise"].contains n = false) (hQ : Q () s) : wpAny M A (letOwnedTupleGo tg (.ref it) u) Q E s := by
 unfold letOwnedTupleGo
 cases tg <;> first
   | exact ahe hQ
   | (cases u <;> first
       | exact ahe hQ
       | (refine agW (wpAny_load ho ?_)
          rw [hc, hd]
          show wpAny M A (if (["enumerate", "zip", "dict_itemiterator", "dict_reverseitemiterator", "odict_iterator", "itertools.zip_longest", "itertools.pairwise"].contains n && vs[0]? == some (rawInt _)) = true then _ else _) Q E s
          rw [ag2 (by intro h; rw [hn, Bool.false_and] at h; cases h)]
          exact ahe hQ))
noncomputable def Itl (K : PySem.W.Frag) (a : Addr) : It :=
 ⟨fun i H => ∃ xs x, oS K H a xs /\ xs[i]? = some x, fun i H x H' => H' = H /\ ∀ xs, oS K H a xs -> xs[i]? = some x, fun i H => ∃ xs, oS K H a xs /\ xs.length <= i⟩
noncomputable def Itt (K : PySem.W.Frag) (a : Addr) : It :=
 ⟨fun i H => ∃ xs x, sF K H a xs /\ xs[i]? = some x, fun i H x H' => H' = H /\ ∀ xs, sF K H a xs -> xs[i]? = some x, fun i H => ∃ xs, sF K H a xs /\ xs.length <= i⟩
noncomputable def V5 (lo : Int) (n : Nat) : It := ⟨fun i _ => i < n, fun i H x H' => H' = H /\ x = .int (lo + i), fun i _ => n <= i⟩
theorem JL {P : Program} {w : World} {K : PySem.W.Frag} {tg : Expr} (a it : Addr) : Turn P w K tg (Itl K a) [it] it (fun i h => h.IsListIter it a i) where
 mem := by simp
 obj := fun i h st b hb => by
   have e : b = it := by simpa using hb
   subst e
   obtain ⟨o, e, c, d⟩ := st
   exact ⟨o, e, fun v z => by rw [d] at z; cases z⟩
 keep := fun i h h' st k => st.at fun o e => k it (by simp) o e
 item := by
   intro X hP hw hK hc i pins s σ H E I hf st hg
   subst hP hw hK
   obtain ⟨xs, x, hq, hx⟩ := hg
   obtain ⟨its, rv, p, hz⟩ := I.list hq
   obtain ⟨u, hu, ru⟩ := rv.get hx
   obtain ⟨f0, f1, f2, f3, f4, f5⟩ := hf it (by simp)
   refine wpAny_pyNext_list_item st p.isList (x := u) (by simpa using hu) fun h' Mh sb => ?_
   have I1 : Inv X pins σ H { s with heap := h' } := I.turned (t' := s.toks) (fun b o hb e => (sb.2 b hb).trans e) f0 f1 f3 f4 f5
   obtain ⟨o, e, c, d⟩ := id Mh
   exact ⟨u, rfl, Hu (s := { s with heap := h' }) e c d (by decide) ⟨x, H, I1, ru, ⟨rfl, fun ys hy => by rw [I.L5 hy hq]; exact hx⟩, Mh, fun b hb => (hf b hb).1⟩⟩
 done := by
   intro X hP hw hK hc i pins s σ H E I hf st hg
   subst hP hw hK
   obtain ⟨xs, hq, hx⟩ := hg
   obtain ⟨its, rv, p, hz⟩ := I.list hq
   obtain ⟨f0, f1, f2, f3, f4, f5⟩ := hf it (by simp)
   have hl := rv.length
   exact wpAny_pyNext_list_end (I.ok.hd hc) st p.isList (by simp; omega) fun h' eb => ⟨rfl, I.turned (t' := s.toks) (fun b o hb e => eb b o hb e) f0 f1 f3 f4 f5⟩
 self := fun _ _ _ _ _ st h => wpAny_pyIter_listiter st h
theorem Fw {P : Program} {w : World} {K : PySem.W.Frag} {tg : Expr} (a it : Addr) : Turn P w K tg (Itt K a) [it] it (fun i h => h.IsTupleIter it a i) where
 mem := by simp
 obj := fun i h st b hb => by
   have e : b = it := by simpa using hb
   subst e
   obtain ⟨o, e, c, d⟩ := st
   exact ⟨o, e, fun v z => by rw [d] at z; cases z⟩
 keep := fun i h h' st k => st.at fun o e => k it (by simp) o e
 item := by
   intro X hP hw hK hc i pins s σ H E I hf st hg
   subst hP hw hK
   obtain ⟨xs, x, hq, hx⟩ := hg
   obtain ⟨its, rv, p, hz⟩ := I.tuple hq
   obtain ⟨u, hu, ru⟩ := rv.get hx
   obtain ⟨f0, f1, f2, f3, f4, f5⟩ := hf it (by simp)
   refine wpAny_pyNext_tuple_item st (show s.heap.IsTuple a its.toArray from p) (x := u) (by simpa using hu) fun h' Mh sb => ?_
   have I1 : Inv X pins σ H { s with heap := h' } := I.turned (t' := s.toks) (fun b o hb e => (sb.2 b hb).trans e) f0 f1 f3 f4 f5
   obtain ⟨o, e, c, d⟩ := id Mh
   exact ⟨u, rfl, Hu (s := { s with heap := h' }) e c d (by decide) ⟨x, H, I1, ru, ⟨rfl, fun ys hy => by rw [I.JH hy hq]; exact hx⟩, Mh, fun b hb => (hf b hb).1⟩⟩
 done := by
   intro X hP hw hK hc i pins s σ H E I hf st hg
   subst hP hw hK
   obtain ⟨xs, hq, hx⟩ := hg
   obtain ⟨its, rv, p, hz⟩ := I.tuple hq
   obtain ⟨f0, f1, f2, f3, f4, f5⟩ := hf it (by simp)
   have hl := rv.length
   exact wpAny_pyNext_tuple_end (I.ok.hd hc) st (show s.heap.IsTuple a its.toArray from p) (by simp; omega) fun h' eb => ⟨rfl, I.turned (t' := s.toks) (fun b o hb e => eb b o hb e) f0 f1 f3 f4 f5⟩
 self := fun _ _ _ _ _ st h => wpAny_pyIter_tupleiter st h
theorem Fx {P : Program} {w : World} {K : PySem.W.Frag} {tg : Expr} (it : Addr) (lo : Int) (n : Nat) : Turn P w K tg (V5 lo n) [it] it (fun i h => IsRangeIter h it (lo + (i : Nat) * 1) ((n : Int) - (i : Nat)) 1) where
 mem := by simp
 obj := fun i h st b hb => by
   have e : b = it := by simpa using hb
   subst e
   exact ⟨_, st, fun v z => by
     have z' : Data.fields _ = Data.cell v := z
     cases z'⟩
 keep := fun i h h' st k => k it (by simp) _ st
 item := by
   intro X hP hw hK hc i pins s σ H E I hf st hg
   subst hP hw hK
   obtain ⟨f0, f1, f2, f3, f4, f5⟩ := hf it (by simp)
   have W := Walks.range (prog := X.prog) (w := X.w) (I.ok.hd hc) it lo 1 n
   refine W.item i s _ _ hg st fun v h' tk hv Mh kk => ?_
   obtain ⟨t, rfl⟩ := hv
   have I1 : Inv X pins σ H { s with heap := h', toks := tk } := I.turned (fun b o hb e => kk b o (by simpa using hb) e) f0 f1 f3 f4 f5
   refine ⟨_, rfl, Hu (s := { s with heap := h', toks := tk }) (n := "range_iterator") Mh rfl rfl (by decide) ⟨.int (lo + i), H, I1, ⟨t, ?_⟩, ⟨rfl, rfl⟩, Mh, fun b hb => (hf b hb).1⟩⟩
   rw [Int.mul_one]
 done := by
   intro X hP hw hK hc i pins s σ H E I hf st hg
   subst hP hw hK
   obtain ⟨f0, f1, f2, f3, f4, f5⟩ := hf it (by simp)
   exact wpAny_pyNext_range_end (I.ok.hd hc) st (by have : n <= i := hg; omega) fun h' eb => ⟨rfl, I.turned (t' := s.toks) (fun b o hb e => eb b o hb e) f0 f1 f3 f4 f5⟩
 self := fun _ _ _ _ _ st h => wpAny_pyIter_rangeiter st h
section
variable {X : Cx} {tg : Expr}
noncomputable def Zo (K : PySem.W.Frag) (tl : TE) : TI := fun σ H R => tl σ H fun x H1 => ∃ a, x = .ref a /\ (∃ xs, oS K H1 a xs) /\ R (Itl K a) H1
noncomputable def acD (K : PySem.W.Frag) (tl : TE) : TI := fun σ H R => tl σ H fun x H1 => ∃ a, x = .ref a /\ (∃ xs, sF K H1 a xs) /\ R (Itt K a) H1
theorem QN {l : Expr} {tl : TE} (hl : PE X l tl) : PI X tg l (Zo X.K tl) := by
 intro pins s σ H R I h
 refine dF (hl pins s σ H _ I h) fun v s1 zz => ?_
 obtain ⟨x, H1, I1, r1, q1⟩ := zz
 obtain ⟨a, e, ⟨xs, hq⟩, q⟩ := q1
 subst e
 cases r1
 obtain ⟨its, rv, p, hz⟩ := I1.list hq
 refine wpAny_pyIter_list p.isList ?_
 refine ⟨s1.heap.objs.size, [s1.heap.objs.size], _, _, H1, rfl, I1.kept (t' := s1.toks) fun b o e => ag8 _ e, JL a _, ⟨_, ahC _ rfl, rfl, rfl⟩, fun b hb => ?_, q⟩
 have e : b = s1.heap.objs.size := by simpa using hb
 subst e
 exact I1.JK (ag6 _) (I1.dg.fresh (ag6 _))
theorem V6 {l : Expr} {tl : TE} (hl : PE X l tl) : PI X tg l (acD X.K tl) := by
 intro pins s σ H R I h
 refine dF (hl pins s σ H _ I h) fun v s1 zz => ?_
 obtain ⟨x, H1, I1, r1, q1⟩ := zz
 obtain ⟨a, e, ⟨xs, hq⟩, q⟩ := q1
 subst e
 cases r1
 obtain ⟨its, rv, p, hz⟩ := I1.tuple hq
 refine wpAny_pyIter_tuple (show s1.heap.IsTuple a its.toArray from p) ?_
 refine ⟨s1.heap.objs.size, [s1.heap.objs.size], _, _, H1, rfl, I1.kept (t' := s1.toks) fun b o e => ag8 _ e, Fw a _, ⟨_, ahC _ rfl, rfl, rfl⟩, fun b hb => ?_, q⟩
 have e : b = s1.heap.objs.size := by simpa using hb
 subst e
 exact I1.JK (ag6 _) (I1.dg.fresh (ag6 _))
theorem Mi {pins : List (Addr × Obj)} {σ : St} {H : Hp} {s : Shared} {R : It -> Hp -> Prop} {E : Value -> Shared -> Prop} {lo hi : Int} {t u v : Tok} {tk : Nat} (I : Inv X pins σ H s) (h1 : -(2 ^ 62) <= lo) (h2 : lo < 2 ^ 62) (h3 : -(2 ^ 62) <= hi) (h4 : hi < 2 ^ 62)
   (q : R (V5 lo (hi - lo).toNat) H) : wpAny (model X.prog X.w) X.A (pyIter (.ref s.heap.objs.size)) (PIE X pins σ tg R) E { s with heap := s.heap.push { cls := .type "range", data := .fields #[.int lo t, .int hi u, .int 1 v] }, toks := tk } := by
 refine wpAny_pyIter_range (IsRange.new ..) (small_one h1 h2 h3 h4) ?_
 have I1 : Inv X pins σ H { s with heap := s.heap.push { cls := .type "range", data := .fields #[.int lo t, .int hi u, .int 1 v] }, toks := tk } := I.kept fun b o e => ag8 _ e
 refine ⟨(s.heap.push { cls := .type "range", data := .fields #[.int lo t, .int hi u, .int 1 v] }).objs.size, [(s.heap.push { cls := .type "range", data := .fields #[.int lo t, .int hi u, .int 1 v] }).objs.size], _, _, H, rfl,
   I1.kept (t' := tk) fun b o e => ag8 _ e, Fx _ lo (hi - lo).toNat, ?_, fun b hb => ?_, q⟩
 . have e1 : lo + ((0 : Nat) : Int) * 1 = lo := by simp
   have e2 : (((hi - lo).toNat : Nat) : Int) - ((0 : Nat) : Int) = Builtin.Range.rangeSize lo hi 1 := by rw [rangeSize_one]; split <;> omega
   show IsRangeIter _ _ (lo + ((0 : Nat) : Int) * 1) ((((hi - lo).toNat : Nat) : Int) - ((0 : Nat) : Int)) 1
   rw [e1, e2]
   exact ahC _ rfl
 . have e : b = (s.heap.push { cls := .type "range", data := .fields #[.int lo t, .int hi u, .int 1 v] }).objs.size := by simpa using hb
   subst e
   exact I1.JK (ag6 _) (I1.dg.fresh (ag6 _))
noncomputable def Zq (ta : TA) : TI := fun σ H R => ta σ H fun vs H1 => ∃ j : Int, vs = [.int j] /\ -(2 ^ 62) <= j /\ j < 2 ^ 62 /\ R (V5 0 j.toNat) H1
theorem vf {a : Expr} {ta : TA} {p pos : Pos} (hg : Gl X "range") (hm : X.mg "range" = none) (ha : PA X [a] ta) (hs : starEach [a] X.env = [(false, eval a X.env)] := by rfl) : PI X tg (.Call (.Name "range" p) [a] [] pos) (Zq ta) := by
 intro pins s σ H R I h
 refine Call_ (B5 I hg hm boot_range (PyProof.Rows.callWith_type1 (dF (ha pos pins s σ H _ I h) fun us s1 zz => ?_) hs rfl))
 obtain ⟨vs, H1, I1, r1, q1⟩ := zz
 obtain ⟨j, e, q1, q2, q⟩ := q1
 subst e
 cases r1 with
 | cons r rr =>
   cases rr
   obtain ⟨t, rfl⟩ := r
   exact call_range_1 (Mi I1 (by omega) (by omega) q1 q2 (by simpa using q))
noncomputable def acE (wi : TI) (g : TG) (tb : TS) : TS := fun D σ H => wi σ H fun J H1 => ∃ W : Nat -> Nat -> St -> Hp -> Prop, (∃ m, W 0 m σ H1) /\ ∀ i m σ H, W i m σ H →
 (J.stop i H /\ D.nx σ H) \/ (J.go i H /\ ∃ N : St -> Hp -> Prop, (∀ σ' H', N σ' H' -> ∃ m', m' < m /\ W (i + 1) m' σ' H') /\ ∀ x H', J.Qq i H x H' -> g x σ H' fun σ2 H2 => tb { D with nx := N, ct := N, bk := D.nx } σ2 H2)
noncomputable def vg (fp : List Addr) (h : Heap) : List (Addr × Obj) := fp.filterMap fun b => (h.get? b).map fun o => (b, o)
theorem jo {fp : List Addr} {h : Heap} {b : Addr} {o : Obj} (hb : b ∈ fp) (e : h.get? b = some o) : (b, o) ∈ vg fp h := aiH.mpr ⟨b, hb, by rw [e]; rfl⟩
theorem JM {fp : List Addr} {h : Heap} {p : Addr × Obj} (hp : p ∈ vg fp h) : p.1 ∈ fp /\ h.get? p.1 = some p.2 := by
 obtain ⟨b, hb, e⟩ := aiH.mp hp
 cases q : h.get? b with
 | none => rw [q] at e; cases e
 | some o =>
   rw [q] at e
   have e' : (b, o) = p := ahg e
   subst e'
   exact ⟨hb, q⟩
theorem Inv.pinned {pins : List (Addr × Obj)} {σ : St} {H : Hp} {s : Shared} {fp : List Addr} (I : Inv X pins σ H s) (hf : ∀ b ∈ fp, su X pins H b) (ho : ∀ b ∈ fp, ∃ o, s.heap.get? b = some o /\ ∀ v, o.data ≠ .cell v) : Inv X (pins ++ vg fp s.heap) σ H s :=
 I.xj fun p hp => (ag0.mp hp).elim (fun z => I.pin p (agS _ z)) fun z => by
   obtain ⟨hb, e⟩ := JM z
   obtain ⟨f0, f1, f2, _⟩ := hf p.1 hb
   obtain ⟨o, e', d⟩ := ho p.1 hb
   rw [e] at e'; cases e'
   exact ⟨e, f0, f1, f2, d⟩
theorem Inv.qv {pins pl : List (Addr × Obj)} {σ : St} {H : Hp} {s : Shared} (I : Inv X (pins ++ pl) σ H s) : Inv X pins σ H s := I.xj fun p hp => I.pin p (agS _ (agX _ hp))
theorem Fy {iter : Expr} {body : List Stmt} {wi : TI} {g : TG} {tb : TS} {pos : Pos} (hp : PassesOwn (model X.prog X.w) X.A X.env X.xe) (hc : X.calm = true) (hi : PI X tg iter wi) (hg : PG X tg g) (hb : Ht X body tb)
   (hs : ∀ x, foldedSetIterable iter X.env x = pure x := by intro _; rfl) : PS X (.For tg iter body [] pos) (acE wi g tb) := by
 intro pins s σ H D I h
 refine wpAny_For (dF (hi pins s σ H _ I h) fun v s1 h1 => dF h1 fun Zn s2 h2 => ?_) hs
 obtain ⟨it, fp, tn, J, H2, e, I2, T, st2, f2, W, ⟨m0, w0⟩, turn⟩ := h2
 subst e
 have stat : ∀ {H' : Hp}, (∀ b ∈ fp, H' b = none) -> ∀ b ∈ fp, su X pins H' b := fun hn b hb => ⟨hn b hb, (f2 b hb).2⟩
 refine codeAny_forLoop_any (fun n s' => ∃ i σ' H', Inv X pins σ' H' s' /\ tn i s'.heap /\ (∀ b ∈ fp, H' b = none) /\ W i n σ' H') ?_ m0 ⟨0, σ, H2, I2, st2, fun b hb => (f2 b hb).1, w0⟩
 rintro n s3 ⟨i, σ3, H3, I3, Va, fr3, w3⟩
 rcases turn i n σ3 H3 w3 with ⟨stop, qn⟩ | ⟨go, N, hN, step⟩
 . refine aia hp (dF (T.done X rfl rfl rfl hc i pins s3 σ3 H3 X.xe I3 (stat fr3) Va stop) fun r s4 zz => ?_)
   obtain ⟨hr, I4⟩ := zz
   subst hr
   exact wpAny_execs_nil ⟨σ3, H3, I4, qn⟩
 . refine aia hp (dF (T.item X rfl rfl rfl hc i pins s3 σ3 H3 X.xe I3 (stat fr3) Va go) fun r s4 zz => ?_)
   obtain ⟨u, hr, h4⟩ := zz
   subst hr
   refine aia hp (dF h4 fun _ s5 zz => ?_)
   obtain ⟨x, H5, I5, r5, y5, QO, V7⟩ := zz
   have I5' := I5.pinned (stat V7) (T.obj _ _ QO)
   refine aia hp (dF (hg _ s5 σ3 H5 x u _ I5' r5 (step x H5 y5)) fun _ s6 zz => ?_)
   obtain ⟨σ6, H6, I6, q6⟩ := zz
   refine aia hp (dF (hb _ s6 σ6 H6 _ I6 q6) fun f s7 q7 => ?_)
   have again : ∀ {σ7 : St} {H7 : Hp}, Inv X (pins ++ vg fp s5.heap) σ7 H7 s7 -> N σ7 H7 -> ∃ m, m < n /\ ∃ i σ' H', Inv X pins σ' H' s7 /\ tn i s7.heap /\ (∀ b ∈ fp, H' b = none) /\ W i m σ' H' := fun {σ7 H7} I7 n7 => by
     obtain ⟨m', hm, w7⟩ := hN σ7 H7 n7
     refine ⟨m', hm, i + 1, σ7, H7, I7.qv, T.keep _ _ _ QO fun b hb o e => (I7.pin (b, o) (agS _ (agS _ (jo hb e)))).1, fun b hb => ?_, w7⟩
     obtain ⟨o, e, d⟩ := T.obj _ _ QO b hb
     exact (I7.pin (b, o) (agS _ (agS _ (jo hb e)))).2.1
   cases f with
   | next => obtain ⟨σ7, H7, I7, n7⟩ := q7; exact again I7 n7
   | cont => obtain ⟨σ7, H7, I7, n7⟩ := q7; exact again I7 n7
   | brk => obtain ⟨σ7, H7, I7, q7⟩ := q7; exact ⟨σ7, H7, I7.qv, q7⟩
   | ret v => obtain ⟨x7, σ7, H7, I7, r7, q7⟩ := q7; exact ⟨x7, σ7, H7, I7.qv, r7, q7⟩
end
theorem JN {lo : Int} {n : Nat} {g : TG} {tb : TS} {D : Ends} {σ : St} {H : Hp} (Pv : Nat -> St -> Hp -> Prop) (h0 : Pv 0 σ H)
   (hs : ∀ i σ H, i < n -> Pv i σ H -> g (.int (lo + i)) σ H fun σ2 H2 => tb { D with nx := Pv (i + 1), ct := Pv (i + 1), bk := D.nx } σ2 H2) (hd : ∀ σ H, Pv n σ H -> D.nx σ H) :
   ∃ W : Nat -> Nat -> St -> Hp -> Prop, (∃ m, W 0 m σ H) /\ ∀ i m σ H, W i m σ H →
     ((V5 lo n).stop i H /\ D.nx σ H) \/ ((V5 lo n).go i H /\ ∃ N : St -> Hp -> Prop, (∀ σ' H', N σ' H' -> ∃ m', m' < m /\ W (i + 1) m' σ' H') /\ ∀ x H', (V5 lo n).Qq i H x H' -> g x σ H' fun σ2 H2 => tb { D with nx := N, ct := N, bk := D.nx } σ2 H2) := by
 refine ⟨fun i m σ H => m = n - i /\ i <= n /\ Pv i σ H, ⟨n, by simp, ahs _, h0⟩, ?_⟩
 rintro i m σ H ⟨rfl, hi, p⟩
 by_cases qi : i < n
 . refine .inr ⟨qi, Pv (i + 1), fun σ' H' p' => ⟨n - (i + 1), by omega, rfl, qi, p'⟩, fun x H' y => ?_⟩
   obtain ⟨e, y⟩ := y
   subst e y
   exact hs i σ _ qi p
 . have e : i = n := by omega
   subst e
   exact .inl ⟨ag6 _, hd σ H p⟩
noncomputable abbrev R2 := V -> V -> Hp -> VK -> Prop
noncomputable def u6 (X : Cx) (f : Value -> Value -> Sem Value) (r : R2) : Prop :=
 ∀ (pins : List (Addr × Obj)) (s : Shared) (σ : St) (H : Hp) (x y : V) (v u : Value) (Q : VK), Inv X pins σ H s -> RelV x v -> RelV y u -> r x y H Q →
   wpAny (model X.prog X.w) X.A (f v u) (EP X pins σ Q) X.xe s
noncomputable def UnR (X : Cx) (f : Value -> Sem Value) (r : V -> Hp -> VK -> Prop) : Prop :=
 ∀ (pins : List (Addr × Obj)) (s : Shared) (σ : St) (H : Hp) (x : V) (v : Value) (Q : VK), Inv X pins σ H s -> RelV x v -> r x H Q →
   wpAny (model X.prog X.w) X.A (f v) (EP X pins σ Q) X.xe s
noncomputable def qw (X : Cx) (f : Value) (r : List V -> Hp -> VK -> Prop) : Prop :=
 ∀ (pins : List (Addr × Obj)) (s : Shared) (σ : St) (H : Hp) (xs : List V) (us : List Value) (Q : VK), Inv X pins σ H s -> Vals xs us -> r xs H Q →
   wpAny (model X.prog X.w) X.A (call f us) (EP X pins σ Q) X.xe s
noncomputable def acG (X : Cx) (r : V -> Hp -> (Bool -> Hp -> Prop) -> Prop) : Prop :=
 ∀ (pins : List (Addr × Obj)) (s : Shared) (σ : St) (H : Hp) (x : V) (v : Value) (Q : Bool -> Hp -> Prop), Inv X pins σ H s -> RelV x v -> r x H Q →
   wpAny (model X.prog X.w) X.A (truthy v) (TP X pins σ Q) X.xe s
noncomputable def tOp (r : R2) (ta tb : TE) : TE := fun σ H Q => ta σ H fun x H1 => tb σ H1 fun y H2 => r x y H2 Q
noncomputable def tUn (r : V -> Hp -> VK -> Prop) (ta : TE) : TE := fun σ H Q => ta σ H fun x H1 => r x H1 Q
noncomputable def rI (C : Int -> Int -> Prop) (g : Int -> Int -> V) : R2 := fun x y H Q => ∃ i j, x = .int i /\ y = .int j /\ C i j /\ Q (g i j) H
noncomputable def V8 (g : Int -> Int -> V) : R2 := fun x y H Q => ∃ i j, x = .int i /\ y = .int j /\ Q (g i j) H
noncomputable def rU (g : Int -> V) : V -> Hp -> VK -> Prop := fun x H Q => ∃ i, x = .int i /\ Q (g i) H
section
variable {X : Cx} {a b : Expr} {ta tb : TE} {pos : Pos}
theorem V9 (ha : PE X a ta) (hb : PE X b tb) {pins : List (Addr × Obj)} {s : Shared} {σ : St} {H : Hp} {R : V -> V -> Hp -> Prop} (I : Inv X pins σ H s)
   (h : ta σ H fun x H1 => tb σ H1 fun y H2 => R x y H2) {Q : Value -> Shared -> Prop} {f : Value -> Value -> Sem Value}
   (hf : ∀ v u s2 x y H2, Inv X pins σ H2 s2 -> RelV x v -> RelV y u -> R x y H2 -> wpAny (model X.prog X.w) X.A (f v u) Q X.xe s2) :
   wpAny (model X.prog X.w) X.A (eval a X.env) (fun v s₁ => wpAny (model X.prog X.w) X.A (eval b X.env) (fun u s₂ => wpAny (model X.prog X.w) X.A (f v u) Q X.xe s₂) X.xe s₁) X.xe s := by
 refine dF (ha pins s σ H _ I h) fun v s1 zz => ?_
 obtain ⟨x, H1, I1, r1, q1⟩ := zz
 refine dF (hb pins s1 σ H1 _ I1 q1) fun u s2 zz => ?_
 obtain ⟨y, H2, I2, r2, q2⟩ := zz
 exact hf v u s2 x y H2 I2 r1 r2 q2
theorem Hv {op : Operator} {r : R2} (ho : u6 X (binaryOp op) r) (ha : PE X a ta) (hb : PE X b tb) : PE X (.BinOp a op b pos) (tOp r ta tb) := by
 intro pins s σ H Q I h
 exact wpAny_BinOp (V9 ha hb I h fun v u s2 x y H2 I2 rx ry q => ho pins s2 σ H2 x y v u Q I2 rx ry q)
theorem Zr {op : UnaryOp} {r : V -> Hp -> VK -> Prop} (ho : UnR X (unaryOp op) r) (ha : PE X a ta) : PE X (.UnaryOp op a pos) (tUn r ta) := by
 intro pins s σ H Q I h
 exact UnaryOp_ (dF (ha pins s σ H _ I h) fun v s1 ⟨x, H1, I1, r1, q1⟩ => ho pins s1 σ H1 x v Q I1 r1 q1)
theorem Zt {f : Value -> Value -> Sem Value} {C : Int -> Int -> Prop} {g : Int -> Int -> Int}
   (rule : ∀ (i j : Int) (t u : Tok) (s : Shared) (Q : Value -> Shared -> Prop) (E : Value -> Shared -> Prop), C i j -> Q (.int (g i j) s.toks) { s with toks := s.toks + 1 } -> wpAny (model X.prog X.w) X.A (f (.int i t) (.int j u)) Q E s) :
   u6 X f (rI C fun i j => .int (g i j)) := by
 intro pins s σ H x y v u Q I rx ry h
 obtain ⟨i, j, rfl, rfl, hc, q⟩ := h
 obtain ⟨t, rfl⟩ := rx
 obtain ⟨t', rfl⟩ := ry
 exact rule i j t t' s _ _ hc ⟨.int (g i j), H, I.tok _, ⟨_, rfl⟩, q⟩
theorem Zu {f : Value -> Value -> Sem Value} {g : Int -> Int -> Int}
   (rule : ∀ (i j : Int) (t u : Tok) (s : Shared) (Q : Value -> Shared -> Prop) (E : Value -> Shared -> Prop), Q (.int (g i j) s.toks) { s with toks := s.toks + 1 } -> wpAny (model X.prog X.w) X.A (f (.int i t) (.int j u)) Q E s) :
   u6 X f (V8 fun i j => .int (g i j)) := by
 intro pins s σ H x y v u Q I rx ry h
 obtain ⟨i, j, rfl, rfl, q⟩ := h
 obtain ⟨t, rfl⟩ := rx
 obtain ⟨t', rfl⟩ := ry
 exact rule i j t t' s _ _ ⟨.int (g i j), H, I.tok _, ⟨_, rfl⟩, q⟩
theorem Wa {f : Value -> Value -> Sem Value} {g : Int -> Int -> Bool}
   (rule : ∀ (i j : Int) (t u : Tok) (s : Shared) (Q : Value -> Shared -> Prop) (E : Value -> Shared -> Prop), Q (.bool (g i j)) s -> wpAny (model X.prog X.w) X.A (f (.int i t) (.int j u)) Q E s) :
   u6 X f (V8 fun i j => .bl (g i j)) := by
 intro pins s σ H x y v u Q I rx ry h
 obtain ⟨i, j, rfl, rfl, q⟩ := h
 obtain ⟨t, rfl⟩ := rx
 obtain ⟨t', rfl⟩ := ry
 exact rule i j t t' s _ _ ⟨.bl (g i j), H, I, rfl, q⟩
noncomputable def Zv (i j : Int) : Prop := 0 < j /\ j < 1073741824
noncomputable def Zw (i j : Int) : Prop := 0 <= j /\ j <= 1000000 /\ i.natAbs < 2 ^ 64
noncomputable def QS (i j : Int) : Prop := (-(2 ^ 64) < i /\ i < 2 ^ 64) \/ (-(2 ^ 64) < j /\ j < 2 ^ 64)
theorem QS.ok {i j : Int} (h : QS i j) : IntMulOk i j := by
 rcases h with ⟨h1, h2⟩ | ⟨h1, h2⟩
 . exact .of_left (intBits_le_64 h1 h2)
 . exact .of_right (intBits_le_64 h1 h2)
theorem Mj : u6 X (binaryOp .Add) (V8 fun i j => .int (i + j)) := Zu fun _ _ _ _ _ _ _ q => add_int q
theorem Ml : u6 X (binaryOp .Sub) (V8 fun i j => .int (i - j)) := Zu fun _ _ _ _ _ _ _ q => sub_int q
theorem Wb : u6 X (binaryOp .Mult) (rI QS fun i j => .int (i * j)) := Zt fun _ _ _ _ _ _ _ hc q => mul_int q hc.ok
theorem QT : u6 X (binaryOp .FloorDiv) (rI Zv fun i j => .int (i / j)) := Zt fun i j _ _ _ _ _ hc q => by
 have h1 : (0 : Int) < j := hc.1
 have h2 : j < 1073741824 := hc.2
 exact floordiv_int (by omega) (by rw [Int.fdiv_eq_ediv_of_nonneg i (by omega)]; exact q) (.inl (PyProof.noPylong_small (by omega)))
theorem Wc : u6 X (binaryOp .Mod) (rI (fun _ j => 0 < j) fun i j => .int (i % j)) := Zt fun i j _ _ _ _ _ hc q => by
 have h1 : (0 : Int) < j := hc
 exact mod_int' (by omega) (by rw [Int.fmod_eq_emod_of_nonneg i (by omega)]; exact q)
theorem Wd : u6 X (binaryOp .Pow) (rI Zw fun i j => .int (i ^ j.toNat)) := Zt fun _ _ _ _ _ _ _ hc q => pow_int_small hc.1 hc.2.1 hc.2.2 q
theorem unI {f : Value -> Sem Value} {g : Int -> Int}
   (rule : ∀ (i : Int) (t : Tok) (s : Shared) (Q : Value -> Shared -> Prop) (E : Value -> Shared -> Prop), Q (.int (g i) s.toks) { s with toks := s.toks + 1 } -> wpAny (model X.prog X.w) X.A (f (.int i t)) Q E s) :
   UnR X f (rU fun i => .int (g i)) := by
 intro pins s σ H x v Q I rx h
 obtain ⟨i, rfl, q⟩ := h
 obtain ⟨t, rfl⟩ := rx
 exact rule i t s _ _ ⟨.int (g i), H, I.tok _, ⟨_, rfl⟩, q⟩
theorem Wf : UnR X (unaryOp .USub) (rU fun i => .int (-i)) := unI fun _ _ _ _ _ q => neg_int q
end
noncomputable def Zx : V -> V -> Bool
 | .non, .non => true | .non, .int _ => true | .int _, .non => true | .non, .bl _ => true | .bl _, .non => true | .non, .str _ => true | .str _, .non => true
 | .int _, .int _ => true | .bl _, .bl _ => true | .str _, .str _ => true | .Hr _, .Hr _ => true
 | .int _, .str _ => true | .str _, .int _ => true | .bl _, .str _ => true | .str _, .bl _ => true
 | _, _ => false
noncomputable def rEq : R2 := fun x y H Q => Zx x y = true /\ Q (.bl (decide (x = y))) H
noncomputable def rNe : R2 := fun x y H Q => Zx x y = true /\ Q (.bl (!decide (x = y))) H
theorem Hw {i j : Int} : decide (V.int i = V.int j) = (i == j) := by
 rw [Bool.eq_iff_iff]
 simp
theorem Mm {i j : Bool} : decide (V.bl i = V.bl j) = (i == j) := by
 rw [Bool.eq_iff_iff]
 simp
theorem Hx {i j : Str} : decide (V.str i = V.str j) = (i == j) := by
 rw [Bool.eq_iff_iff]
 simp
theorem Hy {i j : Array UInt8} : decide (V.Hr i = V.Hr j) = (i.toList == j.toList) := by
 rw [Bool.eq_iff_iff]
 cases i
 cases j
 simp
section
variable {X : Cx} {a b c : Expr} {ta tb : TE} {pos : Pos}
theorem cz {pins : List (Addr × Obj)} {σ : St} {H : Hp} {s : Shared} {Q : VK} {k k' : Bool} (I : Inv X pins σ H s) (q : Q (.bl k) H) (e : k = k') : EP X pins σ Q (.bool k') s := by
 subst e
 exact ⟨.bl k, H, I, rfl, q⟩
theorem Mp : u6 X (compareOp .Eq) rEq := by
 intro pins s σ H x y v u Q I rx ry h
 obtain ⟨hs, q⟩ := h
 cases x with
 | non =>
   cases rx
   cases y with
   | non => cases ry; exact PySem.EqNone.eq_none_none (cz I q (by simp))
   | bl j => cases ry; exact PySem.EqNone.eq_none_bool (cz I q (by simp))
   | int j => obtain ⟨t', rfl⟩ := ry; exact PySem.EqNone.eq_none_int (cz I q (by simp))
   | str j => obtain ⟨t', rfl⟩ := ry; exact PySem.EqNone.eq_none_str (cz I q (by simp))
   | _ => exact absurd (show false = true from hs) ag5
 | bl i =>
   cases rx
   cases y with
   | non => cases ry; exact PySem.EqNone.eq_bool_none (cz I q (by simp))
   | bl j => cases ry; exact eq_bool (cz I q Mm)
   | str j => obtain ⟨t', rfl⟩ := ry; exact PySem.EqMixed.eq_bool_str (cz I q (by simp))
   | _ => exact absurd (show false = true from hs) ag5
 | int i =>
   obtain ⟨t, rfl⟩ := rx
   cases y with
   | non => cases ry; exact PySem.EqNone.eq_int_none (cz I q (by simp))
   | int j => obtain ⟨t', rfl⟩ := ry; exact eq_int (cz I q Hw)
   | str j => obtain ⟨t', rfl⟩ := ry; exact PySem.EqMixed.eq_int_str (cz I q (by simp))
   | _ => exact absurd (show false = true from hs) ag5
 | str i =>
   obtain ⟨t, rfl⟩ := rx
   cases y with
   | non => cases ry; exact PySem.EqNone.eq_str_none (cz I q (by simp))
   | bl j => cases ry; exact PySem.EqMixed.eq_str_bool (cz I q (by simp))
   | int j => obtain ⟨t', rfl⟩ := ry; exact PySem.EqMixed.eq_str_int (cz I q (by simp))
   | str j => obtain ⟨t', rfl⟩ := ry; exact eq_str (cz I q Hx)
   | _ => exact absurd (show false = true from hs) ag5
 | Hr i =>
   obtain ⟨t, rfl⟩ := rx
   cases y with
   | Hr j => obtain ⟨t', rfl⟩ := ry; exact PySem.W.eq_bytes (cz I q Hy)
   | _ => exact absurd (show false = true from hs) ag5
 | _ => cases y <;> exact absurd (show false = true from hs) ag5
theorem Zy : u6 X (compareOp .NotEq) rNe := by
 intro pins s σ H x y v u Q I rx ry h
 obtain ⟨hs, q⟩ := h
 cases x with
 | non =>
   cases rx
   cases y with
   | non => cases ry; exact PySem.EqNone.ne_none_none (cz I q (by simp))
   | bl j => cases ry; exact PySem.EqNone.ne_none_bool (cz I q (by simp))
   | int j => obtain ⟨t', rfl⟩ := ry; exact PySem.EqNone.ne_none_int (cz I q (by simp))
   | str j => obtain ⟨t', rfl⟩ := ry; exact PySem.EqNone.ne_none_str (cz I q (by simp))
   | _ => exact absurd (show false = true from hs) ag5
 | bl i =>
   cases rx
   cases y with
   | non => cases ry; exact PySem.EqNone.ne_bool_none (cz I q (by simp))
   | bl j => cases ry; exact ne_bool (cz I q (congrArg not Mm))
   | str j => obtain ⟨t', rfl⟩ := ry; exact PySem.EqMixed.ne_bool_str (cz I q (by simp))
   | _ => exact absurd (show false = true from hs) ag5
 | int i =>
   obtain ⟨t, rfl⟩ := rx
   cases y with
   | non => cases ry; exact PySem.EqNone.ne_int_none (cz I q (by simp))
   | int j => obtain ⟨t', rfl⟩ := ry; exact ne_int (cz I q (congrArg not Hw))
   | str j => obtain ⟨t', rfl⟩ := ry; exact PySem.EqMixed.ne_int_str (cz I q (by simp))
   | _ => exact absurd (show false = true from hs) ag5
 | str i =>
   obtain ⟨t, rfl⟩ := rx
   cases y with
   | non => cases ry; exact PySem.EqNone.ne_str_none (cz I q (by simp))
   | bl j => cases ry; exact PySem.EqMixed.ne_str_bool (cz I q (by simp))
   | int j => obtain ⟨t', rfl⟩ := ry; exact PySem.EqMixed.ne_str_int (cz I q (by simp))
   | str j => obtain ⟨t', rfl⟩ := ry; exact ne_str (cz I q (congrArg not Hx))
   | _ => exact absurd (show false = true from hs) ag5
 | Hr i =>
   obtain ⟨t, rfl⟩ := rx
   cases y with
   | Hr j => obtain ⟨t', rfl⟩ := ry; exact PySem.W.ne_bytes (cz I q (congrArg not Hy))
   | _ => exact absurd (show false = true from hs) ag5
 | _ => cases y <;> exact absurd (show false = true from hs) ag5
theorem Zz : u6 X (compareOp .Lt) (V8 fun i j => .bl (decide (i < j))) := Wa fun _ _ _ _ _ _ _ q => lt_int q
theorem ZC : u6 X (compareOp .LtE) (V8 fun i j => .bl (decide (i <= j))) := Wa fun _ _ _ _ _ _ _ q => le_int q
theorem ZD : u6 X (compareOp .Gt) (V8 fun i j => .bl (decide (j < i))) := Wa fun _ _ _ _ _ _ _ q => gt_int q
theorem k7 (b : Expr) {op : CmpOp} (h : op ≠ .In := by decide) (h2 : op ≠ .NotIn := by decide) : behindInMarks op b = false := by
 have e1 : (op == CmpOp.In) = false := by cases op <;> first | rfl | exact absurd rfl h
 have e2 : (op == CmpOp.NotIn) = false := by cases op <;> first | rfl | exact absurd rfl h2
 cases b <;> simp [behindInMarks, e1, e2]
theorem xq {op : CmpOp} {r : R2} (ho : u6 X (compareOp op) r) (ha : PE X a ta) (hb : PE X b tb) (hm : behindInMarks op b = false) : PE X (.Compare a [op] [b] pos) (tOp r ta tb) := by
 intro pins s σ H Q I h
 exact wpAny_Compare1 (V9 ha hb I h fun v u s2 x y H2 I2 rx ry q => ho pins s2 σ H2 x y v u Q I2 rx ry q) hm
noncomputable def ZE (t : TE) : TT := fun σ H Q => t σ H fun x H' => ∃ k, x = .bl k /\ Q k H'
theorem tZ {op : CmpOp} {r : R2} (ho : u6 X (compareOp op) r) (ha : PE X a ta) (hb : PE X b tb) (hm : behindInMarks op b = false) : PT X (.Compare a [op] [b] pos) (ZE (tOp r ta tb)) := by
 intro pins s σ H Q I h
 refine wpAny_isTrue_Compare1 (dF (ha pins s σ H _ I h) fun v s1 ⟨x, H1, I1, r1, q1⟩ => dF (hb pins s1 σ H1 _ I1 q1) fun u s2 ⟨y, H2, I2, r2, q2⟩ =>
   dF (ho pins s2 σ H2 x y v u _ I2 r1 r2 q2) fun c s3 ⟨z, H3, I3, r3, k, e, q3⟩ => ?_) hm
 subst e
 cases r3
 exact aiQ ⟨H3, I3, q3⟩
noncomputable def ZF (K : PySem.W.Frag) (x : V) (H : Hp) (k : Bool) : Prop :=
 match x with
 | .non => k = false
 | .bl b => k = b
 | .int i => k = (i != 0)
 | .str y => y.length <= sizeLine /\ k = ((y.length : Int) != 0)
 | .Hr y => y.size <= sizeLine /\ k = ((y.size : Int) != 0)
 | .ref p => (∃ xs, oS K H p xs /\ k = !xs.isEmpty) \/ (∃ xs, sF K H p xs /\ k = !xs.isEmpty) \/ ∃ kvs, H p = some (.dK kvs) /\ k = !kvs.isEmpty
 | _ => False
theorem Fz {κ : Type} {kvs : List (κ × V)} {vs : List (κ × Value)} (r : KV kvs vs) : (!vs.isEmpty) = !kvs.isEmpty := by
 cases r <;> rfl
theorem yg {xs : List V} {its : List Value} (r : Vals xs its) : (!its.toArray.isEmpty) = !xs.isEmpty := by
 cases r <;> simp
theorem yh : (sizeLine : Nat) < 2 ^ 63 := by rw [ahS]; decide
theorem Wg : acG X (fun x H Q => ∃ k, ZF X.K x H k /\ Q k H) := by
 intro pins s σ H x v Q I rx h
 obtain ⟨k, e, q⟩ := h
 have hl := yh
 have hs : sizeLine = 16777216 := ahS
 cases x with
 | non =>
   cases rx
   have e' : k = false := e
   subst e'
   exact truthy_none ⟨H, I, q⟩
 | bl b =>
   cases rx
   have e' : k = b := e
   subst e'
   exact aiQ ⟨H, I, q⟩
 | int i =>
   obtain ⟨t, rfl⟩ := rx
   have e' : k = (i != 0) := e
   subst e'
   exact PySem.P.truthy_int ⟨H, I, q⟩
 | str y =>
   obtain ⟨t, rfl⟩ := rx
   obtain ⟨hy, e'⟩ : y.length <= sizeLine /\ k = ((y.length : Int) != 0) := e
   subst e'
   exact PySem.P.truthy_str (by omega) ⟨H, I.tok _, q⟩
 | Hr y =>
   obtain ⟨t, rfl⟩ := rx
   obtain ⟨hy, e'⟩ : y.size <= sizeLine /\ k = ((y.size : Int) != 0) := e
   subst e'
   exact PySem.W.truthy_bytes (by omega) ⟨H, I.tok _, q⟩
 | ref p =>
   cases rx
   have e' : (∃ xs, oS X.K H p xs /\ k = !xs.isEmpty) \/ (∃ xs, sF X.K H p xs /\ k = !xs.isEmpty) \/ ∃ kvs, H p = some (.dK kvs) /\ k = !kvs.isEmpty := e
   rcases e' with ⟨xs, hx, e'⟩ | ⟨xs, hx, e'⟩ | ⟨kvs, hx, e'⟩
   . subst e'
     obtain ⟨its, r, pl, hz⟩ := I.list hx
     have hlen := r.length
     exact wpAny_truthy_list pl.isList (by simp only [ahf]; omega) ⟨H, I.tok _, by rw [yg r]; exact q⟩
   . subst e'
     obtain ⟨its, r, pl, hz⟩ := I.tuple hx
     have hlen := r.length
     exact truthy_tuple pl (by simp only [ahf]; omega) ⟨H, I.tok _, by rw [yg r]; exact q⟩
   . subst e'
     obtain ⟨hz, hS, vs, r, m⟩ : kvs.length <= sizeLine /\ (p == sysModules) = false /\ ∃ vs, KV kvs vs /\ s.heap.DictOf (eO X.prog X.w) p vs := I.dg p _ hx
     have hlen : kvs.length = vs.length := aid r
     exact wpAny_truthy_dict hS m (by omega) ⟨H, I.tok _, by rw [Fz r]; exact q⟩
 | _ => exact (show False from e).elim
theorem Mq (ha : PE X a ta) (he : ∀ whole, isTrue a X.env whole = (do let v ← whole; standAt a.pos; holding [v] (truthy v))) :
   PT X a (fun σ H Q => ta σ H fun x H' => ∃ k, ZF X.K x H' k /\ Q k H') := by
 intro pins s σ H Q I h
 exact isTrue_plain (dF (ha pins s σ H _ I h) fun v s1 ⟨x, H1, I1, r1, q1⟩ => Wg pins s1 σ H1 x v Q I1 r1 q1) (he _)
theorem yi : u6 X (binaryOp .Add) (fun x y H Q => ∃ i j, x = .str i /\ y = .str j /\ i.length + j.length <= sizeLine /\ Q (.str (i ++ j)) H) := by
 intro pins s σ H x y v u Q I rx ry h
 obtain ⟨i, j, rfl, rfl, hz, q⟩ := h
 obtain ⟨t, rfl⟩ := rx
 obtain ⟨t', rfl⟩ := ry
 exact add_str (fun t' tk => ⟨.str (i ++ j), H, I.tok _, ⟨_, rfl⟩, q⟩) hz
theorem vals1 {x : V} {us : List Value} (r : Vals [x] us) : ∃ u, us = [u] /\ RelV x u := by
 cases r with
 | cons r1 r2 => cases r2; exact ⟨_, rfl, r1⟩
theorem vals2 {x y : V} {us : List Value} (r : Vals [x, y] us) : ∃ u w', us = [u, w'] /\ RelV x u /\ RelV y w' := by
 cases r with
 | cons r1 r2 =>
   cases r2 with
   | cons r3 r4 => cases r4; exact ⟨_, _, rfl, r1, r3⟩
theorem JQ (hc : X.calm = true) : qw X (.builtin "max") (fun xs H Q => ∃ i j, xs = [.int i, .int j] /\ Q (.int (if j > i then j else i)) H) := by
 intro pins s σ H xs us Q I r h
 obtain ⟨i, j, rfl, q⟩ := h
 obtain ⟨u, w', rfl, ⟨t, rfl⟩, ⟨t', rfl⟩⟩ := vals2 r
 refine max_two_ints (I.ok.hd hc) fun h' tk k => ⟨_, H, I.kept k, ?_, q⟩
 by_cases hj : j > i
 . rw [ag9 hj, ag9 hj]; exact ⟨_, rfl⟩
 . rw [ag2 hj, ag2 hj]; exact ⟨_, rfl⟩
theorem JR (hc : X.calm = true) : qw X (.builtin "min") (fun xs H Q => ∃ i j, xs = [.int i, .int j] /\ Q (.int (if j < i then j else i)) H) := by
 intro pins s σ H xs us Q I r h
 obtain ⟨i, j, rfl, q⟩ := h
 obtain ⟨u, w', rfl, ⟨t, rfl⟩, ⟨t', rfl⟩⟩ := vals2 r
 refine min_two_ints (I.ok.hd hc) fun h' tk k => ⟨_, H, I.kept k, ?_, q⟩
 by_cases hj : j < i
 . rw [ag9 hj, ag9 hj]; exact ⟨_, rfl⟩
 . rw [ag2 hj, ag2 hj]; exact ⟨_, rfl⟩
theorem t6 : qw X (.type "str") (fun xs H Q => ∃ i, xs = [.int i] /\ i.natAbs.log2 < 1920 /\ Q (.str (toString i)) H) := by
 intro pins s σ H xs us Q I r h
 obtain ⟨i, rfl, hz, q⟩ := h
 obtain ⟨u, rfl, t, rfl⟩ := vals1 r
 exact PySem.P.str_of_int hz ⟨.str _, H, I.tok _, ⟨_, rfl⟩, q⟩
end
structure FD (h : Heap) (x dx C : Addr) (mA : Str -> Option Value) : Prop where
 obj : h.get? x = some (PySem.W.instObj C dx)
 ns : h.Ns1 dx mA
 ne : dx ≠ x
theorem JS {h : Heap} {dx : Addr} {mA : Str -> Option Value} (n : h.Ns1 dx mA) : ∃ od, h.get? dx = some od /\ ∀ name, PySem.W.lookIn name od = some (mA name) := by
 obtain ⟨o, es, ep, ho, hd, hk, _, hm⟩ := n
 refine ⟨o, ho, fun name => ?_⟩
 have e := hm name
 unfold nsFind findBy at e
 rw [← Array.find?_toList] at e
 unfold PySem.W.lookIn
 rw [hd]
 dsimp only
 split
 . rename_i y q
   rw [q] at e
   exact congrArg some e
 . rename_i q
   rw [q] at e
   have a : es.toList.any (·.refKey) = false := by
     rw [List.any_eq_false]
     intro y hy
     obtain ⟨z, t, QV⟩ := hk y (Array.mem_toList_iff.mp hy)
     simp [DictEntry.refKey, QV]
   have a' : ¬ es.toList.any (·.refKey) = true := by rw [a]; exact ag5
   rw [ag2 a']
   exact congrArg some e
theorem FD.look {h : Heap} {x dx C : Addr} {mA : Str -> Option Value} (I : FD h x dx C mA) : ∃ od, PySem.W.InstAt h x (PySem.W.instObj C dx) C (some od) /\ ∀ name, PySem.W.lookIn name od = some (mA name) :=
 let ⟨od, ho, hl⟩ := JS I.ns
 ⟨od, ⟨I.obj, rfl, rfl, ho⟩, hl⟩
section
variable {prog : Program} {w : World} {A : Around} {E : Value -> Shared -> Prop} {s : Shared} {K : PySem.W.Frag} {x dx C f : Addr} {mA : Str -> Option Value} {name : Str} {v : Value}
theorem get_map {expr : Bool} {Q : Value -> Shared -> Prop} (X : K.In s.heap) (I : FD s.heap x dx C mA) (hg : PySem.W.plainGet K C name = true) (hh : PySem.W.hasDictIn K C = true)
   (ha : PySem.W.findIn K (.ref C) name = some none) (hv : mA name = some v) (hv' : PySem.W.handedIn v = true) (h : Q v { s with toks := s.toks + 1 }) :
   wpAny (model prog w) A (getAttr (.ref x) name expr) Q E s := by
 obtain ⟨od, J, hl⟩ := I.look
 exact PySem.W.get_value X J (PySem.W.plainGet_of hg).1 (PySem.W.findObj_own hh ha rfl (by rw [hl, hv])) hv' h
theorem Mr {pl : Sem Bool} {Q : Value × List Value -> Shared -> Prop} (X : K.In s.heap) (I : FD s.heap x dx C mA) (hg : PySem.W.plainGet K C name = true)
   (hf : PySem.W.findIn K (.ref C) name = some (some (.ref f))) (ht : PySem.W.isFn K (.ref f) = true) (hv : mA name = none) (h : Q (.ref f, [.ref x]) s) :
   wpAny (model prog w) A (getMethod (.ref x) name pl) Q E s := by
 obtain ⟨od, J, hl⟩ := I.look
 exact PySem.W.method_fn X J (PySem.W.plainGet_of hg).1 (PySem.W.plainGet_of hg).2 hf (aiA.mp ht) (by show (PySem.W.lookIn name od).map (·.isSome) = some false; rw [hl, hv]; rfl) h
theorem QW {ns : List Str} {Q : Unit -> Shared -> Prop} (X : K.In s.heap) (I : FD s.heap x dx C mA)
   (hs : PySem.W.findIn K (.ref C) "__setattr__" = some (some (.builtin "object.__setattr__"))) (hp : PySem.W.plainOver K C = true) (ht : PySem.W.takerIn K C name = some none) (hh : PySem.W.hasDictIn K C = true)
   (hw : PySem.Within mA ns) (hsz : ns.length <= sizeLine)
   (h : ∀ h', FD h' x dx C (fun y => if y = name then some v else mA y) -> Heap.SameBut dx s.heap h' -> Q () { s with heap := h', toks := s.toks + 2 }) :
   wpAny (model prog w) A (setAttr (.ref x) name v) Q E s := by
 obtain ⟨od, J, hl⟩ := I.look
 refine PySem.W.set_plain X J hs (PySem.W.osa_open (s := { s with toks := s.toks + 1 }) (r := none) X J hp ht fun b => ?_)
 obtain ⟨cd, hc, QH⟩ := PySem.W.any_some hh
 have hx : s.heap.get? x = some ⟨.ref C, some dx, .plain, #[]⟩ := I.obj
 refine agW (ahe (agW (agW (wpAny_loadPart hx (agW (PySem.W.Looks.here (s := { s with toks := s.toks + 1 }) (PySem.W.looks_clsIn X hc) ?_))))))
 rw [QH]
 refine ahe (a := some dx) (agW (ahe (agW ?_)))
 refine wpAny_nsSet1 (s := { s with toks := s.toks + 1 }) I.ns fun h' YJ hs2 => ?_
 obtain ⟨oD, esD, epD, hoD, hdD, hcD⟩ := YJ.count (PySem.Within.cons name v hw)
 refine agW (wpAny_lookBehind hoD (by rw [hdD]; exact pastItsLine_dict (ahM hcD (by rw [ahu]; omega))) ?_)
 exact ahe (h _ ⟨(hs2.2 _ (Ne.symm I.ne)).trans I.obj, YJ, I.ne⟩ hs2)
theorem Ms {R : Result -> Shared -> Prop} {vs : List Value} {kw : List (Str × Value)} (X : K.In s.heap) (hm : PySem.W.makesIn K C = true)
   (hi : PySem.W.findIn K (.ref C) "__init__" = some (some (.ref f))) (hf : PySem.W.typeIn K (.ref f) = some (.type "function"))
   (h : codeAny (model prog w) (A.under (.builtin "type.__call__" ⟨.ref C :: vs, kw⟩)) (.call (.ref f) ⟨.ref (s.heap.objs.size + 1) :: vs, kw⟩) (PySem.W.InitBack (s.heap.objs.size + 1) R)
     { s with heap := (s.heap.push PySem.W.emptyDict).push (PySem.W.instObj C s.heap.objs.size) }) :
   codeAny (model prog w) A (.call (.ref C) ⟨vs, kw⟩) R s := by
 obtain ⟨hh, g, d, t, os⟩ := s
 exact PySem.W.make_core (PySem.W.makes_of X hm) (PySem.W.looks_findIn X hi) (fun self => PySem.W.bind_fn X self hf) (.inl rfl) h
end
noncomputable def k8 (f : Str) (v : V) : List (Str × V) -> List (Str × V)
 | [] => [(f, v)]
 | (g, x) :: r => if g = f then (g, v) :: r else (g, x) :: k8 f v r
theorem wj (f g : Str) (v : V) : ∀ fs : List (Str × V), (k8 f v fs).lookup g = if g = f then some v else fs.lookup g
 | [] => by
   show List.lookup g [(f, v)] = _
   by_cases h : g = f
   . have hb : (g == f) = true := aiA.mpr h
     simp only [List.lookup, hb, ag9 h]
   . have hb : (g == f) = false := aim.mpr h
     simp only [List.lookup, hb, ag2 h]
 | (k, x) :: r => by
   have ih := wj f g v r
   rw [show k8 f v ((k, x) :: r) = (if k = f then (k, v) :: r else (k, x) :: k8 f v r) from rfl]
   by_cases hk : k = f
   . rw [ag9 hk]
     by_cases h : g = k
     . have hb : (g == k) = true := aiA.mpr h
       simp only [List.lookup, hb, ag9 (h.trans hk)]
     . have hb : (g == k) = false := aim.mpr h
       simp only [List.lookup, hb, ag2 (fun e : g = f => h (e.trans hk.symm))]
   . rw [ag2 hk]
     by_cases h : g = k
     . have hb : (g == k) = true := aiA.mpr h
       simp only [List.lookup, hb, ag2 (fun e : g = f => hk (h.symm.trans e))]
     . have hb : (g == k) = false := aim.mpr h
       simp only [List.lookup, hb]
       exact ih
theorem vh (f : Str) (v : V) : ∀ fs : List (Str × V), f ∈ (k8 f v fs).map (·.1) /\ ∀ g, g ∈ fs.map (·.1) -> g ∈ (k8 f v fs).map (·.1)
 | [] => ⟨by simp [k8], fun g h => by simp at h⟩
 | (k, x) :: r => by
   obtain ⟨i1, i2⟩ := vh f v r
   rw [show k8 f v ((k, x) :: r) = (if k = f then (k, v) :: r else (k, x) :: k8 f v r) from rfl]
   by_cases hk : k = f
   . rw [ag9 hk]
     subst hk
     exact ⟨by simp, fun g h => by simpa using h⟩
   . rw [ag2 hk]
     refine ⟨?_, fun g h => ?_⟩
     . rw [ahd]
       exact agY _ i1
     . rw [ahd] at h ⊢
       rcases ag4.mp h with e | e
       . exact ag4.mpr (.inl e)
       . exact agY _ (i2 g e)
theorem wk (f : Str) (v : V) : ∀ fs : List (Str × V), (k8 f v fs).length <= fs.length + 1
 | [] => by simp [k8]
 | (k, x) :: r => by
   have ih := wk f v r
   rw [show k8 f v ((k, x) :: r) = (if k = f then (k, v) :: r else (k, x) :: k8 f v r) from rfl]
   by_cases hk : k = f
   . rw [ag9 hk, ahu, ahu]; omega
   . rw [ag2 hk, ahu, ahu]; omega
theorem oR.some_of {v : V} {o : Option Value} (r : oR (some v) o) : ∃ u, o = some u /\ RelV v u := by
 cases o with
 | none => exact (show False from r).elim
 | some u => exact ⟨u, rfl, r⟩
theorem oR.none_of {o : Option Value} (r : oR none o) : o = none := by
 cases o with
 | none => rfl
 | some u => exact (show False from r).elim
theorem JT {v : V} {u : Value} (r : RelV v u) : PySem.W.handedIn u = true := by
 cases v with
 | non => cases (show u = Value.none from r); rfl
 | bl b => cases (show u = Value.bool b from r); rfl
 | int i => obtain ⟨t, e⟩ := (show ∃ t, u = Value.int i t from r); cases e; rfl
 | str x => obtain ⟨t, e⟩ := (show ∃ t, u = Value.str x t from r); cases e; rfl
 | Hr b => obtain ⟨t, e⟩ := (show ∃ t, u = Value.bytes b t from r); cases e; rfl
 | flt b => obtain ⟨t, e⟩ := (show ∃ t, u = Value.float b t from r); cases e; rfl
 | ref a => cases (show u = Value.ref a from r); rfl
 | ty n => cases (show u = Value.type n from r); rfl
section
variable {P : Program} {w : World} {H : Hp} {h : Heap} {a C dx : Addr} {fs : List (Str × V)}
theorem xr (dg : tY P w H h) (e : H a = some (.ins C dx fs)) : ∃ mA, FD h a dx C mA /\ (∀ f, oR (fs.lookup f) (mA f)) /\ PySem.Within mA (fs.map (·.1)) /\ fs.length <= 1000 /\ H dx = some (.own a) := by
 obtain ⟨d, z, ne, ob, mA, n, r, q⟩ := (show eN P w H h a (.ins C dx fs) from dg a _ e)
 exact ⟨mA, ⟨ob, n, ne⟩, r, q, z, d⟩
end
structure j5 (K : PySem.W.Frag) (C : Addr) : Prop where
 pg : PySem.W.plainGet K C Str.empty = true
 hd : PySem.W.hasDictIn K C = true
 po : PySem.W.plainOver K C = true
 sa : PySem.W.findIn K (.ref C) "__setattr__" = some (some (.builtin "object.__setattr__"))
theorem j5.get {K : PySem.W.Frag} {C : Addr} (c : j5 K C) (f : Str) : PySem.W.plainGet K C f = true := c.pg
noncomputable def aF (K : PySem.W.Frag) (C : Addr) (f : Str) : Prop := PySem.W.findIn K (.ref C) f = some none
theorem aF.ZG {K : PySem.W.Frag} {C : Addr} {f : Str} (n : aF K C f) : PySem.W.takerIn K C f = some none := by
 unfold PySem.W.takerIn
 rw [show PySem.W.findIn K (.ref C) f = some none from n]
 rfl
structure Meth (K : PySem.W.Frag) (C : Addr) (m : Str) (f : Addr) : Prop where
 at_ : PySem.W.findIn K (.ref C) m = some (some (.ref f))
 fn : PySem.W.isFn K (.ref f) = true
 kp : PySem.W.keepIn K (.ref f) = true
section
variable {X : Cx} {pins : List (Addr × Obj)} {σ : St} {H : Hp} {s : Shared} {a C dx : Addr} {fs : List (Str × V)} {f : Str} {v : V} {A : Around} {E : Value -> Shared -> Prop}
theorem FE {b : Bool} {Q : Value -> Shared -> Prop} (I : Inv X pins σ H s) (e : H a = some (.ins C dx fs)) (c : j5 X.K C) (n : aF X.K C f) (l : fs.lookup f = some v)
   (h : ∀ u s', Inv X pins σ H s' -> RelV v u -> Q u s') : wpAny (model X.prog X.w) A (getAttr (.ref a) f b) Q E s := by
 obtain ⟨mA, O, r, _, _, _⟩ := xr I.dg e
 obtain ⟨u, hu, ru⟩ := oR.some_of (v := v) (o := mA f) (by rw [← l]; exact r f)
 exact get_map I.wK O (c.get f) c.hd n hu (JT ru) (h u _ (I.tok _) ru)
theorem sW {m : Str} {g : Addr} {pl : Sem Bool} {Q : Value × List Value -> Shared -> Prop} (I : Inv X pins σ H s) (e : H a = some (.ins C dx fs)) (c : j5 X.K C) (k : Meth X.K C m g) (l : fs.lookup m = none)
   (h : Q (.ref g, [.ref a]) s) : wpAny (model X.prog X.w) A (getMethod (.ref a) m pl) Q E s := by
 obtain ⟨mA, O, r, _, _, _⟩ := xr I.dg e
 have hn : mA m = none := oR.none_of (by rw [← l]; exact r m)
 exact Mr I.wK O (c.get m) k.at_ k.fn hn h
theorem FG {y : V} {u : Value} {Q : Unit -> Shared -> Prop} (I : Inv X pins σ H s) (e : H a = some (.ins C dx fs)) (c : j5 X.K C) (n : aF X.K C f) (hl : fs.length < 1000) (ry : RelV y u)
   (h : ∀ s', Inv X pins σ (upd H a (.ins C dx (k8 f y fs))) s' -> Q () s') : wpAny (model X.prog X.w) A (setAttr (.ref a) f u) Q E s := by
 obtain ⟨mA, O, r, wi, _, ho⟩ := xr I.dg e
 have hz : (fs.map (·.1)).length <= sizeLine := by rw [agU, ahS]; omega
 refine QW I.wK O c.sa c.po n.ZG c.hd wi hz fun h' O' sb => h _ ?_
 have hd : ∃ o, h'.get? dx = some o := let ⟨o, _, _, e', _⟩ := O'.ns; ⟨o, e'⟩
 refine I.write (x := a) (e := dx) (by rw [e]; exact True.intro) (.inr ho) (fun b q hb z => (sb.2 b hb).trans z) hd ?_
 refine ⟨by rw [aq O.ne]; exact ho, ?_, O.ne, O'.obj, _, O'.ns, fun g => ?_, fun g hg => ?_⟩
 . have := wk f y fs; omega
 . show oR ((k8 f y fs).lookup g) (if g = f then some u else mA g)
   rw [wj]
   by_cases q : g = f
   . rw [ag9 q, ag9 q]; exact ry
   . rw [ag2 q, ag2 q]; exact r g
 . by_cases q : g = f
   . rw [q]; exact (vh f y fs).1
   . refine (vh f y fs).2 g (wi g fun z => hg ?_)
     show (if g = f then some u else mA g) = none
     rw [ag2 q]; exact z
theorem Inv.made (I : Inv X pins σ H s) : Inv X pins σ (upd (upd H s.heap.objs.size (.own (s.heap.objs.size + 1))) (s.heap.objs.size + 1) (.ins C s.heap.objs.size []))
   { s with heap := (s.heap.push PySem.W.emptyDict).push (PySem.W.instObj C s.heap.objs.size) } := by
 have e1 : (s.heap.push PySem.W.emptyDict).get? s.heap.objs.size = some PySem.W.emptyDict := ahC s.heap rfl
 have e2 : ((s.heap.push PySem.W.emptyDict).push (PySem.W.instObj C s.heap.objs.size)).get? (s.heap.objs.size + 1) = some (PySem.W.instObj C s.heap.objs.size) := by
   have := ahC (s.heap.push PySem.W.emptyDict) (o := PySem.W.instObj C s.heap.objs.size) rfl
   rwa [Heap.size_push] at this
 have e3 : (s.heap.push PySem.W.emptyDict).Ns s.heap.objs.size (fun _ => none) := ⟨PySem.W.emptyDict, #[], _, e1, rfl, (fun e he => absurd he (by simp)), fun _ => rfl⟩
 have I1 := I.laid (a := s.heap.objs.size) (o := .own (s.heap.objs.size + 1)) (h' := s.heap.push PySem.W.emptyDict) (t' := s.toks) (fun b u q => ag8 _ q) (ag6 _) ⟨_, e1⟩
 refine I1.laid (a := s.heap.objs.size + 1) (o := .ins C s.heap.objs.size []) (t' := s.toks) (fun b u q => ag8 _ q) (Nat.le_of_eq (Heap.size_push _ _)) ?_
 have ne : s.heap.objs.size ≠ s.heap.objs.size + 1 := ahF (Nat.lt_succ_self _)
 refine ⟨by rw [aq ne, aI], ahs _, ne, e2, fun _ => none, (Heap.Ns1.of_empty e3).at fun o q => ag8 _ q, fun _ => True.intro, fun y hy => absurd rfl hy⟩
theorem QX {prog : Program} {w : World} {env : Env} {e : Expr} {f : Str} {pos : Pos} {s : Shared} {Q : Value -> Shared -> Prop} (hb : attributeBase e f env (eval e env) = eval e env)
   (h : wpAny (model prog w) A (eval e env) (fun o s₁ => wpAny (model prog w) A (getAttr o f true) Q E s₁) E s) : wpAny (model prog w) A (eval (.Attribute e f pos) env) Q E s :=
 Attribute_any_ h (by rw [arm_eval_Attribute, hb])
end
noncomputable def acH (K : PySem.W.Frag) (ta : TE) (f : Str) : TE := fun σ H Q => ta σ H fun x H1 => ∃ a C dx fs v, x = .ref a /\ H1 a = some (.ins C dx fs) /\ j5 K C /\ aF K C f /\ fs.lookup f = some v /\ Q v H1
noncomputable def acI (K : PySem.W.Frag) (ta tv : TE) (f : Str) : TS := fun D σ H => tv σ H fun y H1 => ta σ H1 fun x H2 => ∃ a C dx fs, x = .ref a /\ H2 a = some (.ins C dx fs) /\ j5 K C /\ aF K C f /\ fs.length < 1000 ∧
 D.nx σ (upd H2 a (.ins C dx (k8 f y fs)))
section
variable {X : Cx} {o e value : Expr} {f : Str} {pos pos' : Pos} {ta tv : TE}
theorem FH (he : PE X e ta) (hb : attributeBase e f X.env (eval e X.env) = eval e X.env) : PE X (.Attribute e f pos) (acH X.K ta f) := by
 intro pins s σ H Q I h
 refine QX hb (dF (he pins s σ H _ I h) fun u s1 zz => ?_)
 obtain ⟨x, H1, I1, rx, a, C, dx, fs, v, ex, ea, c, n, l, q⟩ := zz
 subst ex
 obtain rfl : u = Value.ref a := rx
 exact FE I1 ea c n l fun u' s2 I2 ru => ⟨v, H1, I2, ru, q⟩
theorem Mt (ha : PE X o ta) (hv : PE X value tv) (hs : swapsWith value (some (.Attribute o f pos')) pos.line X.env = pure false) : PS X (.Assign [.Attribute o f pos'] value pos) (acI X.K ta tv f) := by
 intro pins s σ H D I h
 refine plainObj_wpAny_Assign_Attribute (dF (hv pins s σ H _ I h) fun u s1 ⟨y, H1, I1, ry, q⟩ => dF (ha pins s1 σ H1 _ I1 q) fun ov s2 zz => ?_) hs
 obtain ⟨x, H2, I2, rx, a, C, dx, fs, ex, ea, c, n, l, q2⟩ := zz
 subst ex
 obtain rfl : ov = Value.ref a := rx
 exact FG I2 ea c n l ry fun s3 I3 => ⟨σ, _, I3, q2⟩
theorem Vb {pl : Sem Bool} {m : Str} {apos : Pos} {args : List Expr} {pins : List (Addr × Obj)} {s : Shared} {σ : St} {H : Hp} {Q : Value -> Shared -> Prop} {te : TE} (he : PE X e te) (I : Inv X pins σ H s)
   (h : te σ H fun x H1 => ∃ a C dx fs g, x = .ref a /\ H1 a = some (.ins C dx fs) /\ j5 X.K C /\ Meth X.K C m g /\ fs.lookup m = none ∧
     ∀ s1, Inv X pins σ H1 s1 -> wpAny (model X.prog X.w) X.A (callWith pos (.ref g) [.ref a] (backTo pos (starEach args X.env)) (backToKw pos (keywordEach [] X.env))) Q X.xe s1)
   (ht : eval (.Call (.Attribute e m apos) args [] pos) X.env = (do
     let ov ← eval e X.env
     standAt apos.atName
     let (f, first) ← holding [ov] (getMethod ov m pl)
     callWith pos f first (backTo pos (starEach args X.env)) (backToKw pos (keywordEach [] X.env)))) :
   wpAny (model X.prog X.w) X.A (eval (.Call (.Attribute e m apos) args [] pos) X.env) Q X.xe s := by
 refine aiw (pl := pl) (dF (he pins s σ H _ I h) fun u s1 zz => ?_) ht
 obtain ⟨x, H1, I1, rx, a, C, dx, fs, g, ex, ea, c, k, l, q⟩ := zz
 subst ex
 obtain rfl : u = Value.ref a := rx
 exact sW I1 ea c k l (q s1 I1)
end
structure dG (k : Nat) (A : Around) : Prop where
 hd : A.handled = none
 dp : A.depth + 3 * k + 5 < recursionLimit
 un : A.units + 16 * k + 200 < cLine
theorem dG.mono {j k : Nat} {A : Around} (r : dG k A) (h : j <= k) : dG j A := ⟨r.hd, by have := r.dp; omega, by have := r.un; omega⟩
theorem dG.deeper {k : Nat} {A : Around} (r : dG (k + 1) A) (env : Env) : dG k (A.deeper env) :=
 ⟨r.hd, by have := r.dp; show A.depth + 1 + 3 * k + 5 < _; omega, by have := r.un; show A.units + 3 + 16 * k + 200 < _; omega⟩
theorem dG.in1 {k : Nat} {A : Around} (r : dG (k + 1) A) : dG k A.in1 :=
 ⟨r.hd, by have := r.dp; show A.depth + 3 * k + 5 < _; omega, by have := r.un; show A.units + 1 + 16 * k + 200 < _; omega⟩
theorem FI {A : Around} {C : Addr} {us : List Value} {kw : List (Str × Value)} : (A.under (.builtin "type.__call__" ⟨.ref C :: us, kw⟩)).depth = A.depth + 1 := by
 first | rfl | simp [Around.under, Code.weight, Code.isCreation, Code.isGuard, Code.isCaller, Code.frames, Code.isFrame, guardIds]
theorem FJ {A : Around} {C : Addr} {us : List Value} {kw : List (Str × Value)} : (A.under (.builtin "type.__call__" ⟨.ref C :: us, kw⟩)).units = A.units + 1 := by
 first | rfl | simp [Around.under, Code.cUnits, Code.frames, Code.isFrame]
theorem dG.make {k : Nat} {A : Around} (r : dG (k + 1) A) (C : Addr) (us : List Value) (kw : List (Str × Value)) : dG k (A.under (.builtin "type.__call__" ⟨.ref C :: us, kw⟩)) :=
 ⟨r.hd, by have := r.dp; rw [FI]; omega, by have := r.un; rw [FJ]; omega⟩
theorem dG.depth {k : Nat} {A : Around} (r : dG k A) : A.depth < recursionLimit := by have := r.dp; omega
theorem dG.units {k : Nat} {A : Around} (r : dG k A) : A.units + 64 < cLine := by have := r.un; omega
noncomputable def Wh : TA := fun _ H Q => Q [] H
noncomputable def ZH (ta : TE) (tr : TA) : TA := fun σ H Q => ta σ H fun x H1 => tr σ H1 fun xs H2 => Q (x :: xs) H2
section
variable {X : Cx} {e : Expr} {es : List Expr} {te : TE} {t : TA} {pos : Pos}
theorem c6 : PA X [] Wh := fun _ _ _ _ H Q I h => Calls.spliced_nil ⟨[], H, I, .nil, h⟩
theorem bD (ha : PE X e te) (hr : PA X es t) (hs : starEach (e :: es) X.env = (false, eval e X.env) :: starEach es X.env := by rfl) : PA X (e :: es) (ZH te t) := by
 intro pos pins s σ H Q I h
 rw [hs]
 show wpAny _ _ (spliced ((false, eval e X.env) :: backTo pos (starEach es X.env))) _ _ s
 refine Calls.spliced_cons (dF (ha pins s σ H _ I h) fun u s1 zz => ?_)
 obtain ⟨x, H1, I1, r1, q1⟩ := zz
 exact dF (hr pos pins s1 σ H1 _ I1 q1) fun us s2 ⟨xs, H2, I2, r2, q2⟩ => ⟨x :: xs, H2, I2, .cons r1 r2, q2⟩
noncomputable def acJ (t : TA) : TE := fun σ H Q => t σ H fun xs H1 => xs.length <= sizeLine /\ ∀ p, H1 p = none -> Q (.ref p) (upd H1 p (.tup xs))
noncomputable def acK (t : TA) : TE := fun σ H Q => t σ H fun xs H1 => xs.length <= sizeLine /\ ∀ p, H1 p = none -> Q (.ref p) (upd H1 p (.lst xs))
theorem Mu {x1} (h : PA X es t) : PE X (.Tuple es x1 pos) (acJ t) := by
 intro pins s σ H Q I hq
 refine wpAny_Tuple_spliced (dF (h pos pins s σ H _ I hq) fun us s1 ⟨xs, H1, I1, r, z, q⟩ => ⟨by rw [← r.length]; exact z, ?_⟩)
 have hf : H1 s1.heap.objs.size = none := I1.dg.fresh (ag6 _)
 refine ⟨.ref s1.heap.objs.size, upd H1 s1.heap.objs.size (.tup xs), I1.laid (t' := s1.toks) (fun b u e => ag8 _ e) (ag6 _) ?_, rfl, q _ hf⟩
 exact ⟨z, us, r, ⟨_, ahC _ rfl, rfl, _, rfl⟩⟩
theorem Mv (h : PA X es t) : PE X (.List es pos) (acK t) := by
 intro pins s σ H Q I hq
 refine wpAny_List_spliced (dF (h pos pins s σ H _ I hq) fun us s1 ⟨xs, H1, I1, r, z, q⟩ => ⟨by rw [← r.length]; exact z, ?_⟩)
 have hf : H1 s1.heap.objs.size = none := I1.dg.fresh (ag6 _)
 refine ⟨.ref s1.heap.objs.size, upd H1 s1.heap.objs.size (.lst xs), I1.laid (t' := s1.toks) (fun b u e => ag8 _ e) (ag6 _) ?_, rfl, q _ hf⟩
 exact ⟨z, us, 0, r, ahC _ rfl⟩
end
noncomputable abbrev Sp := List V -> Hp -> VK -> XK -> Prop
noncomputable abbrev LK := List Env -> Hp -> Shared -> XK -> Value -> Shared -> Prop
structure Aw (P : Program) (w : World) (K : PySem.W.Frag) (mg : Str -> Option Value) (base : Heap) (A : Around) (outer : List Env) (s : Shared) (H : Hp) : Prop where
 frames : A.frames = some outer
 mod : Mod K mg base
 bs : ∀ b o, base.get? b = some o -> s.heap.get? b = some o /\ H b = none
 LJ : base.objs.size <= s.heap.objs.size
 vd : s.heap.FunFrames base outer
 U5 : ∀ b ∈ LD outer, H b = none
 dg : tY P w H s.heap
 bare : AllBare s.gens
noncomputable def CE (outer : List Env) (P : Program) (w : World) (H : Hp) (s : Shared) (Q : VK) (u : Value) (s' : Shared) : Prop :=
 ∃ v H', s'.os = s.os /\ AllBare s'.gens /\ Un (LD outer) [] H H' s.heap s'.heap /\ tY P w H' s'.heap /\ RelV v u /\ Q v H'
noncomputable def CR (CX : LK) (outer : List Env) (P : Program) (w : World) (H : Hp) (s : Shared) (Q : VK) (E : XK) (r : Result) (s' : Shared) : Prop :=
 match r with
 | .ok (.ret u) => CE outer P w H s Q u s'
 | .ok _ => False
 | .error e => CX outer H s E e s'
structure cQ (P : Program) (w : World) (K : PySem.W.Frag) (mg : Str -> Option Value) (base : Heap) (CX : LK) (k : Nat) (f : Addr) (fd : FuncData) (ps : List Str) (sp : Sp) : Prop where
 len : ∀ vs H Q E, sp vs H Q E -> vs.length = ps.length
 run : ∀ (A : Around) (outer : List Env) (s : Shared) (H : Hp) (args : Args) (us : List Value) (vs : List V) (Q : VK) (E : XK), dG k A -> Aw P w K mg base A outer s H -> BindsTo s fd args (ps.zip us) -> Vals vs us -> sp vs H Q E →
   codeAny (model P w) A (.call (.ref f) args) (CR CX outer P w H s Q E) s
theorem cQ.imp {P : Program} {w : World} {K : PySem.W.Frag} {mg : Str -> Option Value} {base : Heap} {CX : LK} {k : Nat} {f : Addr} {fd : FuncData} {ps : List Str} {sp sp' : Sp} (F : cQ P w K mg base CX k f fd ps sp)
   (h : ∀ vs H Q E, sp' vs H Q E -> sp vs H Q E) : cQ P w K mg base CX k f fd ps sp' :=
 ⟨fun vs H Q E q => F.len vs H Q E (h _ _ _ _ q), fun A outer s H args us vs Q E hr he hb hv hs => F.run A outer s H args us vs Q E hr he hb hv (h _ _ _ _ hs)⟩
theorem Aw.make {P : Program} {w : World} {K : PySem.W.Frag} {mg : Str -> Option Value} {base : Heap} {A : Around} {outer : List Env} {s : Shared} {H : Hp} (e : Aw P w K mg base A outer s H) (C : Addr) (us : List Value) (kw : List (Str × Value)) :
   Aw P w K mg base (A.under (.builtin "type.__call__" ⟨.ref C :: us, kw⟩)) outer s H := ⟨by first | exact e.frames | (simpa [Around.under, Code.envs, Code.isFrame, pushEnvs] using e.frames), e.mod, e.bs, e.LJ, e.vd, e.U5, e.dg, e.bare⟩
theorem Aw.in1 {P : Program} {w : World} {K : PySem.W.Frag} {mg : Str -> Option Value} {base : Heap} {A : Around} {outer : List Env} {s : Shared} {H : Hp} (e : Aw P w K mg base A outer s H) :
   Aw P w K mg base A.in1 outer s H := ⟨e.frames, e.mod, e.bs, e.LJ, e.vd, e.U5, e.dg, e.bare⟩
section
variable {X : Cx} {pins : List (Addr × Obj)} {σ : St} {H : Hp} {s s' : Shared}
theorem Inv.ZI (I : Inv X pins σ H s) : Aw X.prog X.w X.K X.mg X.base X.A X.stack s H :=
 ⟨I.ok.frames, I.ok.mod, I.bs, ahM I.ok.LJ I.sz, I.stack, I.B4, I.dg, I.bare⟩
theorem Inv.after {Q : VK} {u : Value} (I : Inv X pins σ H s) (h : CE X.stack X.prog X.w H s Q u s') : EP X pins σ Q u s' := by
 obtain ⟨v, H', os, bare, un, dg, r, q⟩ := h
 obtain ⟨hh, g, d, t, YK⟩ := s'
 obtain rfl : YK = s.os := os
 exact ⟨v, H', I.call (h' := hh) (g' := g) (d' := d) (t' := t) (ch := []) un dg bare (fun b z => absurd z (by simp)), r, q⟩
end
noncomputable def Mw (sp : Sp) (wm : List V) (E : XK) (t : TA) : TE := fun σ H Q => t σ H fun vs H1 => sp (vs ++ wm) H1 Q E
noncomputable def Vc (C : Addr) (m : Str) (sp : Sp) (wm : List V) (E : XK) (ta : TE) (t : TA) : TE := fun σ H Q => ta σ H fun x H1 => ∃ a dx fs, x = .ref a /\ H1 a = some (.ins C dx fs) /\ fs.lookup m = none ∧
 t σ H1 fun vs H2 => sp (x :: (vs ++ wm)) H2 Q E
noncomputable def ZJ (C : Addr) (sp : Sp) (wm : List V) (E : XK) (t : TA) : TE := fun σ H Q => t σ H fun vs H1 => ∀ x dx, H1 x = none -> H1 dx = none -> dx ≠ x →
 sp (.ref x :: (vs ++ wm)) (upd (upd H1 dx (.own x)) x (.ins C dx [])) (fun v H2 => v = .non /\ Q (.ref x) H2) E
noncomputable def Binds (K : PySem.W.Frag) (fd : FuncData) (ps : List Str) (ds : List Value) : Prop :=
 ∀ (s : Shared) (us : List Value), K.In s.heap -> (us ++ ds).length = ps.length -> BindsTo s fd ⟨us, []⟩ (ps.zip (us ++ ds))
theorem Binds.all {K : PySem.W.Frag} {fd : FuncData} {ps : List Str} (h : ∀ us : List Value, us.length = ps.length -> bindArgs fd ⟨us, []⟩ = pure (ps.zip us)) : Binds K fd ps [] := fun s us _ hl => by
 rw [ag3] at hl ⊢
 exact .of_eq (h us hl)
noncomputable def Passes (CX : LK) (X : Cx) (E : XK) : Prop := ∀ (pins : List (Addr × Obj)) (σ : St) (H : Hp) (s : Shared) (e : Value) (s' : Shared), Inv X pins σ H s -> CX X.stack H s E e s' -> X.xe e s'
section
variable {X : Cx} {CX : LK} {k : Nat} {f C : Addr} {fd : FuncData} {ps : List Str} {sp : Sp} {wm : List V} {ds : List Value} {E : XK} {x m : Str} {p pos apos : Pos} {e o : Expr} {es : List Expr} {ta : TE} {t : TA}
theorem yj {pins : List (Addr × Obj)} {σ : St} {H : Hp} {s : Shared} {Q : VK} {us : List Value} {vs : List V} (F : cQ X.prog X.w X.K X.mg X.base CX k f fd ps sp) (hr : dG k X.A) (hb : Binds X.K fd ps ds) (hd : Vals wm ds) (hx : Passes CX X E)
   (I : Inv X pins σ H s) (r : Vals vs us) (h : sp (vs ++ wm) H Q E) : wpAny (model X.prog X.w) X.A (call (.ref f) us) (EP X pins σ Q) X.xe s := by
 have r2 : Vals (vs ++ wm) (us ++ ds) := r.append hd
 have hl : (us ++ ds).length = ps.length := by rw [← r2.length]; exact F.len _ _ _ _ h
 refine wpAny_call (codeAny_mono (F.run X.A X.stack s H ⟨us, []⟩ (us ++ ds) (vs ++ wm) Q E hr I.ZI (hb s us I.wK hl) r2 h) fun r s' hq => ?_)
 cases r with
 | error e => exact hx pins σ H s e s' I hq
 | ok fl =>
   cases fl with
   | ret u => exact I.after hq
   | next => exact False.elim hq
   | brk => exact False.elim hq
   | cont => exact False.elim hq
theorem B6 (F : cQ X.prog X.w X.K X.mg X.base CX k f fd ps sp) (hr : dG k X.A) (hg : Gl X x) (hm : X.mg x = some (.ref f)) (hk : PySem.W.keepIn X.K (.ref f) = true) (hb : Binds X.K fd ps ds) (hd : Vals wm ds) (hx : Passes CX X E)
   (ha : PA X (e :: es) t) (nI : (x == ("__debug__" : Str)) = false := by decide) (he : starEach (e :: es) X.env = (false, eval e X.env) :: starEach es X.env := by rfl) (hpl : (backTo pos (starEach es X.env)).any (·.1) = false := by rfl) :
   PE X (.Call (.Name x p) (e :: es) [] pos) (Mw sp wm E t) := by
 intro pins s σ H Q I h
 refine aiq (xm I hg hm ?_ nI)
 refine aiI (h₀ := X.base) I.ok.mod.YF hk (dF (ha pos pins s σ H _ I h) fun us s1 ⟨vs, H1, I1, r, q⟩ => ⟨I1.wK, ?_⟩) he hpl
 exact yj F hr hb hd hx I1 r q
theorem Mx (F : cQ X.prog X.w X.K X.mg X.base CX k f fd ps sp) (hr : dG k X.A) (hg : Gl X x) (hm : X.mg x = some (.ref f)) (hk : PySem.W.keepIn X.K (.ref f) = true) (hb : Binds X.K fd ps ds) (hd : Vals wm ds) (hx : Passes CX X E)
   (nI : (x == ("__debug__" : Str)) = false := by decide) : PE X (.Call (.Name x p) [] [] pos) (Mw sp wm E Wh) := by
 intro pins s σ H Q I h
 refine aiq (xm I hg hm ?_ nI)
 exact PySem.W.callWith_K0 I.wK hk (yj (us := []) F hr hb hd hx I .nil h)
theorem Hz {pl : Sem Bool} (he : PE X o ta) (c : j5 X.K C) (hm : Meth X.K C m f) (F : cQ X.prog X.w X.K X.mg X.base CX k f fd ps sp) (hr : dG k X.A) (hb : Binds X.K fd ps ds) (hd : Vals wm ds) (hx : Passes CX X E) (ha : PA X (e :: es) t)
   (Bh : starEach (e :: es) X.env = (false, eval e X.env) :: starEach es X.env := by rfl) (hpl : (backTo pos (starEach es X.env)).any (·.1) = false := by rfl)
   (ht : eval (.Call (.Attribute o m apos) (e :: es) [] pos) X.env = (do
     let ov ← eval o X.env
     standAt apos.atName
     let (f, first) ← holding [ov] (getMethod ov m pl)
     callWith pos f first (backTo pos (starEach (e :: es) X.env)) (backToKw pos (keywordEach [] X.env))) := by rfl) :
   PE X (.Call (.Attribute o m apos) (e :: es) [] pos) (Vc C m sp wm E ta t) := by
 intro pins s σ H Q I h
 refine aiw (pl := pl) (dF (he pins s σ H _ I h) fun u s1 zz => ?_) ht
 obtain ⟨x, H1, I1, rx, a, dx, fs, ex, ea, l, q⟩ := zz
 subst ex
 obtain rfl : u = Value.ref a := rx
 refine sW I1 ea c hm l ?_
 refine aiI (first := [.ref a]) (h₀ := X.base) I.ok.mod.YF hm.kp (dF (ha pos pins s1 σ H1 _ I1 q) fun us s2 ⟨vs, H2, I2, r, q2⟩ => ⟨I2.wK, ?_⟩) Bh hpl
 exact yj (us := .ref a :: us) (vs := .ref a :: vs) F hr hb hd hx I2 (.cons rfl r) q2
theorem My {pl : Sem Bool} (he : PE X o ta) (c : j5 X.K C) (hm : Meth X.K C m f) (F : cQ X.prog X.w X.K X.mg X.base CX k f fd ps sp) (hr : dG k X.A) (hb : Binds X.K fd ps ds) (hd : Vals wm ds) (hx : Passes CX X E)
   (ht : eval (.Call (.Attribute o m apos) [] [] pos) X.env = (do
     let ov ← eval o X.env
     standAt apos.atName
     let (f, first) ← holding [ov] (getMethod ov m pl)
     callWith pos f first (backTo pos (starEach [] X.env)) (backToKw pos (keywordEach [] X.env))) := by rfl) :
   PE X (.Call (.Attribute o m apos) [] [] pos) (Vc C m sp wm E ta Wh) := by
 intro pins s σ H Q I h
 refine aiw (pl := pl) (dF (he pins s σ H _ I h) fun u s1 zz => ?_) ht
 obtain ⟨x, H1, I1, rx, a, dx, fs, ex, ea, l, q⟩ := zz
 subst ex
 obtain rfl : u = Value.ref a := rx
 refine sW I1 ea c hm l ?_
 exact PySem.W.callWith_K0 (first := [.ref a]) I1.wK hm.kp (yj (us := [.ref a]) (vs := [.ref a]) F hr hb hd hx I1 (.cons rfl .nil) q)
structure Mk (K : PySem.W.Frag) (C f : Addr) : Prop where
 makes : PySem.W.makesIn K C = true
 init : PySem.W.findIn K (.ref C) "__init__" = some (some (.ref f))
 fn : PySem.W.isFn K (.ref f) = true
 kp : PySem.W.keepIn K (.ref C) = true
theorem Mz {pins : List (Addr × Obj)} {σ : St} {H : Hp} {s : Shared} {Q : VK} {us : List Value} {vs : List V} (M : Mk X.K C f) (F : cQ X.prog X.w X.K X.mg X.base CX k f fd ps sp) (hr : dG (k + 1) X.A) (hb : Binds X.K fd ps ds) (hd : Vals wm ds)
   (hx : Passes CX X E) (I : Inv X pins σ H s) (r : Vals vs us)
   (h : ∀ x dx, H x = none -> H dx = none -> dx ≠ x -> sp (.ref x :: (vs ++ wm)) (upd (upd H dx (.own x)) x (.ins C dx [])) (fun v H2 => v = .non /\ Q (.ref x) H2) E) :
   wpAny (model X.prog X.w) X.A (call (.ref C) us) (EP X pins σ Q) X.xe s := by
 have hq := h (s.heap.objs.size + 1) s.heap.objs.size (I.dg.fresh (Nat.le_succ _)) (I.dg.fresh (ag6 _)) (ahF (Nat.lt_succ_self _))
 have I2 := Inv.made (C := C) I
 have r2 : Vals (V.ref (s.heap.objs.size + 1) :: (vs ++ wm)) (Value.ref (s.heap.objs.size + 1) :: (us ++ ds)) := .cons rfl (r.append hd)
 have hl : (Value.ref (s.heap.objs.size + 1) :: us ++ ds).length = ps.length := by
   have e := r2.length
   rw [F.len _ _ _ _ hq] at e
   exact e.symm
 refine wpAny_call (Ms (f := f) I.wK M.makes M.init (aiA.mp M.fn) (codeAny_mono (F.run _ X.stack _ _ ⟨Value.ref (s.heap.objs.size + 1) :: us, []⟩ (Value.ref (s.heap.objs.size + 1) :: (us ++ ds)) _ _ E (hr.make C us [])
   (I2.ZI.make C us []) (hb _ (Value.ref (s.heap.objs.size + 1) :: us) I2.wK hl) r2 hq) fun r s' Vd => ?_))
 cases r with
 | error e => exact hx pins σ _ _ e s' I2 Vd
 | ok fl =>
   cases fl with
   | ret u =>
     obtain ⟨v, H', I3, rv, ev, q3⟩ := I2.after Vd
     subst ev
     exact ⟨rv, ⟨V.ref (s.heap.objs.size + 1), H', I3, rfl, q3⟩⟩
   | next => exact False.elim Vd
   | brk => exact False.elim Vd
   | cont => exact False.elim Vd
theorem HB (M : Mk X.K C f) (F : cQ X.prog X.w X.K X.mg X.base CX k f fd ps sp) (hr : dG (k + 1) X.A) (hg : Gl X x) (hm : X.mg x = some (.ref C)) (hb : Binds X.K fd ps ds) (hd : Vals wm ds) (hx : Passes CX X E)
   (ha : PA X (e :: es) t) (nI : (x == ("__debug__" : Str)) = false := by decide) (he : starEach (e :: es) X.env = (false, eval e X.env) :: starEach es X.env := by rfl) (hpl : (backTo pos (starEach es X.env)).any (·.1) = false := by rfl) :
   PE X (.Call (.Name x p) (e :: es) [] pos) (ZJ C sp wm E t) := by
 intro pins s σ H Q I h
 refine aiq (xm I hg hm ?_ nI)
 refine aiI (h₀ := X.base) I.ok.mod.YF M.kp (dF (ha pos pins s σ H _ I h) fun us s1 ⟨vs, H1, I1, r, q⟩ => ⟨I1.wK, ?_⟩) he hpl
 exact Mz M F hr hb hd hx I1 r q
end
structure aS (N P : List Str) (sc : Scope) : Prop where
 kind : sc.kind = .function
 co : sc.isCoroutine = false
 gen : sc.isGenerator = false
 nd : N.Nodup
 pre : N.take P.length = P
 par : ∀ x ∈ P, sc.names.lookup x = some .local \/ sc.names.lookup x = some .cell
 Wi : ∀ y ∈ sc.names, y.2 ≠ .free
theorem Bj {kindOf : Str -> Option NameKind} {x : Str} : ∀ {binds : List (Str × Value)} {m : Str -> Option Value}, (∀ v, (x, v) ∉ binds) -> bindL kindOf binds m x = m x
 | [], _, _ => rfl
 | (n, v) :: r, m, h => by
   unfold bindL
   rw [Bj fun w hw => h w (agY _ hw)]
   split
   . have : x ≠ n := by rintro rfl; exact h v agV
     simp [this]
   . rfl
theorem Bk {kindOf : Str -> Option NameKind} {x : Str} : ∀ {binds : List (Str × Value)} {m : Str -> Option Value}, (∀ v, (x, v) ∉ binds) -> bindC kindOf binds m x = m x
 | [], _, _ => rfl
 | (n, v) :: r, m, h => by
   unfold bindC
   rw [Bk fun w hw => h w (agY _ hw)]
   split
   . rfl
   . have : x ≠ n := by rintro rfl; exact h v agV
     simp [this]
theorem Bl {kindOf : Str -> Option NameKind} {x : Str} {v : Value} : ∀ {P : List Str} {vs : List Value} {i : Nat} {m : Str -> Option Value}, P.Nodup -> P[i]? = some x -> vs[i]? = some v -> kindOf x = some .local →
   bindL kindOf (P.zip vs) m x = some v
 | [], _, _, _, _, h, _, _ => by simp at h
 | _ :: _, [], _, _, _, _, h, _ => by simp at h
 | p :: P, w :: vs, 0, m, nd, h1, h2, hk => by
   simp at h1 h2; subst h1; subst h2
   show bindL kindOf ((p, w) :: P.zip vs) m p = _
   unfold bindL
   rw [Bj fun v hv => (ahE.mp nd).1 (List.of_mem_zip hv).1, ag9 hk]
   simp
 | p :: P, w :: vs, i + 1, m, nd, h1, h2, hk => by
   show bindL kindOf ((p, w) :: P.zip vs) m x = _
   unfold bindL
   exact Bl (i := i) (List.nodup_cons.mp nd).2 (by simpa using h1) (by simpa using h2) hk
theorem Bm {kindOf : Str -> Option NameKind} {x : Str} {v : Value} : ∀ {P : List Str} {vs : List Value} {i : Nat} {m : Str -> Option Value}, P.Nodup -> P[i]? = some x -> vs[i]? = some v -> kindOf x ≠ some .local →
   bindC kindOf (P.zip vs) m x = some v
 | [], _, _, _, _, h, _, _ => by simp at h
 | _ :: _, [], _, _, _, _, h, _ => by simp at h
 | p :: P, w :: vs, 0, m, nd, h1, h2, hk => by
   simp at h1 h2; subst h1; subst h2
   show bindC kindOf ((p, w) :: P.zip vs) m p = _
   unfold bindC
   rw [Bk fun v hv => (ahE.mp nd).1 (List.of_mem_zip hv).1, ag2 hk]
   simp
 | p :: P, w :: vs, i + 1, m, nd, h1, h2, hk => by
   show bindC kindOf ((p, w) :: P.zip vs) m x = _
   unfold bindC
   exact Bm (i := i) (List.nodup_cons.mp nd).2 (by simpa using h1) (by simpa using h2) hk
noncomputable def start (N : List Str) (vs : List V) : St := vs.map some ++ List.replicate (N.length - vs.length) none
noncomputable def yk (CX : LK) (P : Program) (w : World) (K : PySem.W.Frag) (mg : Str -> Option Value) (base : Heap) (N : List Str) (qual : Str) (scope : Scope) (f : Addr) (cd : Value) (A : Around) (outer : List Env) (s : Shared) (H : Hp) (E : XK) : Cx where
 prog := P
 w := w
 K := K
 mg := mg
 base := base
 A := A.deeper (envOfC qual scope s.heap.objs.size f cd)
 N := N
 s₀ := s
 H₀ := H
 env := envOfC qual scope s.heap.objs.size f cd
 outer := outer
 stack := envOfC qual scope s.heap.objs.size f cd :: outer
 ex := []
 calm := true
 fn := fun _ => true
 pn := []
 xe := fun e s' => wpAny (model P w) (A.deeper (envOfC qual scope s.heap.objs.size f cd)) (leaving (envOfC qual scope s.heap.objs.size f cd) e) (fun _ s'' => CX outer H s E e s'') (fun e' s'' => CX outer H s E e' s'') s'
theorem D5 {sc : Scope} {n : Nat} {x : Str} (h : sc.names.lookup x = some .cell) : ∃ c, (cellsFrom n sc.names []).lookup x = some c := by
 have q := PySem.W.cellsFrom_some sc.names n [] (.inl h)
 exact Option.isSome_iff_exists.mp q
theorem JV {CX : LK} {P : Program} {w : World} {K : PySem.W.Frag} {mg : Str -> Option Value} {base : Heap} {N ps : List Str} {qual : Str} {scope : Scope} {f : Addr} {cd : Value} {A : Around} {outer : List Env} {s s1 : Shared} {H : Hp} {E : XK} {us : List Value} {vs : List V}
   (S : aS N ps scope) (hd : A.handled = none) (e0 : Aw P w K mg base A outer s H) (hl : vs.length = ps.length) (r : Vals vs us)
   (x : InCallC s s.heap.objs.size (bindL (envOfC qual scope s.heap.objs.size f cd).kindOf (ps.zip us) fun _ => none) (cellsFrom (s.heap.objs.size + 1) scope.names []) (bindC (envOfC qual scope s.heap.objs.size f cd).kindOf (ps.zip us) fun _ => none) s1) :
   Inv (yk CX P w K mg base N qual scope f cd A outer s H E) [] (start N vs) H s1 := by
 have hpl : ps.length <= N.length := by have := congrArg List.length S.pre; rw [ahG] at this; omega
 obtain ⟨h1, tk, rfl, hk⟩ := x.done
 have ZK : ∀ b : Addr, b ∉ (yk CX P w K mg base N qual scope f cd A outer s H E).ex := fun b z => absurd (show b ∈ ([] : List Addr) from z) (by simp)
 refine ⟨⟨e0.mod, S.kind, rfl, rfl, ag6 _, fun y z c h1 h2 => ?_, fun y hy => ?_, fun y c _ h => ?_, fun _ => hd, Around.frames_deeper e0.frames, .inr ⟨rfl, rfl⟩, fun b z => absurd z (ZK b), e0.bs, e0.LJ, fun b _ _ => ZK b, fun b z => absurd z (ZK b), e0.vd, e0.U5⟩,
   rfl, e0.bare, Un.kept hk, ⟨_, x.toInCall.ns, fun i y v h1 h2 h3 => ?_⟩, fun y c h => ⟨_, x.cell y c h⟩, e0.dg.fresh (ag6 _), fun y c h => ?_, fun p hp => absurd (show p ∈ ([] : List (Addr × Obj)) from hp) (by simp), e0.dg.kept hk, ?_⟩
 . exact name_of_addr x.apart (ahR h1) (ahR h2)
 . have hy : scope.names.lookup y = some .cell \/ scope.names.lookup y = some .free := hy
   rcases hy with hy | hy
   . exact D5 hy
   . exact absurd rfl (S.Wi _ (ahR hy))
 . exact ah3 (x.above y c (ahR h))
 . have hi : i < vs.length := by
     unfold start at h2
     by_cases hi : i < vs.length
     . exact hi
     . rw [List.getElem?_append_right (by simpa using hi)] at h2
       rw [List.getElem?_replicate] at h2
       split at h2 <;> cases h2
   have ha : vs[i]? = some v := by
     unfold start at h2
     rw [List.getElem?_append_left (by simpa using hi), List.getElem?_map] at h2
     cases e : vs[i]? with
     | none => rw [e] at h2; cases h2
     | some a => rw [e] at h2; cases h2; rfl
   obtain ⟨u, hu, rv⟩ := r.get ha
   have hp : ps[i]? = some y := by
     rw [← S.pre, List.getElem?_take_of_lt (by omega)]; exact h1
   have ndP : ps.Nodup := by rw [← S.pre]; exact S.nd.sublist (List.take_sublist _ _)
   refine ⟨u, rv, ?_⟩
   rcases S.par y (ahk hp) with k | k
   . exact .inl ⟨k, Bl ndP hp hu k⟩
   . obtain ⟨c, e⟩ := D5 (n := s.heap.objs.size + 1) k
     refine .inr ⟨.inl k, c, e, ?_⟩
     have q := x.cell y c e
     rw [Bm ndP hp hu (by show scope.names.lookup y ≠ _; rw [k]; decide)] at q
     exact q
 . exact e0.dg.fresh (ah3 (x.above y c (ahR h)))
 . unfold start
   show _ = N.length
   rw [ahc, agU, ah4]
   omega
theorem ZL {CX : LK} {P : Program} {w : World} {K : PySem.W.Frag} {mg : Str -> Option Value} {base : Heap} {k : Nat} {f : Addr} {name qual : Str} {params : Arguments} {body : List Stmt} {scope : Scope} {dV kV doc pm gO ct oc : Value} {an od : Option Addr}
   {QY : Array (Option Value)} {N ps : List Str} {sp : Sp} (lk : K.lookup f = some ⟨oc, od, .func (PySem.W.fnOf name qual params body scope dV kV doc pm an gO ct), QY⟩) (mS : PySem.W.codeIn K gO qual = true) (S : aS N ps scope)
   (len : ∀ vs H Q E, sp vs H Q E -> vs.length = ps.length)
   (MA : ∀ (A : Around) (outer : List Env) (s : Shared) (H : Hp) (vs : List V) (Q : VK) (E : XK), dG k (A.deeper (envOfC qual scope s.heap.objs.size f gO)) -> sp vs H Q E →
     ∃ t, Ht (yk CX P w K mg base N qual scope f gO A outer s H E) body t /\ t { nx := fun _ H' => Q .non H', rt := Q } (start N vs) H) :
   cQ P w K mg base CX (k + 1) f (PySem.W.fnOf name qual params body scope dV kV doc pm an gO ct) ps sp := by
 refine ⟨len, fun A outer s H args us vs Q E hr e0 hb r Ve => ?_⟩
 have hl := len _ _ _ _ Ve
 have KX : K.In s.heap := e0.mod.YF.keeps fun b o e => (e0.bs b o e).1
 have lim : s.heap.NoLimit := e0.mod.nolimit.keeps fun b o e => (e0.bs b o e).1
 have ym : ∀ y ∈ ps.zip us, scope.names.lookup y.1 = some .local \/ (scope.names.lookup y.1 = some .cell /\ ((cellsFrom (s.heap.objs.size + 1) scope.names []).lookup y.1).isSome = true) := fun ⟨n, v⟩ hy => by
   rcases S.par n (List.of_mem_zip hy).1 with q | q
   . exact .inl q
   . exact .inr ⟨q, PySem.W.cellsFrom_some _ _ _ (.inl q)⟩
 refine codeAny_call_function hr.depth (KX _ _ lk) rfl S.co S.gen rfl (PySem.W.codeRec_of KX mS) (hb _ _ _ _ ?_)
 refine wpAny_newFunctionEnv_cells S.kind ym fun env he s1 x => ?_
 subst he
 refine ⟨lim.keeps x.toInCall.keep, codeAny_func ?_⟩
 obtain ⟨t, ht, hq⟩ := MA A outer s H vs Q E (hr.deeper _) Ve
 have I : Inv (yk CX P w K mg base N qual scope f gO A outer s H E) [] (start N vs) H s1 := JV S hr.hd e0 hl r x
 refine ahZ (ht [] s1 (start N vs) H _ I hq) (fun fl s' hs => ?_) fun e s' hs => hs
 have fin : ∀ {σ' : St} {H' : Hp} {v : V} {u : Value}, Inv (yk CX P w K mg base N qual scope f gO A outer s H E) [] σ' H' s' -> RelV v u -> Q v H' -> CE outer P w H s Q u s' :=
   fun {σ' H' v u} J rv q => ⟨v, H', J.os, J.bare, J.base, J.dg, rv, q⟩
 cases fl with
 | ret u =>
   obtain ⟨v, σ', H', J, rv, q⟩ := hs
   exact fin J rv q
 | next =>
   obtain ⟨σ', H', J, q⟩ := hs
   exact fin (v := V.non) (u := Value.none) J rfl q
 | brk =>
   obtain ⟨_, _, _, q⟩ := hs
   exact False.elim q
 | cont =>
   obtain ⟨_, _, _, q⟩ := hs
   exact False.elim q
section
variable {X : Cx} {x : Str} {p pos : Pos} {e : Expr} {es : List Expr} {t : TA} {id T : String} {r : List V -> Hp -> VK -> Prop}
noncomputable def tCB (r : List V -> Hp -> VK -> Prop) (t : TA) : TE := fun σ H Q => t σ H fun vs H1 => r vs H1 Q
theorem nJ (hc : qw X (.builtin id) r) (hg : Gl X x) (hm : X.mg x = none) (hv : bootBuiltins x = some (.builtin id)) (ha : PA X (e :: es) t) (hn : x ≠ "__name__" := by decide) (nI : (x == ("__debug__" : Str)) = false := by decide)
   (he : starEach (e :: es) X.env = (false, eval e X.env) :: starEach es X.env := by rfl) (hpl : (backTo pos (starEach es X.env)).any (·.1) = false := by rfl) : PE X (.Call (.Name x p) (e :: es) [] pos) (tCB r t) := by
 intro pins s σ H Q I h
 refine aiq (B5 I hg hm hv ?_ hn nI)
 exact PyProof.Rows.callWith_builtin1 (dF (ha pos pins s σ H _ I h) fun us s1 ⟨vs, H1, I1, r1, q1⟩ => hc pins s1 σ H1 vs us Q I1 r1 q1) he hpl
theorem iu (hc : qw X (.type T) r) (hg : Gl X x) (hm : X.mg x = none) (hv : bootBuiltins x = some (.type T)) (ha : PA X (e :: es) t) (hn : x ≠ "__name__" := by decide) (nI : (x == ("__debug__" : Str)) = false := by decide)
   (he : starEach (e :: es) X.env = (false, eval e X.env) :: starEach es X.env := by rfl) (hpl : (backTo pos (starEach es X.env)).any (·.1) = false := by rfl) : PE X (.Call (.Name x p) (e :: es) [] pos) (tCB r t) := by
 intro pins s σ H Q I h
 refine aiq (B5 I hg hm hv ?_ hn nI)
 exact PyProof.Rows.callWith_type1 (dF (ha pos pins s σ H _ I h) fun us s1 ⟨vs, H1, I1, r1, q1⟩ => hc pins s1 σ H1 vs us Q I1 r1 q1) he hpl
end
end L2
namespace HT
open PySem PyProof.Rows
section
noncomputable def xu (n d : Nat) : Option Int -> Nat
 | none => d
 | some v => if v < 0 then (v + (n : Int)).toNat else min v.toNat n
end
end HT
namespace L2
open PySem PySem.Spec PyProof.Rows
noncomputable abbrev TO := St -> Hp -> (Option Int -> Hp -> Prop) -> Prop
noncomputable def PO (X : Cx) (e : Option Expr) (t : TO) : Prop :=
 ∀ (pins : List (Addr × Obj)) (s : Shared) (σ : St) (H : Hp) (Q : Option Int -> Hp -> Prop), Inv X pins σ H s -> t σ H Q →
   wpAny (model X.prog X.w) X.A (evalPart e X.env) (fun u s' => ∃ o H', Inv X pins σ H' s' /\ IsPart u o /\ Q o H') X.xe s
noncomputable def QZ : TO := fun _ H Q => Q none H
noncomputable def ZM (t : TE) : TO := fun σ H Q => t σ H fun x H1 => ∃ i, x = .int i /\ Q (some i) H1
theorem intsAre_of {ns : List Int} : ∀ {us : List Value}, Vals (ns.map V.int) us -> IntsAre us ns := by
 induction ns with
 | nil => intro us r; rw [List.map_nil] at r; cases r; exact .nil
 | cons n ns ih =>
   intro us r
   rw [ahd] at r
   cases r with
   | cons r1 r2 =>
     obtain ⟨t, e⟩ := r1
     subst e
     exact .cons n t (ih r2)
section
variable {X : Cx} {e : Expr} {te : TE} {lo hi : Option Expr} {tl th : TO} {pos p2 : Pos}
theorem HC : PO X none QZ := by
 intro pins s σ H Q I h
 rw [evalPart_none]
 exact ahe ⟨none, H, I, .none, h⟩
theorem HD (h : PE X e te) : PO X (some e) (ZM te) := by
 intro pins s σ H Q I hw
 rw [evalPart_some]
 refine dF (h pins s σ H _ I hw) fun u s1 zz => ?_
 obtain ⟨x, H1, I1, r1, q1⟩ := zz
 obtain ⟨i, rfl, q⟩ := q1
 obtain ⟨t, rfl⟩ := r1
 exact ⟨some i, H1, I1, .int i t, q⟩
noncomputable def SlR (X : Cx) (r : V -> Option Int -> Option Int -> Hp -> VK -> Prop) : Prop :=
 ∀ (pins : List (Addr × Obj)) (s : Shared) (σ : St) (H : Hp) (x : V) (v vl vu : Value) (lo hi : Option Int) (sl : Addr) (Q : VK), Inv X pins σ H s -> RelV x v -> s.heap.IsSliceOf sl vl vu .none -> IsPart vl lo -> IsPart vu hi -> r x lo hi H Q →
   ∃ T id, typeLookup (.type T) "__getitem__" = pure (some (.builtin id)) /\ s.TypeIs v T /\ wpAny (model X.prog X.w) X.A (getItem v (.ref sl)) (EP X pins σ Q) X.xe s
noncomputable def tSl (r : V -> Option Int -> Option Int -> Hp -> VK -> Prop) (te : TE) (tl th : TO) : TE := fun σ H Q => te σ H fun x H1 => tl σ H1 fun l H2 => th σ H2 fun u H3 => r x l u H3 Q
theorem D6 {r : V -> Option Int -> Option Int -> Hp -> VK -> Prop} (hr : SlR X r) (he : PE X e te) (hl : PO X lo tl) (hu : PO X hi th) : PE X (.Subscript e (.Slice lo hi none p2) pos) (tSl r te tl th) := by
 intro pins s σ H Q I h
 refine Subscript_ (dF (he pins s σ H _ I h) fun v s1 zz => ?_)
 obtain ⟨x, H1, I1, r1, q1⟩ := zz
 refine wpAny_Slice (dF (hl pins s1 σ H1 _ I1 q1) fun vl s2 ⟨l, H2, I2, pl, q2⟩ => dF (hu pins s2 σ H2 _ I2 q2) fun vu s3 zz => ?_)
 obtain ⟨u, H3, I3, pu, q3⟩ := zz
 rw [evalPart_none]
 refine ahe ?_
 have I4 : Inv X pins σ H3 { s3 with heap := s3.heap.push { cls := .type "slice", data := .fields #[vl, vu, .none] } } := I3.kept (t' := s3.toks) fun b ob q => ag8 _ q
 obtain ⟨T, id, hT, ht, hg⟩ := hr pins { s3 with heap := s3.heap.push { cls := .type "slice", data := .fields #[vl, vu, .none] } } σ H3 x v vl vu l u s3.heap.objs.size Q I4 r1 (Heap.IsSliceOf.new ..) pl pu q3
 show wpAny (model X.prog X.w) X.A (subscriptTail e (.Slice lo hi none p2) v (.ref s3.heap.objs.size)) (EP X pins σ Q) X.xe { s3 with heap := s3.heap.push { cls := .type "slice", data := .fields #[vl, vu, .none] } }
 exact tail_any (ops := [.ref s3.heap.objs.size, v]) ht hT hg (by with_unfolding_all rfl)
noncomputable def JW (xs : List V) (lo hi : Option Int) : List V := (xs.drop (HT.xu xs.length 0 lo)).take (HT.xu xs.length xs.length hi - HT.xu xs.length 0 lo)
theorem D7 (xs : List V) (lo hi : Option Int) : (JW xs lo hi).length <= xs.length := by
 unfold JW
 rw [ahG, List.length_drop]
 omega
end
noncomputable def FL (n : Nat) (i : Int) : Option Nat := if 0 <= i then (if i < n then some i.toNat else none) else if -(n : Int) <= i then some (i + n).toNat else none
noncomputable def An {α : Type} (xs : List α) (i : Int) : Option α := (FL xs.length i).bind fun j => xs[j]?
theorem t7 {n : Nat} {i : Int} {j : Nat} (h : FL n i = some j) : seqIndex? i n = some j /\ j < n /\ -(n : Int) <= i /\ i < n := by
 unfold FL at h
 by_cases h0 : 0 <= i
 . rw [ag9 h0] at h
   by_cases h1 : i < n
   . rw [ag9 h1] at h
     have e : i.toNat = j := ahg h
     exact ⟨by rw [seqIndex_of h0 h1, e], by omega, by omega, h1⟩
   . rw [ag2 h1] at h; cases h
 . rw [ag2 h0] at h
   by_cases h1 : -(n : Int) <= i
   . rw [ag9 h1] at h
     have e : (i + n).toNat = j := ahg h
     exact ⟨by rw [seqIndex_neg (by omega) h1, e], by omega, h1, by omega⟩
   . rw [ag2 h1] at h; cases h
theorem HF {α : Type} {xs : List α} {i : Int} {v : α} (h : An xs i = some v) : ∃ j, seqIndex? i xs.length = some j /\ xs[j]? = some v /\ j < xs.length /\ -(xs.length : Int) <= i /\ i < xs.length := by
 unfold An at h
 cases e : FL xs.length i with
 | none => rw [e] at h; cases h
 | some j =>
   rw [e] at h
   obtain ⟨h1, h2, h3, h4⟩ := t7 e
   exact ⟨j, h1, h, h2, h3, h4⟩
theorem aL {α : Type} {xs : List α} {j : Nat} {v : α} (h : xs[j]? = some v) : An xs (j : Int) = some v := by
 have hj : j < xs.length := (ahp.mp h).1
 have e : FL xs.length (j : Int) = some j := by
   unfold FL
   rw [ag9 (by omega), ag9 (by omega)]; simp
 unfold An; rw [e]; exact h
noncomputable def oU (b : Expr) : Prop := ∀ o i, subscripted b false o i = operate [o, i] (getItem o i)
noncomputable def IxR (X : Cx) (r : R2) : Prop :=
 ∀ (value slice : Expr) (pins : List (Addr × Obj)) (s : Shared) (σ : St) (H : Hp) (x y : V) (v u : Value) (Q : VK), Inv X pins σ H s -> RelV x v -> RelV y u -> r x y H Q →
   subscripted slice false v u = operate [v, u] (getItem v u) -> wpAny (model X.prog X.w) X.A (subscriptTail value slice v u) (EP X pins σ Q) X.xe s
noncomputable def MtR (X : Cx) (id : String) (r : V -> List V -> Hp -> VK -> Prop) : Prop :=
 ∀ (pins : List (Addr × Obj)) (s : Shared) (σ : St) (H : Hp) (x : V) (xs : List V) (v : Value) (us : List Value) (Q : VK), Inv X pins σ H s -> RelV x v -> Vals xs us -> r x xs H Q →
   wpAny (model X.prog X.w) X.A (call (.builtin id) (v :: us)) (EP X pins σ Q) X.xe s
section
variable {X : Cx} {a b : Expr} {ta tb : TE} {pos : Pos}
theorem yo {r : R2} (hr : IxR X r) (ha : PE X a ta) (hb : PE X b tb) (hs : oU b) : PE X (.Subscript a b pos) (tOp r ta tb) := by
 intro pins s σ H Q I h
 exact Subscript_ (V9 ha hb I h fun v u s2 x y H2 I2 rx ry q => hr a b pins s2 σ H2 x y v u Q I2 rx ry q (hs _ _))
noncomputable def acN (K : PySem.W.Frag) : R2 := fun x y H Q => ∃ p xs i v, x = .ref p /\ y = .int i /\ oS K H p xs /\ An xs i = some v /\ Q v H
noncomputable def acO (K : PySem.W.Frag) : R2 := fun x y H Q => ∃ p xs i v, x = .ref p /\ y = .int i /\ sF K H p xs /\ An xs i = some v /\ Q v H
theorem xx : IxR X (acN X.K) := by
 intro value slice pins s σ H x y v u Q I rx ry h hs
 obtain ⟨p, xs, i, z, rfl, rfl, hq, he, q⟩ := h
 cases rx
 obtain ⟨t, rfl⟩ := ry
 obtain ⟨its, r, pl, hz⟩ := I.list hq
 obtain ⟨j, h1, h2, h3, h4, h5⟩ := HF he
 obtain ⟨w, ew, B7⟩ := r.get h2
 have hl := r.length
 have hn := yh
 have fin : EP X pins σ Q w s := ⟨z, H, I, B7, q⟩
 by_cases h0 : 0 <= i
 . have hj : i.toNat = j := by
     rw [seqIndex_of h0 h5] at h1
     exact ahg h1
   exact item_listR pl.isList h0 (by omega) (by rw [hj]; simpa using ew) fin hs
 . have hj : (i + (its.toArray.size : Int)).toNat = j := by
     rw [seqIndex_neg (by omega) h4] at h1
     rw [ahf, ← hl]
     exact ahg h1
   exact subscriptTail_builtinR (x := w) pl.isList.typeIs slot_list_getitem.lookup
     (wpAny_getItem_list_neg (Q := fun r s' => r = w /\ EP X pins σ Q r s') pl.isList (by omega) (by rw [List.size_toArray] <;> omega) (by omega) (by rw [hj]; simpa using ew) ⟨rfl, fin⟩) hs
theorem FN : IxR X (acO X.K) := by
 intro value slice pins s σ H x y v u Q I rx ry h hs
 obtain ⟨p, xs, i, z, rfl, rfl, hq, he, q⟩ := h
 cases rx
 obtain ⟨t, rfl⟩ := ry
 obtain ⟨its, r, pl, hz⟩ := I.tuple hq
 obtain ⟨j, h1, h2, h3, h4, h5⟩ := HF he
 obtain ⟨w, ew, B7⟩ := r.get h2
 have hl := r.length
 have hn := yh
 have fin : EP X pins σ Q w s := ⟨z, H, I, B7, q⟩
 exact subscriptTail_builtinR (x := w) pl.typeIs slot_tuple_getitem.lookup
   (getItem_tuple (j := j) (Q := fun r s' => r = w /\ EP X pins σ Q r s') pl (by omega) (by omega) (by rw [List.size_toArray, ← hl]; exact h1) (by simpa using ew) ⟨rfl, fin⟩) hs
theorem FP (its : List Value) (n j : Nat) (u : Value) : Obj.mapSeq (·.setIfInBounds j u) { cls := .type "list", data := .seq its.toArray n } = { cls := .type "list", data := .seq (its.set j u).toArray n } := by
 simp [Obj.mapSeq]
theorem Inv.lst {pins : List (Addr × Obj)} {σ : St} {H : Hp} {s : Shared} {p : Addr} {xs : List V} (I : Inv X pins σ H s) (h : H p = some (.lst xs)) :
   ∃ (its : List Value) (n : Nat), Vals xs its /\ s.heap.get? p = some { cls := .type "list", data := .seq its.toArray n } /\ xs.length <= sizeLine := by
 obtain ⟨z, its, n, r, e⟩ := I.dg p _ h
 exact ⟨its, n, r, e, z⟩
theorem Inv.Wj {pins : List (Addr × Obj)} {σ : St} {H : Hp} {s : Shared} {p : Addr} {xs ys : List V} {its its' : List Value} {n n' : Nat} {f : Obj -> Obj} (I : Inv X pins σ H s) (h : H p = some (.lst xs))
   (ho : s.heap.get? p = some { cls := .type "list", data := .seq its.toArray n }) (hf : f { cls := .type "list", data := .seq its.toArray n } = { cls := .type "list", data := .seq its'.toArray n' }) (r : Vals ys its') (hz : ys.length <= sizeLine) (t : Nat) :
   Inv X pins σ (upd H p (.lst ys)) { s with heap := s.heap.update p f, toks := t } := by
 have e : (s.heap.update p f).get? p = some { cls := .type "list", data := .seq its'.toArray n' } := by
   rw [aix f ho (by rw [hf] <;> rfl), hf]
 refine I.write (x := p) (e := p) (by rw [h]; trivial) (.inl rfl) (fun b u hb q => (Heap.get?_update_other _ _ (Ne.symm hb)).trans q) ⟨_, e⟩ ?_
 exact ⟨hz, its', n', r, e⟩
noncomputable def ZN : V -> V -> V -> Hp -> (Hp -> Prop) -> Prop := fun o i v H Q => ∃ p xs k j, o = .ref p /\ i = .int k /\ H p = some (.lst xs) /\ FL xs.length k = some j /\ Q (upd H p (.lst (xs.set j v)))
theorem set_list : Zk X ZN := by
 intro pins s σ H o i v ov iv u Q I ro ri rv h
 obtain ⟨p, xs, k, j, rfl, rfl, hp, hj, q⟩ := h
 cases ro
 obtain ⟨t, rfl⟩ := ri
 obtain ⟨its, n, r, ho, hz⟩ := I.lst hp
 obtain ⟨h1, h2, h3, h4⟩ := t7 hj
 have hl := r.length
 have hn := yh
 have I' : Inv X pins σ (upd H p (.lst (xs.set j v))) { s with heap := s.heap.update p (Obj.mapSeq (·.setIfInBounds j u)) } :=
   I.Wj hp ho (FP its n j u) (r.set rv j) (by rw [List.length_set]; exact hz) s.toks
 by_cases h0 : 0 <= k
 . have hk : k.toNat = j := by
     rw [seqIndex_of h0 h4] at h1
     exact ahg h1
   exact PySem.W.ki_setAt ho h0 (by omega) (by rw [ahf, ← hl]; exact h4) (by rw [hk]; exact ⟨_, I', q⟩)
 . have hk : (k + (its.toArray.size : Int)).toNat = j := by
     rw [seqIndex_neg (by omega) h3] at h1
     rw [ahf, ← hl]
     exact ahg h1
   exact PySem.W.ki_setBack ho (by omega) (by rw [ahf, ← hl]; exact h3) (by omega) (by rw [hk]; exact ⟨_, I', q⟩)
theorem B8 (lo hi : Option Int) (n : Nat) : (sliceBounds lo hi none n).1 = ((HT.xu n 0 lo : Nat) : Int) /\ (sliceBounds lo hi none n).2.1 = ((HT.xu n n hi : Nat) : Int) /\ (sliceBounds lo hi none n).2.2 = 1 := by
 refine ⟨?_, ?_, rfl⟩
 . cases lo with
   | none => simp [sliceBounds, HT.xu]
   | some i =>
     simp only [sliceBounds, HT.xu, Option.getD_none, show (1 : Int) > 0 by decide, if_true]
     by_cases h : i < 0
     . simp only [h, if_true] <;> omega
     . simp only [h, aiJ] <;> omega
 . cases hi with
   | none => simp [sliceBounds, HT.xu]
   | some i =>
     simp only [sliceBounds, HT.xu, Option.getD_none, show (1 : Int) > 0 by decide, if_true]
     by_cases h : i < 0
     . simp only [h, if_true] <;> omega
     . simp only [h, aiJ] <;> omega
theorem Ax (its : List Value) (lo hi : Option Int) : slicePick its.toArray lo hi none = ((its.drop (HT.xu its.length 0 lo)).take (HT.xu its.length its.length hi - HT.xu its.length 0 lo)).toArray := by
 obtain ⟨h1, h2, h3⟩ := B8 lo hi its.toArray.size
 unfold slicePick
 rw [h1, h2, h3]
 simp only [sliceRange_one, pick_run, ahf] <;> rfl
noncomputable def acP (K : PySem.W.Frag) : V -> Option Int -> Option Int -> Hp -> VK -> Prop := fun x lo hi H Q => ∃ a xs, x = .ref a /\ oS K H a xs /\ ∀ p, H p = none -> Q (.ref p) (upd H p (.lst (JW xs lo hi)))
theorem HG : SlR X (acP X.K) := by
 intro pins s σ H x v vl vu lo hi sl Q I rx hs pl pu h
 obtain ⟨a, xs, rfl, hx, q⟩ := h
 cases rx
 obtain ⟨its, r, ht, hz⟩ := I.list hx
 have hlen := r.length
 refine ⟨"list", _, slot_list_getitem.lookup, ht.isList.typeIs, ?_⟩
 refine wpAny_getItem_list_slice ht.isList hs pl pu .none (by simp) ?_ (by rw [ahf] <;> omega)
 rw [Ax, ← hlen]
 refine ⟨.ref s.heap.objs.size, _, I.laid (t' := s.toks) (o := .lst (JW xs lo hi)) (fun b ob q => ag8 _ q) (ag6 _) ?_, rfl, q _ (I.dg.fresh (ag6 _))⟩
 exact ⟨ahM (D7 xs lo hi) hz, _, 0, (r.drop (HT.xu xs.length 0 lo)).take (HT.xu xs.length xs.length hi - HT.xu xs.length 0 lo), ahC _ rfl⟩
noncomputable def t8 : V -> Bool
 | .non => true
 | .bl _ => true
 | .int _ => true
 | .str _ => true
 | _ => false
noncomputable def Q0 : V -> V -> Bool
 | .non, .non => true
 | .bl a, .bl b => a == b
 | .bl a, .int b => (if a then 1 else 0) == b
 | .int a, .bl b => a == (if b then 1 else 0)
 | .int a, .int b => a == b
 | .str a, .str b => a == b
 | _, _ => false
theorem Wk {A : Around} {s : Shared} {y x : V} {u v : Value} (ry : RelV y u) (rx : RelV x v) (fy : t8 y = true) (fx : t8 x = true) : SeqAt.EqAt A s u v (Q0 y x) := by
 cases y with
 | non =>
   cases ry
   cases x with
   | non => cases rx; exact SeqAt.EqAt.same _
   | bl b => cases rx; exact SeqAt.EqAt.none_bool b
   | int b => obtain ⟨t, rfl⟩ := rx; exact SeqAt.EqAt.none_int b t
   | str b => obtain ⟨t, rfl⟩ := rx; exact SeqAt.EqAt.none_str b t
   | _ => exact absurd (show false = true from fx) ag5
 | bl a =>
   cases ry
   cases x with
   | non => cases rx; exact SeqAt.EqAt.bool_none a
   | bl b => cases rx; exact SeqAt.EqAt.bool_bool a b
   | int b => obtain ⟨t, rfl⟩ := rx; exact SeqAt.EqAt.bool_int a b t
   | str b => obtain ⟨t, rfl⟩ := rx; exact SeqAt.EqAt.bool_str a b t
   | _ => exact absurd (show false = true from fx) ag5
 | int a =>
   obtain ⟨t', rfl⟩ := ry
   cases x with
   | non => cases rx; exact SeqAt.EqAt.int_none a t'
   | bl b => cases rx; exact SeqAt.EqAt.int_bool a t' b
   | int b => obtain ⟨t, rfl⟩ := rx; exact SeqAt.EqAt.int_int a t' b t
   | str b => obtain ⟨t, rfl⟩ := rx; exact SeqAt.EqAt.int_str a t' b t
   | _ => exact absurd (show false = true from fx) ag5
 | str a =>
   obtain ⟨t', rfl⟩ := ry
   cases x with
   | non => cases rx; exact SeqAt.EqAt.str_none a t'
   | bl b => cases rx; exact SeqAt.EqAt.str_bool a t' b
   | int b => obtain ⟨t, rfl⟩ := rx; exact SeqAt.EqAt.str_int a t' b t
   | str b => obtain ⟨t, rfl⟩ := rx; exact SeqAt.EqAt.str_str a t' b t
   | _ => exact absurd (show false = true from fx) ag5
 | _ => exact absurd (show false = true from fy) ag5
noncomputable def Q5 (x : V) (u : Value) : Bool := match u with
 | .none => Q0 .non x
 | .bool b => Q0 (.bl b) x
 | .int i _ => Q0 (.int i) x
 | .str z _ => Q0 (.str z) x
 | _ => false
theorem MB {x y : V} {u : Value} (r : RelV y u) (f : t8 y = true) : Q5 x u = Q0 y x := by
 cases y with
 | non => cases r; rfl
 | bl b => cases r; rfl
 | int i => obtain ⟨t, rfl⟩ := r; rfl
 | str z => obtain ⟨t, rfl⟩ := r; rfl
 | _ => exact absurd (show false = true from f) ag5
theorem B9 {x : V} : ∀ {xs : List V} {us : List Value}, Vals xs us -> xs.all t8 = true -> us.any (Q5 x) = xs.any fun y => Q0 y x
 | _, _, .nil, _ => rfl
 | y :: xs, u :: us, .cons r t, f => by
   rw [List.all_cons, ahz] at f
   rw [aiE, aiE, MB r f.1, B9 t f.2]
theorem yp {A : Around} {s : Shared} {x : V} {v : Value} (rx : RelV x v) (fx : t8 x = true) : ∀ {xs : List V} {us : List Value}, Vals xs us -> xs.all t8 = true -> ∀ u ∈ us, SeqAt.EqAt A s u v (Q5 x u)
 | _, _, .nil, _ => fun u hu => by cases hu
 | y :: xs, u :: us, .cons r t, f => fun u' hu => by
   rw [List.all_cons, ahz] at f
   rcases ag4.mp hu with rfl | hu
   . rw [MB r f.1]; exact Wk r rx f.1 fx
   . exact yp rx fx t f.2 u' hu
noncomputable def ZO (x : V) (xs : List V) : Bool := xs.any fun y => Q0 y x
noncomputable def rIn (K : PySem.W.Frag) (neg : Bool) : R2 := fun x y H Q => ∃ p xs, y = .ref p /\ (oS K H p xs \/ sF K H p xs) /\ t8 x = true /\ xs.all t8 = true /\ Q (.bl (if neg then !ZO x xs else ZO x xs)) H
theorem Bo : u6 X (compareOp .In) (rIn X.K false) := by
 intro pins s σ H x y v u Q I rx ry h
 obtain ⟨p, xs, rfl, hq, fx, fs, q⟩ := h
 cases ry
 rcases hq with hq | hq
 . obtain ⟨its, r, pl, hz⟩ := I.list hq
   refine SeqAt.in_listAt (Q5 x) pl.isList (fun w hw => yp rx fx r fs w (by simpa using hw)) ⟨.bl _, H, I, rfl, ?_⟩
   rw [show its.toArray.any (Q5 x) = its.any (Q5 x) by simp, B9 r fs]
   exact q
 . obtain ⟨its, r, pl, hz⟩ := I.tuple hq
   refine SeqAt.in_tupleAt (Q5 x) pl (fun w hw => yp rx fx r fs w (by simpa using hw)) ⟨.bl _, H, I, rfl, ?_⟩
   rw [show its.toArray.any (Q5 x) = its.any (Q5 x) by simp, B9 r fs]
   exact q
theorem Ca : qw X (.builtin "len") (fun xs H Q => ∃ p ys, xs = [.ref p] /\ (oS X.K H p ys \/ sF X.K H p ys) /\ Q (.int ys.length) H) := by
 intro pins s σ H xs us Q I r h
 obtain ⟨p, ys, rfl, hq, q⟩ := h
 obtain ⟨u, rfl, rx⟩ := vals1 r
 cases rx
 have hn := yh
 rcases hq with hq | hq
 . obtain ⟨its, r', pl, hz⟩ := I.list hq
   have hlen := r'.length
   exact Calls.call_len_list pl.isList (by simp only [ahf] <;> omega) ⟨.int ys.length, H, I.tok _, ⟨s.toks + 1, by rw [ahf, hlen]⟩, q⟩
 . obtain ⟨its, r', pl, hz⟩ := I.tuple hq
   have hlen := r'.length
   exact len_tuple pl (by simp only [ahf] <;> omega) ⟨.int ys.length, H, I.tok _, ⟨s.toks + 1, by rw [ahf, hlen]⟩, q⟩
theorem oV : qw X (.type "list") (fun xs H Q => ∃ p ys, xs = [.ref p] /\ (oS X.K H p ys \/ sF X.K H p ys) /\ ∀ l, H l = none -> Q (.ref l) (upd H l (.lst ys))) := by
 intro pins s σ H xs us Q I r h
 obtain ⟨p, ys, rfl, hq, q⟩ := h
 obtain ⟨u, rfl, rx⟩ := vals1 r
 cases rx
 have fin : ∀ (its : List Value), Vals ys its -> ys.length <= sizeLine -> ∀ (h' : Heap) (c' : Nat), (∀ b o', s.heap.get? b = some o' -> h'.get? b = some o') →
     h'.get? s.heap.objs.size = some { cls := .type "list", dict := none, data := .seq its.toArray c', slots := #[] } -> EP X pins σ Q (.ref s.heap.objs.size) { s with heap := h' } := fun its r' hz h' c' kp e =>
   ⟨.ref s.heap.objs.size, _, I.laid (t' := s.toks) kp (ag6 _) (show eN X.prog X.w _ h' _ (.lst ys) from ⟨hz, its, c', r', e⟩), rfl, q _ (I.dg.fresh (ag6 _))⟩
 rcases hq with hq | hq
 . obtain ⟨its, r', pl, hz⟩ := I.list hq
   have hlen := r'.length
   obtain ⟨o, ho, hc, n, hd⟩ := pl.isList
   exact call_list_seq p (.inl rfl) ho hc hd (fun h' c' kp e => fin its r' hz h' c' kp e) (by simp only [ahf] <;> omega)
 . obtain ⟨its, r', pl, hz⟩ := I.tuple hq
   have hlen := r'.length
   obtain ⟨o, ho, hc, n, hd⟩ := pl
   exact call_list_seq p (.inr rfl) ho hc hd (fun h' c' kp e => fin its r' hz h' c' kp e) (by simp only [ahf] <;> omega)
theorem mU : qw X (.type "tuple") (fun xs H Q => ∃ p ys, xs = [.ref p] /\ ((oS X.K H p ys /\ ∀ l, H l = none -> Q (.ref l) (upd H l (.tup ys))) \/ (sF X.K H p ys /\ Q (.ref p) H))) := by
 intro pins s σ H xs us Q I r h
 obtain ⟨p, ys, rfl, h⟩ := h
 obtain ⟨u, rfl, rx⟩ := vals1 r
 cases rx
 rcases h with ⟨hq, q⟩ | ⟨hq, q⟩
 . obtain ⟨its, r', pl, hz⟩ := I.list hq
   have hlen := r'.length
   refine call_tuple_list pl.isList (fun h' kp => ?_) (by simp only [ahf] <;> omega)
   have I1 : Inv X pins σ H { s with heap := h' } := I.kept (t' := s.toks) kp
   have I2 : Inv X pins σ (upd H h'.objs.size (.tup ys)) { s with heap := h'.push { cls := .type "tuple", data := .seq its.toArray } } :=
     I1.laid (t' := s.toks) (fun b o e => ag8 _ e) (ag6 _) (show eN X.prog X.w _ _ _ (.tup ys) from ⟨hz, its, r', IsTup.new _ _⟩)
   exact ⟨.ref h'.objs.size, _, I2, rfl, q _ (I1.dg.fresh (ag6 _))⟩
 . obtain ⟨its, r', pl, hz⟩ := I.tuple hq
   exact call_tuple_same pl ⟨.ref p, H, I, rfl, q⟩
noncomputable def tyV (K : PySem.W.Frag) (T : String) (x : V) (H : Hp) : Prop := match x with
 | .str _ => T = "str"
 | .int _ => T = "int"
 | .ref p => (T = "list" /\ ∃ xs, oS K H p xs) \/ (T = "tuple" /\ ∃ o, K.lookup p = some o /\ o.cls = .type "tuple" /\ o.dict = none) ∨
     (T = "dict" /\ ((∃ kvs, H p = some (.dK kvs)) \/ ∃ kvs, H p = some (.dT kvs))) \/ (T = "set" /\ ∃ S n, H p = some (.set S n))
 | _ => False
theorem Wm {pins : List (Addr × Obj)} {σ : St} {H : Hp} {s : Shared} {T : String} {x : V} {v : Value} (I : Inv X pins σ H s) (r : RelV x v) (ty : tyV X.K T x H) :
   s.TypeIs v T /\ ∀ a, v = .ref a -> ∃ ob, s.heap.get? a = some ob /\ ob.dict = none := by
 cases x with
 | str z =>
   obtain ⟨t, rfl⟩ := r
   cases (show T = "str" from ty)
   exact ⟨typeIs_str s z t, fun _ e => nomatch e⟩
 | int i =>
   obtain ⟨t, rfl⟩ := r
   cases (show T = "int" from ty)
   exact ⟨typeIs_int s i t, fun _ e => nomatch e⟩
 | ref p =>
   cases r
   rcases ty with ⟨rfl, xs, hq⟩ | ⟨rfl, o, hk, hc, hd⟩ | ⟨rfl, hk⟩ | ⟨rfl, S, n, hk⟩
   . obtain ⟨its, _, pl, _⟩ := I.list hq
     refine ⟨pl.isList.typeIs, fun a e => ?_⟩
     cases e
     obtain ⟨o, n, e, c, hd, _⟩ := pl
     exact ⟨o, e, hd⟩
   . refine ⟨⟨o, I.wK p o hk, hc⟩, fun a e => ?_⟩
     cases e
     exact ⟨o, I.wK _ o hk, hd⟩
   . have z : ∃ o, s.heap.get? p = some o /\ o.ExactDict := by
       rcases hk with ⟨kvs, hk⟩ | ⟨kvs, hk⟩
       . obtain ⟨_, _, _, _, o, _, _, e, ex, _⟩ := I.dg p _ hk
         exact ⟨o, e, ex⟩
       . obtain ⟨_, _, _, _, o, _, _, e, ex, _⟩ := I.dg p _ hk
         exact ⟨o, e, ex⟩
     obtain ⟨o, e, ex⟩ := z
     refine ⟨⟨o, e, ex.1⟩, fun a e2 => ?_⟩
     cases e2
     exact ⟨o, e, ex.2.1⟩
   . obtain ⟨o, _, _, _, e, ex, _⟩ := I.dg p _ hk
     refine ⟨⟨o, e, ex.1⟩, fun a e2 => ?_⟩
     cases e2
     exact ⟨o, e, ex.2.1⟩
 | _ => exact False.elim ty
noncomputable def tBM (K : PySem.W.Frag) (T : String) (r : V -> List V -> Hp -> VK -> Prop) (to : TE) (t : TA) : TE := fun σ H Q => to σ H fun x H1 => tyV K T x H1 /\ t σ H1 fun xs H2 => r x xs H2 Q
variable {o e : Expr} {es : List Expr} {to : TE} {t : TA} {name : Str} {apos sX : Pos} {T id : String} {r : V -> List V -> Hp -> VK -> Prop}
theorem Bp (pa : PlainAttrs T) (slot : Slot T name id) (hty : typeOf (.builtin id) = pure (.type "method_descriptor")) (hm : MtR X id r) (ho : PE X o to) (ha : PA X (e :: es) t)
   (iz : attributeBase o name X.env (eval o X.env) = eval o X.env := by rfl)
   (oW : ((backTo sX (starEach (e :: es) X.env)).all (fun x => !x.1) && (backToKw sX (keywordEach [] X.env)).all (fun x => x.1.isSome)
     && decide ((e :: es).length + ([] : List Keyword).length + (if ([] : List Keyword).isEmpty then 0 else 1) < 30)) = true := by rfl)
   (hline : (apos.endLine == sX.line) = true := by rfl) (hs : starEach (e :: es) X.env = (false, eval e X.env) :: starEach es X.env := by rfl) (yq : (backTo sX (starEach es X.env)).any (·.1) = false := by rfl) :
   PE X (.Call (.Attribute o name apos) (e :: es) [] sX) (tBM X.K T r to t) := by
 intro pins s σ H Q I h
 refine wpAny_Call_method_late iz oW hline rfl (dF (ho pins s σ H _ I h) fun v s1 zz => ?_)
 obtain ⟨x, H1, I1, r1, ty, q1⟩ := zz
 obtain ⟨h1, h2⟩ := Wm I1 r1 ty
 refine ⟨T, id, pa, slot, hty, h1, h2, ?_⟩
 have hA := ha sX pins s1 σ H1 _ I1 q1
 rw [hs] at hA ⊢
 refine Calls.callWith_builtin (by show (false || (backTo sX (starEach es X.env)).any (·.1)) = false; rw [yq] <;> rfl) (Calls.evalArgs_plain ?_)
 exact dF hA fun us s2 ⟨vs, H2, I2, r2, q2⟩ => hm pins s2 σ H2 x vs v us Q I2 r1 r2 q2
end
noncomputable def ZP (X : Cx) (id : String) (r : V -> List V -> Hp -> VK -> Prop) : Prop :=
 ∀ (pins : List (Addr × Obj)) (s : Shared) (σ : St) (H : Hp) (x : V) (xs : List V) (v : Value) (us : List Value) (Q : VK), Inv X pins σ H s -> RelV x v -> Vals xs us -> r x xs H Q →
   wpAny (model X.prog X.w) X.A (call (.builtin id) (v :: us)) (EP X pins σ Q) X.xe s
theorem Vals.one {x : V} {us : List Value} (h : Vals [x] us) : ∃ u, us = [u] /\ RelV x u := by
 cases h with
 | cons r h => cases h; exact ⟨_, rfl, r⟩
theorem Vals.two {x y : V} {us : List Value} (h : Vals [x, y] us) : ∃ u v, us = [u, v] /\ RelV x u /\ RelV y v := by
 cases h with
 | cons r h => cases h with
   | cons q h => cases h; exact ⟨_, _, rfl, r, q⟩
theorem Vals.dropLast {xs : List V} {us : List Value} (h : Vals xs us) : Vals xs.dropLast us.dropLast := by
 induction h with
 | nil => exact .nil
 | cons r t ih =>
   cases t with
   | nil => exact .nil
   | cons q t' => exact .cons r ih
theorem Vals.eraseIdx : ∀ {xs : List V} {us : List Value} (i : Nat), Vals xs us -> Vals (xs.eraseIdx i) (us.eraseIdx i)
 | _, _, _, .nil => .nil
 | _, _, 0, .cons _ t => t
 | _, _, i + 1, .cons r t => .cons r (Vals.eraseIdx i t)
theorem Bq {α : Type} : ∀ (l : List α) (i : Nat), (l.eraseIdx i).length <= l.length
 | [], _ => ag6 _
 | _ :: _, 0 => Nat.le_succ _
 | _ :: r, i + 1 => Nat.succ_le_succ (Bq r i)
section
variable {X : Cx} {pins : List (Addr × Obj)} {σ : St} {H : Hp} {s : Shared} {l : Addr} {xs ys : List V}
theorem Inv.Q6 {its its' : List Value} {n : Nat} {f : Array Value -> Array Value} {t' : Nat} (I : Inv X pins σ H s) (hH : H l = some (.lst xs))
   (e : s.heap.get? l = some { cls := .type "list", data := .seq its.toArray n }) (hf : f its.toArray = its'.toArray) (hv : Vals ys its') (hz : ys.length <= sizeLine) :
   Inv X pins σ (upd H l (.lst ys)) { s with heap := s.heap.update l (Obj.mapSeq f), toks := t' } := by
 have q := PySem.IsL.update e f
 rw [hf] at q
 refine I.write (x := l) (e := l) (by rw [hH]; exact trivial) (.inl rfl) (fun b' u hb hu => (Heap.get?_update_other s.heap (Obj.mapSeq f) (Ne.symm hb)).trans hu) ⟨_, q⟩ ?_
 exact ⟨hz, its', _, hv, q⟩
theorem Inv.acQ {its : List Value} {t' : Nat} (I : Inv X pins σ H s) (hv : Vals ys its) (hz : ys.length <= sizeLine) :
   Inv X pins σ (upd H s.heap.objs.size (.lst ys)) { s with heap := s.heap.push { cls := .type "list", data := .seq its.toArray }, toks := t' } :=
 I.laid (fun _ _ q => ag8 _ q) (ag6 _) ⟨hz, its, 0, hv, ahC _ rfl⟩
theorem Inv.fresh (I : Inv X pins σ H s) : H s.heap.objs.size = none := I.dg.fresh (ag6 _)
theorem Inv.MC (I : Inv X pins σ H s) (hH : H l = some (.lst xs)) : xs.length <= sizeLine /\ ∃ (its : List Value) (n : Nat), Vals xs its /\ xs.length = its.length /\ s.heap.get? l = some { cls := .type "list", data := .seq its.toArray n } := by
 obtain ⟨z, its, n, r, e⟩ := I.dg l _ hH
 exact ⟨z, its, n, r, r.length, e⟩
theorem D8 {n : Nat} (h : n <= sizeLine) : Builtin.List.listTooLong n = false := by
 unfold Builtin.List.listTooLong
 exact ah2 (by omega)
end
section
variable {X : Cx}
noncomputable def Q7 : V -> List V -> Hp -> VK -> Prop := fun x vs H Q => ∃ l xs y, x = .ref l /\ vs = [y] /\ H l = some (.lst xs) /\ xs.length < sizeLine /\ Q .non (upd H l (.lst (xs ++ [y])))
theorem nK : ZP X "list.append" Q7 := by
 intro pins s σ H x vs v us Q I rx rv h
 obtain ⟨l, xs, y, rfl, rfl, hH, hz, q⟩ := h
 cases rx
 obtain ⟨u, rfl, ru⟩ := rv.one
 obtain ⟨z, its, n, r, hl, e⟩ := I.MC hH
 refine call_meets F.slot_list_append ⟨_, e, rfl⟩ F.entry_list_append (F.args_list_append_2 _ _) (PySem.list_append l its.toArray n u (by rw [ahf]; omega)) ⟨e, ?_⟩
 refine ⟨.non, _, I.Q6 (its' := its ++ [u]) hH e (by simp) (r.append (.cons ru .nil)) ?_, rfl, q⟩
 rw [ahc, List.length_singleton]
 omega
noncomputable def Q8 : V -> List V -> Hp -> VK -> Prop := fun x vs H Q => ∃ l b xs zs, x = .ref l /\ vs = [.ref b] /\ H l = some (.lst xs) /\ H b = some (.lst zs) /\ xs.length + zs.length <= sizeLine /\ Q .non (upd H l (.lst (xs ++ zs)))
theorem JX : ZP X "list.extend" Q8 := by
 intro pins s σ H x vs v us Q I rx rv h
 obtain ⟨l, b, xs, zs, rfl, rfl, hH, hB, hz, q⟩ := h
 cases rx
 obtain ⟨u, rfl, ru⟩ := rv.one
 cases ru
 obtain ⟨z, its, n, r, hl, e⟩ := I.MC hH
 obtain ⟨z2, vm, n2, r2, hl2, e2⟩ := I.MC hB
 have hsz : its.toArray.size + vm.toArray.size <= sizeLine := by rw [ahf, ahf]; omega
 have MD : ¬ (!its.toArray.isEmpty && Builtin.List.listTooLong (its.toArray.size + vm.toArray.size)) = true := by
   rw [D8 hsz, Bool.and_false]
   exact ag5
 refine call_meets F.slot_list_extend ⟨_, e, rfl⟩ F.entry_list_extend (F.args_list_extend_2 _ _)
   (AutoSeq1.list_extend_list_list_0 l its.toArray n b vm.toArray n2 MD (by rw [ahf]; omega) (by omega)) ⟨e, e2, ?_⟩
 refine ⟨.non, _, I.Q6 (its' := its ++ vm) hH e (by simp) (r.append r2) ?_, rfl, q⟩
 rw [ahc]
 omega
noncomputable def Wn : V -> List V -> Hp -> VK -> Prop := fun x vs H Q => ∃ l xs i k y, x = .ref l /\ vs = [.int i] /\ H l = some (.lst xs) /\ -(2 ^ 63) <= i /\ i < 2 ^ 63 /\ seqIndex? i xs.length = some k /\ xs[k]? = some y /\ Q y (upd H l (.lst (xs.eraseIdx k)))
theorem MF : ZP X "list.pop" Wn := by
 intro pins s σ H x vs v us Q I rx rv h
 obtain ⟨l, xs, i, k, y, rfl, rfl, hH, h1, h2, hk, hy, q⟩ := h
 cases rx
 obtain ⟨u, rfl, ru⟩ := rv.one
 obtain ⟨t, rfl⟩ := ru
 obtain ⟨z, its, n, r, hl, e⟩ := I.MC hH
 obtain ⟨w, hw, B7⟩ := r.get hy
 refine call_meets F.slot_list_pop ⟨_, e, rfl⟩ F.entry_list_pop (F.args_list_pop_2 _ _)
   (MeetsSeq.list_pop_at l its.toArray n i t k w (fitsIndex_both h1 h2) (by rw [ahf, ← hl]; exact hk) (by rw [← Array.getElem?_toList]; exact hw) (by rw [ahf]; omega)) ⟨e, ?_⟩
 refine ⟨y, _, I.Q6 (its' := its.eraseIdx k) hH e ?_ (r.eraseIdx k) ?_, B7, q⟩
 . show its.toArray.eraseIdxIfInBounds k = (its.eraseIdx k).toArray
   rw [List.eraseIdxIfInBounds_toArray]
 . have := Bq xs k
   omega
end
end L2
namespace Att
open PySem PySem.W PySem.Calls PyProof.Rows
theorem wL {P : Params} {h : Heap} : ∀ (ns : List Int) (vs : List Value), WellAll P h vs (ns.map WData.int) -> IntsAre vs ns := by
 intro ns
 induction ns with
 | nil =>
   intro vs w
   rw [List.map_nil] at w
   cases w
   exact .nil
 | cons n ns ih =>
   intro vs w
   rw [List.map_cons] at w
   cases w with
   | cons a b =>
     cases a
     exact .cons _ _ (ih _ b)
theorem JY {l : OpenLaw} {n : Nat} (hn : l.most = some n) {P : Params} {h : Heap} {args : List WData} {vals : List Value}
   (Q9 : l.row.toRowW.claim.pre args = true) (hwl : WellAll P h vals args) :
   ∃ a vs ns, vals = [Value.ref a] /\ args = [WData.list (ns.map WData.int)] /\ h.get? a = some { cls := .type "list", data := .seq vs.toArray } /\ IntsAre vs ns /\ ns.length <= n := by
 have hsh : WShape.hasAll [] args [.list .int] = true := (pre_splitW Q9).1
 have hc : l.pre.holds [] { args := args } = true := (pre_splitW Q9).2
 obtain ⟨d, r, rfl, h1, h2⟩ := hasAllW_cons hsh
 obtain rfl := hasAllW_nil h2
 obtain ⟨xs, rfl, h3⟩ := hasW_list h1
 obtain ⟨ns, rfl⟩ := items_int h3
 have hlen : ns.length <= n := by
   unfold OpenLaw.pre at hc
   have h4 : (WTm.not (.lt (.lit (.int (n : Int))) (.len (.arg 0)))).holds [] { args := [.list (ns.map .int)] } = true := by
     have h4 := (holds_andW hc).1
     rw [hn] at h4
     exact h4
   have h5 := condW_of h4 (w_not (w_lt w_lit (w_len_list (w_arg rfl))))
   rw [List.length_map] at h5
   refine Nat.le_of_not_lt fun q => ?_
   have q' : (n : Int) < ((ns.length : Nat) : Int) := by omega
   first
     | (rw [decide_eq_true q'] at h5; exact absurd h5 (by decide))
     | (simp at h5; omega)
 cases hwl with
 | cons w1 w2 =>
   cases w2
   cases w1 with
   | list ho acT => exact ⟨_, _, ns, rfl, rfl, ho, wL ns _ acT, hlen⟩
theorem JZ (l : OpenLaw) (args : List WData) : l.row.toRowW.claim.post args (.bool true) args = true :=
 postW_of (r := l.row.toRowW) (X := (true == true))
   (show WShape.has [] (.bool true) .bool = true by first | rfl | decide | simp [WShape.has, WShape.arms, WShape.armsAll])
   (show (WTm.eq .res (.lit (.bool true))).value [] { args := args, res := some (.bool true), after := args } = some (.bool (true == true)) from w_eq_bool (w_res rfl) w_lit) rfl
theorem D9 {l : OpenLaw} {n : Nat} {q : Program} {loose : List Str} {XP : (Str -> Option Value) -> Heap -> Prop} {YP : World -> Heap -> Prop} {d : DefRec}
   (hn : l.most = some n) (Ra : d.params.defaults = [])
   (call : ∀ (w : World) (s₀ s₁ : Shared) (mg mb : Str -> Option Value) (fa : Addr) (o : Obj) (pm cd doc : Value) (a : Addr) (vs : List Value) (ns : List Int),
     Ground q loose [] XP w s₀ mg mb s₁.heap -> YP w s₁.heap →
     s₁.heap.get? fa = some o -> o.data = .func (docDef d.name d.params d.body d.scope pm cd doc) -> s₁.heap.CodeRec cd d.name -> mg d.name = some (.ref fa) →
     s₁.heap.get? a = some { cls := .type "list", data := .seq vs.toArray } -> IntsAre vs ns -> ns.length <= n -> s₁.gens = #[] →
     codeAny (model l.prog w) callerA (.call (.ref fa) ⟨[.ref a], []⟩) (fun r s' => r = .ok (.ret (.bool true)) /\ OldK s₁.heap s'.heap /\ s'.os = s₁.os /\ AllBare s'.gens) s₁) :
   WalkO q loose XP YP l.row.toRowW d [] (fun f vs => PySem.call f vs) := by
 intro w s₀ s₁ mg mb G Y fa o pm cd doc dV kV ho hd mS hD Wo hg args vals as Q9 hlay hrd hwl hlo
 obtain rfl : dV = .none := Dflts.none hD Ra
 obtain rfl : kV = .none := Dflts.noKw hD
 obtain ⟨a, vs, ns, rfl, rfl, Wq, hints, hlen⟩ := JY hn Q9 hwl
 refine enter_call (codeAny_mono (call w s₀ s₁ mg mb fa o pm cd doc a vs ns G Y ho (fd_plain hd) mS Wo Wq hints hlen hg) fun r s' hq => ?_)
 obtain ⟨rfl, h2, h3, h4⟩ := hq
 exact ⟨.inl ⟨.bool true, .bool true, [], rfl, fun _ => rfl, .bool true, JZ l _, fun _ => ⟨List.Pairwise.nil, fun _ hm => (nomatch hm)⟩⟩, h2, h3, h4⟩
section
noncomputable def ledger (h : Heap) (L d : Addr) : List (Addr × Obj) := (List.range h.objs.size).filterMap fun a => if a = L \/ a = d then none else (h.get? a).map fun o => (a, o)
end
end Att
namespace L2
open PySem PySem.Spec PyProof.Rows
theorem Br : ∀ {vs : List Value} {ns : List Int}, IntsAre vs ns -> Vals (ns.map V.int) vs
 | _, _, .nil => .nil
 | _, _, .cons n t h => .cons ⟨t, rfl⟩ (Br h)
noncomputable def Only (H : Hp) : Prop := ∀ b, H b = none \/ ∃ o xs, H b = some (.bS o (.lst xs))
theorem MG {P : Program} {w : World} {K : PySem.W.Frag} {mg mb : Str -> Option Value} {CX : LK} {k : Nat} {fa a : Addr} {fd : FuncData} {x : Str} {sp : Sp} {s₁ : Shared} {vs : List Value} {ns : List Int}
   (KX : K.In s₁.heap) (hns : s₁.heap.Ns mainGlobals mg) (hb : s₁.heap.Ns builtinsNs mb) (hbb : ∀ x : Str, x ≠ "__name__" -> mb x = bootBuiltins x) (acU : s₁.heap.NoLimit) (hg : s₁.gens = #[])
   (ha : s₁.heap.get? a = some { cls := .type "list", data := .seq vs.toArray }) (hi : IntsAre vs ns) (hl : ns.length <= sizeLine) (hr : dG k callerA)
   (F : ∀ base : Heap, K.In base -> base.Ns mainGlobals mg -> cQ P w K mg base CX k fa fd [x] sp) (ZQ : ∀ (s : Shared) (u : Value), BindsTo s fd ⟨[u], []⟩ [(x, u)])
   (Ve : ∀ H : Hp, Only H -> oS K H a (ns.map V.int) -> sp [.ref a] H (fun v _ => v = .bl true) fun _ _ _ => False)
   (hCX : ∀ H e s', CX [] H s₁ (fun _ _ _ => False) e s' -> False) :
   codeAny (model P w) callerA (.call (.ref fa) ⟨[.ref a], []⟩) (fun r s' => r = .ok (.ret (.bool true)) /\ OldK s₁.heap s'.heap /\ s'.os = s₁.os /\ AllBare s'.gens) s₁ := by
 have rv := Br hi
 have acW := hi.length
 have core : ∀ H : Hp, Only H -> oS K H a (ns.map V.int) -> tY P w H s₁.heap -> (∀ b, H b ≠ none -> b = a) -> (H a ≠ none -> K.lookup a = none) →
     codeAny (model P w) callerA (.call (.ref fa) ⟨[.ref a], []⟩) (fun r s' => r = .ok (.ret (.bool true)) /\ OldK s₁.heap s'.heap /\ s'.os = s₁.os /\ AllBare s'.gens) s₁ := by
   intro H hO hS dg hA hK
   have HJ : ∀ {b : Addr} {o : Obj}, s₁.heap.get? b = some o -> H b = none -> (B3 s₁.heap H).get? b = some o := fun e n => L0 e n
   have ZK : ∀ {b : Addr} {o : Obj} {es : Array DictEntry} {ep : Nat}, s₁.heap.get? b = some o -> o.data = .dict es ep -> H b = none := fun {b o es ep} e d => by
     cases q : H b with
     | none => rfl
     | some u =>
       have e' : b = a := hA b (by rw [q]; simp)
       subst e'
       rw [ha] at e; cases e
       have d' : Data.seq vs.toArray _ = Data.dict es ep := d
       cases d'
   have nsK : ∀ {b : Addr} {m : Str -> Option Value}, s₁.heap.Ns b m -> (B3 s₁.heap H).Ns b m := fun {b m} ⟨o, es, ep, e, d, r⟩ => ⟨o, es, ep, HJ e (ZK e d), d, r⟩
   have hKb : K.In (B3 s₁.heap H) := fun b o e => HJ (KX b o e) (by
     cases q : H b with
     | none => rfl
     | some u =>
       have e' : b = a := hA b (by rw [q]; simp)
       subst e'
       rw [hK (by rw [q]; simp)] at e; cases e)
   have hM : Mod K mg (B3 s₁.heap H) := ⟨hKb, nsK hns, ⟨mb, nsK hb, hbb⟩, let ⟨mc, h1, h2⟩ := acU; ⟨mc, nsK h1, h2⟩⟩
   have e0 : Aw P w K mg (B3 s₁.heap H) callerA [] s₁ H := ⟨rfl, hM, fun b o e => QD e, Nat.le_of_eq (JD _ _), trivial, fun b hb => absurd (show b ∈ ([] : List Addr) from hb) (by simp), dg, .of_eq hg⟩
   refine codeAny_mono ((F _ hKb (nsK hns)).run callerA [] s₁ H ⟨[.ref a], []⟩ [.ref a] [.ref a] _ _ hr e0 (ZQ s₁ (.ref a)) (.cons rfl .nil) (Ve H hO hS)) fun r s' h => ?_
   cases r with
   | error e => exact (hCX H e s' h).elim
   | ok fl =>
     cases fl with
     | next => exact False.elim h
     | brk => exact False.elim h
     | cont => exact False.elim h
     | ret u =>
       obtain ⟨v, H', os, bare, un, acX, r', q⟩ := h
       have q' : v = .bl true := q
       subst q'
       obtain rfl : u = Value.bool true := r'
       refine ⟨rfl, OldK.of_keep fun b o e => ?_, os, bare⟩
       cases q : H b with
       | none => exact un.keep b o e q (by intro z; exact absurd (show b ∈ ([] : List Addr) from z) (by simp)) (by simp)
       | some u =>
         rcases hO b with z | ⟨ob, xs, z⟩
         . rw [q] at z; cases z
         . have z2 := un.jn b ob _ z
           obtain ⟨e1, _⟩ := dg b _ z
           obtain ⟨e2, _⟩ := acX b _ z2
           rw [e] at e1; cases e1
           exact e2
 cases hk : K.lookup a with
 | some o =>
   have e := KX a o hk
   rw [ha] at e
   cases e
   refine core (fun _ => none) (fun _ => .inl rfl) (.inr ⟨_, vs.toArray, _, hk, rfl, rfl, rfl, by rw [List.size_toArray, acW]; exact hl, by simpa using rv⟩) (fun b u z => by have z' : (none : Option HO) = some u := z; cases z') (fun b z => absurd rfl z) fun z => absurd rfl z
 | none =>
   refine core (fun b => if b = a then some (.bS { cls := .type "list", data := .seq vs.toArray } (.lst (ns.map V.int))) else none) (fun b => ?_) (.inl (.inr ⟨{ cls := .type "list", data := .seq vs.toArray }, ag9 rfl⟩)) (fun b u z => ?_) (fun b z => ?_) fun _ => hk
   . by_cases hb : b = a
     . exact .inr ⟨_, _, ag9 hb⟩
     . exact .inl (ag2 hb)
   . by_cases hb : b = a
     . have z' := (ag9 hb).symm.trans z
       cases z'
       subst hb
       exact ⟨ha, by rw [agU]; exact hl, vs, _, rv, ha⟩
     . have z' := (ag2 hb).symm.trans z
       cases z'
   . by_cases hb : b = a
     . exact hb
     . exact absurd (ag2 hb) z
theorem Rb {l : PySem.W.OpenLaw} {n k : Nat} {q : Program} {loose : List Str} {XP : (Str -> Option Value) -> Heap -> Prop} {YP : World -> Heap -> Prop} {d : DefRec} {K : Params -> PySem.W.Frag} {CX : World -> LK} {sp : World -> Sp} {x : Str}
   (hn : l.most = some n) (YJ : n <= sizeLine) (Ra : d.params.defaults = []) (hr : dG k callerA)
   (hY : ∀ (w : World) (h : Heap), YP w h -> (K w.params).In h)
   (F : ∀ (w : World) (mg : Str -> Option Value) (fa : Addr) (h : Heap), (K w.params).In h -> h.Ns mainGlobals mg -> mg d.name = some (.ref fa) →
     ∃ fd : FuncData, (∀ (s : Shared) (u : Value), BindsTo s fd ⟨[u], []⟩ [(x, u)]) ∧
       ∀ base : Heap, (K w.params).In base -> base.Ns mainGlobals mg -> cQ l.prog w (K w.params) mg base (CX w) k fa fd [x] (sp w))
   (Ve : ∀ (w : World) (H : Hp) (a : Addr) (ns : List Int), ns.length <= n -> Only H -> oS (K w.params) H a (ns.map V.int) -> sp w [.ref a] H (fun v _ => v = .bl true) fun _ _ _ => False)
   (hCX : ∀ (w : World) (H : Hp) (s : Shared) (e : Value) (s' : Shared), CX w [] H s (fun _ _ _ => False) e s' -> False) :
   PySem.W.WalkO q loose XP YP l.row.toRowW d [] (fun f vs => PySem.call f vs) := by
 refine Att.D9 hn Ra fun w s₀ s₁ mg mb fa o pm cd doc a vs ns G Y ho hd mS Wo Wq hints hlen hg => ?_
 have KX := hY w _ Y
 obtain ⟨fd, hb, hF⟩ := F w mg fa _ KX G.T.g Wo
 exact MG KX G.T.g G.T.b G.T.builtins G.T.nolimit hg Wq hints (ahM hlen YJ) hr hF hb (fun H hO hS => Ve w H a ns hlen hO hS) fun H e s' => hCX w H s₁ e s'
noncomputable def inClass (s : Stmt) (j : Nat) : Stmt := match s with
 | .ClassDef _ _ _ body _ _ _ _ _ _ _ => body.getD j (.Pass ⟨0, 0, 0, 0⟩)
 | _ => .Pass ⟨0, 0, 0, 0⟩
noncomputable def t9 (s : Stmt) : Arguments := match s with
 | .FunctionDef _ a _ _ _ _ _ _ _ _ => a
 | _ => { posonlyargs := [], args := [], vararg := none, kwonlyargs := [], kw_defaults := [], kwarg := none, defaults := [] }
noncomputable def cB (s : Stmt) : List Stmt := match s with
 | .FunctionDef _ _ b _ _ _ _ _ _ _ => b
 | _ => []
noncomputable def ao (s : Stmt) : Scope := match s with
 | .FunctionDef _ _ _ _ _ _ sc _ _ _ => sc
 | _ => { kind := .function, names := [], isGenerator := false, isCoroutine := false }
noncomputable abbrev kU : LK := fun _ _ _ _ _ _ => False
noncomputable abbrev E0 : XK := fun _ _ _ => False
theorem sG {X : Cx} : Passes kU X E0 := fun _ _ _ _ _ _ _ h => h.elim
structure mV (K : PySem.W.Frag) (x qual : Str) (st : Stmt) (f : Addr) (fd : FuncData) : Prop where
 ex : ∃ (oc : Value) (od : Option Addr) (kV doc pm : Value) (an : Option Addr) (gO ct : Value) (QY : Array (Option Value)),
   fd = PySem.W.fnOf x qual (t9 st) (cB st) (ao st) .none kV doc pm an gO ct /\ K.lookup f = some ⟨oc, od, .func fd, QY⟩ /\ PySem.W.codeIn K gO qual = true
 kp : PySem.W.keepIn K (.ref f) = true
section
variable {P : Program} {w : World} {K : PySem.W.Frag} {mg : Str -> Option Value} {base : Heap}
theorem mV.ok {x qual : Str} {st : Stmt} {f : Addr} {fd : FuncData} {N ps : List Str} {k : Nat} {sp : Sp} (F : mV K x qual st f fd) (S : aS N ps (ao st)) (len : ∀ vs H Q E, sp vs H Q E -> vs.length = ps.length)
   (MA : ∀ (gO : Value) (A : Around) (outer : List Env) (s : Shared) (H : Hp) (vs : List V) (Q : VK) (E : XK), dG k (A.deeper (envOfC qual (ao st) s.heap.objs.size f gO)) -> sp vs H Q E →
     ∃ t, Ht (yk kU P w K mg base N qual (ao st) f gO A outer s H E).QL (cB st) t /\ t { nx := fun _ H' => Q .non H', rt := Q } (start N vs) H) : cQ P w K mg base kU (k + 1) f fd ps sp := by
 obtain ⟨oc, od, kV, doc, pm, an, gO, ct, QY, rfl, lk, mS⟩ := F.ex
 refine ZL lk mS S len fun A outer s H vs Q E hr Ve => ?_
 obtain ⟨t, h, q⟩ := MA gO A outer s H vs Q E hr Ve
 exact ⟨t, h.QL, q⟩
theorem mV.binds {x qual : Str} {st : Stmt} {f : Addr} {fd : FuncData} {ps : List Str} (F : mV K x qual st f fd)
   (h : ∀ (kV doc pm : Value) (an : Option Addr) (gO ct : Value) (us : List Value), us.length = ps.length -> bindArgs (PySem.W.fnOf x qual (t9 st) (cB st) (ao st) .none kV doc pm an gO ct) ⟨us, []⟩ = pure (ps.zip us)) : Binds K fd ps [] := by
 obtain ⟨oc, od, kV, doc, pm, an, gO, ct, QY, rfl, lk, mS⟩ := F.ex
 exact .all (h kV doc pm an gO ct)
theorem bT {x qual : Str} {st : Stmt} {f : Addr} {oc : Value} {od an : Option Addr} {QY : Array (Option Value)} {kV doc pm gO ct : Value} (l : K.lookup f = some ⟨oc, od, .func (PySem.W.fnOf x qual (t9 st) (cB st) (ao st) .none kV doc pm an gO ct), QY⟩)
   (c : PySem.W.codeIn K gO qual = true) (k : PySem.W.keepIn K (.ref f) = true) : mV K x qual st f (PySem.W.fnOf x qual (t9 st) (cB st) (ao st) .none kV doc pm an gO ct) := ⟨⟨oc, od, kV, doc, pm, an, gO, ct, QY, rfl, l, c⟩, k⟩
end
theorem kW {n : Nat} (h : n <= 1000) : n < sizeLine := ahW h (by decide)
theorem J1 {A B : Prop} (h : B) : if false = true then A else B := by
 rw [ag2 ag5]
 exact h
theorem J2 {A B : Prop} (h : A) : if true = true then A else B := by
 rw [ag9 rfl]
 exact h
noncomputable def aC (H H' : Hp) : Prop := ∀ b o, H b = some o -> H' b = some o
theorem aC.refl (H : Hp) : aC H H := fun _ _ h => h
theorem aC.trans {H H1 H2 : Hp} (a : aC H H1) (b : aC H1 H2) : aC H H2 := fun c o h => b c o (a c o h)
theorem aC.free {H H' : Hp} (e : aC H H') {l : Addr} (h : H' l = Option.none) : H l = Option.none := by
 cases q : H l with
 | none => rfl
 | some o =>
   rw [e l o q] at h
   cases h
theorem aC.seq {K : PySem.W.Frag} {H H' : Hp} {a : Addr} {xs : List V} (e : aC H H') (h : oS K H a xs) : oS K H' a xs := by
 rcases h with (h | ⟨o, h⟩) | h
 . exact .inl (.inl (e _ _ h))
 . exact .inl (.inr ⟨o, e _ _ h⟩)
 . exact .inr h
section
variable {κ : Type} [DecidableEq κ]
noncomputable def jR (kvs : List (κ × V)) (k : κ) : Option V := (kvs.find? fun kv => decide (kv.1 = k)).map (·.2)
noncomputable def putK (kvs : List (κ × V)) (k : κ) (v : V) : List (κ × V) :=
 if (kvs.any fun kv => decide (kv.1 = k)) = true then kvs.map (fun kv => if kv.1 = k then (kv.1, v) else kv) else kvs ++ [(k, v)]
theorem qx {p : κ × V} {r : List (κ × V)} {k : κ} (e : p.1 = k) : jR (p :: r) k = some p.2 := by simp [jR, ah5, e]
theorem qy {p : κ × V} {r : List (κ × V)} {k : κ} (e : ¬ p.1 = k) : jR (p :: r) k = jR r k := by simp [jR, ah5, e]
theorem ua (k : κ) : ∀ kvs : List (κ × V), (kvs.any fun kv => decide (kv.1 = k)) = (jR kvs k).isSome
 | [] => rfl
 | p :: r => by
   rw [aiE]
   by_cases e : p.1 = k
   . simp only [qx e, ahK e, Bool.true_or, Option.isSome_some]
   . rw [qy e, ah2 e, Bool.false_or]; exact ua k r
theorem wo (kvs : List (κ × V)) (k : κ) (v : V) : (putK kvs k v).length <= kvs.length + 1 := by
 unfold putK
 split
 . rw [agU]; omega
 . rw [ahc, ahu, List.length_nil]; omega
theorem MH {kvs : List (κ × V)} {k : κ} (v : V) (h : jR kvs k = none) : putK kvs k v = kvs ++ [(k, v)] := by
 unfold putK
 rw [ua, h]
 exact ag2 (by decide)
theorem oR.J3 {o : Option V} {u : Option Value} (r : oR o u) : o.isSome = u.isSome := by
 cases o with
 | none => cases u with
   | none => rfl
   | some _ => exact (show False from r).elim
 | some _ => cases u with
   | none => exact (show False from r).elim
   | some _ => rfl
theorem oR.getD {o : Option V} {u : Option Value} {d : V} {d' : Value} (r : oR o u) (rd : RelV d d') : RelV (o.getD d) (u.getD d') := by
 cases o with
 | none => cases u with
   | none => exact rd
   | some _ => exact (show False from r).elim
 | some _ => cases u with
   | none => exact (show False from r).elim
   | some _ => exact r
theorem KV.val {kvs : List (κ × V)} {vs : List (κ × Value)} (r : KV kvs vs) (k : κ) : oR (jR kvs k) (valueAt vs k) := by
 unfold KV at r
 induction r with
 | nil => exact True.intro
 | @cons p q ps qs h t ih =>
   obtain ⟨h1, h2⟩ := h
   by_cases e : p.1 = k
   . have e' : q.1 = k := h1.symm.trans e
     have b : valueAt (q :: qs) k = some q.2 := by simp [valueAt, ah5, e']
     rw [qx e, b]; exact h2
   . have e' : ¬ q.1 = k := fun z => e (h1.trans z)
     have b : valueAt (q :: qs) k = valueAt qs k := by simp [valueAt, ah5, e']
     rw [qy e, b]; exact ih
theorem KV.any {kvs : List (κ × V)} {vs : List (κ × Value)} (r : KV kvs vs) (k : κ) : (kvs.any fun kv => decide (kv.1 = k)) = vs.any fun kv => decide (kv.1 = k) := by
 unfold KV at r
 induction r with
 | nil => rfl
 | cons h t ih => rw [aiE, aiE, ih, h.1]
theorem KV.repl {kvs : List (κ × V)} {vs : List (κ × Value)} (r : KV kvs vs) (k : κ) {y : V} {u : Value} (ry : RelV y u) :
   KV (kvs.map fun kv => if kv.1 = k then (kv.1, y) else kv) (vs.map fun kv => if kv.1 = k then (kv.1, u) else kv) := by
 unfold KV at r ⊢
 induction r with
 | nil => exact .nil
 | @cons p q ps qs h t ih =>
   rw [ahd, ahd]
   refine .cons ?_ ih
   obtain ⟨h1, h2⟩ := h
   by_cases e : p.1 = k
   . rw [ag9 e, ag9 (h1.symm.trans e)]; exact ⟨h1, ry⟩
   . rw [ag2 e, ag2 (fun z => e (h1.trans z))]; exact ⟨h1, h2⟩
theorem KV.put {kvs : List (κ × V)} {vs : List (κ × Value)} (r : KV kvs vs) (k : κ) {y : V} {u : Value} (ry : RelV y u) : KV (putK kvs k y) (stored vs k u) := by
 unfold putK stored
 rw [r.any k]
 by_cases e : (vs.any fun kv => decide (kv.1 = k)) = true
 . rw [ag9 e, ag9 e]; exact r.repl k ry
 . rw [ag2 e, ag2 e]; exact Paired.snoc r ⟨rfl, ry⟩
theorem KV.length {kvs : List (κ × V)} {vs : List (κ × Value)} (r : KV kvs vs) : kvs.length = vs.length := aid r
end
theorem MJ {P : Program} {w : World} {k : Key} {u : Value} (r : RelV (kV k) u) : (eO P w).is k u = true := by
 cases k with
 | inl i => obtain ⟨t, e⟩ := (show ∃ t, u = Value.int i t from r); subst e; exact DZ P w i t
 | inr x => obtain ⟨t, e⟩ := (show ∃ t, u = Value.str x t from r); subst e; exact D0 P w x t
theorem vn {P : Program} {w : World} : ∀ {ks : List Key} {us : List Value}, Vals (ks.map kV) us -> ItemsAre (eO P w) ks us
 | [], _, r => by rw [List.map_nil] at r; cases r; exact .nil
 | k :: ks, _, r => by
   rw [ahd] at r
   cases r with
   | cons h t => exact .cons (MJ h) (vn t)
noncomputable abbrev KT (H : Hp) : List (List Key × V) -> List (List Key × Addr × Value) -> Prop := Paired fun p q => p.1 = q.1 /\ H q.2.1 = some (.tup (p.1.map kV)) /\ RelV p.2 q.2.2
theorem KT.val {H : Hp} {kvs : List (List Key × V)} {xs : List (List Key × Addr × Value)} (r : KT H kvs xs) (k : List Key) : oR (jR kvs k) ((atKey xs k).map (·.2)) := by
 induction r with
 | nil => exact True.intro
 | @cons p q ps qs h t ih =>
   obtain ⟨h1, _, h2⟩ := h
   by_cases e : p.1 = k
   . have e' : q.1 = k := h1.symm.trans e
     have b : atKey (q :: qs) k = some q.2 := by simp [atKey, ah5, e']
     rw [qx e, b]; exact h2
   . have e' : ¬ q.1 = k := fun z => e (h1.trans z)
     have b : atKey (q :: qs) k = atKey qs k := by simp [atKey, ah5, e']
     rw [qy e, b]; exact ih
theorem KT.repl {H : Hp} {kvs : List (List Key × V)} {xs : List (List Key × Addr × Value)} (r : KT H kvs xs) (k : List Key) {y : V} {u : Value} (ry : RelV y u) :
   KT H (kvs.map fun kv => if kv.1 = k then (kv.1, y) else kv) (xs.map (putAt k u)) := by
 induction r with
 | nil => exact .nil
 | @cons p q ps qs h t ih =>
   rw [ahd, ahd]
   refine .cons ?_ ih
   obtain ⟨h1, h2, h3⟩ := h
   unfold putAt
   by_cases e : p.1 = k
   . rw [ag9 e, ag9 (h1.symm.trans e)]; exact ⟨h1, h2, ry⟩
   . rw [ag2 e, ag2 (fun z => e (h1.trans z))]; exact ⟨h1, h2, h3⟩
theorem KT.put {H : Hp} {kvs : List (List Key × V)} {xs : List (List Key × Addr × Value)} (r : KT H kvs xs) (k : List Key) {b : Addr} {y : V} {u : Value} (hb : H b = some (.tup (k.map kV))) (ry : RelV y u) :
   KT H (putK kvs k y) (storedH xs k b u) := by
 have e : (kvs.any fun kv => decide (kv.1 = k)) = (atKey xs k).isSome := by
   rw [ua, (r.val k).J3, Option.isSome_map]
 unfold putK storedH
 rw [e]
 by_cases q : (atKey xs k).isSome = true
 . rw [ag9 q, ag9 q]; exact r.repl k ry
 . rw [ag2 q, ag2 q]; exact Paired.snoc r ⟨rfl, hb, ry⟩
theorem KT.keeps {H H' : Hp} {kvs : List (List Key × V)} {xs : List (List Key × Addr × Value)} (r : KT H kvs xs) (ht : ∀ b ys, H b = some (.tup ys) -> H' b = some (.tup ys)) : KT H' kvs xs :=
 Paired.VM r fun _ _ z => ⟨z.1, ht _ _ z.2.1, z.2.2⟩
section
variable {P : Program} {w : World} {H : Hp} {h : Heap} {a : Addr}
theorem Vf {u : HO} (ok : tY P w H h) (e : Rd H a u) : eN P w H h a u := e.ok ok
theorem MK {kvs : List (Key × V)} (ok : tY P w H h) (e : Rd H a (.dK kvs)) : kvs.length <= sizeLine /\ (a == sysModules) = false /\ ∃ vs, KV kvs vs /\ h.DictOf (eO P w) a vs :=
 show eN P w H h a (.dK kvs) from Vf ok e
theorem ZR {kvs : List (Key × V)} (ok : tY P w H h) (e : H a = some (.dK kvs)) : kvs.length <= sizeLine /\ (a == sysModules) = false /\ ∃ vs, KV kvs vs /\ h.DictOf (eO P w) a vs := MK ok (.inl e)
theorem FQ {ks : List Key} (ok : tY P w H h) (e : H a = some (.tup (ks.map kV))) : (tupleKind (eO P w)).is h ks a := by
 obtain ⟨_, its, r, o, h1, h2, n, h3⟩ := (show eN P w H h a (.tup (ks.map kV)) from ok a _ e)
 exact ⟨o, its.toArray, n, h1, h2, h3, by simpa using vn r⟩
theorem sH {kvs : List (List Key × V)} (ok : tY P w H h) (e : Rd H a (.dT kvs)) : kvs.length <= sizeLine /\ (a == sysModules) = false ∧
   ∃ xs, KT H kvs xs /\ h.DictOfH (tupleKind (eO P w)) a xs := by
 obtain ⟨z, y, xs, r, o, es, ep, h1, h2, h3, h4, h5⟩ := (show eN P w H h a (.dT kvs) from Vf ok e)
 refine ⟨z, y, xs, r, o, es, ep, h1, h2, h3, h4, fun x hx => ?_, h5⟩
 have all : ∀ {l : List (List Key × V)} {m : List (List Key × Addr × Value)}, KT H l m -> ∀ x ∈ m, (tupleKind (eO P w)).is h x.1 x.2.1 := by
   intro l m q
   induction q with
   | nil => intro x hx; exact nomatch hx
   | @cons p q ps qs hq t ih =>
     intro x hx
     rcases ag4.mp hx with e | hx
     . subst e
       exact FQ ok (by rw [← hq.1]; exact hq.2.1)
     . exact ih x hx
 exact all r x hx
theorem ZS {kvs : List (List Key × V)} (ok : tY P w H h) (e : H a = some (.dT kvs)) : kvs.length <= sizeLine /\ (a == sysModules) = false ∧
   ∃ xs, KT H kvs xs /\ h.DictOfH (tupleKind (eO P w)) a xs := sH ok (.inl e)
end
noncomputable def FT (H : Hp) (a : Addr) (y : V) (r : Option V) : Prop :=
 (∃ kvs k, Rd H a (.dK kvs) /\ y = kV k /\ r = jR kvs k) \/ ∃ kvs k b, Rd H a (.dT kvs) /\ y = .ref b /\ H b = some (.tup (k.map kV)) /\ r = jR kvs k
noncomputable def J4 (H : Hp) (a : Addr) (y v : V) (H' : Hp) : Prop :=
 (∃ kvs k, H a = some (.dK kvs) /\ y = kV k /\ kvs.length < sizeLine /\ H' = upd H a (.dK (putK kvs k v))) ∨
 ∃ kvs k b, H a = some (.dT kvs) /\ y = .ref b /\ H b = some (.tup (k.map kV)) /\ kvs.length < sizeLine /\ H' = upd H a (.dT (putK kvs k v))
theorem J4.t {H : Hp} {a b : Addr} {kvs : List (List Key × V)} {k : List Key} {v : V} (e : H a = some (.dT kvs)) (eb : H b = some (.tup (k.map kV))) (hl : kvs.length < sizeLine) :
   J4 H a (.ref b) v (upd H a (.dT (putK kvs k v))) := .inr ⟨kvs, k, b, e, rfl, eb, hl, rfl⟩
section
variable {X : Cx} {pins : List (Addr × Obj)} {σ : St} {H : Hp} {s : Shared} {a : Addr} {y v : V} {u r : Value} {o : Option V} {A : Around} {E : Value -> Shared -> Prop}
theorem Inv.big (I : Inv X pins σ H s) : sysModules < s.heap.objs.size := by
 have h : mainGlobals < s.heap.objs.size := (I.mod.glob.keeps I.bk).lt
 exact Nat.lt_trans (by decide) h
theorem J5 {Q : Value -> Shared -> Prop} (hu : A.units + 1 < cLine) (I : Inv X pins σ H s) (g : FT H a y (some v)) (ry : RelV y u) (h : ∀ w' s', Inv X pins σ H s' -> RelV v w' -> Q w' s') :
   wpAny (model X.prog X.w) A (getItem (.ref a) u) Q E s := by
 rcases g with ⟨kvs, k, e, ey, l⟩ | ⟨kvs, k, b, e, ey, eb, l⟩
 . subst ey
   obtain ⟨z, hd, vs, rel, dd⟩ := MK I.dg e
   obtain ⟨w', hw, B7⟩ := oR.some_of (v := v) (o := valueAt vs k) (by rw [l]; exact rel.val k)
   exact wpAny_getItem_of (MJ ry) dd.mapOf hw (h w' _ (I.tok _) B7)
 . subst ey
   cases (show u = Value.ref b from ry)
   obtain ⟨z, hd, xs, rel, dd⟩ := sH I.dg e
   obtain ⟨w', hw, B7⟩ := oR.some_of (v := v) (o := (atKey xs k).map (·.2)) (by rw [l]; exact rel.val k)
   obtain ⟨p, hp, ZT⟩ := ahw.mp hw
   refine wpAny_getItem_heap (air hu) (FQ I.dg eb) dd hp ?_
   rw [ZT]
   exact h w' _ (I.tok _) B7
theorem HK {h' : Heap} {t' : Nat} {ob : HO} (I : Inv X pins σ H s) (mu : Za (H a)) (hs : Heap.SameBut a s.heap h') (he : ∃ q, h'.get? a = some q) (new : eN X.prog X.w (upd H a ob) h' a ob) :
   Inv X pins σ (upd H a ob) { s with heap := h', toks := t' } :=
 I.write (x := a) (e := a) mu (.inl rfl) (fun b q hb z => (hs.2 b hb).trans z) he new
theorem Wr {P : Program} {w : World} {H' : Hp} {h' : Heap} {kvs : List (Key × V)} {vs : List (Key × Value)} (z : kvs.length <= sizeLine) (hd : (a == sysModules) = false) (rel : KV kvs vs) (dd : h'.DictOf (eO P w) a vs) :
   eN P w H' h' a (.dK kvs) := ⟨z, hd, vs, rel, dd⟩
theorem J6 {H' : Hp} {Q : Unit -> Shared -> Prop} (hu : A.units + 1 < cLine) (I : Inv X pins σ H s) (g : J4 H a y v H') (ry : RelV y u) (rv : RelV v r) (h : ∀ s', Inv X pins σ H' s' -> Q () s') :
   wpAny (model X.prog X.w) A (setItem (.ref a) u r) Q E s := by
 rcases g with ⟨kvs, k, e, ey, l, eH⟩ | ⟨kvs, k, b, e, ey, eb, l, eH⟩
 . subst ey eH
   obtain ⟨z, hd, vs, rel, dd⟩ := ZR I.dg e
   have hz : vs.length <= sizeLine := by rw [← rel.length]; exact z
   have hl : (putK kvs k v).length <= sizeLine := by have := wo kvs k v; omega
   refine wpAny_setItem_pairs (hsz := hz) (MJ ry) dd fun h' YL hs => h _ ?_
   have he : ∃ q, h'.get? a = some q := let ⟨q, _, _, hq, _⟩ := YL; ⟨q, hq⟩
   exact HK I (by rw [e]; exact True.intro) hs he (Wr hl hd (rel.put k rv) YL)
 . subst ey eH
   cases (show u = Value.ref b from ry)
   obtain ⟨z, hd, xs, rel, dd⟩ := ZS I.dg e
   have hz : xs.length <= sizeLine := by rw [← aid rel]; exact z
   have hl : (putK kvs k v).length <= sizeLine := by have := wo kvs k v; omega
   refine wpAny_setItem_heap (hsz := hz) (air hu) (FQ I.dg eb) dd fun h' YL hs => h _ ?_
   obtain ⟨q, es, ep, hq, h2, h3, h4, _, h5⟩ := YL
   refine HK I (by rw [e]; exact True.intro) hs ⟨q, hq⟩ ⟨hl, hd, _, (rel.put k eb rv).keeps fun c ys ec => ?_, q, es, ep, hq, h2, h3, h4, h5⟩
   rw [aq (Y9 ec e (fun z => nomatch z))]
   exact ec
end
noncomputable def J7 (i : Expr) : Prop := ∀ ov iv, subscripted i false ov iv = operate [ov, iv] (getItem ov iv)
theorem HL {prog : Program} {w : World} {A : Around} {E : Value -> Shared -> Prop} {s : Shared} {env : Env} {value slice : Expr} {pos : Pos} {T id : String} {Q : Value -> Shared -> Prop}
   (hl : typeLookup (.type T) "__getitem__" = pure (some (.builtin id))) (hs : J7 slice)
   (h : wpAny (model prog w) A (eval value env) (fun o s₁ => wpAny (model prog w) A (eval slice env) (fun i s₂ => s₂.TypeIs o T /\ wpAny (model prog w) A (getItem o i) Q E s₂) E s₁) E s) :
   wpAny (model prog w) A (eval (.Subscript value slice pos) env) Q E s := by
 refine Subscript_ (ahZ h (fun o s₁ h₁ => ahZ h₁ (fun i s₂ h₂ => ?_) fun _ _ x => x) fun _ _ x => x)
 obtain ⟨hT, h₂⟩ := h₂
 unfold subscriptTail
 refine agW ?_
 rw [getitemInPython_of_ne hT.not_modules]
 refine agW (wpAny_specialOf hT hl ?_)
 have fin : wpAny (model prog w) A (subscripted slice false o i) (fun r s₃ => wpAny (model prog w) A (letTemporaryGo value o r >>= fun _ => pure r) Q E s₃) E s₂ := by
   rw [hs o i]
   exact wpAny_operating (ahZ h₂ (fun r s₃ h₃ => agW (wpAny_letTemporaryGo (ahe h₃))) fun _ _ x => x)
 first
   | exact ahe (agW fin)
   | exact agW (ahe (agW fin))
   | exact agW fin
theorem Ea {X : Cx} {pins : List (Addr × Obj)} {σ : St} {H : Hp} {s : Shared} {a : Addr} {y : V} {o : Option V} (I : Inv X pins σ H s) (g : FT H a y o) : s.TypeIs (.ref a) "dict" := by
 rcases g with ⟨kvs, k, e, _, _⟩ | ⟨kvs, k, b, e, _, _, _⟩
 . obtain ⟨_, _, vs, _, dd⟩ := MK I.dg e
   exact dd.typeIs
 . obtain ⟨_, _, xs, _, dd⟩ := sH I.dg e
   exact dd.typeIs
noncomputable def ZU (td ty : TE) : TE := fun σ H Q => td σ H fun x H1 => ty σ H1 fun y H2 => ∃ a v, x = .ref a /\ FT H2 a y (some v) /\ Q v H2
noncomputable def ZV (td ty tv : TE) : TS := fun D σ H => tv σ H fun v H1 => td σ H1 fun x H2 => ty σ H2 fun y H3 => ∃ a H4, x = .ref a /\ J4 H3 a y v H4 /\ D.nx σ H4
section
variable {X : Cx} {o i value : Expr} {pos pos' : Pos} {td ty tv : TE}
theorem HM (hu : X.A.units + 1 < cLine) (ho : PE X o td) (hi : PE X i ty) (hs : J7 i) : PE X (.Subscript o i pos) (ZU td ty) := by
 intro pins s σ H Q I h
 refine HL PySem.F.slot_dict_getitem.lookup hs (dF (ho pins s σ H _ I h) fun u s1 ⟨x, H1, I1, rx, q1⟩ => dF (hi pins s1 σ H1 _ I1 q1) fun iv s2 zz => ?_)
 obtain ⟨y, H2, I2, ry, a, v, ex, g, q2⟩ := zz
 subst ex
 obtain rfl : u = Value.ref a := rx
 exact ⟨Ea I2 g, J5 hu I2 g ry fun w' s3 I3 B7 => ⟨v, H2, I3, B7, q2⟩⟩
theorem HN (hu : X.A.units + 1 < cLine) (ho : PE X o td) (hi : PE X i ty) (hv : PE X value tv) (hs : swapsWith value (some (.Subscript o i pos')) pos.line X.env = pure false) :
   PS X (.Assign [.Subscript o i pos'] value pos) (ZV td ty tv) := by
 intro pins s σ H D I h
 refine wpAny_Assign_Subscript (dF (hv pins s σ H _ I h) fun r s1 ⟨v, H1, I1, rv, q1⟩ => dF (ho pins s1 σ H1 _ I1 q1) fun u s2 ⟨x, H2, I2, rx, q2⟩ => dF (hi pins s2 σ H2 _ I2 q2) fun iv s3 zz => ?_) hs
 obtain ⟨y, H3, I3, ry, a, H4, ex, g, q3⟩ := zz
 subst ex
 obtain rfl : u = Value.ref a := rx
 exact J6 hu I3 g ry rv fun s4 I4 => ⟨σ, H4, I4, q3⟩
end
theorem ML {P : Program} {w : World} {H : Hp} (h : Heap) (hb : sysModules < h.objs.size) : eN P w H (h.push { cls := .type "dict", data := .dict #[] }) h.objs.size (.dT []) :=
 ⟨ahs _, aim.mpr (Ne.symm (ahF hb)), [], .nil, _, #[], 0, ahC _ rfl, ⟨rfl, rfl, rfl⟩, rfl, rfl, aiy⟩
noncomputable def Ws : TE := fun _ H Q => ∀ p, H p = none -> Q (.ref p) (upd H p (.dT []))
section
variable {X : Cx} {pos : Pos}
theorem MN : PE X (.Dict [] [] pos) Ws := fun pins s σ H Q I h =>
 wpAny_Dict_empty ⟨.ref s.heap.objs.size, _, I.laid (a := s.heap.objs.size) (o := .dT []) (t' := s.toks) (fun _ _ q => ag8 _ q) (ag6 _) (ML s.heap I.big), rfl, h _ (I.dg.fresh (ag6 _))⟩
end
end L2
namespace L3
open PySem PySem.Spec PyProof.Rows L2
inductive D where
 | non | bl (b : Bool) | int (i : Int) | str (x : Str)
 | tup (ds : List D) | lst (ds : List D) | ins (c : Str) (fs : List (Str × D)) | rD (kvs : List (Key × D))
 | dct (kvs : List (List Key × D))
 | any
 | val (v : V)
inductive T where
 | sh (d : D) | tup (ts : List T) | lst (ts : List T) | ins (c : Str) (fs : List (Str × T)) | rD (kvs : List (Key × D)) | dct (kvs : List (List Key × T))
 | pin (x : Addr) (t : T)
mutual
noncomputable def T.bS : T -> D
 | .sh d => d
 | .tup ts => .tup (jn ts)
 | .lst ts => .lst (jn ts)
 | .ins c fs => .ins c (mz fs)
 | .rD kvs => .rD kvs
 | .dct kvs => .dct (uc kvs)
 | .pin _ t => t.bS
noncomputable def T.jn : List T -> List D
 | [] => []
 | t :: ts => t.bS :: T.jn ts
noncomputable def T.mz : List (Str × T) -> List (Str × D)
 | [] => []
 | (x, t) :: fs => (x, t.bS) :: T.mz fs
noncomputable def T.uc : List (List Key × T) -> List (List Key × D)
 | [] => []
 | (x, t) :: fs => (x, t.bS) :: T.uc fs
end
variable (K : PySem.W.Frag) (CL : Str -> Addr)
mutual
inductive bq (Z : Hp) : D -> V -> Prop where
 | non : bq Z .non .non
 | bl (b : Bool) : bq Z (.bl b) (.bl b)
 | int (i : Int) : bq Z (.int i) (.int i)
 | str (x : Str) : bq Z (.str x) (.str x)
 | any (v : V) : bq Z .any v
 | val (v : V) : bq Z (.val v) v
 | tup {a : Addr} {vs : List V} {ds : List D} : sF K Z a vs -> aH Z ds vs -> bq Z (.tup ds) (.ref a)
 | lst {a : Addr} {vs : List V} {ds : List D} : oS K Z a vs -> aH Z ds vs -> bq Z (.lst ds) (.ref a)
 | ins {a dx : Addr} {c : Str} {gs : List (Str × V)} {fs : List (Str × D)} : Z a = some (.ins (CL c) dx gs) -> gH Z fs gs -> bq Z (.ins c fs) (.ref a)
 | rD {a : Addr} {gs : List (Key × V)} {fs : List (Key × D)} : Z a = some (.dK gs) -> cC Z fs gs -> bq Z (.rD fs) (.ref a)
 | dct {a : Addr} {gs : List (List Key × V)} {fs : List (List Key × D)} : Rd Z a (.dT gs) -> cZ Z fs gs -> bq Z (.dct fs) (.ref a)
inductive aH (Z : Hp) : List D -> List V -> Prop where
 | nil : aH Z [] []
 | cons {d : D} {v : V} {ds : List D} {vs : List V} : bq Z d v -> aH Z ds vs -> aH Z (d :: ds) (v :: vs)
inductive gH (Z : Hp) : List (Str × D) -> List (Str × V) -> Prop where
 | nil : gH Z [] []
 | cons {x : Str} {d : D} {v : V} {ds : List (Str × D)} {vs : List (Str × V)} : bq Z d v -> gH Z ds vs -> gH Z ((x, d) :: ds) ((x, v) :: vs)
inductive cC (Z : Hp) : List (Key × D) -> List (Key × V) -> Prop where
 | nil : cC Z [] []
 | cons {x : Key} {d : D} {v : V} {ds : List (Key × D)} {vs : List (Key × V)} : bq Z d v -> cC Z ds vs -> cC Z ((x, d) :: ds) ((x, v) :: vs)
inductive cZ (Z : Hp) : List (List Key × D) -> List (List Key × V) -> Prop where
 | nil : cZ Z [] []
 | cons {x : List Key} {d : D} {v : V} {ds : List (List Key × D)} {vs : List (List Key × V)} : bq Z d v -> cZ Z ds vs -> cZ Z ((x, d) :: ds) ((x, v) :: vs)
end
mutual
inductive bu (H Z : Hp) : T -> V -> List Addr -> Prop where
 | sh {d : D} {v : V} : bq K CL Z d v -> bu H Z (.sh d) v []
 | tup {a : Addr} {vs : List V} {ts : List T} {fp : List Addr} : Z a = some (.tup vs) -> aE H Z ts vs fp -> bu H Z (.tup ts) (.ref a) fp
 | lst {a : Addr} {vs : List V} {ts : List T} {fp : List Addr} : H a = some (.lst vs) -> aE H Z ts vs fp -> bu H Z (.lst ts) (.ref a) (a :: fp)
 | ins {a dx : Addr} {c : Str} {gs : List (Str × V)} {fs : List (Str × T)} {fp : List Addr} : H a = some (.ins (CL c) dx gs) -> cV H Z fs gs fp -> bu H Z (.ins c fs) (.ref a) (a :: fp)
 | rD {a : Addr} {gs : List (Key × V)} {kvs : List (Key × D)} : H a = some (.dK gs) -> cC K CL Z kvs gs -> bu H Z (.rD kvs) (.ref a) [a]
 | dct {a : Addr} {gs : List (List Key × V)} {kvs : List (List Key × T)} {fp : List Addr} : H a = some (.dT gs) -> cA H Z kvs gs fp -> bu H Z (.dct kvs) (.ref a) (a :: fp)
 | pin {x : Addr} {t : T} {fp : List Addr} : bu H Z t (.ref x) fp -> bu H Z (.pin x t) (.ref x) fp
inductive aE (H Z : Hp) : List T -> List V -> List Addr -> Prop where
 | nil : aE H Z [] [] []
 | cons {t : T} {v : V} {ts : List T} {vs : List V} {fp gp : List Addr} : bu H Z t v fp -> aE H Z ts vs gp -> aE H Z (t :: ts) (v :: vs) (fp ++ gp)
inductive cV (H Z : Hp) : List (Str × T) -> List (Str × V) -> List Addr -> Prop where
 | nil : cV H Z [] [] []
 | cons {x : Str} {t : T} {v : V} {ts : List (Str × T)} {vs : List (Str × V)} {fp gp : List Addr} : bu H Z t v fp -> cV H Z ts vs gp -> cV H Z ((x, t) :: ts) ((x, v) :: vs) (fp ++ gp)
inductive cA (H Z : Hp) : List (List Key × T) -> List (List Key × V) -> List Addr -> Prop where
 | nil : cA H Z [] [] []
 | cons {x : List Key} {t : T} {v : V} {ts : List (List Key × T)} {vs : List (List Key × V)} {fp gp : List Addr} : bu H Z t v fp -> cA H Z ts vs gp -> cA H Z ((x, t) :: ts) ((x, v) :: vs) (fp ++ gp)
end
inductive cH (H Z : Hp) : List (Option T) -> L2.St -> List Addr -> Prop where
 | nil : cH H Z [] [] []
 | skip {o : Option V} {δ : List (Option T)} {σ : L2.St} {fp : List Addr} : cH H Z δ σ fp -> cH H Z (none :: δ) (o :: σ) fp
 | cons {t : T} {v : V} {δ : List (Option T)} {σ : L2.St} {fp gp : List Addr} : bu K CL H Z t v fp -> cH H Z δ σ gp -> cH H Z (some t :: δ) (some v :: σ) (fp ++ gp)
section
variable {K : PySem.W.Frag} {CL : Str -> Addr}
theorem Rd.mono {H H' : Hp} {a : Addr} {u : HO} (e : aC H H') (h : Rd H a u) : Rd H' a u := h.imp (e _ _) fun ⟨o, q⟩ => ⟨o, e _ _ q⟩
theorem aC.HP {H H' : Hp} {a : Addr} {xs : List V} (e : aC H H') (h : sF K H a xs) : sF K H' a xs := by
 rcases h with (h | ⟨o, h⟩) | h
 . exact .inl (.inl (e _ _ h))
 . exact .inl (.inr ⟨o, e _ _ h⟩)
 . exact .inr h
theorem bq.mono {Z Z' : Hp} (e : aC Z Z') {d : D} {v : V} (h : bq K CL Z d v) : bq K CL Z' d v :=
 bq.rec (motive_1 := fun d v _ => bq K CL Z' d v) (motive_2 := fun d v _ => aH K CL Z' d v) (motive_3 := fun d v _ => gH K CL Z' d v) (motive_4 := fun d v _ => cC K CL Z' d v) (motive_5 := fun d v _ => cZ K CL Z' d v)
   .non .bl .int .str .any .val (fun h _ r => .tup (aC.HP e h) r) (fun h _ r => .lst (e.seq h) r) (fun h _ r => .ins (e _ _ h) r) (fun h _ r => .rD (e _ _ h) r) (fun h _ r => .dct (Rd.mono e h) r) .nil (fun _ _ h r => .cons h r) .nil (fun _ _ h r => .cons h r) .nil (fun _ _ h r => .cons h r) .nil (fun _ _ h r => .cons h r) h
theorem gH.mono {Z Z' : Hp} (e : aC Z Z') {d : List (Str × D)} {v : List (Str × V)} (h : gH K CL Z d v) : gH K CL Z' d v :=
 gH.rec (motive_1 := fun d v _ => bq K CL Z' d v) (motive_2 := fun d v _ => aH K CL Z' d v) (motive_3 := fun d v _ => gH K CL Z' d v) (motive_4 := fun d v _ => cC K CL Z' d v) (motive_5 := fun d v _ => cZ K CL Z' d v)
   .non .bl .int .str .any .val (fun h _ r => .tup (aC.HP e h) r) (fun h _ r => .lst (e.seq h) r) (fun h _ r => .ins (e _ _ h) r) (fun h _ r => .rD (e _ _ h) r) (fun h _ r => .dct (Rd.mono e h) r) .nil (fun _ _ h r => .cons h r) .nil (fun _ _ h r => .cons h r) .nil (fun _ _ h r => .cons h r) .nil (fun _ _ h r => .cons h r) h
theorem cC.mono {Z Z' : Hp} (e : aC Z Z') {d : List (Key × D)} {v : List (Key × V)} (h : cC K CL Z d v) : cC K CL Z' d v :=
 cC.rec (motive_1 := fun d v _ => bq K CL Z' d v) (motive_2 := fun d v _ => aH K CL Z' d v) (motive_3 := fun d v _ => gH K CL Z' d v) (motive_4 := fun d v _ => cC K CL Z' d v) (motive_5 := fun d v _ => cZ K CL Z' d v)
   .non .bl .int .str .any .val (fun h _ r => .tup (aC.HP e h) r) (fun h _ r => .lst (e.seq h) r) (fun h _ r => .ins (e _ _ h) r) (fun h _ r => .rD (e _ _ h) r) (fun h _ r => .dct (Rd.mono e h) r) .nil (fun _ _ h r => .cons h r) .nil (fun _ _ h r => .cons h r) .nil (fun _ _ h r => .cons h r) .nil (fun _ _ h r => .cons h r) h
theorem cZ.mono {Z Z' : Hp} (e : aC Z Z') {d : List (List Key × D)} {v : List (List Key × V)} (h : cZ K CL Z d v) : cZ K CL Z' d v :=
 cZ.rec (motive_1 := fun d v _ => bq K CL Z' d v) (motive_2 := fun d v _ => aH K CL Z' d v) (motive_3 := fun d v _ => gH K CL Z' d v) (motive_4 := fun d v _ => cC K CL Z' d v) (motive_5 := fun d v _ => cZ K CL Z' d v)
   .non .bl .int .str .any .val (fun h _ r => .tup (aC.HP e h) r) (fun h _ r => .lst (e.seq h) r) (fun h _ r => .ins (e _ _ h) r) (fun h _ r => .rD (e _ _ h) r) (fun h _ r => .dct (Rd.mono e h) r) .nil (fun _ _ h r => .cons h r) .nil (fun _ _ h r => .cons h r) .nil (fun _ _ h r => .cons h r) .nil (fun _ _ h r => .cons h r) h
theorem bu.mono {H H' Z Z' : Hp} (e : aC Z Z') {t : T} {v : V} {fp : List Addr} (k : ∀ a ∈ fp, H' a = H a) (h : bu K CL H Z t v fp) : bu K CL H' Z' t v fp :=
 bu.rec (motive_1 := fun t v fp _ => (∀ a ∈ fp, H' a = H a) -> bu K CL H' Z' t v fp) (motive_2 := fun t v fp _ => (∀ a ∈ fp, H' a = H a) -> aE K CL H' Z' t v fp) (motive_3 := fun t v fp _ => (∀ a ∈ fp, H' a = H a) -> cV K CL H' Z' t v fp) (motive_4 := fun t v fp _ => (∀ a ∈ fp, H' a = H a) -> cA K CL H' Z' t v fp)
   (fun h _ => .sh (h.mono e)) (fun h _ r k => .tup (e _ _ h) (r k)) (fun h _ r k => .lst ((k _ agV).trans h) (r fun a ha => k a (agY _ ha))) (fun h _ r k => .ins ((k _ agV).trans h) (r fun a ha => k a (agY _ ha))) (fun h f k => .rD ((k _ agV).trans h) (cC.mono e f)) (fun h _ r k => .dct ((k _ agV).trans h) (r fun a ha => k a (agY _ ha))) (fun _ r k => .pin (r k)) (fun _ => .nil) (fun _ _ h r k => .cons (h fun a ha => k a (agX _ ha)) (r fun a ha => k a (agS _ ha))) (fun _ => .nil) (fun _ _ h r k => .cons (h fun a ha => k a (agX _ ha)) (r fun a ha => k a (agS _ ha))) (fun _ => .nil) (fun _ _ h r k => .cons (h fun a ha => k a (agX _ ha)) (r fun a ha => k a (agS _ ha))) h k
theorem aE.mono {H H' Z Z' : Hp} (e : aC Z Z') {t : List T} {v : List V} {fp : List Addr} (k : ∀ a ∈ fp, H' a = H a) (h : aE K CL H Z t v fp) : aE K CL H' Z' t v fp :=
 aE.rec (motive_1 := fun t v fp _ => (∀ a ∈ fp, H' a = H a) -> bu K CL H' Z' t v fp) (motive_2 := fun t v fp _ => (∀ a ∈ fp, H' a = H a) -> aE K CL H' Z' t v fp) (motive_3 := fun t v fp _ => (∀ a ∈ fp, H' a = H a) -> cV K CL H' Z' t v fp) (motive_4 := fun t v fp _ => (∀ a ∈ fp, H' a = H a) -> cA K CL H' Z' t v fp)
   (fun h _ => .sh (h.mono e)) (fun h _ r k => .tup (e _ _ h) (r k)) (fun h _ r k => .lst ((k _ agV).trans h) (r fun a ha => k a (agY _ ha))) (fun h _ r k => .ins ((k _ agV).trans h) (r fun a ha => k a (agY _ ha))) (fun h f k => .rD ((k _ agV).trans h) (cC.mono e f)) (fun h _ r k => .dct ((k _ agV).trans h) (r fun a ha => k a (agY _ ha))) (fun _ r k => .pin (r k)) (fun _ => .nil) (fun _ _ h r k => .cons (h fun a ha => k a (agX _ ha)) (r fun a ha => k a (agS _ ha))) (fun _ => .nil) (fun _ _ h r k => .cons (h fun a ha => k a (agX _ ha)) (r fun a ha => k a (agS _ ha))) (fun _ => .nil) (fun _ _ h r k => .cons (h fun a ha => k a (agX _ ha)) (r fun a ha => k a (agS _ ha))) h k
theorem cV.mono {H H' Z Z' : Hp} (e : aC Z Z') {t : List (Str × T)} {v : List (Str × V)} {fp : List Addr} (k : ∀ a ∈ fp, H' a = H a) (h : cV K CL H Z t v fp) : cV K CL H' Z' t v fp :=
 cV.rec (motive_1 := fun t v fp _ => (∀ a ∈ fp, H' a = H a) -> bu K CL H' Z' t v fp) (motive_2 := fun t v fp _ => (∀ a ∈ fp, H' a = H a) -> aE K CL H' Z' t v fp) (motive_3 := fun t v fp _ => (∀ a ∈ fp, H' a = H a) -> cV K CL H' Z' t v fp) (motive_4 := fun t v fp _ => (∀ a ∈ fp, H' a = H a) -> cA K CL H' Z' t v fp)
   (fun h _ => .sh (h.mono e)) (fun h _ r k => .tup (e _ _ h) (r k)) (fun h _ r k => .lst ((k _ agV).trans h) (r fun a ha => k a (agY _ ha))) (fun h _ r k => .ins ((k _ agV).trans h) (r fun a ha => k a (agY _ ha))) (fun h f k => .rD ((k _ agV).trans h) (cC.mono e f)) (fun h _ r k => .dct ((k _ agV).trans h) (r fun a ha => k a (agY _ ha))) (fun _ r k => .pin (r k)) (fun _ => .nil) (fun _ _ h r k => .cons (h fun a ha => k a (agX _ ha)) (r fun a ha => k a (agS _ ha))) (fun _ => .nil) (fun _ _ h r k => .cons (h fun a ha => k a (agX _ ha)) (r fun a ha => k a (agS _ ha))) (fun _ => .nil) (fun _ _ h r k => .cons (h fun a ha => k a (agX _ ha)) (r fun a ha => k a (agS _ ha))) h k
theorem cA.mono {H H' Z Z' : Hp} (e : aC Z Z') {t : List (List Key × T)} {v : List (List Key × V)} {fp : List Addr} (k : ∀ a ∈ fp, H' a = H a) (h : cA K CL H Z t v fp) : cA K CL H' Z' t v fp :=
 cA.rec (motive_1 := fun t v fp _ => (∀ a ∈ fp, H' a = H a) -> bu K CL H' Z' t v fp) (motive_2 := fun t v fp _ => (∀ a ∈ fp, H' a = H a) -> aE K CL H' Z' t v fp) (motive_3 := fun t v fp _ => (∀ a ∈ fp, H' a = H a) -> cV K CL H' Z' t v fp) (motive_4 := fun t v fp _ => (∀ a ∈ fp, H' a = H a) -> cA K CL H' Z' t v fp)
   (fun h _ => .sh (h.mono e)) (fun h _ r k => .tup (e _ _ h) (r k)) (fun h _ r k => .lst ((k _ agV).trans h) (r fun a ha => k a (agY _ ha))) (fun h _ r k => .ins ((k _ agV).trans h) (r fun a ha => k a (agY _ ha))) (fun h f k => .rD ((k _ agV).trans h) (cC.mono e f)) (fun h _ r k => .dct ((k _ agV).trans h) (r fun a ha => k a (agY _ ha))) (fun _ r k => .pin (r k)) (fun _ => .nil) (fun _ _ h r k => .cons (h fun a ha => k a (agX _ ha)) (r fun a ha => k a (agS _ ha))) (fun _ => .nil) (fun _ _ h r k => .cons (h fun a ha => k a (agX _ ha)) (r fun a ha => k a (agS _ ha))) (fun _ => .nil) (fun _ _ h r k => .cons (h fun a ha => k a (agX _ ha)) (r fun a ha => k a (agS _ ha))) h k
theorem bu.there {H Z : Hp} {t : T} {v : V} {fp : List Addr} (h : bu K CL H Z t v fp) : ∀ a ∈ fp, ∃ o, H a = some o :=
 bu.rec (motive_1 := fun t v fp _ => ∀ a ∈ fp, ∃ o, H a = some o) (motive_2 := fun t v fp _ => ∀ a ∈ fp, ∃ o, H a = some o) (motive_3 := fun t v fp _ => ∀ a ∈ fp, ∃ o, H a = some o) (motive_4 := fun t v fp _ => ∀ a ∈ fp, ∃ o, H a = some o)
   (fun _ a ha => absurd ha ahb) (fun _ _ r => r) (fun h _ r a ha => (ag4.mp ha).elim (fun q => ⟨_, q ▸ h⟩) (r a)) (fun h _ r a ha => (ag4.mp ha).elim (fun q => ⟨_, q ▸ h⟩) (r a)) (fun h _ a ha => (ag4.mp ha).elim (fun q => ⟨_, q ▸ h⟩) (fun q => absurd q ahb)) (fun h _ r a ha => (ag4.mp ha).elim (fun q => ⟨_, q ▸ h⟩) (r a)) (fun _ r => r) (fun a ha => absurd ha ahb) (fun _ _ h r a ha => (ag0.mp ha).elim (h a) (r a)) (fun a ha => absurd ha ahb) (fun _ _ h r a ha => (ag0.mp ha).elim (h a) (r a)) (fun a ha => absurd ha ahb) (fun _ _ h r a ha => (ag0.mp ha).elim (h a) (r a)) h
theorem aE.there {H Z : Hp} {t : List T} {v : List V} {fp : List Addr} (h : aE K CL H Z t v fp) : ∀ a ∈ fp, ∃ o, H a = some o :=
 aE.rec (motive_1 := fun t v fp _ => ∀ a ∈ fp, ∃ o, H a = some o) (motive_2 := fun t v fp _ => ∀ a ∈ fp, ∃ o, H a = some o) (motive_3 := fun t v fp _ => ∀ a ∈ fp, ∃ o, H a = some o) (motive_4 := fun t v fp _ => ∀ a ∈ fp, ∃ o, H a = some o)
   (fun _ a ha => absurd ha ahb) (fun _ _ r => r) (fun h _ r a ha => (ag4.mp ha).elim (fun q => ⟨_, q ▸ h⟩) (r a)) (fun h _ r a ha => (ag4.mp ha).elim (fun q => ⟨_, q ▸ h⟩) (r a)) (fun h _ a ha => (ag4.mp ha).elim (fun q => ⟨_, q ▸ h⟩) (fun q => absurd q ahb)) (fun h _ r a ha => (ag4.mp ha).elim (fun q => ⟨_, q ▸ h⟩) (r a)) (fun _ r => r) (fun a ha => absurd ha ahb) (fun _ _ h r a ha => (ag0.mp ha).elim (h a) (r a)) (fun a ha => absurd ha ahb) (fun _ _ h r a ha => (ag0.mp ha).elim (h a) (r a)) (fun a ha => absurd ha ahb) (fun _ _ h r a ha => (ag0.mp ha).elim (h a) (r a)) h
theorem bu.bS {H Z Z' : Hp} (e : aC Z Z') {t : T} {v : V} {fp : List Addr} (k : ∀ a ∈ fp, Z' a = H a) (h : bu K CL H Z t v fp) : bq K CL Z' t.bS v :=
 bu.rec (motive_1 := fun t v fp _ => (∀ a ∈ fp, Z' a = H a) -> bq K CL Z' t.bS v) (motive_2 := fun t v fp _ => (∀ a ∈ fp, Z' a = H a) -> aH K CL Z' (T.jn t) v) (motive_3 := fun t v fp _ => (∀ a ∈ fp, Z' a = H a) -> gH K CL Z' (T.mz t) v) (motive_4 := fun t v fp _ => (∀ a ∈ fp, Z' a = H a) -> cZ K CL Z' (T.uc t) v)
   (fun h _ => by rw [T.bS]; exact h.mono e) (fun h _ r k => by rw [T.bS]; exact .tup (sF.of (e _ _ h)) (r k)) (fun h _ r k => by rw [T.bS]; exact .lst (oS.of ((k _ agV).trans h)) (r fun a ha => k a (agY _ ha))) (fun h _ r k => by rw [T.bS]; exact .ins ((k _ agV).trans h) (r fun a ha => k a (agY _ ha))) (fun h f k => by rw [T.bS]; exact .rD ((k _ agV).trans h) (cC.mono e f)) (fun h _ r k => by rw [T.bS]; exact .dct (.inl ((k _ agV).trans h)) (r fun a ha => k a (agY _ ha))) (fun _ r k => by rw [T.bS]; exact r k) (fun _ => by rw [T.jn]; exact .nil) (fun _ _ h r k => by rw [T.jn]; exact .cons (h fun a ha => k a (agX _ ha)) (r fun a ha => k a (agS _ ha))) (fun _ => by rw [T.mz]; exact .nil) (fun _ _ h r k => by rw [T.mz]; exact .cons (h fun a ha => k a (agX _ ha)) (r fun a ha => k a (agS _ ha))) (fun _ => by rw [T.uc]; exact .nil) (fun _ _ h r k => by rw [T.uc]; exact .cons (h fun a ha => k a (agX _ ha)) (r fun a ha => k a (agS _ ha))) h k
theorem aH.ind {Z : Hp} {P : List D -> List V -> Prop} (n : P [] []) (c : ∀ {d : D} {v : V} {ds : List D} {vs : List V}, bq K CL Z d v -> aH K CL Z ds vs -> P ds vs -> P (d :: ds) (v :: vs)) {ds : List D} {vs : List V} (h : aH K CL Z ds vs) : P ds vs :=
 aH.rec (motive_1 := fun _ _ _ => True) (motive_2 := fun d v _ => P d v) (motive_3 := fun _ _ _ => True) (motive_4 := fun _ _ _ => True) (motive_5 := fun _ _ _ => True)
   trivial (fun _ => trivial) (fun _ => trivial) (fun _ => trivial) (fun _ => trivial) (fun _ => trivial) (fun _ _ _ => trivial) (fun _ _ _ => trivial) (fun _ _ _ => trivial) (fun _ _ _ => trivial) (fun _ _ _ => trivial) n (fun a b _ i => c a b i) trivial (fun _ _ _ _ => trivial) trivial (fun _ _ _ _ => trivial) trivial (fun _ _ _ _ => trivial) h
theorem cC.ind {Z : Hp} {P : List (Key × D) -> List (Key × V) -> Prop} (n : P [] []) (c : ∀ {x : Key} {d : D} {v : V} {ds : List (Key × D)} {vs : List (Key × V)}, bq K CL Z d v -> cC K CL Z ds vs -> P ds vs -> P ((x, d) :: ds) ((x, v) :: vs)) {ds : List (Key × D)} {vs : List (Key × V)} (h : cC K CL Z ds vs) : P ds vs :=
 cC.rec (motive_1 := fun _ _ _ => True) (motive_2 := fun _ _ _ => True) (motive_3 := fun _ _ _ => True) (motive_4 := fun d v _ => P d v) (motive_5 := fun _ _ _ => True)
   trivial (fun _ => trivial) (fun _ => trivial) (fun _ => trivial) (fun _ => trivial) (fun _ => trivial) (fun _ _ _ => trivial) (fun _ _ _ => trivial) (fun _ _ _ => trivial) (fun _ _ _ => trivial) (fun _ _ _ => trivial) trivial (fun _ _ _ _ => trivial) trivial (fun _ _ _ _ => trivial) n (fun a b _ i => c a b i) trivial (fun _ _ _ _ => trivial) h
theorem cZ.ind {Z : Hp} {P : List (List Key × D) -> List (List Key × V) -> Prop} (n : P [] []) (c : ∀ {x : List Key} {d : D} {v : V} {ds : List (List Key × D)} {vs : List (List Key × V)}, bq K CL Z d v -> cZ K CL Z ds vs -> P ds vs -> P ((x, d) :: ds) ((x, v) :: vs)) {ds : List (List Key × D)} {vs : List (List Key × V)} (h : cZ K CL Z ds vs) : P ds vs :=
 cZ.rec (motive_1 := fun _ _ _ => True) (motive_2 := fun _ _ _ => True) (motive_3 := fun _ _ _ => True) (motive_4 := fun _ _ _ => True) (motive_5 := fun d v _ => P d v)
   trivial (fun _ => trivial) (fun _ => trivial) (fun _ => trivial) (fun _ => trivial) (fun _ => trivial) (fun _ _ _ => trivial) (fun _ _ _ => trivial) (fun _ _ _ => trivial) (fun _ _ _ => trivial) (fun _ _ _ => trivial) trivial (fun _ _ _ _ => trivial) trivial (fun _ _ _ _ => trivial) trivial (fun _ _ _ _ => trivial) n (fun a b _ i => c a b i) h
theorem aE.ind {H Z : Hp} {P : List T -> List V -> List Addr -> Prop} (n : P [] [] []) (c : ∀ {t : T} {v : V} {ts : List T} {vs : List V} {fp gp : List Addr}, bu K CL H Z t v fp -> aE K CL H Z ts vs gp -> P ts vs gp -> P (t :: ts) (v :: vs) (fp ++ gp)) {ts : List T} {vs : List V} {fp : List Addr} (h : aE K CL H Z ts vs fp) : P ts vs fp :=
 aE.rec (motive_1 := fun _ _ _ _ => True) (motive_2 := fun d v f _ => P d v f) (motive_3 := fun _ _ _ _ => True) (motive_4 := fun _ _ _ _ => True)
   (fun _ => trivial) (fun _ _ _ => trivial) (fun _ _ _ => trivial) (fun _ _ _ => trivial) (fun _ _ => trivial) (fun _ _ _ => trivial) (fun _ _ => trivial) n (fun a b _ i => c a b i) trivial (fun _ _ _ _ => trivial) trivial (fun _ _ _ _ => trivial) h
theorem cV.ind {H Z : Hp} {P : List (Str × T) -> List (Str × V) -> List Addr -> Prop} (n : P [] [] []) (c : ∀ {x : Str} {t : T} {v : V} {ts : List (Str × T)} {vs : List (Str × V)} {fp gp : List Addr}, bu K CL H Z t v fp -> cV K CL H Z ts vs gp -> P ts vs gp -> P ((x, t) :: ts) ((x, v) :: vs) (fp ++ gp)) {ts : List (Str × T)} {vs : List (Str × V)} {fp : List Addr} (h : cV K CL H Z ts vs fp) : P ts vs fp :=
 cV.rec (motive_1 := fun _ _ _ _ => True) (motive_2 := fun _ _ _ _ => True) (motive_3 := fun d v f _ => P d v f) (motive_4 := fun _ _ _ _ => True)
   (fun _ => trivial) (fun _ _ _ => trivial) (fun _ _ _ => trivial) (fun _ _ _ => trivial) (fun _ _ => trivial) (fun _ _ _ => trivial) (fun _ _ => trivial) trivial (fun _ _ _ _ => trivial) n (fun a b _ i => c a b i) trivial (fun _ _ _ _ => trivial) h
theorem cA.ind {H Z : Hp} {P : List (List Key × T) -> List (List Key × V) -> List Addr -> Prop} (n : P [] [] []) (c : ∀ {x : List Key} {t : T} {v : V} {ts : List (List Key × T)} {vs : List (List Key × V)} {fp gp : List Addr}, bu K CL H Z t v fp -> cA K CL H Z ts vs gp -> P ts vs gp -> P ((x, t) :: ts) ((x, v) :: vs) (fp ++ gp)) {ts : List (List Key × T)} {vs : List (List Key × V)} {fp : List Addr} (h : cA K CL H Z ts vs fp) : P ts vs fp :=
 cA.rec (motive_1 := fun _ _ _ _ => True) (motive_2 := fun _ _ _ _ => True) (motive_3 := fun _ _ _ _ => True) (motive_4 := fun d v f _ => P d v f)
   (fun _ => trivial) (fun _ _ _ => trivial) (fun _ _ _ => trivial) (fun _ _ _ => trivial) (fun _ _ => trivial) (fun _ _ _ => trivial) (fun _ _ => trivial) trivial (fun _ _ _ _ => trivial) trivial (fun _ _ _ _ => trivial) n (fun a b _ i => c a b i) h
theorem aH.length {Z : Hp} {d : List D} {v : List V} (h : aH K CL Z d v) : d.length = v.length :=
 aH.ind (P := fun d v => d.length = v.length) rfl (fun _ _ i => congrArg (· + 1) i) h
theorem aE.length {H Z : Hp} {d : List T} {v : List V} {fp : List Addr} (h : aE K CL H Z d v fp) : d.length = v.length :=
 aE.ind (P := fun d v _ => d.length = v.length) rfl (fun _ _ i => congrArg (· + 1) i) h
theorem cH.length {H Z : Hp} {d : List (Option T)} {v : L2.St} {fp : List Addr} (h : cH K CL H Z d v fp) : d.length = v.length := by
 induction h with
 | nil => rfl
 | skip _ i => exact congrArg (· + 1) i
 | cons _ _ i => exact congrArg (· + 1) i
theorem aH.get {Z : Hp} : ∀ {ds : List D} {vs : List V} {i : Nat} {d : D}, aH K CL Z ds vs -> ds[i]? = some d -> ∃ v, vs[i]? = some v /\ bq K CL Z d v
 | _, _, _, _, .nil, e => by simp at e
 | _, _, 0, _, .cons r _, e => by simp at e; subst e; exact ⟨_, rfl, r⟩
 | _, _, i + 1, d, .cons _ t, e => by
   obtain ⟨u, h1, h2⟩ := aH.get (i := i) (d := d) t (by simpa using e)
   exact ⟨u, by simpa using h1, h2⟩
theorem aH.Wt {Z : Hp} : ∀ {ds : List D} {vs : List V} {i : Nat} {v : V}, aH K CL Z ds vs -> vs[i]? = some v -> ∃ d, ds[i]? = some d /\ bq K CL Z d v
 | _, _, _, _, .nil, e => by simp at e
 | _, _, 0, _, .cons r _, e => by simp at e; subst e; exact ⟨_, rfl, r⟩
 | _, _, i + 1, d, .cons _ t, e => by
   obtain ⟨u, h1, h2⟩ := aH.Wt (i := i) (v := d) t (by simpa using e)
   exact ⟨u, by simpa using h1, h2⟩
theorem cH.get {H Z : Hp} : ∀ {δ : List (Option T)} {σ : L2.St} {fp : List Addr} {i : Nat} {t : T}, cH K CL H Z δ σ fp -> δ[i]? = some (some t) →
   ∃ v f1 f2 f3, σ[i]? = some (some v) /\ fp = f1 ++ (f2 ++ f3) /\ bu K CL H Z t v f2 ∧
     (∀ {H' Z' : Hp} {t' : T} {v' : V} {g : List Addr}, aC Z Z' -> (∀ a ∈ f1 ++ f3, H' a = H a) -> bu K CL H' Z' t' v' g -> cH K CL H' Z' (δ.set i (some t')) (σ.set i (some v')) (f1 ++ (g ++ f3))) ∧
     (∀ {o : Option V}, cH K CL H Z (δ.set i none) (σ.set i o) (f1 ++ f3)) := by
 intro δ σ fp i t h
 have mono : ∀ {H H' Z Z' : Hp} {δ : List (Option T)} {σ : L2.St} {fp : List Addr}, aC Z Z' -> (∀ a ∈ fp, H' a = H a) -> cH K CL H Z δ σ fp -> cH K CL H' Z' δ σ fp := by
   intro H H' Z Z' δ σ fp e k r
   induction r with
   | nil => exact .nil
   | skip _ ih => exact .skip (ih k)
   | cons r _ ih => exact .cons (r.mono e fun a ha => k a (agX _ ha)) (ih fun a ha => k a (agS _ ha))
 induction h generalizing i with
 | nil => intro e; simp at e
 | @skip o δ σ fp r ih =>
   cases i with
   | zero => intro e; simp at e
   | succ i =>
     intro e
     obtain ⟨v, f1, f2, f3, h1, h2, h3, h4, h5⟩ := ih (i := i) (by simpa using e)
     exact ⟨v, f1, f2, f3, by simpa using h1, h2, h3, fun e k q => .skip (h4 e k q), .skip h5⟩
 | @cons t0 v0 δ σ fp gp r0 r ih =>
   cases i with
   | zero =>
     intro e
     simp at e
     subst e
     refine ⟨v0, [], fp, gp, rfl, rfl, r0, fun {H' Z' t' v' g} e k q => cH.cons (fp := g) (gp := gp) q (mono (fp := gp) e (fun a ha => k a (by simpa using ha)) r), .skip (by simpa using r)⟩
   | succ i =>
     intro e
     obtain ⟨v, f1, f2, f3, h1, h2, h3, h4, h5⟩ := ih (i := i) (by simpa using e)
     refine ⟨v, fp ++ f1, f2, f3, by simpa using h1, by rw [h2, List.append_assoc], h3, fun {H' Z' t' v' g} e k q => ?_, fun {o} => ?_⟩
     . rw [agT]
       exact .cons (r0.mono e fun a ha => k a (by simp [ha])) (h4 e (fun a ha => k a (by rw [agT]; exact agS _ ha)) q)
     . rw [agT]
       exact .cons r0 h5
theorem cH.mono {H H' Z Z' : Hp} {δ : List (Option T)} {σ : L2.St} {fp : List Addr} (e : aC Z Z') (k : ∀ a ∈ fp, H' a = H a) (r : cH K CL H Z δ σ fp) : cH K CL H' Z' δ σ fp := by
 induction r with
 | nil => exact .nil
 | skip _ ih => exact .skip (ih k)
 | cons r _ ih => exact .cons (r.mono e fun a ha => k a (agX _ ha)) (ih fun a ha => k a (agS _ ha))
theorem cH.there {H Z : Hp} {δ : List (Option T)} {σ : L2.St} {fp : List Addr} (r : cH K CL H Z δ σ fp) : ∀ a ∈ fp, ∃ o, H a = some o := by
 induction r with
 | nil => intro a ha; cases ha
 | skip _ ih => exact ih
 | cons r _ ih => exact fun a ha => (ag0.mp ha).elim (r.there a) (ih a)
theorem cH.put {H Z : Hp} {δ : List (Option T)} {σ : L2.St} {fp : List Addr} (r : cH K CL H Z δ σ fp) {t : T} {v : V} {g : List Addr} (q : bu K CL H Z t v g) :
   ∀ {i : Nat}, i < δ.length -> ∃ f, cH K CL H Z (δ.set i (some t)) (σ.set i (some v)) f /\ ∃ f', f'.Sublist fp /\ f.Perm (g ++ f') := by
 induction r with
 | nil => intro i hi; simp at hi
 | @skip o δ σ fp r ih =>
   intro i hi
   cases i with
   | zero => exact ⟨g ++ fp, .cons q r, fp, ahy _, aiN _⟩
   | succ i =>
     obtain ⟨f, h1, f', h2, h3⟩ := ih (i := i) (by simpa using hi)
     exact ⟨f, .skip h1, f', h2, h3⟩
 | @cons t0 v0 δ σ fp gp r0 r ih =>
   intro i hi
   cases i with
   | zero => exact ⟨g ++ gp, .cons q r, gp, ahI _ _, aiN _⟩
   | succ i =>
     obtain ⟨f, h1, f', h2, h3⟩ := ih (i := i) (by simpa using hi)
     refine ⟨fp ++ f, .cons r0 h1, fp ++ f', ahq (ahy _) h2, ?_⟩
     refine (ahA fp h3).trans ?_
     rw [← agT, ← agT]
     exact List.Perm.append_right f' ahl
end
noncomputable def Eb (X : Cx) (e : Expr) : TE := fun σ H Q => ∀ (pins : List (Addr × Obj)) (s : Shared), Inv X pins σ H s -> wpAny (model X.prog X.w) X.A (eval e X.env) (EP X pins σ Q) X.xe s
noncomputable def MP (X : Cx) (e : Expr) : TT := fun σ H Q => ∀ (pins : List (Addr × Obj)) (s : Shared), Inv X pins σ H s -> wpAny (model X.prog X.w) X.A (isTrue e X.env (eval e X.env)) (TP X pins σ Q) X.xe s
noncomputable def J8 (X : Cx) (es : List Expr) : TA := fun σ H Q => ∀ (pos : Pos) (pins : List (Addr × Obj)) (s : Shared), Inv X pins σ H s -> wpAny (model X.prog X.w) X.A (spliced (backTo pos (starEach es X.env))) (AP X pins σ Q) X.xe s
noncomputable def MQ (X : Cx) (st : Stmt) : TS := fun D σ H => ∀ (pins : List (Addr × Obj)) (s : Shared), Inv X pins σ H s -> wpAny (model X.prog X.w) X.A (exec st X.env) (SP X pins D) X.xe s
noncomputable def Wu (X : Cx) (st : List Stmt) : TS := fun D σ H => ∀ (pins : List (Addr × Obj)) (s : Shared), Inv X pins σ H s -> wpAny (model X.prog X.w) X.A (execs st X.env) (SP X pins D) X.xe s
section
variable {X : Cx}
theorem cI {e : Expr} : PE X e (Eb X e) := fun pins s _ _ _ I h => h pins s I
theorem Rc {e : Expr} : PT X e (MP X e) := fun pins s _ _ _ I h => h pins s I
theorem Bs {e : List Expr} : PA X e (J8 X e) := fun pos pins s _ _ _ I h => h pos pins s I
theorem psS {e : Stmt} : PS X e (MQ X e) := fun pins s _ _ _ I h => h pins s I
theorem LN {e : List Stmt} : Ht X e (Wu X e) := fun pins s _ _ _ I h => h pins s I
theorem bU {e : Expr} {t : TE} (h : PE X e t) {σ : L2.St} {H : Hp} {Q : VK} (q : t σ H Q) : Eb X e σ H Q := fun pins s I => h pins s σ H Q I q
theorem Ay {e : Expr} {t : TT} (h : PT X e t) {σ : L2.St} {H : Hp} {Q : Bool -> Hp -> Prop} (q : t σ H Q) : MP X e σ H Q := fun pins s I => h pins s σ H Q I q
theorem Cb {e : List Expr} {t : TA} (h : PA X e t) {σ : L2.St} {H : Hp} {Q : List V -> Hp -> Prop} (q : t σ H Q) : J8 X e σ H Q := fun pos pins s I => h pos pins s σ H Q I q
theorem kH {e : Stmt} {t : TS} (h : PS X e t) {σ : L2.St} {H : Hp} {D : Ends} (q : t D σ H) : MQ X e D σ H := fun pins s I => h pins s σ H D I q
theorem ZW {e : List Stmt} {t : TS} (h : Ht X e t) {σ : L2.St} {H : Hp} {D : Ends} (q : t D σ H) : Wu X e D σ H := fun pins s I => h pins s σ H D I q
end
noncomputable def notStar : Expr -> Bool
 | .Starred _ _ => false
 | _ => true
theorem aP {e : Expr} {es : List Expr} {env : Env} (h : notStar e = true) : starEach (e :: es) env = (false, eval e env) :: starEach es env := by
 cases e <;> first | rfl | (cases h)
structure Bx where
 B : Hp
 Z : Hp
noncomputable def mC : HO -> Bool
 | .tup _ => true
 | .bS _ _ => true
 | _ => false
noncomputable def HQ (x : Str) : Bool := x.cps[0]? == some 35
noncomputable def acY (x : Str) : Str := ⟨x.cps.extract 1 x.cps.size⟩
noncomputable def oX (CL : Str -> Addr) (Z : Hp) : Prop := ∀ x, HQ x = true -> CL x ≠ 0 -> Z (CL x) = some (.tabs (acY x))
structure aU (K : PySem.W.Frag) (CL : Str -> Addr) (b : Bx) (H Z : Hp) (δ : List (Option T)) (σ : L2.St) (ts : List T) (vs : List V) : Prop where
 rep : ∃ fp gp, cH K CL H Z δ σ fp /\ aE K CL H Z ts vs gp /\ (fp ++ gp).Nodup /\ ∀ a ∈ fp ++ gp, Z a = none /\ b.B a = none
 bh : aC b.B H
 zz : aC b.Z Z
 zh : aC Z H
 new : ∀ a o, Z a = some o -> b.Z a = none -> b.B a = none
 tp : ∀ a o, H a = some o -> mC o = true -> Z a = some o
 tab : oX CL b.Z
section
variable {K : PySem.W.Frag} {CL : Str -> Addr} {b : Bx} {H H' Z Z' : Hp} {δ : List (Option T)} {σ : L2.St} {ts : List T} {vs : List V} {t : T} {v : V}
theorem oX.mono {A B : Hp} (h : oX CL A) (e : aC A B) : oX CL B := fun x hx h0 => e _ _ (h x hx h0)
theorem aU.FU (S : aU K CL b H Z δ σ ts vs) : oX CL Z := S.tab.mono S.zz
theorem aU.MR (S : aU K CL b H Z δ σ ts vs) : oX CL H := S.FU.mono S.zh
theorem FW {A B : Hp} (e : aC A B) {a : Addr} (h : B a = none) : A a = none := e.free h
theorem aC.upd {H : Hp} {p : Addr} {o : HO} (h : H p = none) : aC H (upd H p o) := fun b u e => by rw [aq (bO e h)]; exact e
theorem aU.view (S : aU K CL b H Z δ σ (t :: ts) (v :: vs)) : bq K CL H t.bS v := by
 obtain ⟨fp, gp, _, r, _, _⟩ := S.rep
 cases r with
 | cons r _ => exact r.bS S.zh fun _ _ => rfl
theorem aU.pop (S : aU K CL b H Z δ σ (t :: ts) (v :: vs)) : aU K CL b H Z δ σ ts vs := by
 obtain ⟨fp, gp, e, r, nd, k⟩ := S.rep
 cases r with
 | @cons _ _ _ _ f1 f2 r1 r2 =>
   refine ⟨⟨fp, f2, e, r2, nd.sublist (ahq (ahy _) (ahI _ _)), fun a ha => k a ?_⟩, S.bh, S.zz, S.zh, S.new, S.tp, S.tab⟩
   rcases ag0.mp ha with h | h
   . exact agX _ h
   . exact agS _ (agS _ h)
theorem aU.push {d : D} (S : aU K CL b H Z δ σ ts vs) (r : bq K CL Z d v) : aU K CL b H Z δ σ (.sh d :: ts) (v :: vs) := by
 obtain ⟨fp, gp, e, r2, nd, k⟩ := S.rep
 exact ⟨⟨fp, [] ++ gp, e, .cons (.sh r) r2, nd, k⟩, S.bh, S.zz, S.zh, S.new, S.tp, S.tab⟩
theorem aU.Cd (S : aU K CL b H Z δ σ (t :: ts) (v :: vs)) : ∃ Z', aC Z Z' /\ aU K CL b H Z' δ σ (.sh t.bS :: ts) (v :: vs) := by
 classical
 obtain ⟨fp, gp, e, r, nd, k⟩ := S.rep
 cases r with
 | @cons _ _ _ _ f1 f2 r1 r2 =>
   have nZ : ∀ a ∈ f1, Z a = none /\ b.B a = none := fun a ha => k a (agS _ (agX _ ha))
   have sz : aC Z (fun a => if a ∈ f1 then H a else Z a) := fun a o q => by
     by_cases ha : a ∈ f1
     . rw [(nZ a ha).1] at q; cases q
     . show (if a ∈ f1 then H a else Z a) = some o
       rw [ag2 ha]; exact q
   have ZX := aht.mp nd
   have dj : ∀ a ∈ fp ++ f2, a ∉ f1 := fun a ha h1 => by
     rcases ag0.mp ha with h | h
     . exact ZX.2.2 a h a (agX _ h1) rfl
     . exact (aht.mp ZX.2.1).2.2 a h1 a h rfl
   refine ⟨fun a => if a ∈ f1 then H a else Z a, sz, ⟨⟨fp, [] ++ f2, e.mono sz (fun _ _ => rfl), .cons (.sh (r1.bS sz fun a ha => ag9 ha)) (r2.mono sz fun _ _ => rfl), ?_, fun a ha => ?_⟩, S.bh, S.zz.trans sz, fun a o q => ?_, fun a o q z => ?_, fun a o q i => ?_, S.tab⟩⟩
   . exact nd.sublist (ahq (ahy _) (ahI _ _))
   . have J9 : a ∈ fp ++ f2 := ha
     refine ⟨?_, (k a ?_).2⟩
     . show (if a ∈ f1 then H a else Z a) = none
       rw [ag2 (dj a J9)]
       refine (k a ?_).1
       rcases ag0.mp J9 with h | h
       . exact agX _ h
       . exact agS _ (agS _ h)
     . rcases ag0.mp J9 with h | h
       . exact agX _ h
       . exact agS _ (agS _ h)
   . have q' : (if a ∈ f1 then H a else Z a) = some o := q
     by_cases ha : a ∈ f1
     . rw [ag9 ha] at q'; exact q'
     . rw [ag2 ha] at q'; exact S.zh a o q'
   . have q' : (if a ∈ f1 then H a else Z a) = some o := q
     by_cases ha : a ∈ f1
     . exact (nZ a ha).2
     . rw [ag2 ha] at q'; exact S.new a o q' z
   . exact sz a o (S.tp a o q i)
theorem aU.Rf {i : Nat} (S : aU K CL b H Z δ σ ts vs) (hi : δ[i]? = some (some t)) : ∃ v Z', σ[i]? = some (some v) /\ aC Z Z' /\ aU K CL b H Z' (δ.set i (some (.sh t.bS))) σ (.sh t.bS :: ts) (v :: vs) := by
 classical
 obtain ⟨fp, gp, e, r, nd, k⟩ := S.rep
 obtain ⟨v, f1, f2, f3, hv, nG, rt, put, _⟩ := e.get hi
 subst nG
 have nZ : ∀ a ∈ f2, Z a = none /\ b.B a = none := fun a ha => k a (by simp [ha])
 have sz : aC Z (fun a => if a ∈ f2 then H a else Z a) := fun a o q => by
   by_cases ha : a ∈ f2
   . rw [(nZ a ha).1] at q; cases q
   . show (if a ∈ f2 then H a else Z a) = some o
     rw [ag2 ha]; exact q
 have dj : ∀ a ∈ (f1 ++ f3) ++ gp, a ∉ f2 := fun a ha h2 => by
   have hp : ((f1 ++ (f2 ++ f3)) ++ gp).Perm (f2 ++ ((f1 ++ f3) ++ gp)) := by
     rw [← agT, ← agT]
     refine (List.perm_append_right_iff gp).mpr ?_
     rw [← agT]
     exact (List.perm_append_right_iff f3).mpr ahl
   exact (aht.mp (hp.nodup_iff.mp nd)).2.2 a h2 a ha rfl
 have rF : bq K CL (fun a => if a ∈ f2 then H a else Z a) t.bS v := rt.bS sz fun a ha => ag9 ha
 have Wv : σ.set i (some v) = σ := by
   apply List.ext_getElem?
   intro j
   rw [List.getElem?_set]
   split
   . rename_i h; subst h
     split
     . exact hv.symm
     . rename_i h2; rw [ahV (by omega)]
   . rfl
 have e2 : cH K CL H (fun a => if a ∈ f2 then H a else Z a) (δ.set i (some (.sh t.bS))) σ (f1 ++ ([] ++ f3)) := by
   have := put (H' := H) (t' := .sh t.bS) (v' := v) (g := []) sz (fun _ _ => rfl) (.sh rF)
   rwa [Wv] at this
 refine ⟨v, fun a => if a ∈ f2 then H a else Z a, hv, sz, ⟨⟨f1 ++ ([] ++ f3), [] ++ gp, e2, .cons (.sh rF) (r.mono sz fun _ _ => rfl), ?_, fun a ha => ?_⟩, S.bh, S.zz.trans sz, fun a o q => ?_, fun a o q z => ?_, fun a o q i => sz a o (S.tp a o q i), S.tab⟩⟩
 . exact nd.sublist (ahq (ahq (ahy _) (ahI _ _)) (ahy _))
 . have J9 : a ∈ (f1 ++ f3) ++ gp := ha
   have hm : a ∈ (f1 ++ (f2 ++ f3)) ++ gp := by
     simp only [ag0] at J9 ⊢
     rcases J9 with (h | h) | h
     . exact .inl (.inl h)
     . exact .inl (.inr (.inr h))
     . exact .inr h
   refine ⟨?_, (k a hm).2⟩
   show (if a ∈ f2 then H a else Z a) = none
   rw [ag2 (dj a J9)]
   exact (k a hm).1
 . have q' : (if a ∈ f2 then H a else Z a) = some o := q
   by_cases ha : a ∈ f2
   . rw [ag9 ha] at q'; exact q'
   . rw [ag2 ha] at q'; exact S.zh a o q'
 . have q' : (if a ∈ f2 then H a else Z a) = some o := q
   by_cases ha : a ∈ f2
   . exact (nZ a ha).2
   . rw [ag2 ha] at q'; exact S.new a o q' z
theorem aU.move {i : Nat} (S : aU K CL b H Z δ σ ts vs) (hi : δ[i]? = some (some t)) : ∃ v, σ[i]? = some (some v) /\ aU K CL b H Z (δ.set i none) σ (t :: ts) (v :: vs) := by
 obtain ⟨fp, gp, e, r, nd, k⟩ := S.rep
 obtain ⟨v, f1, f2, f3, hv, nG, rt, _, del⟩ := e.get hi
 subst nG
 have Wv : σ.set i (some v) = σ := by
   apply List.ext_getElem?
   intro j
   rw [List.getElem?_set]
   split
   . rename_i h; subst h
     split
     . exact hv.symm
     . rename_i h2; rw [ahV (by omega)]
   . rfl
 have hp : ((f1 ++ (f2 ++ f3)) ++ gp).Perm ((f1 ++ f3) ++ (f2 ++ gp)) := by
   have h1 : (f2 ++ f3).Perm (f3 ++ f2) := ahl
   have h2 := (ahA f1 h1).append_right gp
   simp only [agT] at h2 ⊢
   exact h2
 refine ⟨v, hv, ⟨⟨f1 ++ f3, f2 ++ gp, ?_, .cons rt r, hp.nodup_iff.mp nd, fun a ha => k a (hp.mem_iff.mpr ha)⟩, S.bh, S.zz, S.zh, S.new, S.tp, S.tab⟩⟩
 have := del (o := some v)
 rwa [Wv] at this
theorem aU.look {i : Nat} (S : aU K CL b H Z δ σ ts vs) (hi : δ[i]? = some (some t)) : ∃ v, σ[i]? = some (some v) /\ bq K CL H t.bS v := by
 obtain ⟨fp, gp, e, r, nd, k⟩ := S.rep
 obtain ⟨v, f1, f2, f3, hv, nG, rt, _, _⟩ := e.get hi
 exact ⟨v, hv, rt.bS S.zh fun _ _ => rfl⟩
theorem aU.HR {i : Nat} {d : D} (S : aU K CL b H Z δ σ ts vs) (hi : δ[i]? = some (some (.sh d))) : ∃ v, σ[i]? = some (some v) /\ bq K CL Z d v := by
 obtain ⟨fp, gp, e, r, nd, k⟩ := S.rep
 obtain ⟨v, f1, f2, f3, hv, nG, rt, _, _⟩ := e.get hi
 cases rt with
 | sh h => exact ⟨v, hv, h⟩
theorem aU.set {i : Nat} (S : aU K CL b H Z δ σ (t :: ts) (v :: vs)) (hi : i < δ.length) : aU K CL b H Z (δ.set i (some t)) (σ.set i (some v)) ts vs := by
 obtain ⟨fp, gp, e, r, nd, k⟩ := S.rep
 cases r with
 | @cons _ _ _ _ f1 f2 r1 r2 =>
   obtain ⟨f, h1, f', h2, h3⟩ := e.put r1 hi
   have hp : (f ++ f2).Perm (f' ++ (f1 ++ f2)) := by
     refine (h3.append_right f2).trans ?_
     rw [← agT]
     exact ahl.append_right f2
   have MS : (f' ++ (f1 ++ f2)).Sublist (fp ++ (f1 ++ f2)) := ahq h2 (ahy _)
   exact ⟨⟨f, f2, h1, r2, hp.nodup_iff.mpr (nd.sublist MS), fun a ha => k a (MS.subset (hp.mem_iff.mp ha))⟩, S.bh, S.zz, S.zh, S.new, S.tp, S.tab⟩
end
mutual
noncomputable def D.mw : D -> Bool
 | .tup ds => D.bQ ds
 | .lst _ => false
 | .ins _ _ => false
 | .rD _ => false
 | .dct _ => false
 | .any => false
 | _ => true
noncomputable def D.bQ : List D -> Bool
 | [] => true
 | d :: ds => d.mw && D.bQ ds
end
mutual
noncomputable def T.clean : T -> Bool
 | .sh d => d.mw
 | .tup ts => T.cK ts
 | .lst ts => T.cK ts
 | .ins _ fs => T.jq fs
 | .rD kvs => D.bQ (kvs.map (·.2))
 | .dct kvs => T.iA kvs
 | .pin _ t => t.clean
noncomputable def T.cK : List T -> Bool
 | [] => true
 | t :: ts => t.clean && T.cK ts
noncomputable def T.jq : List (Str × T) -> Bool
 | [] => true
 | (_, t) :: ts => t.clean && T.jq ts
noncomputable def T.iA : List (List Key × T) -> Bool
 | [] => true
 | (_, t) :: ts => t.clean && T.iA ts
end
noncomputable def bV (X : Cx) (CL : Str -> Addr) (b : Bx) (e : Expr) (δ : List (Option T)) (t : T) (δ' : List (Option T)) : Prop :=
 ∀ (H Z : Hp) (σ : L2.St) (ts : List T) (vs : List V) (Q : VK), aU X.K CL b H Z δ σ ts vs -> (∀ v H' Z', aC Z Z' -> aC H H' -> aU X.K CL b H' Z' δ' σ (t :: ts) (v :: vs) -> Q v H') -> Eb X e σ H Q
noncomputable def dH (X : Cx) (CL : Str -> Addr) (b : Bx) (e : Expr) (δ : List (Option T)) (d : D) (δ' : List (Option T)) : Prop :=
 ∀ (H Z : Hp) (σ : L2.St) (ts : List T) (vs : List V) (Q : VK), aU X.K CL b H Z δ σ ts vs -> (∀ v H' Z', aC Z Z' -> aC H H' -> aU X.K CL b H' Z' δ' σ ts vs -> bq X.K CL H' d v -> Q v H') -> Eb X e σ H Q
noncomputable def vo (X : Cx) (CL : Str -> Addr) (b : Bx) (e : Expr) (δ : List (Option T)) (p : Bool) (δ' : List (Option T)) : Prop :=
 ∀ (H Z : Hp) (σ : L2.St) (ts : List T) (vs : List V) (Q : Bool -> Hp -> Prop), aU X.K CL b H Z δ σ ts vs -> (∀ H' Z', aC Z Z' -> aC H H' -> aU X.K CL b H' Z' δ' σ ts vs -> Q p H') -> MP X e σ H Q
noncomputable def Ec (X : Cx) (CL : Str -> Addr) (b : Bx) (es : List Expr) (δ : List (Option T)) (tl : List T) (δ' : List (Option T)) : Prop :=
 ∀ (H Z : Hp) (σ : L2.St) (ts : List T) (vs : List V) (Q : List V -> Hp -> Prop), aU X.K CL b H Z δ σ ts vs →
   (∀ us H' Z', us.length = tl.length -> aC Z Z' -> aC H H' -> aU X.K CL b H' Z' δ' σ (tl.reverse ++ ts) (us.reverse ++ vs) -> Q us H') -> J8 X es σ H Q
noncomputable def Ka (X : Cx) (CL : Str -> Addr) (b : Bx) (es : List Expr) (δ : List (Option T)) (ds : List D) (δ' : List (Option T)) : Prop :=
 ∀ (H Z : Hp) (σ : L2.St) (ts : List T) (vs : List V) (Q : List V -> Hp -> Prop), aU X.K CL b H Z δ σ ts vs →
   (∀ us H' Z', aC Z Z' -> aC H H' -> aU X.K CL b H' Z' δ' σ ts vs -> aH X.K CL H' ds us -> Q us H') -> J8 X es σ H Q
structure dP where
 nx : List (Option T) -> Prop
 rt : T -> List (Option T) -> Prop
 bk : List (Option T) -> Prop := fun _ => False
 ct : List (Option T) -> Prop := fun _ => False
structure Meets (K : PySem.W.Frag) (CL : Str -> Addr) (b : Bx) (Z : Hp) (ts : List T) (vs : List V) (D : dP) (E : Ends) : Prop where
 nx : ∀ δ' σ' H' Z', aC Z Z' -> aU K CL b H' Z' δ' σ' ts vs -> D.nx δ' -> E.nx σ' H'
 rt : ∀ t v H' Z' δ' σ', aC Z Z' -> aU K CL b H' Z' δ' σ' (t :: ts) (v :: vs) -> D.rt t δ' -> E.rt v H'
 bk : ∀ δ' σ' H' Z', aC Z Z' -> aU K CL b H' Z' δ' σ' ts vs -> D.bk δ' -> E.bk σ' H'
 ct : ∀ δ' σ' H' Z', aC Z Z' -> aU K CL b H' Z' δ' σ' ts vs -> D.ct δ' -> E.ct σ' H'
noncomputable def Kc (X : Cx) (CL : Str -> Addr) (b : Bx) (st : Stmt) (δ : List (Option T)) (D : dP) : Prop :=
 ∀ (H Z : Hp) (σ : L2.St) (ts : List T) (vs : List V) (E : Ends), aU X.K CL b H Z δ σ ts vs -> Meets X.K CL b Z ts vs D E -> MQ X st E σ H
noncomputable def cU (X : Cx) (CL : Str -> Addr) (b : Bx) (st : List Stmt) (δ : List (Option T)) (D : dP) : Prop :=
 ∀ (H Z : Hp) (σ : L2.St) (ts : List T) (vs : List V) (E : Ends), aU X.K CL b H Z δ σ ts vs -> Meets X.K CL b Z ts vs D E -> Wu X st E σ H
section
variable {K : PySem.W.Frag} {CL : Str -> Addr} {b : Bx} {H H' Z Z' : Hp} {δ : List (Option T)} {σ : L2.St} {ts : List T} {vs : List V} {t : T} {v : V}
theorem Meets.mono {D : dP} {E : Ends} (M : Meets K CL b Z ts vs D E) (e : aC Z Z') : Meets K CL b Z' ts vs D E :=
 ⟨fun _ _ _ _ s => M.nx _ _ _ _ (e.trans s), fun _ _ _ _ _ _ s => M.rt _ _ _ _ _ _ (e.trans s), fun _ _ _ _ s => M.bk _ _ _ _ (e.trans s), fun _ _ _ _ s => M.ct _ _ _ _ (e.trans s)⟩
theorem HS {a : Addr} {xs : List V} (zh : ∀ a o, H a = some o -> mC o = true -> Z a = some o) (h : sF K H a xs) : sF K Z a xs := by
 rcases h with (h | ⟨o, h⟩) | h
 . exact .inl (.inl (zh _ _ h rfl))
 . exact .inl (.inr ⟨o, zh _ _ h rfl⟩)
 . exact .inr h
theorem bq.mw (zh : ∀ a o, H a = some o -> mC o = true -> Z a = some o) {d : D} {v : V} (k : d.mw = true) (h : bq K CL H d v) : bq K CL Z d v :=
 bq.rec (motive_1 := fun d v _ => d.mw = true -> bq K CL Z d v) (motive_2 := fun d v _ => D.bQ d = true -> aH K CL Z d v) (motive_3 := fun d v _ => True) (motive_4 := fun d v _ => True) (motive_5 := fun d v _ => True)
   (fun _ => .non) (fun b _ => .bl b) (fun b _ => .int b) (fun b _ => .str b) (fun _ k => by rw [D.mw] at k; cases k) (fun b _ => .val b) (fun h _ r k => .tup (HS zh h) (r (by rw [D.mw] at k; exact k))) (fun _ _ _ k => by rw [D.mw] at k; cases k) (fun _ _ _ k => by rw [D.mw] at k; cases k) (fun _ _ _ k => by rw [D.mw] at k; cases k) (fun _ _ _ k => by rw [D.mw] at k; cases k) (fun _ => .nil) (fun _ _ h r k => by rw [D.bQ, ahz] at k; exact .cons (h k.1) (r k.2)) trivial (fun _ _ _ _ => trivial) trivial (fun _ _ _ _ => trivial) trivial (fun _ _ _ _ => trivial) h k
theorem aH.mw (zh : ∀ a o, H a = some o -> mC o = true -> Z a = some o) {d : List D} {v : List V} (k : D.bQ d = true) (h : aH K CL H d v) : aH K CL Z d v :=
 aH.rec (motive_1 := fun d v _ => d.mw = true -> bq K CL Z d v) (motive_2 := fun d v _ => D.bQ d = true -> aH K CL Z d v) (motive_3 := fun d v _ => True) (motive_4 := fun d v _ => True) (motive_5 := fun d v _ => True)
   (fun _ => .non) (fun b _ => .bl b) (fun b _ => .int b) (fun b _ => .str b) (fun _ k => by rw [D.mw] at k; cases k) (fun b _ => .val b) (fun h _ r k => .tup (HS zh h) (r (by rw [D.mw] at k; exact k))) (fun _ _ _ k => by rw [D.mw] at k; cases k) (fun _ _ _ k => by rw [D.mw] at k; cases k) (fun _ _ _ k => by rw [D.mw] at k; cases k) (fun _ _ _ k => by rw [D.mw] at k; cases k) (fun _ => .nil) (fun _ _ h r k => by rw [D.bQ, ahz] at k; exact .cons (h k.1) (r k.2)) trivial (fun _ _ _ _ => trivial) trivial (fun _ _ _ _ => trivial) trivial (fun _ _ _ _ => trivial) h k
theorem cC.clean {Z1 : Hp} (zi : ∀ {d : D} {v : V}, d.mw = true -> bq K CL Z1 d v -> bq K CL Z d v) {kvs : List (Key × D)} {gs : List (Key × V)} (k : D.bQ (kvs.map (·.2)) = true) (h : cC K CL Z1 kvs gs) : cC K CL Z kvs gs :=
 cC.ind (P := fun kvs gs => D.bQ (kvs.map (·.2)) = true -> cC K CL Z kvs gs) (fun _ => .nil) (fun h _ i k => by rw [ahd, D.bQ, ahz] at k; exact .cons (zi k.1 h) (i k.2)) h k
theorem bu.clean {Z1 : Hp} (zh : ∀ a xs, Z1 a = some (.tup xs) -> Z a = some (.tup xs)) (zi : ∀ {d : D} {v : V}, d.mw = true -> bq K CL Z1 d v -> bq K CL Z d v) {t : T} {v : V} {fp : List Addr} (k : t.clean = true) (h : bu K CL H Z1 t v fp) : bu K CL H Z t v fp :=
 bu.rec (motive_1 := fun t v fp _ => t.clean = true -> bu K CL H Z t v fp) (motive_2 := fun t v fp _ => T.cK t = true -> aE K CL H Z t v fp) (motive_3 := fun t v fp _ => T.jq t = true -> cV K CL H Z t v fp) (motive_4 := fun t v fp _ => T.iA t = true -> cA K CL H Z t v fp)
   (fun h k => .sh (zi (by rw [T.clean] at k; exact k) h)) (fun h _ r k => .tup (zh _ _ h) (r (by rw [T.clean] at k; exact k))) (fun h _ r k => .lst h (r (by rw [T.clean] at k; exact k))) (fun h _ r k => .ins h (r (by rw [T.clean] at k; exact k))) (fun h f k => .rD h (cC.clean zi (by rw [T.clean] at k; exact k) f)) (fun h _ r k => .dct h (r (by rw [T.clean] at k; exact k))) (fun _ r k => .pin (r (by rw [T.clean] at k; exact k))) (fun _ => .nil) (fun _ _ h r k => by rw [T.cK, ahz] at k; exact .cons (h k.1) (r k.2)) (fun _ => .nil) (fun _ _ h r k => by rw [T.jq, ahz] at k; exact .cons (h k.1) (r k.2)) (fun _ => .nil) (fun _ _ h r k => by rw [T.iA, ahz] at k; exact .cons (h k.1) (r k.2)) h k
theorem aU.back {W W' : Hp} {fp : List Addr} (S : aU K CL b H Z δ σ ts vs) (hh : aC H H') (zw : aC Z W) (ww : aC W W') (wh : aC W' H') (new : ∀ a o, W' a = some o -> W a = none -> H a = none)
   (tp : ∀ a o, H' a = some o -> mC o = true -> W' a = some o) (r : bu K CL H' W' t v fp) (nd : fp.Nodup) (own : ∀ a ∈ fp, W' a = none /\ H a = none) (c : W = Z \/ t.clean = true) :
   ∃ Z', aC Z Z' /\ aU K CL b H' Z' δ σ (t :: ts) (v :: vs) := by
 classical
 let Z' : Hp := fun a => if (H a).isSome = true then Z a else W' a
 have zs : ∀ {a : Addr} {o : HO}, H a = some o -> Z' a = Z a := fun {a o} e => by
   show (if (H a).isSome = true then Z a else W' a) = Z a
   rw [ag9 (by rw [e]; rfl)]
 have zn : ∀ {a : Addr}, H a = none -> Z' a = W' a := fun {a} e => by
   show (if (H a).isSome = true then Z a else W' a) = W' a
   rw [ag2 (by rw [e]; simp)]
 have sz : aC Z Z' := fun a o q => by rw [zs (S.zh a o q)]; exact q
 have zw' : ∀ a o, Z' a = some o -> W' a = some o := fun a o q => by
   cases e : H a with
   | none => rw [zn e] at q; exact q
   | some u => rw [zs e] at q; exact ww a o (zw a o q)
 have ztp : ∀ a o, H' a = some o -> mC o = true -> Z' a = some o := fun a o q i => by
   cases e : H a with
   | none => rw [zn e]; exact tp a o q i
   | some u =>
     rw [zs e]
     have := hh a u e
     rw [q] at this; cases this
     exact S.tp a o e i
 have r' : bu K CL H' Z' t v fp := by
   rcases c with c | c
   . have : Z' = W' := by
       funext a
       cases e : H a with
       | none => exact zn e
       | some u =>
         rw [zs e]
         cases q : W' a with
         | none =>
           cases q2 : Z a with
           | none => rfl
           | some o => rw [ww a o (zw a o q2)] at q; cases q
         | some o =>
           cases q2 : W a with
           | none => rw [new a o q q2] at e; cases e
           | some o2 =>
             have := ww a o2 q2
             rw [q] at this; cases this
             rw [← c]; exact q2
     rw [this]; exact r
   . refine bu.clean (fun a xs h => ?_) (fun {d v} k h => ?_) c r
     . exact ztp a _ (wh a _ h) rfl
     . exact bq.mw (H := H') ztp k (h.mono wh)
 obtain ⟨f0, g0, e0, r0, ZY, k0⟩ := S.rep
 have old : ∀ a ∈ f0 ++ g0, ∃ o, H a = some o := fun a ha => (ag0.mp ha).elim (e0.there a) (r0.there a)
 have keep : ∀ a ∈ f0 ++ g0, H' a = H a := fun a ha => by
   obtain ⟨o, e⟩ := old a ha
   rw [e]; exact hh a o e
 refine ⟨Z', sz, ⟨⟨f0, fp ++ g0, e0.mono sz (fun a ha => keep a (agX _ ha)), .cons r' (r0.mono sz fun a ha => keep a (agS _ ha)), ?_, fun a ha => ?_⟩, S.bh.trans hh, S.zz.trans sz, fun a o q => wh a o (zw' a o q), fun a o q z => ?_, ztp, S.tab⟩⟩
 . have hp : (f0 ++ (fp ++ g0)).Perm (fp ++ (f0 ++ g0)) := by
     rw [← agT, ← agT]
     exact ahl.append_right g0
   refine hp.nodup_iff.mpr (aht.mpr ⟨nd, ZY, fun a ha c hc e => ?_⟩)
   subst e
   obtain ⟨o, q⟩ := old a hc
   rw [(own a ha).2] at q; cases q
 . have : a ∈ f0 ++ g0 \/ a ∈ fp := by
     simp only [ag0] at ha ⊢
     rcases ha with h | h | h
     . exact .inl (.inl h)
     . exact .inr h
     . exact .inl (.inr h)
   rcases this with h | h
   . obtain ⟨o, q⟩ := old a h
     exact ⟨by rw [zs q]; exact (k0 a h).1, (k0 a h).2⟩
   . exact ⟨by rw [zn (own a h).2]; exact (own a h).1, S.bh.free (own a h).2⟩
 . cases e : H a with
   | none => exact S.bh.free e
   | some u => rw [zs e] at q; exact S.new a o q z
end
section
variable {X : Cx} {CL : Str -> Addr} {b : Bx} {δ δ1 δ2 : List (Option T)} {e e1 e2 : Expr} {t : T} {d d1 d2 : D} {pos : Pos}
theorem Vg (h : bV X CL b e δ t δ1) : dH X CL b e δ t.bS δ1 := fun H Z σ ts vs Q S k => h H Z σ ts vs Q S fun v H' Z' z s S' => k v H' Z' z s S'.pop S'.view
theorem ai (h : bV X CL b e δ (.sh d) δ1) : dH X CL b e δ d δ1 := by have := Vg h; rwa [T.bS] at this
theorem cE (h : dH X CL b e δ d δ1) (i : d.mw = true) : bV X CL b e δ (.sh d) δ1 := fun H Z σ ts vs Q S k => h H Z σ ts vs Q S fun v H' Z' z s S' r => k v H' Z' z s (S'.push (bq.mw S'.tp i r))
theorem FY (h : bV X CL b e δ t δ1) : bV X CL b e δ (.sh t.bS) δ1 := fun H Z σ ts vs Q S k => h H Z σ ts vs Q S fun v H' Z' z s S' => by
 obtain ⟨Z2, z2, S2⟩ := S'.Cd
 exact k v H' Z2 (z.trans z2) s S2
theorem aj {i : Int} {j : Nat} : bV X CL b (.Constant (.int i) j pos) δ (.sh (.int i)) δ := fun H Z σ ts vs Q S k => bU Fv (k _ _ Z (.refl _) (.refl _) (S.push (.int i)))
theorem MT {i : Bool} {j : Nat} : bV X CL b (.Constant (.bool i) j pos) δ (.sh (.bl i)) δ := fun H Z σ ts vs Q S k => bU Zf (k _ _ Z (.refl _) (.refl _) (S.push (.bl i)))
theorem aY {x : Str} {j : Nat} : bV X CL b (.Constant (.str x) j pos) δ (.sh (.str x)) δ := fun H Z σ ts vs Q S k => bU VR (k _ _ Z (.refl _) (.refl _) (S.push (.str x)))
section
variable (i : Nat) {x : Str} (hi : X.N[i]? = some x := by rfl) (hv : U4 X.env.scope x := by first | exact Or.inl rfl | exact Or.inr (Or.inl rfl) | exact Or.inr (Or.inr rfl)) (hd : (x == ("__debug__" : Str)) = false := by decide) (mS : (x == ("__classdict__" : Str)) = false := by decide)
include hi hv hd mS
theorem Ww (h : δ[i]? = some (some (.sh d)) := by rfl) : bV X CL b (.Name x pos) δ (.sh d) δ := fun H Z σ ts vs Q S k => by
 obtain ⟨v, e, r⟩ := S.HR h
 exact bU (fW hi hv hd mS) ⟨v, e, k v H Z (.refl _) (.refl _) (S.push r)⟩
theorem Rg (h : δ[i]? = some (some t) := by rfl) : bV X CL b (.Name x pos) δ t (δ.set i none) := fun H Z σ ts vs Q S k => by
 obtain ⟨v, e, S'⟩ := S.move h
 exact bU (fW hi hv hd mS) ⟨v, e, k v H Z (.refl _) (.refl _) S'⟩
theorem Wx (h : δ[i]? = some (some t) := by rfl) : dH X CL b (.Name x pos) δ t.bS δ := fun H Z σ ts vs Q S k => by
 obtain ⟨v, e, r⟩ := S.look h
 exact bU (fW hi hv hd mS) ⟨v, e, k v H Z (.refl _) (.refl _) S r⟩
end
noncomputable def Qs : D -> Option V
 | .non => some .non
 | .bl b => some (.bl b)
 | .int i => some (.int i)
 | .str x => some (.str x)
 | _ => none
theorem bq.sc {K : PySem.W.Frag} {Z : Hp} {d : D} {v w : V} (r : bq K CL Z d v) (h : Qs d = some w) : v = w := by
 cases r <;> first | (exact ahg h) | (cases h)
theorem HV {K : PySem.W.Frag} {Z : Hp} {d : D} {w : V} (h : Qs d = some w) : bq K CL Z d w := by
 cases d <;> first | (cases h; constructor) | (cases h)
theorem qz {op : Operator} {r : R2} {w1 w2 w : V} (ho : u6 X (binaryOp op) r) (h1 : dH X CL b e1 δ d1 δ1) (h2 : dH X CL b e2 δ1 d2 δ2) (s1 : Qs d1 = some w1) (s2 : Qs d2 = some w2) (s3 : Qs d = some w)
   (hr : ∀ (H : Hp) (Q : VK), Q w H -> r w1 w2 H Q) : bV X CL b (.BinOp e1 op e2 pos) δ (.sh d) δ2 := fun H Z σ ts vs Q S k => by
 refine bU (Hv ho cI cI) (h1 H Z σ ts vs _ S fun v1 H1 Z1 z1 k1 S1 r1 => h2 H1 Z1 σ ts vs _ S1 fun v2 H2 Z2 z2 k2 S2 r2 => ?_)
 rw [r1.sc s1, r2.sc s2]
 exact hr H2 Q (k w H2 Z2 (z1.trans z2) (k1.trans k2) (S2.push (HV s3)))
theorem k9 {i j : Int} (h1 : dH X CL b e1 δ (.int i) δ1) (h2 : dH X CL b e2 δ1 (.int j) δ2) : bV X CL b (.BinOp e1 .Add e2 pos) δ (.sh (.int (i + j))) δ2 := qz Mj h1 h2 rfl rfl rfl fun _ _ q => ⟨i, j, rfl, rfl, q⟩
theorem Ce {i j : Int} (h1 : dH X CL b e1 δ (.int i) δ1) (h2 : dH X CL b e2 δ1 (.int j) δ2) : bV X CL b (.BinOp e1 .Sub e2 pos) δ (.sh (.int (i - j))) δ2 := qz Ml h1 h2 rfl rfl rfl fun _ _ q => ⟨i, j, rfl, rfl, q⟩
theorem MV {i j : Int} (h1 : dH X CL b e1 δ (.int i) δ1) (h2 : dH X CL b e2 δ1 (.int j) δ2) (c : QS i j) : bV X CL b (.BinOp e1 .Mult e2 pos) δ (.sh (.int (i * j))) δ2 := qz Wb h1 h2 rfl rfl rfl fun _ _ q => ⟨i, j, rfl, rfl, c, q⟩
theorem oY {i j : Int} (h1 : dH X CL b e1 δ (.int i) δ1) (h2 : dH X CL b e2 δ1 (.int j) δ2) (c : 0 < j) : bV X CL b (.BinOp e1 .Mod e2 pos) δ (.sh (.int (i % j))) δ2 := qz Wc h1 h2 rfl rfl rfl fun _ _ q => ⟨i, j, rfl, rfl, c, q⟩
theorem Rh {i j : Int} (h1 : dH X CL b e1 δ (.int i) δ1) (h2 : dH X CL b e2 δ1 (.int j) δ2) (c : Zv i j) : bV X CL b (.BinOp e1 .FloorDiv e2 pos) δ (.sh (.int (i / j))) δ2 := qz QT h1 h2 rfl rfl rfl fun _ _ q => ⟨i, j, rfl, rfl, c, q⟩
theorem sY {i j : Int} (h1 : dH X CL b e1 δ (.int i) δ1) (h2 : dH X CL b e2 δ1 (.int j) δ2) (c : Zw i j) : bV X CL b (.BinOp e1 .Pow e2 pos) δ (.sh (.int (i ^ j.toNat))) δ2 := qz Wd h1 h2 rfl rfl rfl fun _ _ q => ⟨i, j, rfl, rfl, c, q⟩
theorem Wy {x y : Str} (h1 : dH X CL b e1 δ (.str x) δ1) (h2 : dH X CL b e2 δ1 (.str y) δ2) (c : x.length + y.length <= sizeLine) : bV X CL b (.BinOp e1 .Add e2 pos) δ (.sh (.str (x ++ y))) δ2 := qz yi h1 h2 rfl rfl rfl fun _ _ q => ⟨x, y, rfl, rfl, c, q⟩
theorem Bt {op : CmpOp} {r : R2} {p : Bool} {w1 w2 : V} (ho : u6 X (compareOp op) r) (h1 : dH X CL b e1 δ d1 δ1) (h2 : dH X CL b e2 δ1 d2 δ2) (s1 : Qs d1 = some w1) (s2 : Qs d2 = some w2)
   (hr : ∀ (H : Hp) (Q : VK), Q (.bl p) H -> r w1 w2 H Q) (hm : behindInMarks op e2 = false) : vo X CL b (.Compare e1 [op] [e2] pos) δ p δ2 /\ bV X CL b (.Compare e1 [op] [e2] pos) δ (.sh (.bl p)) δ2 := by
 constructor
 . intro H Z σ ts vs Q S k
   refine Ay (tZ ho cI cI hm) (h1 H Z σ ts vs _ S fun v1 H1 Z1 z1 k1 S1 r1 => h2 H1 Z1 σ ts vs _ S1 fun v2 H2 Z2 z2 k2 S2 r2 => ?_)
   rw [r1.sc s1, r2.sc s2]
   exact hr H2 _ ⟨p, rfl, k H2 Z2 (z1.trans z2) (k1.trans k2) S2⟩
 . intro H Z σ ts vs Q S k
   refine bU (xq ho cI cI hm) (h1 H Z σ ts vs _ S fun v1 H1 Z1 z1 k1 S1 r1 => h2 H1 Z1 σ ts vs _ S1 fun v2 H2 Z2 z2 k2 S2 r2 => ?_)
   rw [r1.sc s1, r2.sc s2]
   exact hr H2 _ (k _ H2 Z2 (z1.trans z2) (k1.trans k2) (S2.push (.bl p)))
theorem FZ {i j : Int} (h1 : dH X CL b e1 δ (.int i) δ1) (h2 : dH X CL b e2 δ1 (.int j) δ2) : vo X CL b (.Compare e1 [.Eq] [e2] pos) δ (decide (i = j)) δ2 /\ bV X CL b (.Compare e1 [.Eq] [e2] pos) δ (.sh (.bl (decide (i = j)))) δ2 :=
 Bt Mp h1 h2 rfl rfl (fun _ _ q => ⟨rfl, by rw [show decide (V.int i = V.int j) = decide (i = j) by simp]; exact q⟩) (k7 _)
theorem Cg {i j : Int} (h1 : dH X CL b e1 δ (.int i) δ1) (h2 : dH X CL b e2 δ1 (.int j) δ2) : vo X CL b (.Compare e1 [.NotEq] [e2] pos) δ (!decide (i = j)) δ2 /\ bV X CL b (.Compare e1 [.NotEq] [e2] pos) δ (.sh (.bl (!decide (i = j)))) δ2 :=
 Bt Zy h1 h2 rfl rfl (fun _ _ q => ⟨rfl, by rw [show decide (V.int i = V.int j) = decide (i = j) by simp]; exact q⟩) (k7 _)
theorem cL {i j : Str} (h1 : dH X CL b e1 δ (.str i) δ1) (h2 : dH X CL b e2 δ1 (.str j) δ2) : vo X CL b (.Compare e1 [.Eq] [e2] pos) δ (decide (i = j)) δ2 /\ bV X CL b (.Compare e1 [.Eq] [e2] pos) δ (.sh (.bl (decide (i = j)))) δ2 :=
 Bt Mp h1 h2 rfl rfl (fun _ _ q => ⟨rfl, by rw [show decide (V.str i = V.str j) = decide (i = j) by simp]; exact q⟩) (k7 _)
theorem wu {i j : Int} (h1 : dH X CL b e1 δ (.int i) δ1) (h2 : dH X CL b e2 δ1 (.int j) δ2) : vo X CL b (.Compare e1 [.Lt] [e2] pos) δ (decide (i < j)) δ2 /\ bV X CL b (.Compare e1 [.Lt] [e2] pos) δ (.sh (.bl (decide (i < j)))) δ2 := Bt Zz h1 h2 rfl rfl (fun _ _ q => ⟨i, j, rfl, rfl, q⟩) (k7 _)
theorem Vh {i j : Int} (h1 : dH X CL b e1 δ (.int i) δ1) (h2 : dH X CL b e2 δ1 (.int j) δ2) : vo X CL b (.Compare e1 [.LtE] [e2] pos) δ (decide (i <= j)) δ2 /\ bV X CL b (.Compare e1 [.LtE] [e2] pos) δ (.sh (.bl (decide (i <= j)))) δ2 := Bt ZC h1 h2 rfl rfl (fun _ _ q => ⟨i, j, rfl, rfl, q⟩) (k7 _)
theorem ZZ {i j : Int} (h1 : dH X CL b e1 δ (.int i) δ1) (h2 : dH X CL b e2 δ1 (.int j) δ2) : vo X CL b (.Compare e1 [.Gt] [e2] pos) δ (decide (j < i)) δ2 /\ bV X CL b (.Compare e1 [.Gt] [e2] pos) δ (.sh (.bl (decide (j < i)))) δ2 := Bt ZD h1 h2 rfl rfl (fun _ _ q => ⟨i, j, rfl, rfl, q⟩) (k7 _)
end
section
variable {K : PySem.W.Frag} {CL : Str -> Addr} {H Z : Hp}
theorem aE.split : ∀ {as bs : List T} {us ws : List V} {gp : List Addr}, as.length = us.length -> aE K CL H Z (as ++ bs) (us ++ ws) gp -> ∃ g1 g2, gp = g1 ++ g2 /\ aE K CL H Z as us g1 /\ aE K CL H Z bs ws g2
 | [], _, [], _, gp, _, r => ⟨[], gp, rfl, .nil, r⟩
 | [], _, _ :: _, _, _, h, _ => by simp at h
 | _ :: _, _, [], _, _, h, _ => by simp at h
 | a :: as, bs, u :: us, ws, gp, h, r => by
   cases r with
   | @cons _ _ _ _ f1 f2 r1 r2 =>
     obtain ⟨g1, g2, e, h1, h2⟩ := aE.split (as := as) (us := us) (by simpa using h) r2
     exact ⟨f1 ++ g1, g2, by rw [e, agT], .cons r1 h1, h2⟩
theorem aE.app {as bs : List T} {us ws : List V} {g1 g2 : List Addr} (h : aE K CL H Z as us g1) (q : aE K CL H Z bs ws g2) : aE K CL H Z (as ++ bs) (us ++ ws) (g1 ++ g2) :=
 aE.ind (P := fun as us g1 => aE K CL H Z (as ++ bs) (us ++ ws) (g1 ++ g2)) q (fun r _ i => by rw [agT]; exact .cons r i) h
theorem aE.rev : ∀ {as : List T} {us : List V} {g : List Addr}, aE K CL H Z as.reverse us.reverse g -> ∃ g', aE K CL H Z as us g' /\ g'.Perm g
 | [], [], g, r => by
   have r' : aE K CL H Z [] [] g := r
   cases r'
   exact ⟨[], .nil, aiN _⟩
 | [], u :: us, g, r => by have := r.length; simp at this
 | a :: as, [], g, r => by have := r.length; simp at this
 | a :: as, u :: us, g, r => by
   rw [ahD, ahD] at r
   have hl := r.length
   obtain ⟨g1, g2, e, r1, r2⟩ := aE.split (by simp at hl ⊢; omega) r
   subst e
   obtain ⟨g', r', p⟩ := aE.rev r1
   cases r2 with
   | @cons _ _ _ _ f1 f2 q1 q2 =>
     cases q2
     refine ⟨f1 ++ g', .cons q1 r', ?_⟩
     rw [ag3]
     exact (ahA f1 p).trans ahl
theorem aE.ofF : ∀ {ds : List D} {us : List V}, aH K CL Z ds us -> aE K CL H Z (ds.map T.sh) us []
 | _, _, .nil => .nil
 | _, _, .cons r t => .cons (fp := []) (gp := []) (.sh r) (aE.ofF t)
theorem aE.toF : ∀ {ds : List D} {us : List V} {g : List Addr}, aE K CL H Z (ds.map T.sh) us g -> aH K CL Z ds us /\ g = []
 | [], _, _, r => by
   have r' : aE K CL H Z [] _ _ := r
   cases r'
   exact ⟨.nil, rfl⟩
 | d :: ds, _, _, r => by
   have r' : aE K CL H Z (T.sh d :: ds.map T.sh) _ _ := r
   cases r' with
   | cons r1 r2 =>
     cases r1 with
     | sh h =>
       obtain ⟨q, e⟩ := aE.toF r2
       exact ⟨.cons h q, by rw [e]; rfl⟩
theorem iB : ∀ (ds : List D), T.jn (ds.map T.sh) = ds
 | [] => rfl
 | d :: ds => by rw [ahd, T.jn, iB ds, T.bS]
end
section
variable {K : PySem.W.Frag} {CL : Str -> Addr} {b : Bx} {H Z : Hp} {δ : List (Option T)} {σ : L2.St} {ts tl : List T} {vs us : List V}
theorem aU.Ci {p : Addr} (S : aU K CL b H Z δ σ (tl.reverse ++ ts) (us.reverse ++ vs)) (hl : us.length = tl.length) (hp : H p = none) :
   aC Z (upd Z p (.tup us)) /\ aC H (upd H p (.tup us)) /\ aU K CL b (upd H p (.tup us)) (upd Z p (.tup us)) δ σ (.tup tl :: ts) (.ref p :: vs) := by
 obtain ⟨fp, gp, e, r, nd, k⟩ := S.rep
 obtain ⟨g1, g2, eg, r1, r2⟩ := aE.split (by simp [hl]) r
 subst eg
 obtain ⟨g', r', pm⟩ := r1.rev
 have zp : Z p = none := S.zh.free hp
 have sz : aC Z (upd Z p (.tup us)) := aC.upd zp
 have sh : aC H (upd H p (.tup us)) := aC.upd hp
 have keep : ∀ a ∈ fp ++ (g1 ++ g2), a ≠ p := fun a ha => by
   have : ∃ o, H a = some o := by
     rcases ag0.mp ha with h | h
     . exact e.there a h
     . exact r.there a h
   obtain ⟨o, q⟩ := this
   exact bO q hp
 have HW : (fp ++ (g' ++ g2)).Perm (fp ++ (g1 ++ g2)) := (pm.append_right g2).append_left fp
 have kk : ∀ a ∈ fp ++ (g' ++ g2), a ≠ p := fun a ha => keep a (HW.mem_iff.mp ha)
 refine ⟨sz, sh, ⟨⟨fp, g' ++ g2, e.mono sz (fun a ha => aq (keep a (agX _ ha))), .cons (.tup aI (r'.mono sz fun a ha => aq (kk a (by simp [ha])))) (r2.mono sz fun a ha => aq (keep a (by simp [ha]))), HW.nodup_iff.mpr nd, fun a ha => ?_⟩, S.bh.trans sh, S.zz.trans sz, fun a o q => ?_, fun a o q z => ?_, fun a o q i => ?_, S.tab⟩⟩
 . exact ⟨by rw [aq (kk a ha)]; exact (k a (HW.mem_iff.mp ha)).1, (k a (HW.mem_iff.mp ha)).2⟩
 . by_cases ha : a = p
   . subst ha; rw [aI] at q ⊢; exact q
   . rw [aq ha] at q ⊢; exact S.zh a o q
 . by_cases ha : a = p
   . subst ha; exact S.bh.free hp
   . rw [aq ha] at q; exact S.new a o q z
 . by_cases ha : a = p
   . subst ha; rw [aI] at q ⊢; exact q
   . rw [aq ha] at q ⊢; exact S.tp a o q i
theorem aU.lg {p : Addr} {g0 : List Addr} (S : aU K CL b H Z δ σ (tl.reverse ++ ts) (us.reverse ++ vs)) (hl : us.length = tl.length) (hp : H p = none) :
   aC H (upd H p (.lst us)) /\ aU K CL b (upd H p (.lst us)) Z δ σ (.lst tl :: ts) (.ref p :: vs) := by
 obtain ⟨fp, gp, e, r, nd, k⟩ := S.rep
 obtain ⟨g1, g2, eg, r1, r2⟩ := aE.split (by simp [hl]) r
 subst eg
 obtain ⟨g', r', pm⟩ := r1.rev
 have zp : Z p = none := S.zh.free hp
 have sh : aC H (upd H p (.lst us)) := aC.upd hp
 have keep : ∀ a ∈ fp ++ (g1 ++ g2), a ≠ p := fun a ha => by
   have : ∃ o, H a = some o := by
     rcases ag0.mp ha with h | h
     . exact e.there a h
     . exact r.there a h
   obtain ⟨o, q⟩ := this
   exact bO q hp
 have HW : (fp ++ (g' ++ g2)).Perm (fp ++ (g1 ++ g2)) := (pm.append_right g2).append_left fp
 have kk : ∀ a ∈ fp ++ (g' ++ g2), a ≠ p := fun a ha => keep a (HW.mem_iff.mp ha)
 have pm3 : (fp ++ ((p :: g') ++ g2)).Perm (p :: (fp ++ (g' ++ g2))) := by
   rw [ahi]; exact ahX
 refine ⟨sh, ⟨⟨fp, (p :: g') ++ g2, e.mono (.refl _) (fun a ha => aq (keep a (agX _ ha))), .cons (.lst aI (r'.mono (.refl _) fun a ha => aq (kk a (by simp [ha])))) (r2.mono (.refl _) fun a ha => aq (keep a (by simp [ha]))), ?_, fun a ha => ?_⟩, S.bh.trans sh, S.zz, S.zh.trans sh, S.new, fun a o q i => ?_, S.tab⟩⟩
 . refine pm3.nodup_iff.mpr (ahE.mpr ⟨fun h => kk p h rfl, HW.nodup_iff.mpr nd⟩)
 . rcases ag4.mp (pm3.mem_iff.mp ha) with h | h
   . subst h; exact ⟨zp, S.bh.free hp⟩
   . exact k a (HW.mem_iff.mp h)
 . by_cases ha : a = p
   . subst ha; rw [aI] at q; cases q; cases i
   . rw [aq ha] at q; exact S.tp a o q i
end
section
variable {X : Cx} {CL : Str -> Addr} {b : Bx} {δ δ1 δ2 : List (Option T)} {e e1 e2 : Expr} {es : List Expr} {t : T} {d : D} {tl : List T} {ds : List D} {p q : Bool} {pos : Pos}
theorem bF : Ec X CL b [] δ [] δ := fun H Z σ ts vs Q S k => Cb c6 (k [] H Z rfl (.refl _) (.refl _) S)
theorem aT (h1 : bV X CL b e δ t δ1) (h2 : Ec X CL b es δ1 tl δ2) (hs : starEach (e :: es) X.env = (false, eval e X.env) :: starEach es X.env := by exact aP rfl) : Ec X CL b (e :: es) δ (t :: tl) δ2 := fun H Z σ ts vs Q S k =>
 Cb (bD cI Bs hs) (h1 H Z σ ts vs _ S fun v H1 Z1 z1 k1 S1 => h2 H1 Z1 σ _ _ _ S1 fun us H2 Z2 hl z2 k2 S2 => k (v :: us) H2 Z2 (by simp [hl]) (z1.trans z2) (k1.trans k2) (by
   rw [ahD, ahD, agT, agT]
   exact S2))
theorem b7 : Ka X CL b [] δ [] δ := fun H Z σ ts vs Q S k => Cb c6 (k [] H Z (.refl _) (.refl _) S .nil)
theorem aA (h1 : dH X CL b e δ d δ1) (h2 : Ka X CL b es δ1 ds δ2) (hs : starEach (e :: es) X.env = (false, eval e X.env) :: starEach es X.env := by exact aP rfl) : Ka X CL b (e :: es) δ (d :: ds) δ2 := fun H Z σ ts vs Q S k =>
 Cb (bD cI Bs hs) (h1 H Z σ ts vs _ S fun v H1 Z1 z1 k1 S1 r1 => h2 H1 Z1 σ _ _ _ S1 fun us H2 Z2 z2 k2 S2 r2 => k (v :: us) H2 Z2 (z1.trans z2) (k1.trans k2) S2 (.cons (r1.mono k2) r2))
theorem sZ {j : Nat} (h : Ec X CL b es δ tl δ1) (hl : tl.length <= sizeLine) : bV X CL b (.Tuple es j pos) δ (.tup tl) δ1 := fun H Z σ ts vs Q S k =>
 bU (Mu Bs) (h H Z σ ts vs _ S fun us H1 Z1 hu z1 k1 S1 => ⟨by rw [hu]; exact hl, fun p hp => by
   obtain ⟨a, c, S2⟩ := S1.Ci hu hp
   exact k _ _ _ (z1.trans a) (k1.trans c) S2⟩)
theorem bL {j : Nat} (h : Ec X CL b es δ (ds.map T.sh) δ1) (hl : ds.length <= sizeLine) : bV X CL b (.Tuple es j pos) δ (.sh (.tup ds)) δ1 := by
 have := FY (sZ (pos := pos) (j := j) h (by simpa using hl))
 rwa [T.bS, iB] at this
theorem c7 (h : Ec X CL b es δ tl δ1) (hl : tl.length <= sizeLine) : bV X CL b (.List es pos) δ (.lst tl) δ1 := fun H Z σ ts vs Q S k =>
 bU (Mv Bs) (h H Z σ ts vs _ S fun us H1 Z1 hu z1 k1 S1 => ⟨by rw [hu]; exact hl, fun p hp => by
   obtain ⟨c, S2⟩ := S1.lg (g0 := []) hu hp
   exact k _ _ _ z1 (k1.trans c) S2⟩)
theorem ud (h : bV X CL b e δ (.sh (.bl p)) δ1) (he : ∀ whole, isTrue e X.env whole = (do let v ← whole; standAt e.pos; holding [v] (truthy v)) := by intro _; rfl) : vo X CL b e δ p δ1 := fun H Z σ ts vs Q S k =>
 Ay (L1 cI he) (h H Z σ ts vs _ S fun v H1 Z1 z1 k1 S1 => ⟨p, by have := S1.view; rw [T.bS] at this; exact this.sc rfl, k H1 Z1 z1 k1 S1.pop⟩)
theorem vp (h : vo X CL b e δ p δ1) : vo X CL b (.UnaryOp .Not e pos) δ (!p) δ1 := fun H Z σ ts vs Q S k => Ay (L4 Rc) (h H Z σ ts vs _ S fun H1 Z1 z1 k1 S1 => k H1 Z1 z1 k1 S1)
noncomputable def Wz (X : Cx) (e : Expr) : TT := fun σ H Q => ∀ (whole : Sem Value) (pins : List (Addr × Obj)) (s : Shared), Inv X pins σ H s -> wpAny (model X.prog X.w) X.A (isTrue e X.env whole) (TP X pins σ Q) X.xe s
theorem pwS {e : Expr} : PW X e (Wz X e) := fun whole pins s _ _ _ I h => h whole pins s I
noncomputable def WB (X : Cx) (CL : Str -> Addr) (b : Bx) (e : Expr) (δ : List (Option T)) (p : Bool) (δ' : List (Option T)) : Prop :=
 ∀ (H Z : Hp) (σ : L2.St) (ts : List T) (vs : List V) (Q : Bool -> Hp -> Prop), aU X.K CL b H Z δ σ ts vs -> (∀ H' Z', aC Z Z' -> aC H H' -> aU X.K CL b H' Z' δ' σ ts vs -> Q p H') -> Wz X e σ H Q
theorem Ri {t : TT} (h : PW X e t) {σ : L2.St} {H : Hp} {Q : Bool -> Hp -> Prop} (q : t σ H Q) : Wz X e σ H Q := fun whole pins s I => h whole pins s σ H Q I q
theorem Kd (h : WB X CL b e δ p δ1) : vo X CL b e δ p δ1 := fun H Z σ ts vs Q S k pins s I => h H Z σ ts vs Q S k _ pins s I
theorem HX (h : vo X CL b e δ p δ1) : WB X CL b (.BoolOp .And [e] pos) δ p δ1 := fun H Z σ ts vs Q S k => Ri (QK Rc) (h H Z σ ts vs _ S k)
theorem Cj (h : vo X CL b e δ p δ1) : WB X CL b (.BoolOp .Or [e] pos) δ p δ1 := fun H Z σ ts vs Q S k => Ri (VW Rc) (h H Z σ ts vs _ S k)
theorem MX (h : vo X CL b e δ p δ1) (h2 : p = true -> WB X CL b (.BoolOp .And (e2 :: es) pos) δ1 q δ1) : WB X CL b (.BoolOp .And (e :: e2 :: es) pos) δ (p && q) δ1 := fun H Z σ ts vs Q S k =>
 Ri (VX Rc pwS) (h H Z σ ts vs _ S fun H1 Z1 z1 k1 S1 => by
   cases p with
   | true => exact J2 (h2 rfl H1 Z1 σ ts vs _ S1 fun H2 Z2 z2 k2 S2 => k H2 Z2 (z1.trans z2) (k1.trans k2) S2)
   | false => exact J1 (k H1 Z1 z1 k1 S1))
theorem sI (h : vo X CL b e δ p δ1) (h2 : p = false -> WB X CL b (.BoolOp .Or (e2 :: es) pos) δ1 q δ1) : WB X CL b (.BoolOp .Or (e :: e2 :: es) pos) δ (p || q) δ1 := fun H Z σ ts vs Q S k =>
 Ri (Zg Rc pwS) (h H Z σ ts vs _ S fun H1 Z1 z1 k1 S1 => by
   cases p with
   | true => exact J2 (k H1 Z1 z1 k1 S1)
   | false => exact J1 (h2 rfl H1 Z1 σ ts vs _ S1 fun H2 Z2 z2 k2 S2 => k H2 Z2 (z1.trans z2) (k1.trans k2) S2))
theorem vq {op : BoolOp} (h : bV X CL b e δ t δ1) : bV X CL b (.BoolOp op [e] pos) δ t δ1 := fun H Z σ ts vs Q S k => bU (VY cI) (h H Z σ ts vs _ S k)
theorem qA (h : bV X CL b e δ (.sh (.bl p)) δ1) (h2 : p = true -> bV X CL b (.BoolOp .And (e2 :: es) pos) δ1 (.sh (.bl q)) δ1) : bV X CL b (.BoolOp .And (e :: e2 :: es) pos) δ (.sh (.bl (p && q))) δ1 := fun H Z σ ts vs Q S k =>
 bU (VZ cI cI) (h H Z σ ts vs _ S fun v H1 Z1 z1 k1 S1 => by
   have hv : v = .bl p := by have := S1.view; rw [T.bS] at this; exact this.sc rfl
   refine ⟨p, hv, ?_⟩
   cases p with
   | true => exact J2 (h2 rfl H1 Z1 σ ts vs _ S1.pop fun v H2 Z2 z2 k2 S2 => k v H2 Z2 (z1.trans z2) (k1.trans k2) S2)
   | false => exact J1 (k _ H1 Z1 z1 k1 (S1.pop.push (.bl false))))
theorem uf {K : PySem.W.Frag} {Z : Hp} {vs : List V} {k : Int} (r : aH K CL Z ds vs) (h : An ds k = some d) : ∃ v, An vs k = some v /\ bq K CL Z d v := by
 unfold An at h ⊢
 rw [← r.length]
 cases e : FL ds.length k with
 | none => rw [e] at h; cases h
 | some j =>
   rw [e] at h
   exact r.get h
theorem aM {k : Int} (h1 : dH X CL b e1 δ (.tup ds) δ1) (h2 : dH X CL b e2 δ1 (.int k) δ2) (hk : An ds k = some d) (hs : oU e2 := by exact fun _ _ => rfl) : dH X CL b (.Subscript e1 e2 pos) δ d δ2 := fun H Z σ ts vs Q S kk =>
 bU (yo FN cI cI hs) (h1 H Z σ ts vs _ S fun v1 H1 Z1 z1 k1 S1 r1 => h2 H1 Z1 σ ts vs _ S1 fun v2 H2 Z2 z2 k2 S2 r2 => by
   have WC := r1.mono k2
   cases WC with
   | tup hq rr =>
     obtain ⟨v, hv, rv⟩ := uf rr hk
     exact ⟨_, _, k, v, rfl, r2.sc rfl, hq, hv, kk v H2 Z2 (z1.trans z2) (k1.trans k2) S2 rv⟩)
theorem eY {k : Int} (h1 : dH X CL b e1 δ (.lst ds) δ1) (h2 : dH X CL b e2 δ1 (.int k) δ2) (hk : An ds k = some d) (hs : oU e2 := by exact fun _ _ => rfl) : dH X CL b (.Subscript e1 e2 pos) δ d δ2 := fun H Z σ ts vs Q S kk =>
 bU (yo xx cI cI hs) (h1 H Z σ ts vs _ S fun v1 H1 Z1 z1 k1 S1 r1 => h2 H1 Z1 σ ts vs _ S1 fun v2 H2 Z2 z2 k2 S2 r2 => by
   have WC := r1.mono k2
   cases WC with
   | lst hq rr =>
     obtain ⟨v, hv, rv⟩ := uf rr hk
     exact ⟨_, _, k, v, rfl, r2.sc rfl, hq, hv, kk v H2 Z2 (z1.trans z2) (k1.trans k2) S2 rv⟩)
theorem yr {k : Int} (h1 : bV X CL b e1 δ (.sh (.tup ds)) δ1) (h2 : dH X CL b e2 δ1 (.int k) δ2) (hk : An ds k = some d) (hs : oU e2 := by exact fun _ _ => rfl) : bV X CL b (.Subscript e1 e2 pos) δ (.sh d) δ2 := fun H Z σ ts vs Q S kk =>
 bU (yo FN cI cI hs) (h1 H Z σ ts vs _ S fun v1 H1 Z1 z1 k1 S1 => h2 H1 Z1 σ _ _ _ S1 fun v2 H2 Z2 z2 k2 S2 r2 => by
   obtain ⟨fp, gp, _, r, _, _⟩ := S2.rep
   cases r with
   | cons r _ =>
     cases r with
     | sh r =>
       cases r with
       | tup hq rr =>
         obtain ⟨v, hv, rv⟩ := uf rr hk
         exact ⟨_, _, k, v, rfl, r2.sc rfl, aC.HP S2.zh hq, hv, kk v H2 Z2 (z1.trans z2) (k1.trans k2) (S2.pop.push rv)⟩)
theorem WD {k : Int} (h1 : bV X CL b e1 δ (.sh (.lst ds)) δ1) (h2 : dH X CL b e2 δ1 (.int k) δ2) (hk : An ds k = some d) (hs : oU e2 := by exact fun _ _ => rfl) : bV X CL b (.Subscript e1 e2 pos) δ (.sh d) δ2 := fun H Z σ ts vs Q S kk =>
 bU (yo xx cI cI hs) (h1 H Z σ ts vs _ S fun v1 H1 Z1 z1 k1 S1 => h2 H1 Z1 σ _ _ _ S1 fun v2 H2 Z2 z2 k2 S2 r2 => by
   obtain ⟨fp, gp, _, r, _, _⟩ := S2.rep
   cases r with
   | cons r _ =>
     cases r with
     | sh r =>
       cases r with
       | lst hq rr =>
         obtain ⟨v, hv, rv⟩ := uf rr hk
         exact ⟨_, _, k, v, rfl, r2.sc rfl, S2.zh.seq hq, hv, kk v H2 Z2 (z1.trans z2) (k1.trans k2) (S2.pop.push rv)⟩)
end
section
variable {K : PySem.W.Frag} {CL : Str -> Addr} {b : Bx} {H Z : Hp} {δ : List (Option T)} {σ : L2.St} {ts tl : List T} {vs us : List V} {t : T} {v : V}
theorem aU.qB : ∀ {ds : List D} {us : List V} {ts : List T} {vs : List V}, aH K CL Z ds us -> aU K CL b H Z δ σ ts vs -> aU K CL b H Z δ σ ((ds.map T.sh).reverse ++ ts) (us.reverse ++ vs)
 | _, _, _, _, .nil, S => S
 | _, _, ts, vs, .cons (d := d) (v := v) (ds := ds) (vs := us) r t, S => by
   rw [ahd, ahD, ahD, agT, agT]
   exact aU.qB t (S.push r)
theorem aU.drops (S : aU K CL b H Z δ σ (tl ++ ts) (us ++ vs)) (hl : us.length = tl.length) : aU K CL b H Z δ σ ts vs := by
 induction tl generalizing us with
 | nil =>
   cases us with
   | nil => exact S
   | cons _ _ => simp at hl
 | cons t tl ih =>
   cases us with
   | nil => simp at hl
   | cons u us => exact ih S.pop (by simpa using hl)
theorem aU.Rj {ds : List D} (S : aU K CL b H Z δ σ ((ds.map T.sh).reverse ++ ts) (us.reverse ++ vs)) (hl : us.length = ds.length) : aH K CL Z ds us := by
 obtain ⟨fp, gp, e, r, nd, k⟩ := S.rep
 obtain ⟨g1, g2, eg, r1, r2⟩ := aE.split (by simp [hl]) r
 obtain ⟨g', r', pm⟩ := r1.rev
 exact r'.toF.1
end
section
variable {X : Cx} {CL : Str -> Addr} {b : Bx} {δ δ1 : List (Option T)} {e : Expr} {es : List Expr} {t : T} {ds : List D} {p q : Bool} {pos pp : Pos}
theorem xA (hm : X.mg "len" = none) (h : dH X CL b e δ (.lst ds) δ1) (hg : Gl X "len" := by rfl) (hs : starEach [e] X.env = (false, eval e X.env) :: starEach [] X.env := by exact aP rfl) (hpl : (backTo pos (starEach ([] : List Expr) X.env)).any (·.1) = false := by rfl) : bV X CL b (.Call (.Name "len" pp) [e] [] pos) δ (.sh (.int ds.length)) δ1 := fun H Z σ ts vs Q S k =>
 bU (nJ Ca hg hm PySem.boot_len (bD cI c6 hs) (he := hs)) (h H Z σ ts vs _ S fun v H1 Z1 z1 k1 S1 r => by
   cases r with
   | lst hq rr => exact ⟨_, _, rfl, .inl hq, by rw [← rr.length]; exact k _ H1 Z1 z1 k1 (S1.push (.int _))⟩)
theorem nL (hm : X.mg "list" = none) (h : bV X CL b e δ (.sh (.lst ds)) δ1) (hg : Gl X "list" := by rfl) (hv : bootBuiltins "list" = some (.type "list") := by rfl) (hs : starEach [e] X.env = (false, eval e X.env) :: starEach [] X.env := by exact aP rfl) : bV X CL b (.Call (.Name "list" pp) [e] [] pos) δ (.lst (ds.map T.sh)) δ1 := fun H Z σ ts vs Q S k =>
 bU (iu oV hg hm hv (bD cI c6 hs) (he := hs)) (h H Z σ ts vs _ S fun v H1 Z1 z1 k1 S1 => by
   obtain ⟨fp, gp, _, r, _, _⟩ := S1.rep
   cases r with
   | cons r _ =>
     cases r with
     | sh r =>
       cases r with
       | lst hq rr =>
         refine ⟨_, _, rfl, .inl (S1.zh.seq hq), fun l hl => ?_⟩
         obtain ⟨c, S2⟩ := (aU.qB rr S1.pop).lg (g0 := []) (by simp [rr.length]) hl
         exact k _ _ _ z1 (k1.trans c) S2)
theorem Ke (hm : X.mg "list" = none) (h : bV X CL b e δ (.sh (.tup ds)) δ1) (hg : Gl X "list" := by rfl) (hv : bootBuiltins "list" = some (.type "list") := by rfl) (hs : starEach [e] X.env = (false, eval e X.env) :: starEach [] X.env := by exact aP rfl) : bV X CL b (.Call (.Name "list" pp) [e] [] pos) δ (.lst (ds.map T.sh)) δ1 := fun H Z σ ts vs Q S k =>
 bU (iu oV hg hm hv (bD cI c6 hs) (he := hs)) (h H Z σ ts vs _ S fun v H1 Z1 z1 k1 S1 => by
   obtain ⟨fp, gp, _, r, _, _⟩ := S1.rep
   cases r with
   | cons r _ =>
     cases r with
     | sh r =>
       cases r with
       | tup hq rr =>
         refine ⟨_, _, rfl, .inr (aC.HP S1.zh hq), fun l hl => ?_⟩
         obtain ⟨c, S2⟩ := (aU.qB rr S1.pop).lg (g0 := []) (by simp [rr.length]) hl
         exact k _ _ _ z1 (k1.trans c) S2)
theorem qC (hm : X.mg "list" = none) (h : dH X CL b e δ (.lst ds) δ1) (hi : D.bQ ds = true) (hg : Gl X "list" := by rfl) (hv : bootBuiltins "list" = some (.type "list") := by rfl) (hs : starEach [e] X.env = (false, eval e X.env) :: starEach [] X.env := by exact aP rfl) : bV X CL b (.Call (.Name "list" pp) [e] [] pos) δ (.lst (ds.map T.sh)) δ1 := fun H Z σ ts vs Q S k =>
 bU (iu oV hg hm hv (bD cI c6 hs) (he := hs)) (h H Z σ ts vs _ S fun v H1 Z1 z1 k1 S1 r => by
   cases r with
   | lst hq rr =>
     refine ⟨_, _, rfl, .inl hq, fun l hl => ?_⟩
     obtain ⟨c, S2⟩ := (aU.qB (aH.mw S1.tp hi rr) S1).lg (g0 := []) (by simp [rr.length]) hl
     exact k _ _ _ z1 (k1.trans c) S2)
noncomputable def Az (K : PySem.W.Frag) (CL : Str -> Addr) {A : Type} (n : Nat) (arg : A -> List D) (Pre : A -> Prop) (res : A -> T) : Sp := fun vs H Q _ =>
 ∃ (W : Hp) (a : A), aC W H /\ (∀ c o, H c = some o -> mC o = true -> W c = some o) /\ aH K CL W (arg a) vs /\ (arg a).length = n /\ Pre a /\ oX CL W ∧
   ∀ v H' W' fp, aC H H' -> aC W W' -> aC W' H' -> (∀ c o, W' c = some o -> W c = none -> H c = none) -> (∀ c o, H' c = some o -> mC o = true -> W' c = some o) →
     bu K CL H' W' (res a) v fp -> fp.Nodup -> (∀ c ∈ fp, W' c = none /\ H c = none) -> Q v H'
section
variable {A : Type} {k n : Nat} {f : Addr} {fd : FuncData} {ps : List Str} {arg : A -> List D} {Pre : A -> Prop} {res : A -> T} {x : Str}
theorem Rk (a : A) (F : cQ X.prog X.w X.K X.mg X.base kU k f fd ps (Az X.K CL n arg Pre res)) (hr : dG k X.A) (hm : X.mg x = some (.ref f)) (hk : PySem.W.keepIn X.K (.ref f) = true) (hb : Binds X.K fd ps [])
   (h : Ka X CL b (e :: es) δ (arg a) δ1) (hn : (arg a).length = n) (hp : Pre a) (hc : (res a).clean = true) (hg : Gl X x)
   (nI : (x == ("__debug__" : Str)) = false := by decide) (he : starEach (e :: es) X.env = (false, eval e X.env) :: starEach es X.env := by exact aP rfl) (hpl : (backTo pos (starEach es X.env)).any (·.1) = false := by rfl) :
   bV X CL b (.Call (.Name x pp) (e :: es) [] pos) δ (res a) δ1 := fun H Z σ ts vs Q S kk =>
 bU (B6 F hr hg hm hk hb .nil sG Bs nI he hpl) (h H Z σ ts vs _ S fun us H1 Z1 z1 k1 S1 r => by
   rw [ag3]
   refine ⟨H1, a, .refl _, fun _ _ q _ => q, r, hn, hp, S1.MR, fun v H' W' fp hh ww wh nw tp rt nd own => ?_⟩
   obtain ⟨Z', z', S'⟩ := S1.back hh S1.zh ww wh nw tp rt nd own (.inr hc)
   exact kk v H' Z' (z1.trans z') (k1.trans hh) S')
end
variable {D D' : dP} {st : Stmt} {ez Z6 : List Stmt}
theorem Meets.to {K : PySem.W.Frag} {Z : Hp} {ts : List T} {vs : List V} {E : Ends} (M : Meets K CL b Z ts vs D E) (h1 : ∀ δ, D'.nx δ -> D.nx δ) (h2 : ∀ t δ, D'.rt t δ -> D.rt t δ) (h3 : ∀ δ, D'.bk δ -> D.bk δ) (h4 : ∀ δ, D'.ct δ -> D.ct δ) : Meets K CL b Z ts vs D' E :=
 ⟨fun _ _ _ _ s S k => M.nx _ _ _ _ s S (h1 _ k), fun _ _ _ _ _ _ s S k => M.rt _ _ _ _ _ _ s S (h2 _ _ k), fun _ _ _ _ s S k => M.bk _ _ _ _ s S (h3 _ k), fun _ _ _ _ s S k => M.ct _ _ _ _ s S (h4 _ k)⟩
theorem az (h : D.nx δ) : cU X CL b [] δ D := fun H Z σ ts vs E S M => ZW QM (M.nx δ σ H Z (.refl _) S h)
theorem bG (h : Kc X CL b st δ { D with nx := fun δ1 => cU X CL b ez δ1 D }) : cU X CL b (st :: ez) δ D := fun H Z σ ts vs E S M =>
 ZW (L6 psS LN) (h H Z σ ts vs _ S ⟨fun δ' σ' H' Z' s S' k => k H' Z' σ' ts vs E S' (M.mono s), M.rt, M.bk, M.ct⟩)
theorem MY (h : D.bk δ) : Kc X CL b (.Break pos) δ D := fun H Z σ ts vs E S M => kH L7 (M.bk δ σ H Z (.refl _) S h)
theorem WG (h : bV X CL b e δ t δ1) (k : D.rt t δ1) : Kc X CL b (.Return (some e) pos) δ D := fun H Z σ ts vs E S M => kH (L8 cI) (h H Z σ ts vs _ S fun v H1 Z1 z1 k1 S1 => M.rt t v H1 Z1 δ1 σ z1 S1 k)
theorem Z7 (h : vo X CL b e δ p δ1) (h1 : p = true -> cU X CL b ez δ1 D) (h2 : p = false -> cU X CL b Z6 δ1 D) : Kc X CL b (.If e ez Z6 pos) δ D := fun H Z σ ts vs E S M =>
 kH (U9 Rc LN LN) (h H Z σ ts vs _ S fun H1 Z1 z1 k1 S1 => by
   cases p with
   | true => exact J2 (h1 rfl H1 Z1 σ ts vs E S1 (M.mono z1))
   | false => exact J1 (h2 rfl H1 Z1 σ ts vs E S1 (M.mono z1)))
theorem MZ (i : Nat) {x : Str} {pos' : Pos} (h : bV X CL b e δ t δ1) (k : D.nx (δ1.set i (some t))) (hl : i < δ1.length := by decide) (hN : X.N.Nodup := by assumption) (hi : X.N[i]? = some x := by rfl) (hx : Loc X.env.scope x := by first | exact .inl rfl | exact .inr rfl)
   (hs : swapsWith e (some (.Name x pos')) pos.line X.env = pure false := by rfl) (hf : X.fn x = true \/ X.env.scope.names.lookup x = some .local := by first | exact .inl rfl | exact .inr rfl | assumption) : Kc X CL b (.Assign [.Name x pos'] e pos) δ D := fun H Z σ ts vs E S M =>
 kH (Mf hN hi hx cI hs hf) (h H Z σ ts vs _ S fun v H1 Z1 z1 k1 S1 => M.nx _ _ H1 Z1 z1 (S1.set hl) k)
end
noncomputable def entry (N : List Str) (ds : List D) : List (Option T) := ds.map (fun d => some (T.sh d)) ++ List.replicate (N.length - ds.length) none
theorem lq {K : PySem.W.Frag} {CL : Str -> Addr} {H Z : Hp} : ∀ {ds : List D} {vs : List V} (n : Nat), aH K CL Z ds vs -> cH K CL H Z (ds.map (fun d => some (T.sh d)) ++ List.replicate n none) (vs.map some ++ List.replicate n none) []
 | _, _, 0, .nil => .nil
 | _, _, n + 1, .nil => .skip (lq (ds := []) (vs := []) n .nil)
 | _, _, n, .cons r t => .cons (fp := []) (gp := []) (.sh r) (lq n t)
theorem mE {P : Program} {w : World} {K : PySem.W.Frag} {mg : Str -> Option Value} {base : Heap} {CL : Str -> Addr} {x qual : Str} {st : Stmt} {f : Addr} {fd : FuncData} {N ps : List Str} {k : Nat} {A : Type} {arg : A -> List D} {Pre : A -> Prop} {res : A -> T} (F : mV K x qual st f fd) (S : aS N ps (ao st))
   (hb : ∀ (gO : Value) (Ar : Around) (outer : List Env) (s : Shared) (H : Hp) (E : XK) (b : Bx) (a : A), dG k (Ar.deeper (envOfC qual (ao st) s.heap.objs.size f gO)) -> Pre a →
     cU (yk kU P w K mg base N qual (ao st) f gO Ar outer s H E).QL CL b (cB st) (entry N (arg a)) { nx := fun _ => res a = .sh .non, rt := fun t _ => t = res a }) :
   cQ P w K mg base kU (k + 1) f fd ps (Az K CL ps.length arg Pre res) := by
 refine F.ok S (fun vs H Q E h => ?_) (fun gO Ar outer s H vs Q E hr h => ?_)
 . obtain ⟨W, a, _, _, r, hl, _⟩ := h
   rw [← r.length]; exact hl
 . obtain ⟨W, a, wh, tp, r, hl, hp, tb, kk⟩ := h
   refine ⟨_, LN, hb gO Ar outer s H E ⟨H, W⟩ a hr hp H W _ [] [] _ ⟨⟨[], [], ?_, .nil, aiy, fun a ha => by cases ha⟩, .refl _, .refl _, wh, fun a o q z => ?_, tp, tb⟩ ⟨fun δ' σ' H' Z' s' S' e => ?_, fun t v H' Z' δ' σ' s' S' e => ?_, fun _ _ _ _ _ _ e => e.elim, fun _ _ _ _ _ _ e => e.elim⟩⟩
   . unfold entry L2.start
     rw [← r.length]
     exact lq _ r
   . have q' : W a = some o := q
     have z' : W a = none := z
     rw [q'] at z'; cases z'
   . exact kk .non H' Z' [] S'.bh S'.zz S'.zh S'.new S'.tp (by rw [show res a = .sh .non from e]; exact .sh .non) aiy fun a ha => by cases ha
   . have e' : t = res a := e
     subst e'
     obtain ⟨fp, gp, _, r', nd, own⟩ := S'.rep
     cases r' with
     | @cons _ _ _ _ f1 f2 r1 r2 =>
       have h1 := (aht.mp nd).2.1
       exact kk v H' Z' f1 S'.bh S'.zz S'.zh S'.new S'.tp r1 (aht.mp h1).1 fun a ha => own a (agS _ (agX _ ha))
section
variable {prog : Program} {w : World} {A : Around} {R : Result -> Shared -> Prop} {s : Shared}
theorem ug {elt target iter : Expr} {ifs : List Expr} {scope : Scope} {pos : Pos} {it acc : Value} {env : Env} (I : Nat -> Shared -> Prop)
   (turn : ∀ n s, I n s -> wpAny (model prog w) A (pyNext it) (fun r s₁ => match r with
     | none => R (.ok .next) s₁
     | some v => wpAny (model prog w) A (letOwnedTupleGo target it v) (fun _ Vi => wpAny (model prog w) A (assign target env v) (fun _ s₂ =>
         wpAny (model prog w) A (forIn ifs true fun c r => if r = true then do let ok ← isTrue c env (eval c env); pure (ForInStep.yield ok) else pure (ForInStep.yield r)) (fun ok s₃ =>
           if ok = true then wpAny (model prog w) A (eval elt env) (fun x s₄ =>
             wpAny (model prog w) A (call (.builtin "list.append") [acc, x]) (fun _ s₅ => ∃ m, m < n /\ I m s₅) (fun _ _ => False) s₄) (fun _ _ => False) s₃
           else ∃ m, m < n /\ I m s₃) (fun _ _ => False) s₂) (fun _ _ => False) Vi) (fun _ _ => False) s₁) (fun _ _ => False) s)
   (n : Nat) (h : I n s) :
   codeAny (model prog w) A (.compLoop (.ListComp elt [⟨target, iter, ifs, 0⟩] scope pos) 0 it acc env) R s := by
 refine codeAny_loop rfl I (fun n s hI => ?_) n h
 show wpAny _ A ((compTurn (.ListComp elt [⟨target, iter, ifs, 0⟩] scope pos) 0 it acc env).onRaise (fun x => do noteFrame x env; theTreesLotGoes x)) _ _ s
 refine wpAny_noted ?_
 rw [compTurn_list]
 refine agW (wpAny_standAt (agW (ahZ (turn n s hI) (fun r s₁ h₁ => ?_) fun _ _ h' => h'.elim)))
 cases r with
 | none => exact ahe h₁
 | some v =>
   refine agW (ahZ h₁ (fun _ Vi Z8 => ?_) fun _ _ h' => h'.elim)
   refine agW (ahZ Z8 (fun _ s₂ h₂ => agW (ahZ h₂ (fun ok s₃ h₃ => ?_) fun _ _ h' => h'.elim)) fun _ _ h' => h'.elim)
   cases ok with
   | false => exact ahe ⟨rfl, h₃⟩
   | true =>
     exact agW (agW (ahZ h₃ (fun x s₄ h₄ => agW (ahZ h₄ (fun _ s₅ h₅ => ahe (ahe ⟨rfl, h₅⟩)) fun _ _ h' => h'.elim)) fun _ _ h' => h'.elim))
end
noncomputable def fH (env : Env) : List (Str × NameKind) -> List (Str × Addr) -> List (Str × Addr)
 | [], cs => cs
 | (n, k) :: r, cs => fH env r (if k == .free then (n, (env.cells.lookup n).getD 0) :: cs else cs)
theorem sJ {scope : Scope} {env : Env} (h : ∀ x ∈ scope.names, x.2 = .free -> ∃ c, env.cells.lookup x.1 = some c) : closureFor scope env = pure (fH env scope.names []) := by
 have go : ∀ (l : List (Str × NameKind)) (cs : List (Str × Addr)), (∀ x ∈ l, x.2 = .free -> ∃ c, env.cells.lookup x.1 = some c) →
     (forIn l cs fun x r => match x with | (name, kind) => if (kind == NameKind.free) = true then do let a ← cellOf env name; pure (ForInStep.yield ((name, a) :: r)) else pure (ForInStep.yield r) : Sem (List (Str × Addr))) = pure (fH env l cs) := by
   intro l
   induction l with
   | nil => intro cs _; rfl
   | cons x r ih =>
     intro cs hx
     obtain ⟨n, k⟩ := x
     rw [List.forIn_cons]
     by_cases hk : k = .free
     . subst hk
       obtain ⟨c, hc⟩ := hx (n, .free) agV rfl
       have e : cellOf env n = pure c := by unfold cellOf; rw [hc]
       simp only [aiB, if_true, e, pure_bind]
       rw [ih _ fun y hy => hx y (agY _ hy)]
       simp only [fH, aiB, if_true]
       rw [hc]; rfl
     . have hb : (k == NameKind.free) = false := by simpa using hk
       simp only [hb, ais, aiJ, pure_bind]
       rw [ih _ fun y hy => hx y (agY _ hy)]
       simp only [fH, hb, ais, aiJ]
 unfold closureFor
 have := go scope.names [] h
 simp only [bind_pure] at this ⊢
 exact this
theorem lu {env : Env} : ∀ {l : List (Str × NameKind)} {cs : List (Str × Addr)} {y : Str} {c : Addr}, (∀ x ∈ l, x.2 = .free -> ∃ c, env.cells.lookup x.1 = some c) -> (∀ y c, cs.lookup y = some c -> env.cells.lookup y = some c) →
   (fH env l cs).lookup y = some c -> env.cells.lookup y = some c
 | [], cs, y, c, _, h, e => h y c e
 | (n, k) :: r, cs, y, c, hx, h, e => by
   refine lu (l := r) (fun z hz => hx z (agY _ hz)) (fun z d hz => ?_) e
   by_cases hk : k = .free
   . subst hk
     obtain ⟨c', hc⟩ := hx (n, .free) agV rfl
     simp only [aiB, if_true, hc, Option.getD_some, aho] at hz
     by_cases hzn : (z == n) = true
     . rw [hzn] at hz
       have : z = n := by simpa using hzn
       subst this
       cases hz
       exact hc
     . have : (z == n) = false := by simpa using hzn
       rw [this] at hz
       exact h z d hz
   . have hb : (k == NameKind.free) = false := by simpa using hk
     rw [hb] at hz
     exact h z d hz
theorem wA {env : Env} {y : Str} : ∀ {l : List (Str × NameKind)} {cs : List (Str × Addr)}, (∃ c, cs.lookup y = some c) -> ∃ c, (fH env l cs).lookup y = some c
 | [], cs, h => h
 | (n, k) :: r, cs, h => by
   refine wA (l := r) ?_
   by_cases hk : (k == NameKind.free) = true
   . rw [ag9 hk, aho]
     by_cases hy : (y == n) = true
     . rw [hy]; exact ⟨_, rfl⟩
     . have : (y == n) = false := by simpa using hy
       rw [this]; exact h
   . rw [ag2 hk]; exact h
theorem ly {env : Env} {y : Str} : ∀ {l : List (Str × NameKind)} {cs : List (Str × Addr)}, l.lookup y = some .free -> ∃ c, (fH env l cs).lookup y = some c
 | [], _, h => by simp at h
 | (n, k) :: r, cs, h => by
   rw [aho] at h
   by_cases hy : (y == n) = true
   . rw [hy] at h
     cases h
     refine wA (l := r) ?_
     rw [ag9 (by rfl), aho, hy]
     exact ⟨_, rfl⟩
   . have : (y == n) = false := by simpa using hy
     rw [this] at h
     exact ly (l := r) h
noncomputable def bP (X : Cx) (scope : Scope) (Nc : List Str) (C : Addr) (s : Shared) (H : Hp) (fp : List Addr) : Cx where
 prog := X.prog
 w := X.w
 K := X.K
 mg := X.mg
 base := X.base
 A := X.A
 N := Nc
 s₀ := s
 H₀ := H
 env := compEnvC scope (fH X.env scope.names []) C X.env
 outer := X.stack
 stack := X.stack
 ex := fp
 fn := fun _ => false
 calm := X.calm
 pn := []
 xe := fun _ _ => False
structure gj (X : Cx) (scope : Scope) (x : Str) (Nc : List Str) (ix : List Nat) : Prop where
 kind : scope.kind = .function
 vt : ∀ y ∈ scope.names, y.2 ≠ .cell
 nd : Nc.Nodup
 names : ∀ y ∈ scope.names, y.2 = .local -> scope.names.lookup y.1 = some .local
 own : scope.names.lookup x = some .local
 frees : ∀ y ∈ scope.names, y.2 = .free -> scope.names.lookup y.1 = some .free /\ (X.env.kindOf y.1 = some .cell \/ X.env.kindOf y.1 = some .free)
 hd : Nc = x :: ix.filterMap (X.N[·]?)
 Vj : ∀ i ∈ ix, ∃ y, X.N[i]? = some y /\ scope.names.lookup y = some .free
theorem dI {env : Env} : ∀ {names : List (Str × NameKind)} {x : Str} {k : NameKind}, names.lookup x = some k -> 
   (names.map fun (n, k) => if (k == NameKind.free && env.scope.kind == .function && env.kindOf n == some .cell) then (n, NameKind.cell) else (n, k)).lookup x = some (if (k == NameKind.free && env.scope.kind == .function && env.kindOf x == some .cell) then .cell else k)
 | [], _, _, h => by simp at h
 | (n, k') :: r, x, k, h => by
   have ih := @dI env r x k
   show List.lookup x ((if (k' == NameKind.free && env.scope.kind == .function && env.kindOf n == some .cell) = true then (n, NameKind.cell) else (n, k')) :: _) = _
   cases hx : x == n with
   | true =>
     simp only [aho, hx] at h
     cases h
     have e : x = n := by simpa using hx
     subst e
     split <;> simp [aho]
   | false =>
     simp only [aho, hx] at h
     split
     . simp only [aho, hx]; exact ih h
     . simp only [aho, hx]; exact ih h
theorem gI {env : Env} : ∀ {names : List (Str × NameKind)} {x : Str}, names.lookup x = none -> 
   (names.map fun (n, k) => if (k == NameKind.free && env.scope.kind == .function && env.kindOf n == some .cell) then (n, NameKind.cell) else (n, k)).lookup x = none
 | [], _, _ => rfl
 | (n, k') :: r, x, h => by
   have ih := @gI env r x
   show List.lookup x ((if (k' == NameKind.free && env.scope.kind == .function && env.kindOf n == some .cell) = true then (n, NameKind.cell) else (n, k')) :: _) = _
   cases hx : x == n with
   | true => simp only [aho, hx] at h; cases h
   | false =>
     simp only [aho, hx] at h
     split
     . simp only [aho, hx]; exact ih h
     . simp only [aho, hx]; exact ih h
section
variable {X : Cx} {scope : Scope} {x : Str} {Nc : List Str} {ix : List Nat} {pins : List (Addr × Obj)} {σ : L2.St} {H : Hp} {s : Shared}
noncomputable def lz (σ : L2.St) (ix : List Nat) (o : Option V) : L2.St := o :: ix.map fun i => (σ[i]?).getD none
theorem F0 {fp : List Addr} (sc : gj X scope x Nc ix) (I : Inv X pins σ H s) (nG : ∀ b ∈ fp, su X pins H b /\ b < s.heap.objs.size) {h' : Heap} {m : Str -> Option Value} {tk : Nat}
   (hn : h'.Ns s.heap.objs.size m) (hk : ∀ b o, s.heap.get? b = some o -> h'.get? b = some o) :
   Inv (bP X scope Nc s.heap.objs.size s H fp) [] (lz σ ix none) H { s with heap := h', toks := tk } := by
 have frees : ∀ y ∈ scope.names, y.2 = .free -> ∃ c, X.env.cells.lookup y.1 = some c := fun y hy e => I.ok.has y.1 (sc.frees y hy e).2
 have sub : ∀ {y : Str} {c : Addr}, (fH X.env scope.names []).lookup y = some c -> X.env.cells.lookup y = some c := fun {y c} e => lu frees (fun _ _ z => by cases z) e
 have hlen : (lz σ ix none).length = Nc.length := by
   have all : ∀ l : List Nat, (∀ i ∈ l, ∃ y, X.N[i]? = some y /\ scope.names.lookup y = some .free) -> (l.filterMap (X.N[·]?)).length = l.length := by
     intro l
     induction l with
     | nil => intro _; rfl
     | cons i r ih =>
       intro h
       obtain ⟨y, e, _⟩ := h i agV
       rw [ahH, e]
       show _ + 1 = _ + 1
       rw [ih fun j hj => h j (agY _ hj)]
   unfold lz
   rw [sc.hd, ahu, ahu, agU, all ix sc.Vj]
 have C0 : s.heap.get? s.heap.objs.size = none := Heap.get?_none_of_le (ag6 _)
 refine ⟨⟨I.ok.mod, sc.kind, I.ok.glob, I.ok.blt, ag6 _, fun y z c h1 h2 => I.ok.inj y z c (sub h1) (sub h2), fun y hy => ?_, fun y c hf _ => (by cases (show false = true from hf)), I.ok.hd, I.ok.frames, .inl rfl, fun b hb => ⟨ahF (nG b hb).2, fun y c e => (nG b hb).1.2.2.2.2.1 y c (sub e)⟩, I.bs, ahM I.ok.LJ I.sz, fun b o e hb => ?_, fun b hb hf => ?_, I.stack, I.B4⟩,
   rfl, I.bare, Un.kept hk, ⟨m, hn, fun i y v h1 h2 h3 => ?_⟩, fun y c e => ?_, I.dg.fresh (ag6 _), fun y c e => I.nH y c (sub e), fun p hp => absurd (show p ∈ ([] : List (Addr × Obj)) from hp) (by simp), I.dg.kept hk, hlen⟩
 . 
   have Z9 : (relabel scope X.env).names.lookup y = some .cell \/ (relabel scope X.env).names.lookup y = some .free := hy
   cases e : scope.names.lookup y with
   | none => 
     have := gI (env := X.env) e
     rcases Z9 with q | q <;> (rw [show (relabel scope X.env).names.lookup y = none from this] at q; cases q)
   | some k =>
     have q := dI (env := X.env) e
     have hk : k = .free := by
       by_cases hk : k = .free
       . exact hk
       . have hb : (k == NameKind.free) = false := by simpa using hk
         rw [ag2 (by rw [hb]; simp)] at q
         have nc : k ≠ .cell := fun z => by
           subst z
           exact sc.vt _ (ahR e) rfl
         rcases Z9 with z | z
         . rw [show (relabel scope X.env).names.lookup y = some k from q] at z
           exact absurd (ahg z) nc
         . rw [show (relabel scope X.env).names.lookup y = some k from q] at z
           exact absurd (ahg z) hk
     subst hk
     exact ly e
 . 
   rcases (nG b hb).1.2.2.2.1 with z | z
   . exact I.ok.JF b o e z
   . exact absurd (ahx (ahj e) (ahM I.ok.LJ z)) (aip _)
 . rcases ag4.mp (I.ve b hf) with z | z
   . exact (nG b hb).1.2.1 z
   . exact (nG b hb).1.2.2.1 z
 . 
   unfold lz at h2
   cases i with
   | zero => cases h2
   | succ i =>
     rw [aiP, ahh] at h2
     cases ei : ix[i]? with
     | none => rw [ei] at h2; cases h2
     | some j =>
       rw [ei] at h2
       have Rl : (σ[j]?).getD none = some v := ahg h2
       have hj : σ[j]? = some (some v) := by
         cases q : σ[j]? with
         | none => rw [q] at Rl; cases Rl
         | some o => rw [q] at Rl; exact congrArg some Rl
       obtain ⟨y', hy1, WH⟩ := sc.Vj j (ahk ei)
       have hNc : Nc[i + 1]? = some y' := by
         have all : ∀ (l : List Nat) (i : Nat), (∀ j ∈ l, ∃ y, X.N[j]? = some y /\ scope.names.lookup y = some .free) -> l[i]? = some j -> (l.filterMap (X.N[·]?))[i]? = some y' := by
           intro l
           induction l with
           | nil => intro i _ h; simp at h
           | cons a r ih =>
             intro i h hi
             obtain ⟨ya, ea, _⟩ := h a agV
             rw [ahH, ea]
             cases i with
             | zero =>
               simp at hi
               subst hi
               rw [hy1] at ea
               cases ea
               rfl
             | succ i => exact ih i (fun j hj => h j (List.mem_cons_of_mem _ hj)) (by simpa using hi)
         rw [sc.hd, aiP]
         exact all ix i sc.Vj ei
       have ey : y' = y := by
         have h1' : Nc[i + 1]? = some y := h1
         rw [hNc] at h1'
         exact ahg h1'
       subst ey
       have ym := (sc.frees (y', .free) (ahR WH) rfl).2
       have WK : U4 X.env.scope y' := ym.elim (fun z => .inr (.inl z)) (fun z => .inr (.inr z))
       obtain ⟨m0, YM, hl0⟩ := I.loc
       obtain ⟨u, ru, lk⟩ := hl0 j y' v hy1 hj WK
       refine ⟨u, ru, ?_⟩
       rcases lk with ⟨kk, _⟩ | ⟨_, c, hc, sE⟩
       . rcases ym with z | z
         . rw [kk] at z; cases z
         . rw [kk] at z; cases z
       . obtain ⟨c', U8⟩ := ly (env := X.env) (cs := []) WH
         have : c' = c := by
           have := sub U8
           rw [hc] at this
           exact (ahg this).symm
         subst this
         obtain ⟨o, ho, hd⟩ := sE
         refine .inr ⟨?_, c', U8, o, hk _ _ ho, hd⟩
         have q := dI (env := X.env) WH
         show (relabel scope X.env).names.lookup y' = some .cell \/ (relabel scope X.env).names.lookup y' = some .free
         rw [show (relabel scope X.env).names.lookup y' = _ from q]
         split
         . exact .inl rfl
         . exact .inr rfl
 . obtain ⟨v, o, ho, hd⟩ := I.cell y c (sub e)
   exact ⟨v, o, hk _ _ ho, hd⟩
theorem Bu {fp : List Addr} {Hs : List (Addr × Obj)} {σ' : L2.St} {H' : Hp} {s' : Shared} {YN : Heap} (I : Inv X pins σ H s) (nG : ∀ b ∈ fp, su X pins H b)
   (J : Inv (bP X scope Nc s.heap.objs.size s H fp) Hs σ' H' s') (hs : Heap.SameBut s.heap.objs.size s'.heap YN) : Inv X pins σ H' { s' with heap := YN } := by
 have un : Un (LD X.stack) fp H H' s.heap s'.heap := J.base
 have un2 : Un (LD X.stack) fp H H' s.heap YN := by
   have ne : ∀ b o, s.heap.get? b = some o -> b ≠ s.heap.objs.size := fun b o e => ahF (ahj e)
   refine ⟨fun b o e n hb hx => (hs.2 b (ne b o e)).trans (un.keep b o e n hb hx), fun b o e n hb hx => ?_, un.free, fun b o e hx => ?_, un.Au, un.jn, un.Av⟩
   . obtain ⟨sl, q⟩ := un.slot b o e n hb hx
     exact ⟨sl, (hs.2 b (ne b o e)).trans q⟩
   . obtain ⟨o', q⟩ := un.there b o e hx
     exact ⟨o', (hs.2 b (ne b o e)).trans q⟩
 have nC : H' s.heap.objs.size = none := J.free
 have dg : tY X.prog X.w H' YN := fun b u e => by
   refine (J.dg b u e).BZ (fun c v hc q => (hs.2 c ?_).trans q) (fun _ q => q) fun _ _ q => q
   rintro rfl
   rcases hc with z | z
   . subst z; rw [nC] at e; cases e
   . rw [nC] at z; cases z
 obtain ⟨hh, g, d, t, YK⟩ := s'
 obtain rfl : YK = s.os := J.os
 show L2.Inv X pins σ H' { s with heap := YN, gens := g, drawn := d, toks := t }
 exact I.call (h' := YN) (g' := g) (d' := d) (t' := t) (ch := fp) un2 dg J.bare fun b hb => ⟨(nG b hb).2.2.2.1, (nG b hb).2.1, (nG b hb).2.2.2.2.1, (nG b hb).2.2.2.2.2⟩
noncomputable def M0 (X : Cx) : List Expr -> TT
 | [] => fun _ H Q => Q true H
 | [c] => MP X c
 | _ => fun _ _ _ => False
theorem Ed {ifs : List Expr} {Q : Bool -> Hp -> Prop} (I : Inv X pins σ H s) (h : M0 X ifs σ H Q) (hx : X.xe = fun _ _ => False) :
   wpAny (model X.prog X.w) X.A (forIn ifs true fun c r => if r = true then do let ok ← isTrue c X.env (eval c X.env); pure (ForInStep.yield ok) else pure (ForInStep.yield r)) (TP X pins σ Q) (fun _ _ => False) s := by
 match ifs, h with
 | [], h => exact wpAny_tests_nil ⟨H, I, h⟩
 | [c], h =>
   have := h pins s I
   rw [hx] at this
   exact wpAny_tests_one this
theorem Kf {elt iter : Expr} {px pos : Pos} {ifs : List Expr} {J : It} {fp : List Addr} {it : Addr} {tn : Nat -> Heap -> Prop} {G : Addr -> Hp -> Prop} {RR : Value -> Addr -> Result -> Shared -> Prop} {E : Value -> Shared -> Prop}
   (sc : gj X scope x Nc ix) (hc : X.calm = true) (I : Inv X pins σ H s) (Tn : Turn X.prog X.w X.K (.Name x px) J fp it tn) (st : tn 0 s.heap) (hf : ∀ b ∈ fp, su X pins H b)
   (loop : ∀ D, H D = none -> ∃ W : Nat -> Nat -> Hp -> Prop, (∃ m, W 0 m (upd H D (.lst []))) /\ ∀ i m H2, W i m H2 -> (J.stop i H2 /\ G D H2) ∨
     (J.go i H2 /\ ∃ N : Hp -> Prop, (∀ H', N H' -> ∃ m', m' < m /\ W (i + 1) m' H') /\ ∀ xv H3, J.Qq i H2 xv H3 -> ∀ C s0 H0 f0, M0 (bP X scope Nc C s0 H0 f0) ifs (lz σ ix (some xv)) H3 fun ok H4 =>
       if ok = true then Eb (bP X scope Nc C s0 H0 f0) elt (lz σ ix (some xv)) H4 fun y H5 => ∃ acc, H5 D = some (.lst acc) /\ acc.length < sizeLine /\ N (upd H5 D (.lst (acc ++ [y]))) else N H4))
   (hRR : ∀ D C s' H', (∃ m, s'.heap.Ns C m) -> (∃ o, s'.heap.get? C = some o /\ ∀ v, o.data ≠ .cell v) -> H' C = none -> (C ≠ X.env.locals /\ C ∉ X.fs /\ X.s₀.heap.objs.size <= C /\ (∀ y c, X.env.cells.lookup y = some c -> c ≠ C) /\ ∀ q ∈ X.pn ++ pins, q.1 ≠ C) -> (∀ h', Heap.SameBut C s'.heap h' -> Inv X pins σ H' { s' with heap := h' }) -> G D H' -> RR (.ref D) C (.ok .next) s') :
   wpAny (model X.prog X.w) X.A (newList []) (fun acc s₃ => wpAny (model X.prog X.w) X.A (newFunctionEnv scope X.env.globals (fH X.env scope.names []) [] X.env.qual none .none (some X.env)) (fun Ef s₄ =>
     codeAny (model X.prog X.w) X.A (.compStart (.ListComp elt [⟨.Name x px, iter, ifs, 0⟩] scope pos) 0 (.ref it) acc { Ef with scope := relabel scope X.env }) (RR acc Ef.locals) s₄) E s₃) E s := by
 refine aie ?_
 have I3 : Inv X pins σ (upd H s.heap.objs.size (.lst [])) { s with heap := s.heap.push { cls := .type "list", dict := none, data := .seq ([] : List Value).toArray } } :=
   I.laid (t' := s.toks) (fun b u e => ag8 _ e) (ag6 _) ⟨by show 0 <= sizeLine; exact ahs _, [], 0, .nil, ahC _ rfl⟩
 have hD : H s.heap.objs.size = none := I.dg.fresh (ag6 _)
 obtain ⟨W, ⟨m0, w0⟩, turn⟩ := loop _ hD
 have yt : ∀ b ∈ fp, su X pins (upd H s.heap.objs.size (.lst [])) b /\ b < (s.heap.push { cls := .type "list", dict := none, data := .seq ([] : List Value).toArray }).objs.size := fun b hb => by
   obtain ⟨f0, f1⟩ := hf b hb
   obtain ⟨o, ho, _⟩ := Tn.obj 0 _ st b hb
   have qi := ahj ho
   refine ⟨⟨by rw [aq (ahF qi)]; exact f0, f1⟩, ?_⟩
   rw [Heap.size_push]; exact Nat.lt_succ_of_lt qi
 have Va : tn 0 (s.heap.push { cls := .type "list", dict := none, data := .seq ([] : List Value).toArray }) := Tn.keep 0 _ _ st fun b _ o e => ag8 _ e
 generalize hs3 : ({ s with heap := s.heap.push { cls := .type "list", dict := none, data := .seq ([] : List Value).toArray } } : Shared) = s3 at I3 ⊢
 have M3 : s3.heap = s.heap.push { cls := .type "list", dict := none, data := .seq ([] : List Value).toArray } := by rw [← hs3]
 rw [← M3] at yt Va
 refine wpAny_newFunctionEnv sc.vt (by intro y hy; simp at hy) (fun h₁ F2 F3 => ?_) sc.kind
 have old : ∀ b o, s3.heap.get? b = some o -> h₁.get? b = some o := fun b o e => (F3.2 b (ahF (ahj e))).trans (ag8 _ e)
 have J0 := F0 (tk := s3.toks + ([] : List (Str × Value)).length) sc I3 yt F2 old
 have st4 : tn 0 h₁ := Tn.keep 0 _ _ Va fun b _ o e => old b o e
 have Eg : ∀ s4 : Shared, s4 = { s3 with heap := h₁, toks := s3.toks + ([] : List (Str × Value)).length } -> codeAny (model X.prog X.w) X.A (.compLoop (.ListComp elt [⟨.Name x px, iter, ifs, 0⟩] scope pos) 0 (.ref it) (.ref s.heap.objs.size) (compEnvC scope (fH X.env scope.names []) s3.heap.objs.size X.env)) (RR (.ref s.heap.objs.size) s3.heap.objs.size) s4 := by
   rintro s4 rfl
   have stat : ∀ {H' : Hp}, (∀ b ∈ fp, H' b = none) -> ∀ b ∈ fp, su (bP X scope Nc s3.heap.objs.size s3 (upd H s.heap.objs.size (.lst [])) fp) [] H' b := fun {H'} hn b hb => by
     obtain ⟨⟨f0, f1, f2, f3, f4, f5⟩, qi⟩ := yt b hb
     refine ⟨hn b hb, ahF qi, fun z => ?_, .inl hb, fun y c e => f4 y c (lu (fun y hy e => I.ok.has y.1 (sc.frees y hy e).2) (fun _ _ z => by cases z) e), fun p hp => absurd (show p ∈ ([] : List (Addr × Obj)) from hp) (by simp)⟩
     rcases ag4.mp (I3.ve b z) with q | q
     . exact f1 q
     . exact f2 q
   refine ug (fun n s' => ∃ i o H', Inv (bP X scope Nc s3.heap.objs.size s3 (upd H s.heap.objs.size (.lst [])) fp) [] (lz σ ix o) H' s' /\ tn i s'.heap /\ (∀ b ∈ fp, H' b = none) /\ W i n H') ?_ m0 ⟨0, none, _, J0, st4, fun b hb => (yt b hb).1.1, w0⟩
   rintro n s5 ⟨i, o5, H5, I5, QO, V7, w5⟩
   rcases turn i n H5 w5 with ⟨stop, g⟩ | ⟨go, N, hN, step⟩
   . refine dF (Tn.done (bP X scope Nc s3.heap.objs.size s3 (upd H s.heap.objs.size (.lst [])) fp) rfl rfl rfl hc i [] s5 _ H5 _ I5 (stat V7) QO stop) fun r s6 zz => ?_
     obtain ⟨hr, I6⟩ := zz
     subst hr
     obtain ⟨m6, hn6, _⟩ := I6.loc
     obtain ⟨oc, esc, epc, YH, hdc, _⟩ := id hn6
     have Rm := I3.JK (ag6 s3.heap.objs.size) (H' := fun _ => none) rfl
     refine hRR _ _ s6 H5 ⟨m6, hn6⟩ ⟨oc, YH, fun v z => by rw [hdc] at z; cases z⟩ I6.free ⟨Rm.2.1, Rm.2.2.1, ?_, Rm.2.2.2.2.1, Rm.2.2.2.2.2⟩ (fun h' Rn => Bu I3 (fun b hb => (yt b hb).1) I6 Rn) g
     exact I3.sz
   . refine dF (Tn.item (bP X scope Nc s3.heap.objs.size s3 (upd H s.heap.objs.size (.lst [])) fp) rfl rfl rfl hc i [] s5 _ H5 _ I5 (stat V7) QO go) fun r s6 zz => ?_
     obtain ⟨u, hr, h6⟩ := zz
     subst hr
     refine dF h6 fun _ s7 zz => ?_
     obtain ⟨xv, H7, I7, r7, y7, WL, fr7⟩ := zz
     have I7' := I7.pinned (stat fr7) (Tn.obj _ _ WL)
     have hg : PG (bP X scope Nc s3.heap.objs.size s3 (upd H s.heap.objs.size (.lst [])) fp) (.Name x px) (D4 0) := rC sc.nd (by show Nc[0]? = some x; rw [sc.hd]; rfl) (.inl (aii sc.own)) (.inr (aii sc.own))
     refine dF (hg _ s7 _ H7 xv u (fun σ8 H8 => σ8 = lz σ ix (some xv) /\ H8 = H7) I7' r7 ⟨rfl, rfl⟩) fun _ s8 zz => ?_
     obtain ⟨σ8, H8, I8, e8, e8'⟩ := zz
     subst e8
     subst e8'
     have h8 := step xv _ y7 s3.heap.objs.size s3 (upd H s.heap.objs.size (.lst [])) fp
     refine dF (Ed I8 h8 rfl) fun ok s9 zz => ?_
     obtain ⟨H9, I9, q9⟩ := zz
     have again : ∀ {Ha : Hp} {sa : Shared}, Inv (bP X scope Nc s3.heap.objs.size s3 (upd H s.heap.objs.size (.lst [])) fp) ([] ++ vg fp s7.heap) (lz σ ix (some xv)) Ha sa -> N Ha -> ∃ m, m < n /\ ∃ i o H', Inv (bP X scope Nc s3.heap.objs.size s3 (upd H s.heap.objs.size (.lst [])) fp) [] (lz σ ix o) H' sa /\ tn i sa.heap /\ (∀ b ∈ fp, H' b = none) /\ W i m H' := fun {Ha sa} Ia na => by
       obtain ⟨m', hm, wa⟩ := hN Ha na
       refine ⟨m', hm, i + 1, some xv, Ha, Ia.qv, Tn.keep _ _ _ WL fun b hb o e => (Ia.pin (b, o) (agS _ (agS _ (jo hb e)))).1, fun b hb => ?_, wa⟩
       obtain ⟨o, e, d⟩ := Tn.obj _ _ WL b hb
       exact (Ia.pin (b, o) (agS _ (agS _ (jo hb e)))).2.1
     cases ok with
     | false =>
       rw [ag2 ag5] at q9 ⊢
       exact again I9 q9
     | true =>
       rw [ag9 rfl] at q9 ⊢
       refine dF (q9 _ s9 I9) fun v sa zz => ?_
       obtain ⟨y, Ha, Ia, ra, acc, WM, hlen, na⟩ := zz
       refine dF (nK (X := bP X scope Nc s3.heap.objs.size s3 (upd H s.heap.objs.size (.lst [])) fp) _ sa _ Ha (.ref s.heap.objs.size) [y] (.ref s.heap.objs.size) [v] (fun _ Hb => Hb = upd Ha s.heap.objs.size (.lst (acc ++ [y]))) Ia rfl (.cons ra .nil) ⟨_, acc, y, rfl, rfl, WM, hlen, rfl⟩) fun _ sb zz => ?_
       obtain ⟨_, Hb, Ib, _, eb⟩ := zz
       subst eb
       exact again Ib na
 exact codeAny_compStart_list (Eg _ rfl) (Tn.self _ 0 _ _ _ st4 (Eg _ rfl))
end
noncomputable def TIv (X : Cx) (CL : Str -> Addr) (b : Bx) (ifs : List Expr) (δ : List (Option T)) (p : Bool) : Prop :=
 match ifs with
 | [] => p = true
 | [c] => vo X CL b c δ p δ
 | _ => False
theorem TIv.sem {X : Cx} {CL : Str -> Addr} {b : Bx} {ifs : List Expr} {δ : List (Option T)} {p : Bool} (h : TIv X CL b ifs δ p) {H Z : Hp} {σ : L2.St} {Q : Bool -> Hp -> Prop} (S : aU X.K CL b H Z δ σ [] [])
   (k : ∀ H' Z', aC Z Z' -> aC H H' -> aU X.K CL b H' Z' δ σ [] [] -> Q p H') : M0 X ifs σ H Q := by
 match ifs, h with
 | [], h =>
   have e : p = true := h
   subst e
   exact k H Z (.refl _) (.refl _) S
 | [c], h => exact (show vo X CL b c δ p δ from h) H Z σ [] [] Q S k
theorem jr {ts : List T} : (T.lst ts).clean = T.cK ts := by rw [T.clean]
theorem yu {g : D -> T} : ∀ {ds : List D}, (∀ d ∈ ds, (g d).clean = true) -> T.cK (ds.map g) = true
 | [], _ => by rw [List.map_nil, T.cK]
 | d :: ds, h => by
   rw [ahd, T.cK, h d agV, yu fun e he => h e (agY _ he)]
   rfl
section
variable {K : PySem.W.Frag} {CL : Str -> Addr} {b : Bx} {H H' Z : Hp} {δ : List (Option T)} {σ : L2.St} {ts tl : List T} {vs us : List V} {t : T} {v : V}
theorem aE.at : ∀ {tl : List T} {us : List V} {fp : List Addr} {j : Nat} {t : T}, aE K CL H Z tl us fp -> tl[j]? = some t -> ∃ v f1 f2 f3, us[j]? = some v /\ fp = f1 ++ (f2 ++ f3) /\ bu K CL H Z t v f2 ∧
   ∀ {H' : Hp} {t' : T} {v' : V} {g : List Addr}, (∀ a ∈ f1 ++ f3, H' a = H a) -> bu K CL H' Z t' v' g -> aE K CL H' Z (tl.set j t') (us.set j v') (f1 ++ (g ++ f3))
 | _, _, _, _, _, .nil, e => by simp at e
 | _, _, _, 0, _, .cons (fp := fp) (gp := gp) r q, e => by
   simp at e
   subst e
   exact ⟨_, [], fp, gp, rfl, rfl, r, fun {H' t' v' g} k r' => aE.cons (fp := g) (gp := gp) r' (aE.mono (fp := gp) (.refl _) (fun a ha => k a (by simpa using ha)) q)⟩
 | _, _, _, j + 1, t, .cons (fp := fp) (gp := gp) r q, e => by
   obtain ⟨v, f1, f2, f3, h1, h2, h3, h4⟩ := aE.at (j := j) (t := t) q (by simpa using e)
   refine ⟨v, fp ++ f1, f2, f3, by simpa using h1, by rw [h2, List.append_assoc], h3, fun k r' => ?_⟩
   rw [agT]
   exact .cons (r.mono (.refl _) fun a ha => k a (by simp [ha])) (h4 (fun a ha => k a (by rw [agT]; exact agS _ ha)) r')
theorem d8 {α : Type} {l : List α} {i : Nat} {x : α} (h : l[i]? = some x) : l.set i x = l := by
 apply List.ext_getElem?
 intro j
 rw [List.getElem?_set]
 split
 . rename_i e; subst e
   split
   . exact h.symm
   . rename_i h2; rw [ahV (by omega)]
 . rfl
theorem aU.write {a : Addr} {xs : List V} {f1 f2 f3 g gp HY : List Addr} {δ2 : List (Option T)} (S : aU K CL b H Z δ σ ts vs) (nd : ((f1 ++ (f2 ++ f3)) ++ gp).Nodup) (own : ∀ c ∈ (f1 ++ (f2 ++ f3)) ++ gp, Z c = none /\ b.B c = none) (ha : a ∈ f2)
   (hH : ∃ o, H a = some o) (e' : cH K CL (upd H a (.lst xs)) Z δ2 σ (f1 ++ (g ++ f3))) (r' : aE K CL (upd H a (.lst xs)) Z tl us HY) (pm : ((f1 ++ (g ++ f3)) ++ HY).Nodup) (sub : ∀ c ∈ (f1 ++ (g ++ f3)) ++ HY, c ∈ (f1 ++ (f2 ++ f3)) ++ gp) :
   aU K CL b (upd H a (.lst xs)) Z δ2 σ tl us := by
 have oa := own a (by simp [ha])
 refine ⟨⟨_, _, e', r', pm, fun c hc => own c (sub c hc)⟩, fun c o q => ?_, S.zz, fun c o q => ?_, S.new, fun c o q i => ?_, S.tab⟩
 . rw [aq (bO q oa.2)]; exact S.bh c o q
 . rw [aq (bO q oa.1)]; exact S.zh c o q
 . by_cases hc : c = a
   . subst hc; rw [aI] at q; cases q; cases i
   . rw [aq hc] at q; exact S.tp c o q i
theorem aU.append {i : Nat} (S : aU K CL b H Z δ σ (t :: ts) (v :: vs)) (hi : δ[i]? = some (some (.lst tl))) :
   ∃ a us, σ[i]? = some (some (.ref a)) /\ H a = some (.lst us) /\ us.length = tl.length /\ aU K CL b (upd H a (.lst (us ++ [v]))) Z (δ.set i (some (.lst (tl ++ [t])))) σ ts vs := by
 obtain ⟨fp, gp, e, r, nd, k⟩ := S.rep
 obtain ⟨v0, f1, f2, f3, hv, nG, rt, put, _⟩ := e.get hi
 subst nG
 cases rt with
 | @lst a us _ g ha rs =>
   cases r with
   | @cons _ _ _ _ ft gr q1 q2 =>
     have ne : ∀ c ∈ (f1 ++ (g ++ f3)) ++ (ft ++ gr), c ≠ a := fun c hc e => by
       subst e
       have hp : ((f1 ++ ((c :: g) ++ f3)) ++ (ft ++ gr)).Perm (c :: ((f1 ++ (g ++ f3)) ++ (ft ++ gr))) := by
         rw [ahi, ← ahi]
         exact (ahX.append_right _)
       exact (ahE.mp (hp.nodup_iff.mp nd)).1 hc
     refine ⟨a, us, hv, ha, rs.length.symm, ?_⟩
     have r1 : bu K CL (upd H a (.lst (us ++ [v]))) Z (.lst (tl ++ [t])) (.ref a) (a :: (g ++ (ft ++ []))) :=
       .lst aI (aE.app (rs.mono (.refl _) fun c hc => aq (ne c (by simp [hc]))) (.cons (q1.mono (.refl _) fun c hc => aq (ne c (by simp [hc]))) .nil))
     have e2 := put (H' := upd H a (.lst (us ++ [v]))) (.refl _) (fun c hc => aq (ne c (by
       rcases ag0.mp hc with h | h
       . simp [h]
       . simp [h]))) r1
     rw [d8 hv] at e2
     have hp : ((f1 ++ ((a :: (g ++ (ft ++ []))) ++ f3)) ++ gr).Perm ((f1 ++ ((a :: g) ++ f3)) ++ (ft ++ gr)) := by
       simp only [ag3, ahi, agT]
       refine ahA f1 (List.Perm.cons a (ahA g ?_))
       rw [← agT, ← agT]
       exact ahl.append_right gr
     exact S.write nd k (agV) ⟨_, ha⟩ e2 (q2.mono (.refl _) fun c hc => aq (ne c (by simp [hc]))) (hp.nodup_iff.mpr nd) fun c hc => hp.mem_iff.mp hc
theorem aU.setAt {i j : Nat} (S : aU K CL b H Z δ σ (t :: ts) (v :: vs)) (hi : δ[i]? = some (some (.lst tl))) (hj : j < tl.length) :
   ∃ a us, σ[i]? = some (some (.ref a)) /\ H a = some (.lst us) /\ us.length = tl.length /\ aU K CL b (upd H a (.lst (us.set j v))) Z (δ.set i (some (.lst (tl.set j t)))) σ ts vs := by
 obtain ⟨fp, gp, e, r, nd, k⟩ := S.rep
 obtain ⟨v0, f1, f2, f3, hv, nG, rt, put, _⟩ := e.get hi
 subst nG
 cases rt with
 | @lst a us _ g ha rs =>
   cases r with
   | @cons _ _ _ _ ft gr q1 q2 =>
     have ne : ∀ c ∈ (f1 ++ (g ++ f3)) ++ (ft ++ gr), c ≠ a := fun c hc e => by
       subst e
       have hp : ((f1 ++ ((c :: g) ++ f3)) ++ (ft ++ gr)).Perm (c :: ((f1 ++ (g ++ f3)) ++ (ft ++ gr))) := by
         rw [ahi, ← ahi]
         exact (ahX.append_right _)
       exact (ahE.mp (hp.nodup_iff.mp nd)).1 hc
     refine ⟨a, us, hv, ha, rs.length.symm, ?_⟩
     obtain ⟨vj, g1, g2, g3, _, hg, _, set⟩ := rs.at (ag7 hj)
     subst hg
     have r1 : bu K CL (upd H a (.lst (us.set j v))) Z (.lst (tl.set j t)) (.ref a) (a :: (g1 ++ (ft ++ g3))) :=
       .lst aI (set (fun c hc => aq (ne c (by
         rcases ag0.mp hc with h | h
         . simp [h]
         . simp [h]))) (q1.mono (.refl _) fun c hc => aq (ne c (by simp [hc]))))
     have e2 := put (H' := upd H a (.lst (us.set j v))) (.refl _) (fun c hc => aq (ne c (by
       rcases ag0.mp hc with h | h
       . simp [h]
       . simp [h]))) r1
     rw [d8 hv] at e2
     have hp : ((f1 ++ ((a :: (g1 ++ (ft ++ g3))) ++ f3)) ++ gr).Perm ((f1 ++ ((a :: (g1 ++ g3)) ++ f3)) ++ (ft ++ gr)) := by
       simp only [ahi, agT]
       refine ahA f1 (List.Perm.cons a (ahA g1 ?_))
       have := (ahl (l₁ := ft) (l₂ := g3 ++ f3)).append_right gr
       simp only [agT] at this
       exact this
     have sb : ((f1 ++ ((a :: (g1 ++ g3)) ++ f3)) ++ (ft ++ gr)).Sublist ((f1 ++ ((a :: (g1 ++ (g2 ++ g3))) ++ f3)) ++ (ft ++ gr)) := by
       refine ahq (ahq (ahy _) (ahq (List.Sublist.cons₂ a ?_) (ahy _))) (ahy _)
       exact ahq (ahy _) (ahI _ _)
     exact S.write nd k (agV) ⟨_, ha⟩ e2 (q2.mono (.refl _) fun c hc => aq (ne c (by simp [hc]))) (hp.nodup_iff.mpr (nd.sublist sb)) fun c hc => sb.subset (hp.mem_iff.mp hc)
end
section
variable {X : Cx} {CL : Str -> Addr} {b : Bx} {δ δ1 : List (Option T)} {e : Expr} {t : T} {tl Qt : List T} {D : dP} {pos pp pa pb : Pos}
theorem WN (i : Nat) {x : Str} (h0 : δ[i]? = some (some (.lst Qt))) (h : bV X CL b e δ t δ1) (h1 : δ1[i]? = some (some (.lst tl))) (hl : tl.length < sizeLine) (k : D.nx (δ1.set i (some (.lst (tl ++ [t])))))
   (hi : X.N[i]? = some x := by rfl) (hv : U4 X.env.scope x := by first | exact Or.inl rfl | exact Or.inr (Or.inl rfl) | exact Or.inr (Or.inr rfl)) (hd : (x == ("__debug__" : Str)) = false := by decide) (mS : (x == ("__classdict__" : Str)) = false := by decide)
   (iz : attributeBase (.Name x pp) "append" X.env (eval (.Name x pp) X.env) = eval (.Name x pp) X.env := by rfl)
   (oW : ((backTo pb (starEach [e] X.env)).all (fun x => !x.1) && (backToKw pb (keywordEach [] X.env)).all (fun x => x.1.isSome) && decide ([e].length + ([] : List Keyword).length + (if ([] : List Keyword).isEmpty then 0 else 1) < 30)) = true := by rfl)
   (hline : (pa.endLine == pb.line) = true := by rfl) (hs : starEach [e] X.env = (false, eval e X.env) :: starEach [] X.env := by exact aP rfl) (AA : swapsWith (.Call (.Attribute (.Name x pp) "append" pa) [e] [] pb) none pos.line X.env = pure false := by rfl) :
   Kc X CL b (.Expr (.Call (.Attribute (.Name x pp) "append" pa) [e] [] pb) pos) δ D := fun H Z σ ts vs E S M =>
 kH (rB (Bp ah0 aiK aiL nK (fW hi hv hd mS) (bD cI c6 hs) iz oW hline hs rfl) AA) (by
   obtain ⟨v0, e0, r0⟩ := S.look h0
   refine ⟨v0, e0, ?_, ?_⟩
   . rw [T.bS] at r0
     cases r0 with
     | lst hq _ => exact .inl ⟨rfl, _, hq⟩
   . refine h H Z σ ts vs _ S fun v H1 Z1 z1 k1 S1 => ?_
     obtain ⟨a, us, ea, ha, hu, S2⟩ := S1.append h1
     rw [e0] at ea
     cases ea
     exact ⟨a, us, v, rfl, rfl, ha, by rw [hu]; exact hl, M.nx _ σ _ Z1 z1 S2 k⟩)
end
noncomputable def aai : Option (Option T) -> Option T
 | some (some t) => some (.sh t.bS)
 | _ => none
noncomputable def WO : Option (Option T) -> Option T
 | some (some (T.sh d)) => some (.sh d)
 | _ => none
noncomputable def Eh (δ : List (Option T)) (ix : List Nat) : List (Option T) := ix.map fun i => aai δ[i]?
noncomputable def yw (δ : List (Option T)) (ix : List Nat) : List (Option T) := ix.map fun i => WO δ[i]?
section
variable {K : PySem.W.Frag} {CL : Str -> Addr} {b : Bx} {H Z : Hp} {δ : List (Option T)} {σ : L2.St} {ts : List T} {vs : List V}
theorem Ei (S : aU K CL b H Z δ σ ts vs) : ∀ (ix : List Nat) (H' : Hp), cH K CL H' H (Eh δ ix) (ix.map fun i => (σ[i]?).getD none) []
 | [], _ => .nil
 | i :: r, H' => by
   have ih := Ei S r H'
   show cH K CL H' H (aai δ[i]? :: Eh δ r) (((σ[i]?).getD none) :: r.map fun i => (σ[i]?).getD none) []
   cases e : δ[i]? with
   | none => exact .skip ih
   | some o =>
     cases o with
     | none => exact .skip ih
     | some t =>
       obtain ⟨v, hv, rv⟩ := S.look e
       rw [hv]
       exact .cons (fp := []) (gp := []) (.sh rv) ih
theorem yx (S : aU K CL b H Z δ σ ts vs) : ∀ (ix : List Nat) (H' : Hp), cH K CL H' Z (yw δ ix) (ix.map fun i => (σ[i]?).getD none) []
 | [], _ => .nil
 | i :: r, H' => by
   have ih := yx S r H'
   show cH K CL H' Z (WO δ[i]? :: yw δ r) (((σ[i]?).getD none) :: r.map fun i => (σ[i]?).getD none) []
   cases e : δ[i]? with
   | none => exact .skip ih
   | some o =>
     cases o with
     | none => exact .skip ih
     | some t =>
       cases t with
       | sh d =>
         obtain ⟨v, hv, rv⟩ := S.HR e
         rw [hv]
         exact .cons (fp := []) (gp := []) (.sh rv) ih
       | tup _ => exact .skip ih
       | lst _ => exact .skip ih
       | ins _ _ => exact .skip ih
       | rD _ => exact .skip ih
       | dct _ => exact .skip ih
       | pin _ _ => exact .skip ih
end
section
variable {X : Cx} {CL : Str -> Addr} {b : Bx} {δ δ1 : List (Option T)} {scope : Scope} {x : Str} {Nc : List Str} {elt iter : Expr} {ifs : List Expr} {pos : Pos} {ds : List D}
structure Comes (X : Cx) (CL : Str -> Addr) (b : Bx) (δ1 : List (Option T)) (σ : L2.St) (ts : List T) (vs : List V) (Z H : Hp) (ds : List D) (J : It) (H1 : Hp) : Prop where
 ex : ∃ Z1 us, aC Z Z1 /\ aC H H1 /\ aU X.K CL b H1 Z1 δ1 σ ts vs /\ aH X.K CL Z1 ds us /\ (∀ i H2, aC Z1 H2 -> i < ds.length -> J.go i H2) ∧
   (∀ i H2 x H', aC Z1 H2 -> i < ds.length -> J.Qq i H2 x H' -> H' = H2 /\ us[i]? = some x) /\ (∀ H2, aC Z1 H2 -> J.stop ds.length H2)
noncomputable def LQ (X : Cx) (CL : Str -> Addr) (b : Bx) (tg e : Expr) (δ : List (Option T)) (ds : List D) (δ1 : List (Option T)) : Prop :=
 ∃ wi, PI X tg e wi /\ ∀ (H Z : Hp) (σ : L2.St) (ts : List T) (vs : List V) (R : It -> Hp -> Prop), aU X.K CL b H Z δ σ ts vs -> (∀ J H1, Comes X CL b δ1 σ ts vs Z H ds J H1 -> R J H1) -> wi σ H R
theorem oZ {tg : Expr} (h : bV X CL b iter δ (.sh (.lst ds)) δ1) : LQ X CL b tg iter δ ds δ1 := by
 refine ⟨_, QN cI, fun H Z σ ts vs R S k => h H Z σ ts vs _ S fun v H1 Z1 z1 k1 S1 => ?_⟩
 obtain ⟨fp, gp, _, r, _, _⟩ := S1.rep
 cases r with
 | cons r _ =>
   cases r with
   | sh r =>
     cases r with
     | @lst a us _ hq rr =>
       refine ⟨a, rfl, ⟨us, S1.zh.seq hq⟩, k _ _ ⟨Z1, us, z1, k1, S1.pop, rr, fun i H2 s hi => ?_, fun i H2 y H' s hi hy => ⟨hy.1, hy.2 us (s.seq hq)⟩, fun H2 s => ⟨us, s.seq hq, by rw [rr.length]; exact ag6 _⟩⟩⟩
       have YQ : i < us.length := by rw [← rr.length]; exact hi
       exact ⟨us, us[i], s.seq hq, by simp [YQ]⟩
theorem yz {tg : Expr} (h : bV X CL b iter δ (.sh (.tup ds)) δ1) : LQ X CL b tg iter δ ds δ1 := by
 refine ⟨_, V6 cI, fun H Z σ ts vs R S k => h H Z σ ts vs _ S fun v H1 Z1 z1 k1 S1 => ?_⟩
 obtain ⟨fp, gp, _, r, _, _⟩ := S1.rep
 cases r with
 | cons r _ =>
   cases r with
   | sh r =>
     cases r with
     | @tup a us _ hq rr =>
       refine ⟨a, rfl, ⟨us, aC.HP S1.zh hq⟩, k _ _ ⟨Z1, us, z1, k1, S1.pop, rr, fun i H2 s hi => ?_, fun i H2 y H' s hi hy => ⟨hy.1, hy.2 us (aC.HP s hq)⟩, fun H2 s => ⟨us, aC.HP s hq, by rw [rr.length]; exact ag6 _⟩⟩⟩
       have YQ : i < us.length := by rw [← rr.length]; exact hi
       exact ⟨us, us[i], aC.HP s hq, by simp [YQ]⟩
noncomputable def fX (lo : Int) (n : Nat) : List D := (List.range n).map fun (i : Nat) => D.int (lo + i)
theorem M4 {K : PySem.W.Frag} {Z : Hp} (lo : Int) (n : Nat) : aH K CL Z (fX lo n) ((List.range n).map fun (i : Nat) => V.int (lo + i)) := by
 unfold fX
 generalize List.range n = l
 induction l with
 | nil => exact .nil
 | cons i r ih => exact .cons (.int _) ih
theorem nM {tg : Expr} {pr pc : Pos} {n : Int} (hm : X.mg "range" = none) (h : dH X CL b iter δ (.int n) δ1) (hn : -(2 ^ 62) <= n /\ n < 2 ^ 62) (hg : Gl X "range") (Bh : starEach [iter] X.env = [(false, eval iter X.env)] := by rfl) (M5 : starEach [iter] X.env = (false, eval iter X.env) :: starEach [] X.env := by exact aP rfl) :
   LQ X CL b tg (.Call (.Name "range" pr) [iter] [] pc) δ (fX 0 n.toNat) δ1 := by
 refine ⟨_, vf hg hm (bD cI c6 M5) Bh, fun H Z σ ts vs R S k => h H Z σ ts vs _ S fun v H1 Z1 z1 k1 S1 r => ⟨n, by rw [r.sc rfl], hn.1, hn.2, k _ _ ⟨Z1, _, z1, k1, S1, M4 0 n.toNat, fun i H2 s hi => ?_, fun i H2 y H' s hi hy => ?_, fun H2 s => ?_⟩⟩⟩
 . show i < n.toNat
   have : (fX 0 n.toNat).length = n.toNat := by simp [fX]
   omega
 . have YQ : i < n.toNat := by simpa [fX] using hi
   refine ⟨hy.1, ?_⟩
   rw [ahh, List.getElem?_range YQ, hy.2]
   rfl
 . show n.toNat <= (fX 0 n.toNat).length
   simp [fX]
theorem WQ {D : dP} {ez : List Stmt} (i : Nat) {pos' : Pos} (P : Nat -> List (Option T) -> Prop) (h : LQ X CL b (.Name x pos') iter δ ds δ1) (h0 : P 0 δ1) (hl : ∀ j δ, P j δ -> i < δ.length)
   (hs : ∀ j d δ, ds[j]? = some d -> P j δ -> cU X CL b ez (δ.set i (some (.sh d))) { nx := P (j + 1), rt := D.rt, bk := D.nx, ct := P (j + 1) }) (hd : ∀ δ, P ds.length δ -> D.nx δ)
   (hp : PassesOwn (model X.prog X.w) X.A X.env X.xe) (hc : X.calm = true) (hN : X.N.Nodup) (hi : X.N[i]? = some x) (hx : Loc X.env.scope x) (hf : X.fn x = true \/ X.env.scope.names.lookup x = some .local) (hq : ∀ x, foldedSetIterable iter X.env x = pure x := by intro _; rfl) :
   Kc X CL b (.For (.Name x pos') iter ez [] pos) δ D := fun H Z σ ts vs E S M => by
 obtain ⟨wi, pi, hw⟩ := h
 refine kH (Fy hp hc pi (rC hN hi hx hf) LN hq) (hw H Z σ ts vs _ S fun J H1 zz => ?_)
 obtain ⟨Z1, us, z1, k1, S1, rr, go, yl, st⟩ := zz
 refine ⟨fun j m σ H2 => m = ds.length - j /\ j <= ds.length /\ ∃ Z2 δ2, aC Z1 Z2 /\ aU X.K CL b H2 Z2 δ2 σ ts vs /\ P j δ2, ⟨_, rfl, ahs _, Z1, δ1, .refl _, S1, h0⟩, ?_⟩
 rintro j m σ H2 ⟨rfl, hj, Z2, δ2, s, S2, p2⟩
 by_cases qi : j < ds.length
 . refine .inr ⟨go j H2 (s.trans S2.zh) qi, fun σ' H' => ∃ Z2 δ2, aC Z1 Z2 /\ aU X.K CL b H' Z2 δ2 σ' ts vs /\ P (j + 1) δ2, fun σ' H' h => ⟨ds.length - (j + 1), by omega, rfl, qi, h⟩, fun y H' hy => ?_⟩
   obtain ⟨e, hu⟩ := yl j H2 y H' (s.trans S2.zh) qi hy
   subst e
   obtain ⟨d, QH, rd⟩ := rr.Wt hu
   have S3 := (S2.push (rd.mono s)).set (hl j δ2 p2)
   exact hs j d δ2 QH p2 _ Z2 _ ts vs _ S3 ⟨fun δ' σ' H' Z' s' S' k => ⟨Z', δ', s.trans s', S', k⟩, fun t v H' Z' δ' σ' s' S' k => M.rt t v H' Z' δ' σ' (z1.trans (s.trans s')) S' k, fun δ' σ' H' Z' s' S' k => M.nx δ' σ' H' Z' (z1.trans (s.trans s')) S' k, fun δ' σ' H' Z' s' S' k => ⟨Z', δ', s.trans s', S', k⟩⟩
 . have e : j = ds.length := by omega
   subst e
   exact .inl ⟨st H2 (s.trans S2.zh), M.nx δ2 σ H2 Z2 (z1.trans s) S2 (hd δ2 p2)⟩
noncomputable def Block (X : Cx) (CL : Str -> Addr) (scope : Scope) (Nc : List Str) (ifs : List Expr) (elt : Expr) (δc : List (Option T)) (ds : List D) (p : D -> Bool) (g : D -> T) : Prop :=
 ∀ C s0 H0 f0 b' d, d ∈ ds -> TIv (bP X scope Nc C s0 H0 f0) CL b' ifs (some (.sh d) :: δc) (p d) /\ (p d = true -> bV (bP X scope Nc C s0 H0 f0) CL b' elt (some (.sh d) :: δc) (g d) (some (.sh d) :: δc))
variable {p : D -> Bool} {g : D -> T} {δc : List (Option T)}
end
section
variable {X : Cx} {CL : Str -> Addr} {b : Bx} {δ δ1 : List (Option T)} {scope : Scope} {x : Str} {Nc : List Str} {ix : List Nat} {pos : Pos}
theorem F4 (sc : gj X scope x Nc ix) {pins : List (Addr × Obj)} {σ : L2.St} {H : Hp} {s : Shared} (I : L2.Inv X pins σ H s) : closureFor scope X.env = pure (fH X.env scope.names []) :=
 sJ fun y hy e => I.ok.has y.1 (sc.frees y hy e).2
noncomputable def isD : L3.D -> String -> Option Bool
 | .non, n => if n = "int" \/ n = "str" \/ n = "list" \/ n = "tuple" \/ n = "bool" \/ n = "dict" then some false else none
 | .bl _, n => if n = "int" \/ n = "bool" then some true else if n = "str" \/ n = "list" \/ n = "tuple" \/ n = "dict" then some false else none
 | .int _, n => if n = "int" then some true else if n = "str" \/ n = "list" \/ n = "tuple" \/ n = "bool" \/ n = "dict" then some false else none
 | .str _, n => if n = "str" then some true else if n = "int" \/ n = "list" \/ n = "tuple" \/ n = "bool" \/ n = "dict" then some false else none
 | .lst _, n => if n = "list" then some true else if n = "int" \/ n = "str" \/ n = "tuple" \/ n = "bool" \/ n = "dict" then some false else none
 | .tup _, n => if n = "tuple" then some true else if n = "int" \/ n = "str" \/ n = "list" \/ n = "bool" \/ n = "dict" then some false else none
 | _, _ => none
noncomputable def WR (t n : String) : Option Bool := if (Value.type t == Value.type n) = true then some true else if PySem.W.kitMeta n = true then (fastBuiltinMro t).map (·.contains (.type n)) else none
theorem nO {K : PySem.W.Frag} {t n : String} : PySem.W.kitOne K (.type t) (.type n) = WR t n := rfl
theorem M6 : (["NoneType", "bool", "int", "str", "list", "tuple"].all fun t => ["int", "str", "list", "tuple", "bool", "dict"].all fun n => WR t n == some (t == n || (t == "bool" && n == "int"))) = true := by decide +kernel
theorem rE {t n : String} (ht : t ∈ ["NoneType", "bool", "int", "str", "list", "tuple"]) (hn : n ∈ ["int", "str", "list", "tuple", "bool", "dict"]) : WR t n = some (t == n || (t == "bool" && n == "int")) := by
 have := M6
 rw [ahY] at this
 have h := this t ht
 rw [ahY] at h
 simpa using h n hn
noncomputable def tyD : L3.D -> Option String
 | .non => some "NoneType"
 | .bl _ => some "bool"
 | .int _ => some "int"
 | .str _ => some "str"
 | .lst _ => some "list"
 | .tup _ => some "tuple"
 | _ => none
theorem Kg : qw X (.builtin "isinstance") (fun xs H Q => ∃ y n d t, xs = [y, .ty n] /\ bq X.K CL H d y /\ tyD d = some t /\ n ∈ ["int", "str", "list", "tuple", "bool", "dict"] /\ Q (.bl (t == n || (t == "bool" && n == "int"))) H) := by
 intro pins s σ H xs us Q I r h
 obtain ⟨y, n, d, t, rfl, rd, ht, hn, q⟩ := h
 obtain ⟨u, u2, rfl, ru, ru2⟩ := r.two
 cases (show u2 = Value.type n from ru2)
 have fin : ∀ tk, EP X pins σ Q (.bool (t == n || (t == "bool" && n == "int"))) { s with toks := tk } := fun tk => ⟨.bl _, H, I.tok tk, rfl, q⟩
 cases rd with
 | non => cases ht; cases (show u = Value.none from ru); exact aib PySem.W.kitx_none I.wK True.intro (nO.trans (rE (by decide) hn)) (fun z => nomatch z) fin
 | bl c => cases ht; cases (show u = Value.bool c from ru); exact aib PySem.W.kitx_bool I.wK True.intro (nO.trans (rE (by decide) hn)) (fun z => nomatch z) fin
 | int c => cases ht; obtain ⟨tt, e⟩ := (show ∃ t, u = Value.int c t from ru); cases e; exact aib PySem.W.kitx_int I.wK True.intro (nO.trans (rE (by decide) hn)) (fun z => nomatch z) fin
 | str c => cases ht; obtain ⟨tt, e⟩ := (show ∃ t, u = Value.str c t from ru); cases e; exact aib PySem.W.kitx_str I.wK True.intro (nO.trans (rE (by decide) hn)) (fun z => nomatch z) fin
 | @lst a ws _ hq rr =>
   cases ht
   cases (show u = Value.ref a from ru)
   obtain ⟨its, _, pl, _⟩ := I.list hq
   obtain ⟨o, n', e, c, _⟩ := pl
   exact aib PySem.W.kitx_list I.wK ⟨o, e, c⟩ (nO.trans (rE (by decide) hn)) (fun z => nomatch z) fin
 | @tup a ws _ hq rr =>
   cases ht
   cases (show u = Value.ref a from ru)
   obtain ⟨its, _, pl, _⟩ := I.tuple hq
   obtain ⟨o, e, c, _⟩ := pl
   exact aib PySem.W.kitx_tuple I.wK ⟨o, e, c⟩ (nO.trans (rE (by decide) hn)) (fun z => nomatch z) fin
 | ins _ _ => cases ht
 | any _ => cases ht
 | val _ => cases ht
 | rD _ _ => cases ht
 | dct _ _ => cases ht
theorem Ck {e : Expr} {d : L3.D} {t n : String} {nm : Str} {pp pq : Pos} (hm : X.mg "isinstance" = none) (WT : X.mg nm = none) (hg : Gl X "isinstance") (WU : Gl X nm) (hbn : bootBuiltins nm = some (.type n)) (hnm : nm ≠ "__name__") (M7 : (nm == ("__debug__" : Str)) = false) (h : dH X CL b e δ d δ1) (ht : tyD d = some t) (hn : n ∈ ["int", "str", "list", "tuple", "bool", "dict"])
   (hs : starEach [e, .Name nm pq] X.env = (false, eval e X.env) :: starEach [.Name nm pq] X.env := by exact aP rfl) :
   bV X CL b (.Call (.Name "isinstance" pp) [e, .Name nm pq] [] pos) δ (.sh (.bl (t == n || (t == "bool" && n == "int")))) δ1 := fun H Z σ ts vs Q S k =>
 bU (nJ (Kg (CL := CL)) hg hm boot_isinstance (bD cI (bD (QJ WU WT hbn (v := .ty n) rfl hnm M7) c6) hs) (he := hs)) (h H Z σ ts vs _ S fun v H1 Z1 z1 k1 S1 r =>
   ⟨v, n, d, t, rfl, r, ht, hn, k _ H1 Z1 z1 k1 (S1.push (.bl _))⟩)
end
theorem ay {n : Nat} (h : Nat.ble n 1000 = true) : n <= sizeLine := ah3 (kW (agZ h))
structure Vn (X : Cx) (i : Nat) (x : Str) : Prop where
 hi : X.N[i]? = some x
 hv : U4 X.env.scope x
 hd : (x == ("__debug__" : Str)) = false
 mS : (x == ("__classdict__" : Str)) = false
structure Ln (X : Cx) (i : Nat) (x : Str) : Prop extends Vn X i x where
 loc : Loc X.env.scope x
 hf : X.fn x = true \/ X.env.scope.names.lookup x = some .local
structure Gx (X : Cx) : Prop where
 nd : X.N.Nodup
 calm : X.calm = true
 xe : PassesOwn (model X.prog X.w) X.A X.env X.xe
structure Fc (X : Cx) (CL : Str -> Addr) (x : Str) (k n : Nat) {A : Type} (arg : A -> List D) (Pre : A -> Prop) (res : A -> T) : Prop where
 ex : ∃ f fd ps, cQ X.prog X.w X.K X.mg X.base kU k f fd ps (Az X.K CL n arg Pre res) /\ X.mg x = some (.ref f) /\ PySem.W.keepIn X.K (.ref f) = true /\ Binds X.K fd ps []
 room : dG k X.A
section
variable {X : Cx} {CL : Str -> Addr} {b : Bx} {δ δ1 δ2 : List (Option T)} {e : Expr} {es : List Expr} {d : L3.D} {t : T} {i : Nat} {x : Str} {pos pp : Pos} {D : dP} {ez : List Stmt} {ds : List L3.D}
theorem v_ (n : Vn X i x) (h : δ[i]? = some (some (.sh d)) := by rfl) : bV X CL b (.Name x pos) δ (.sh d) δ := Ww i n.hi n.hv n.hd n.mS h
theorem vM (n : Vn X i x) (h : δ[i]? = some (some t) := by rfl) : bV X CL b (.Name x pos) δ t (δ.set i none) := Rg i n.hi n.hv n.hd n.mS h
theorem vB (n : Vn X i x) (h : δ[i]? = some (some t) := by rfl) : dH X CL b (.Name x pos) δ t.bS δ := Wx i n.hi n.hv n.hd n.mS h
theorem yC {k : Int} (h : dH X CL b e δ (.int k) δ1) : bV X CL b (.UnaryOp .USub e pos) δ (.sh (.int (-k))) δ1 := fun H Z σ ts vs Q S kk =>
 bU (Zr Wf cI) (h H Z σ ts vs _ S fun v H1 Z1 z1 k1 S1 r => ⟨k, r.sc rfl, kk _ H1 Z1 z1 k1 (S1.push (.int _))⟩)
theorem vL (n : Vn X i x) (h : δ[i]? = some (some (.lst (ds.map T.sh))) := by rfl) : dH X CL b (.Name x pos) δ (.lst ds) δ := by
 have := vB (CL := CL) (b := b) (pos := pos) n h
 rwa [T.bS, iB] at this
theorem c_ {k n : Nat} {A : Type} {arg : A -> List L3.D} {Pre : A -> Prop} {res : A -> T} (a : A) (F : Fc X CL x k n arg Pre res) (hg : Gl X x) (h : Ka X CL b (e :: es) δ (arg a) δ1) (hp : Pre a) (hc : (res a).clean = true) (hn : (arg a).length = n := by rfl)
   (nI : (x == ("__debug__" : Str)) = false := by decide) (he : starEach (e :: es) X.env = (false, eval e X.env) :: starEach es X.env := by exact aP rfl) (hpl : (backTo pos (starEach es X.env)).any (·.1) = false := by rfl) :
   bV X CL b (.Call (.Name x pp) (e :: es) [] pos) δ (res a) δ1 := by
 obtain ⟨f, fd, ps, F1, m, k, b⟩ := F.ex
 exact Rk a F1 F.room m k b h hn hp hc hg nI he hpl
theorem aX {pos' : Pos} (g : Gx X) (n : Ln X i x) (h : bV X CL b e δ t δ1) (k : cU X CL b ez (δ1.set i (some t)) D) (hl : i < δ1.length := by exact agZ rfl) (hs : swapsWith e (some (.Name x pos')) pos.line X.env = pure false := by rfl) :
   cU X CL b (.Assign [.Name x pos'] e pos :: ez) δ D := bG (MZ i h k hl g.nd n.hi n.loc hs n.hf)
theorem ck (h : bV X CL b e δ t δ1) (k : D.rt t δ1) : cU X CL b (.Return (some e) pos :: ez) δ D := bG (WG h k)
theorem dJ {p : Bool} {a c : List Stmt} (h : vo X CL b e δ p δ1) (h1 : p = true -> cU X CL b a δ1 { D with nx := fun δ2 => cU X CL b ez δ2 D }) (h2 : p = false -> cU X CL b c δ1 { D with nx := fun δ2 => cU X CL b ez δ2 D }) : cU X CL b (.If e a c pos :: ez) δ D := bG (Z7 h h1 h2)
theorem cU.to {D' : dP} (h : cU X CL b ez δ D') (h1 : ∀ δ, D'.nx δ -> D.nx δ) (h2 : ∀ t δ, D'.rt t δ -> D.rt t δ) (h3 : ∀ δ, D'.bk δ -> D.bk δ) (h4 : ∀ δ, D'.ct δ -> D.ct δ) : cU X CL b ez δ D := fun H Z σ ts vs E S M => h H Z σ ts vs E S (M.to h1 h2 h3 h4)
theorem qj {body : List Stmt} {pos' : Pos} (g : Gx X) (n : Ln X i x) (P : Nat -> List (Option T) -> Prop) (h : LQ X CL b (.Name x pos') e δ ds δ1) (h0 : P 0 δ1) (hl : ∀ j δ, P j δ -> i < δ.length)
   (hs : ∀ j d δ, ds[j]? = some d -> P j δ -> cU X CL b body (δ.set i (some (.sh d))) { nx := P (j + 1), rt := D.rt, bk := fun δ2 => cU X CL b ez δ2 D, ct := P (j + 1) }) (hd : ∀ δ, P ds.length δ -> cU X CL b ez δ D) (hq : ∀ x, foldedSetIterable e X.env x = pure x := by intro _; rfl) :
   cU X CL b (.For (.Name x pos') e body [] pos :: ez) δ D :=
 bG (WQ (D := { D with nx := fun δ1 => cU X CL b ez δ1 D }) i P h h0 hl hs hd g.xe g.calm g.nd n.hi n.loc n.hf hq)
theorem yE {e : Expr} {o : Option Expr} {l : Nat} {env : Env} (h : ∃ c, swapsWith e o l env = pure c) : swapsWith e o l env = pure true \/ swapsWith e o l env = pure false := by
 obtain ⟨c, h⟩ := h
 cases c
 . exact .inr h
 . exact .inl h
theorem pe {scope : Scope} {Nc : List Str} {C : Addr} {s : Shared} {H : Hp} {fp : List Addr} (h1 : Nc[i]? = some x) (h2 : scope.names.lookup x = some .local) (hd : (x == ("__debug__" : Str)) = false := by decide) (mS : (x == ("__classdict__" : Str)) = false := by decide) : Vn (bP X scope Nc C s H fp) i x :=
 ⟨h1, .inl (aii h2), hd, mS⟩
theorem tu {scope : Scope} {Nc : List Str} {C : Addr} {s : Shared} {H : Hp} {fp : List Addr} (h1 : Nc[i]? = some x) (h2 : scope.names.lookup x = some .free) (hd : (x == ("__debug__" : Str)) = false := by decide) (mS : (x == ("__classdict__" : Str)) = false := by decide) : Vn (bP X scope Nc C s H fp) i x := by
 refine ⟨h1, ?_, hd, mS⟩
 have q := dI (env := X.env) h2
 show (relabel scope X.env).names.lookup x = some .local \/ (relabel scope X.env).names.lookup x = some .cell \/ (relabel scope X.env).names.lookup x = some .free
 rw [show (relabel scope X.env).names.lookup x = _ from q]
 split
 . exact .inr (.inl rfl)
 . exact .inr (.inr rfl)
theorem xB {scope : Scope} {Nc : List Str} {C : Addr} {s : Shared} {H : Hp} {fp : List Addr} (h2 : scope.names.lookup x = some .globalImplicit) : Gl (bP X scope Nc C s H fp) x := by
 have q := dI (env := X.env) h2
 show (relabel scope X.env).names.lookup x = some .globalImplicit
 rw [show (relabel scope X.env).names.lookup x = _ from q]
 rfl
theorem Ro {scope : Scope} {Nc : List Str} {C : Addr} {s : Shared} {H : Hp} {fp : List Addr} (g : Gx X) (h : Nc.Nodup) : Gx (bP X scope Nc C s H fp) := ⟨h, g.calm, .never⟩
theorem Rp {scope : Scope} {Nc : List Str} {C : Addr} {s : Shared} {H : Hp} {fp : List Addr} {k n : Nat} {A : Type} {arg : A -> List L3.D} {Pre : A -> Prop} {res : A -> T} (F : Fc X CL x k n arg Pre res) : Fc (bP X scope Nc C s H fp) CL x k n arg Pre res := ⟨F.ex, F.room⟩
end
section
variable {X : Cx} {CL : Str -> Addr} {b : Bx} {δ δ1 : List (Option T)} {e : Expr} {d : L3.D} {t : String} {pos pp pq : Pos}
theorem Kh : bootBuiltins "int" = some (.type "int") := by decide +kernel
theorem isI (hm : X.mg "isinstance" = none) (WT : X.mg "int" = none) (hg : Gl X "isinstance") (WU : Gl X "int") (h : dH X CL b e δ d δ1) (ht : tyD d = some t := by rfl) (hs : starEach [e, .Name "int" pq] X.env = (false, eval e X.env) :: starEach [.Name "int" pq] X.env := by exact aP rfl) :
   bV X CL b (.Call (.Name "isinstance" pp) [e, .Name "int" pq] [] pos) δ (.sh (.bl (t == "int" || (t == "bool" && "int" == "int")))) δ1 := Ck hm WT hg WU Kh (by decide) (by decide) h ht (by decide) hs
theorem F5 : bootBuiltins "bool" = some (.type "bool") := by decide +kernel
theorem isB (hm : X.mg "isinstance" = none) (WT : X.mg "bool" = none) (hg : Gl X "isinstance") (WU : Gl X "bool") (h : dH X CL b e δ d δ1) (ht : tyD d = some t := by rfl) (hs : starEach [e, .Name "bool" pq] X.env = (false, eval e X.env) :: starEach [.Name "bool" pq] X.env := by exact aP rfl) :
   bV X CL b (.Call (.Name "isinstance" pp) [e, .Name "bool" pq] [] pos) δ (.sh (.bl (t == "bool" || (t == "bool" && "bool" == "int")))) δ1 := Ck hm WT hg WU F5 (by decide) (by decide) h ht (by decide) hs
theorem cM : bootBuiltins "list" = some (.type "list") := by decide +kernel
theorem isL (hm : X.mg "isinstance" = none) (WT : X.mg "list" = none) (hg : Gl X "isinstance") (WU : Gl X "list") (h : dH X CL b e δ d δ1) (ht : tyD d = some t := by rfl) (hs : starEach [e, .Name "list" pq] X.env = (false, eval e X.env) :: starEach [.Name "list" pq] X.env := by exact aP rfl) :
   bV X CL b (.Call (.Name "isinstance" pp) [e, .Name "list" pq] [] pos) δ (.sh (.bl (t == "list" || (t == "bool" && "list" == "int")))) δ1 := Ck hm WT hg WU cM (by decide) (by decide) h ht (by decide) hs
theorem qD : bootBuiltins "tuple" = some (.type "tuple") := by decide +kernel
end
noncomputable def pA (sc : Scope) (l : List (Str × NameKind)) : Bool := l.all fun p => sc.names.lookup p.1 == some p.2
theorem jF {sc : Scope} {l : List (Str × NameKind)} (h : pA sc l = true) (i : Nat) {x : Str} {k : NameKind} (hi : l[i]? = some (x, k)) : sc.names.lookup x = some k := by
 unfold pA at h
 rw [ahY] at h
 exact aiA.mp (h _ (ahk hi))
inductive Rq (X : Cx) : List Nat -> List Str -> Prop where
 | nil : Rq X [] []
 | cons {i : Nat} {y : Str} {ix : List Nat} {ys : List Str} (n : Vn X i y) (k : X.env.kindOf y = some .cell \/ X.env.kindOf y = some .free) (r : Rq X ix ys) : Rq X (i :: ix) (y :: ys)
noncomputable def M8 (scope : Scope) (x : Str) (Ej : List Str) : Bool :=
 scope.kind == .function && scope.names.lookup x == some .local && Ej.all (fun y => scope.names.lookup y == some .free) && decide ((x :: Ej).Nodup) &&
   scope.names.all fun y => y.2 != .cell && (y.2 != .local || scope.names.lookup y.1 == some .local) && (y.2 != .free || (Ej.contains y.1 && scope.names.lookup y.1 == some .free))
theorem jt {X : Cx} {scope : Scope} {x : Str} {ix : List Nat} {Ej : List Str} (c : Rq X ix Ej) (ok : M8 scope x Ej = true) : gj X scope x (x :: Ej) ix := by
 unfold M8 at ok
 simp only [ahz, ahY, aiR, aiA] at ok
 obtain ⟨⟨⟨⟨h1, h2⟩, h3⟩, h4⟩, h5⟩ := ok
 have kc : ∀ y ∈ Ej, X.env.kindOf y = some .cell \/ X.env.kindOf y = some .free := by
   clear h3 h4 h5
   induction c with
   | nil => intro y hy; cases hy
   | cons n k r ih =>
     intro y hy
     rcases ag4.mp hy with e | hy
     . subst e; exact k
     . exact ih y hy
 refine ⟨h1, fun y hy e => ?_, h4, fun y hy e => ?_, h2, fun y hy e => ?_, ?_, fun i hi => ?_⟩
 . have := (h5 y hy).1.1
   rw [e] at this
   simp at this
 . have := (h5 y hy).1.2
   rw [e] at this
   simpa using this
 . have := (h5 y hy).2
   rw [e] at this
   simp at this
   exact ⟨this.2, kc _ this.1⟩
 . congr 1
   clear h3 h4 h5 kc
   induction c with
   | nil => rfl
   | cons n k r ih => rw [ahH, n.hi, ← ih]
 . clear h4 h5 kc
   induction c with
   | nil => cases hi
   | @cons i' y ix ys n k r ih =>
     rcases ag4.mp hi with e | hi
     . subst e; exact ⟨y, n.hi, h3 y agV⟩
     . exact ih (fun z hz => h3 z (agY _ hz)) hi
noncomputable def D.M9 : D -> Int
 | .int i => i
 | _ => 0
theorem vv {bs : List Int} {k : Int} (h0 : 0 <= k) (h1 : k < bs.length) : An (bs.map D.int) k = some (.int (bs.getD k.toNat 0)) := by
 obtain ⟨j, rfl⟩ : ∃ j : Nat, k = j := ⟨k.toNat, by omega⟩
 refine aL ?_
 have hl : j < bs.length := by omega
 rw [ahh, ag7 hl]
 simp [List.getD, hl]
theorem nP : ∀ (bs : List Int), D.bQ (bs.map D.int) = true
 | [] => rfl
 | i :: r => by rw [ahd, D.bQ, nP r]; rfl
theorem yF {lo : Int} {n j : Nat} {d : D} (h : (fX lo n)[j]? = some d) : d = .int (lo + j) /\ j < n := by
 have hl : j < n := by
   have := (ahp.mp h).1
   simpa [fX] using this
 refine ⟨?_, hl⟩
 unfold fX at h
 rw [ahh, List.getElem?_range hl] at h
 exact (ahg h).symm
theorem jS {α : Type} (l : List α) : l.filter (fun _ => true) = l := by simp
theorem Ek {K : PySem.W.Frag} {CL : Str -> Addr} {Z : Hp} : ∀ (ns : List Int), aH K CL Z (ns.map D.int) (ns.map V.int)
 | [] => .nil
 | n :: r => .cons (.int n) (Ek r)
theorem WV {K : PySem.W.Frag} {CL : Str -> Addr} {H : Hp} {a : Addr} {arg : List Int -> List D} {pre : List Int -> Prop} {res : List Int -> T} {ns : List Int} (ha : arg ns = [.lst (ns.map D.int)]) (hp : pre ns) (hr : res ns = .sh (.bl true)) (hS : oS K H a (ns.map V.int)) (h0 : ∀ x, HQ x = true -> CL x = 0 := by intros; rfl) :
   Az K CL 1 arg pre res [.ref a] H (fun v _ => v = .bl true) fun _ _ _ => False :=
 ⟨H, ns, .refl _, fun _ _ q _ => q, by rw [ha]; exact .cons (.lst hS (Ek ns)) .nil, by rw [ha]; rfl, hp, fun x hx e => absurd (h0 x hx) e, fun v H' W' fp _ _ _ _ _ r _ _ => by
   rw [hr] at r
   cases r with
   | sh r => exact r.sc rfl⟩
mutual
noncomputable def D.toPy : D -> PyData
 | .non => .none
 | .bl b => .bool b
 | .int i => .int i
 | .str x => .str x
 | .tup ds => .tuple (D.nQ ds)
 | .lst ds => .list (D.nQ ds)
 | .ins _ _ => .none
 | .rD _ => .none
 | .dct _ => .none
 | .any => .none
 | .val _ => .none
noncomputable def D.nQ : List D -> List PyData
 | [] => []
 | d :: ds => d.toPy :: D.nQ ds
end
inductive gX : Nat -> D -> Prop where
 | non (n : Nat) : gX n .non
 | bl (n : Nat) (b : Bool) : gX n (.bl b)
 | int (n : Nat) (i : Int) : gX n (.int i)
 | str (n : Nat) (x : Str) (h : PyData.strOk x = true) : gX n (.str x)
 | tup {n : Nat} {ds : List D} (h : ∀ d ∈ ds, gX n d) : gX (n + 1) (.tup ds)
 | lst {n : Nat} {ds : List D} (h : ∀ d ∈ ds, gX n d) : gX (n + 1) (.lst ds)
noncomputable def LR (a b : D) : Bool := PyData.eqv a.toPy b.toPy
theorem gX.WW {n : Nat} : ∀ {ds : List D}, (∀ d ∈ ds, d.toPy.canLay0 = true /\ d.toPy.depth <= n) -> PyData.canLayAll0 (D.nQ ds) = true /\ PyData.depthAll (D.nQ ds) <= n
 | [], _ => ⟨by rw [D.nQ, PyData.canLayAll0], by rw [D.nQ, PyData.depthAll]; exact ahs _⟩
 | d :: ds, h => by
   have h1 := h d agV
   have h2 := gX.WW (ds := ds) fun e he => h e (agY _ he)
   rw [D.nQ, PyData.canLayAll0, PyData.depthAll, h1.1, h2.1]
   exact ⟨rfl, Nat.max_le.mpr ⟨h1.2, h2.2⟩⟩
theorem gX.lay {n : Nat} {d : D} (h : gX n d) : d.toPy.canLay0 = true /\ d.toPy.depth <= n := by
 induction h with
 | non n => exact ⟨by rw [D.toPy, PyData.canLay0], by rw [D.toPy, PyData.depth]; exact ahs _⟩
 | bl n b => exact ⟨by rw [D.toPy, PyData.canLay0], by rw [D.toPy, PyData.depth]; exact ahs _⟩
 | int n i => exact ⟨by rw [D.toPy, PyData.canLay0], by rw [D.toPy, PyData.depth]; exact ahs _⟩
 | str n x hx => exact ⟨by rw [D.toPy, PyData.canLay0]; exact hx, by rw [D.toPy, PyData.depth]; exact ahs _⟩
 | @tup n ds _ ih =>
   have := gX.WW ih
   rw [D.toPy, PyData.canLay0, PyData.depth]
   exact ⟨this.1, by omega⟩
 | @lst n ds _ ih =>
   have := gX.WW ih
   rw [D.toPy, PyData.canLay0, PyData.depth]
   exact ⟨this.1, by omega⟩
theorem eU {n : Nat} {d : D} (h : gX n d) : LR d d = true := SeqAt.eqv_refl _ h.lay.1
section
variable {X : Cx} {CL : Str -> Addr} {pins : List (Addr × Obj)} {σ : L2.St} {H : Hp} {s : Shared}
theorem vz (I : L2.Inv X pins σ H s) {n : Nat} {d : D} {v : V} {u : Value} (hd : gX n d) (q : bq X.K CL H d v) (r : RelV v u) : ∃ as, Reads s.heap u d.toPy as := by
 refine bq.rec (motive_1 := fun d v _ => ∀ (n : Nat) (u : Value), gX n d -> RelV v u -> ∃ as, Reads s.heap u d.toPy as)
   (motive_2 := fun ds vs _ => ∀ (n : Nat) (us : List Value), (∀ d ∈ ds, gX n d) -> Vals vs us -> ∃ as, ReadsAll s.heap us (D.nQ ds) as) (motive_3 := fun _ _ _ => True) (motive_4 := fun _ _ _ => True) (motive_5 := fun _ _ _ => True)
   (fun _ _ _ r => ?non) (fun b _ _ _ r => ?bl) (fun i _ _ _ r => ?int) (fun x _ _ _ r => ?str) (fun _ _ _ hd _ => by cases hd) (fun _ _ _ hd _ => by cases hd) (fun hq _ ih n u hd r => ?tup) (fun hq _ ih n u hd r => ?lst) (fun _ _ _ _ _ hd _ => by cases hd) (fun _ _ _ _ _ hd _ => by cases hd) (fun _ _ _ _ _ hd _ => by cases hd)
   (fun _ _ _ r => ?nil) (fun _ _ ih ihs n us h r => ?cons) trivial (fun _ _ _ _ => trivial) trivial (fun _ _ _ _ => trivial) trivial (fun _ _ _ _ => trivial) q n u hd r
 case non => cases r; rw [D.toPy]; exact ⟨[], .none⟩
 case bl => cases r; rw [D.toPy]; exact ⟨[], .bool b⟩
 case int => obtain ⟨t, rfl⟩ := r; rw [D.toPy]; exact ⟨[], .int i t⟩
 case str => obtain ⟨t, rfl⟩ := r; rw [D.toPy]; exact ⟨[], .str x t⟩
 case tup =>
   cases hd with
   | tup hd =>
     cases r
     obtain ⟨its, rv, ⟨o, e, c, k, dt⟩, _⟩ := I.tuple hq
     obtain ⟨as, ra⟩ := ih _ _ hd rv
     rw [D.toPy]
     exact ⟨as, .tuple e c dt (by simpa using ra)⟩
 case lst =>
   cases hd with
   | lst hd =>
     cases r
     obtain ⟨its, rv, ⟨o, k, e, c, _, dt⟩, _⟩ := I.list hq
     obtain ⟨as, ra⟩ := ih _ _ hd rv
     rw [D.toPy]
     exact ⟨_, .list e c dt (by simpa using ra)⟩
 case nil => cases r; rw [D.nQ]; exact ⟨[], .nil⟩
 case cons =>
   cases r with
   | cons r rs =>
     obtain ⟨as, ra⟩ := ih n _ (h _ agV) r
     obtain ⟨bs, rb⟩ := ihs n _ (fun e he => h e (agY _ he)) rs
     rw [D.nQ]
     exact ⟨as ++ bs, .cons ra rb⟩
end
section
variable {X : Cx} {CL : Str -> Addr} {b : Bx} {δ δ1 δ2 δ3 : List (Option T)} {e e1 e2 : Expr} {d1 d2 : D} {ds : List D} {pos p2 pp : Pos} {n : Nat} {i : Nat} {x : Str} {t : T} {ez : List Stmt} {DD : dP}
theorem WX (hu : X.A.units + 64 < cLine) : u6 X (compareOp .Eq) (fun x y H Q => ∃ a c, bq X.K CL H a x /\ bq X.K CL H c y /\ gX 60 a /\ gX 60 c /\ Q (.bl (LR a c)) H) := by
 intro pins s σ H x y v u Q I rx ry h
 obtain ⟨a, c, ra, rc, da, dc, q⟩ := h
 obtain ⟨as, r1⟩ := vz I da ra rx
 obtain ⟨bs, r2⟩ := vz I dc rc ry
 exact SeqAt.rcAt_reads r1 r2 da.lay.1 dc.lay.1 (by have := da.lay.2; omega) X.prog X.w X.xe _ ⟨.bl _, H, I, rfl, q⟩
theorem WY (hu : X.A.units + 64 < cLine) : u6 X (compareOp .NotEq) (fun x y H Q => ∃ a c, bq X.K CL H a x /\ bq X.K CL H c y /\ gX 60 a /\ gX 60 c /\ Q (.bl (!LR a c)) H) := by
 intro pins s σ H x y v u Q I rx ry h
 obtain ⟨a, c, ra, rc, da, dc, q⟩ := h
 obtain ⟨as, r1⟩ := vz I da ra rx
 obtain ⟨bs, r2⟩ := vz I dc rc ry
 exact SeqAt.rcNeAt_reads r1 r2 da.lay.1 dc.lay.1 (by have := da.lay.2; omega) X.prog X.w X.xe _ ⟨.bl _, H, I, rfl, q⟩
theorem aak {op : CmpOp} {f : Bool -> Bool} (ho : u6 X (compareOp op) (fun x y H Q => ∃ a c, bq X.K CL H a x /\ bq X.K CL H c y /\ gX 60 a /\ gX 60 c /\ Q (.bl (f (LR a c))) H)) (h1 : dH X CL b e1 δ d1 δ1) (h2 : dH X CL b e2 δ1 d2 δ2) (k1 : gX 60 d1) (k2 : gX 60 d2)
   (hm : behindInMarks op e2 = false) : vo X CL b (.Compare e1 [op] [e2] pos) δ (f (LR d1 d2)) δ2 /\ bV X CL b (.Compare e1 [op] [e2] pos) δ (.sh (.bl (f (LR d1 d2)))) δ2 := by
 constructor
 . intro H Z σ ts vs Q S k
   refine Ay (tZ ho cI cI hm) (h1 H Z σ ts vs _ S fun v1 H1 Z1 z1 WZ S1 r1 => h2 H1 Z1 σ ts vs _ S1 fun v2 H2 Z2 z2 Nb S2 r2 => ?_)
   exact ⟨d1, d2, r1.mono Nb, r2, k1, k2, _, rfl, k H2 Z2 (z1.trans z2) (WZ.trans Nb) S2⟩
 . intro H Z σ ts vs Q S k
   refine bU (xq ho cI cI hm) (h1 H Z σ ts vs _ S fun v1 H1 Z1 z1 WZ S1 r1 => h2 H1 Z1 σ ts vs _ S1 fun v2 H2 Z2 z2 Nb S2 r2 => ?_)
   exact ⟨d1, d2, r1.mono Nb, r2, k1, k2, k _ H2 Z2 (z1.trans z2) (WZ.trans Nb) (S2.push (.bl _))⟩
theorem qE (hu : X.A.units + 64 < cLine) (h1 : dH X CL b e1 δ d1 δ1) (h2 : dH X CL b e2 δ1 d2 δ2) (k1 : gX 60 d1) (k2 : gX 60 d2) : vo X CL b (.Compare e1 [.Eq] [e2] pos) δ (LR d1 d2) δ2 /\ bV X CL b (.Compare e1 [.Eq] [e2] pos) δ (.sh (.bl (LR d1 d2))) δ2 :=
 aak (f := fun b => b) (WX hu) h1 h2 k1 k2 (k7 _)
theorem tD (hu : X.A.units + 64 < cLine) (h1 : dH X CL b e1 δ d1 δ1) (h2 : dH X CL b e2 δ1 d2 δ2) (k1 : gX 60 d1) (k2 : gX 60 d2) : vo X CL b (.Compare e1 [.NotEq] [e2] pos) δ (!LR d1 d2) δ2 /\ bV X CL b (.Compare e1 [.NotEq] [e2] pos) δ (.sh (.bl (!LR d1 d2))) δ2 :=
 aak (f := fun b => !b) (WY hu) h1 h2 k1 k2 (k7 _)
noncomputable def cutD {α : Type} (xs : List α) (lo hi : Option Int) : List α := (xs.drop (HT.xu xs.length 0 lo)).take (HT.xu xs.length xs.length hi - HT.xu xs.length 0 lo)
theorem aH.drop {K : PySem.W.Frag} {Z : Hp} : ∀ {ds : List L3.D} {vs : List V} (n : Nat), aH K CL Z ds vs -> aH K CL Z (ds.drop n) (vs.drop n)
 | _, _, 0, r => r
 | _, _, _ + 1, .nil => .nil
 | _, _, n + 1, .cons _ t => aH.drop n t
theorem aH.take {K : PySem.W.Frag} {Z : Hp} : ∀ {ds : List L3.D} {vs : List V} (n : Nat), aH K CL Z ds vs -> aH K CL Z (ds.take n) (vs.take n)
 | _, _, 0, _ => .nil
 | _, _, _ + 1, .nil => .nil
 | _, _, n + 1, .cons r t => .cons r (aH.take n t)
theorem aH.cut {K : PySem.W.Frag} {Z : Hp} {ds : List L3.D} {vs : List V} (r : aH K CL Z ds vs) (lo hi : Option Int) : aH K CL Z (cutD ds lo hi) (JW vs lo hi) := by
 unfold cutD JW
 rw [r.length]
 exact (r.drop _).take _
theorem gP : ∀ {ds : List L3.D}, D.bQ ds = true -> ∀ d ∈ ds, d.mw = true
 | [], _, _, h => by cases h
 | d :: ds, k, e, h => by
   rw [D.bQ, ahz] at k
   rcases ag4.mp h with h | h
   . subst h; exact k.1
   . exact gP k.2 e h
theorem pB : ∀ {ds : List L3.D}, (∀ d ∈ ds, d.mw = true) -> D.bQ ds = true
 | [], _ => rfl
 | d :: ds, h => by rw [D.bQ, h d agV, pB fun e he => h e (agY _ he)]; rfl
theorem HZ {α : Type} {xs : List α} {lo hi : Option Int} {x : α} (h : x ∈ cutD xs lo hi) : x ∈ xs := List.mem_of_mem_drop (List.mem_of_mem_take h)
noncomputable def W0 (X : Cx) (CL : Str -> Addr) (b : Bx) (e : Option Expr) (δ : List (Option T)) (k : Option Int) (δ' : List (Option T)) : Prop :=
 ∃ t, PO X e t /\ ∀ (H Z : Hp) (σ : L2.St) (ts : List T) (vs : List V) (Q : Option Int -> Hp -> Prop), aU X.K CL b H Z δ σ ts vs -> (∀ H' Z', aC Z Z' -> aC H H' -> aU X.K CL b H' Z' δ' σ ts vs -> Q k H') -> t σ H Q
theorem Ic : W0 X CL b none δ none δ := ⟨_, HC, fun H Z σ ts vs Q S k => k H Z (.refl _) (.refl _) S⟩
theorem Cm {k : Int} (h : dH X CL b e δ (.int k) δ1) : W0 X CL b (some e) δ (some k) δ1 := ⟨_, HD cI, fun H Z σ ts vs Q S kk => h H Z σ ts vs _ S fun v H1 Z1 z1 k1 S1 r => ⟨k, r.sc rfl, kk H1 Z1 z1 k1 S1⟩⟩
theorem Nf {lo hi : Option Expr} {l h : Option Int} (h1 : dH X CL b e δ (.lst ds) δ1) (hi1 : D.bQ ds = true) (h2 : W0 X CL b lo δ1 l δ2) (h3 : W0 X CL b hi δ2 h δ3) : bV X CL b (.Subscript e (.Slice lo hi none p2) pos) δ (.lst ((cutD ds l h).map T.sh)) δ3 := fun H Z σ ts vs Q S k => by
 obtain ⟨t2, po2, w2⟩ := h2
 obtain ⟨t3, po3, w3⟩ := h3
 refine bU (D6 HG cI po2 po3) (h1 H Z σ ts vs _ S fun v H1 Z1 z1 k1 S1 r => w2 H1 Z1 σ ts vs _ S1 fun H2 Z2 z2 k2 S2 => w3 H2 Z2 σ ts vs _ S2 fun H3 Z3 z3 k3 S3 => ?_)
 have r' := r.mono (k2.trans k3)
 cases r' with
 | lst hq rr =>
   refine ⟨_, _, rfl, hq, fun p hp => ?_⟩
   have rc := aH.mw S3.tp (pB fun d hd => gP hi1 d (HZ hd)) (rr.cut l h)
   obtain ⟨c, S4⟩ := (aU.qB rc S3).lg (g0 := []) (by simp [rc.length]) hp
   exact k _ _ _ (z1.trans (z2.trans z3)) (k1.trans (k2.trans (k3.trans c))) S4
theorem Kl (hm : X.mg "tuple" = none) (h : dH X CL b e δ (.lst ds) δ1) (hi : D.bQ ds = true) (hg : Gl X "tuple") (hs : starEach [e] X.env = (false, eval e X.env) :: starEach [] X.env := by exact aP rfl) : bV X CL b (.Call (.Name "tuple" pp) [e] [] pos) δ (.sh (.tup ds)) δ1 := fun H Z σ ts vs Q S k =>
 bU (iu mU hg hm qD (bD cI c6 hs) (he := hs)) (h H Z σ ts vs _ S fun v H1 Z1 z1 k1 S1 r => by
   cases r with
   | lst hq rr =>
     refine ⟨_, _, rfl, .inl ⟨hq, fun l hl => ?_⟩⟩
     obtain ⟨a, c, S2⟩ := (aU.qB (aH.mw S1.tp hi rr) S1).Ci (by simp [rr.length]) hl
     obtain ⟨Z3, z3, S3⟩ := S2.Cd
     rw [T.bS, iB] at S3
     exact k _ _ Z3 (z1.trans (a.trans z3)) (k1.trans c) S3)
theorem Bv {tl Qt : List T} {pa pb : Pos} (n : Vn X i x) (h0 : δ[i]? = some (some (.lst Qt))) (h : bV X CL b e δ t δ1) (h1 : δ1[i]? = some (some (.lst tl))) (hl : tl.length <= 1000000) (k : cU X CL b ez (δ1.set i (some (.lst (tl ++ [t])))) DD)
   (iz : attributeBase (.Name x pp) "append" X.env (eval (.Name x pp) X.env) = eval (.Name x pp) X.env := by rfl)
   (oW : ((backTo pb (starEach [e] X.env)).all (fun x => !x.1) && (backToKw pb (keywordEach [] X.env)).all (fun x => x.1.isSome) && decide ([e].length + ([] : List Keyword).length + (if ([] : List Keyword).isEmpty then 0 else 1) < 30)) = true := by rfl)
   (hline : (pa.endLine == pb.line) = true := by rfl) (hs : starEach [e] X.env = (false, eval e X.env) :: starEach [] X.env := by exact aP rfl) (AA : swapsWith (.Call (.Attribute (.Name x pp) "append" pa) [e] [] pb) none pos.line X.env = pure false := by rfl) :
   cU X CL b (.Expr (.Call (.Attribute (.Name x pp) "append" pa) [e] [] pb) pos :: ez) δ DD :=
 bG (WN i h0 h h1 (ahW hl (by rw [ahS]; decide)) k n.hi n.hv n.hd n.mS iz oW hline hs AA)
theorem aam {tl : List T} {k : Int} {j : Nat} {ps : Pos} (n : Vn X i x) (h : bV X CL b e δ t δ1) (h2 : dH X CL b e2 δ1 (.int k) δ1) (h1 : δ1[i]? = some (some (.lst tl))) (hk : FL tl.length k = some j) (kk : cU X CL b ez (δ1.set i (some (.lst (tl.set j t)))) DD)
   (ha : ∀ v, assign (.Subscript (.Name x pp) e2 ps) X.env v = (do
     let ov ← holding [v] (eval (.Name x pp) X.env)
     let iv ← holding [v, ov] (eval e2 X.env)
     standAt ps
     holding [v, ov, iv] (setItem ov iv v)
     release [v, ov, iv] []) := by intro _; rfl)
   (hs : swapsWithSole [.Subscript (.Name x pp) e2 ps] e pos.line X.env = pure false := by rfl) (hw : swappedStores [.Subscript (.Name x pp) e2 ps] e X.env = pure none := by rfl) (Rr : (assignEach [.Subscript (.Name x pp) e2 ps] X.env).map (·.2) = [assign (.Subscript (.Name x pp) e2 ps) X.env] := by rfl) :
   cU X CL b (.Assign [.Subscript (.Name x pp) e2 ps] e pos :: ez) δ DD := by
 refine bG fun H Z σ ts vs E S M => kH (Mb cI (Ma (fW n.hi n.hv n.hd n.mS) cI set_list ha) hs hw Rr) (h H Z σ ts vs _ S fun v H1 Z1 z1 k1 S1 => ?_)
 have hj : j < tl.length := (t7 hk).2.1
 obtain ⟨v0, e0, _⟩ := S1.look h1
 refine ⟨v0, e0, ?_⟩
 refine h2 H1 Z1 σ _ _ _ S1 fun v2 H2 Z2 z2 k2 S2 r2 => ?_
 obtain ⟨a, us, ea, J9, hu, S3⟩ := S2.setAt h1 hj
 rw [e0] at ea
 cases ea
 exact ⟨a, us, k, j, rfl, r2.sc rfl, J9, by rw [hu]; exact hk, M.nx _ σ _ Z2 (z1.trans z2) S3 kk⟩
theorem xC {n : Nat} (hn : ds.length = n) (hm : X.mg "len" = none) (h : dH X CL b e δ (.lst ds) δ1) (hg : Gl X "len") (hs : starEach [e] X.env = (false, eval e X.env) :: starEach [] X.env := by exact aP rfl) : bV X CL b (.Call (.Name "len" pp) [e] [] pos) δ (.sh (.int n)) δ1 := by
 subst hn
 exact xA hm h hg hs
theorem ju (h : bV X CL b e δ (.lst (ds.map T.sh)) δ1) : dH X CL b e δ (.lst ds) δ1 := by
 have := Vg h
 rwa [T.bS, iB] at this
end
theorem yG {α : Type} {f : α -> D} {l : List α} {k : Int} (z : α) (h0 : 0 <= k) (h1 : k < l.length) : An (l.map f) k = some (f (l.getD k.toNat z)) := by
 obtain ⟨j, rfl⟩ : ∃ j : Nat, k = j := ⟨k.toNat, by omega⟩
 refine aL ?_
 have hl : j < l.length := by omega
 rw [ahh, ag7 hl]
 simp [List.getD, hl]
noncomputable def wM (l : Bool) (ds : List D) : D := match l with
 | true => .lst ds
 | false => .tup ds
theorem bW {α : Type} {f : α -> D} (h : ∀ a, (f a).mw = true) : ∀ (l : List α), D.bQ (l.map f) = true
 | [] => rfl
 | a :: l => by rw [ahd, D.bQ, h a, bW h l]; rfl
section
variable {X : Cx} {CL : Str -> Addr} {b : Bx} {δ : List (Option T)} {e : Expr} {es : List Expr} {d : D} {pos : Pos} {n : Nat} {i : Nat} {x : Str} {t : T}
theorem Rt {k : Int} {u : Tok} (hm : X.mg x = some (.int k u)) (hg : Gl X x) (hd : (x == ("__debug__" : Str)) = false := by decide) : bV X CL b (.Name x pos) δ (.sh (.int k)) δ := fun H Z σ ts vs Q S kk =>
 bU (xo (v := .int k) hg hm ⟨u, rfl⟩ hd) (kk _ H Z (.refl _) (.refl _) (S.push (.int k)))
theorem El {k : Int} (hm : ∃ u, X.mg x = some (.int k u)) (hg : Gl X x) (hd : (x == ("__debug__" : Str)) = false := by decide) : bV X CL b (.Name x pos) δ (.sh (.int k)) δ := by
 obtain ⟨u, hm⟩ := hm
 exact Rt hm hg hd
theorem vE (n : Vn X i x) (h : δ[i]? = some (some t)) (e : t.bS = d) : dH X CL b (.Name x pos) δ d δ := e ▸ vB n h
theorem Cp (x : Str) : ∀ l : List Str, ZO (.str x) (l.map V.str) = decide (x ∈ l)
 | [] => by simp [ZO]
 | y :: l => by
   have ih := Cp x l
   unfold ZO at ih ⊢
   rw [ahd, aiE, ih]
   have e : ∀ a c : Str, Q0 (.str a) (.str c) = (a == c) := fun _ _ => rfl
   rw [e]
   by_cases h : y = x
   . subst h; simp
   . have h' : ¬ x = y := fun e => h e.symm
     simp [h, h']
theorem aH.strs {K : PySem.W.Frag} {Z : Hp} : ∀ {l : List Str} {vs : List V}, aH K CL Z (l.map D.str) vs -> vs = l.map V.str
 | [], _, r => by
   have r' : aH K CL Z [] _ := r
   cases r'; rfl
 | y :: l, _, r => by
   have r' : aH K CL Z (D.str y :: l.map D.str) _ := r
   cases r' with
   | cons r1 r2 => rw [r1.sc rfl, aH.strs r2]; rfl
theorem pC : ∀ l : List Str, (l.map V.str).all t8 = true
 | [] => rfl
 | y :: l => by rw [ahd, List.all_cons, pC l]; rfl
noncomputable def yH : Expr -> Option Str
 | .Constant (.str x) _ _ => some x
 | _ => none
noncomputable def vA : List Expr -> Option (List Str)
 | [] => some []
 | e :: es => (yH e).bind fun x => (vA es).map (x :: ·)
theorem Em {e : Expr} {x : Str} (h : yH e = some x) : ∃ j p, e = .Constant (.str x) j p := by
 unfold yH at h
 split at h
 . cases h; exact ⟨_, _, rfl⟩
 . cases h
theorem xD : ∀ {es : List Expr} {l : List Str}, vA es = some l -> Ec X CL b es δ ((l.map D.str).map T.sh) δ
 | [], l, h => by
   have e : l = [] := (ahg h).symm
   subst e
   exact bF
 | e :: es, l, h => by
   rw [vA] at h
   obtain ⟨x, hx, h⟩ := Option.bind_eq_some_iff.mp h
   obtain ⟨l', hl, rfl⟩ := ahw.mp h
   obtain ⟨j, p, rfl⟩ := Em hx
   exact aT aY (xD hl)
end
theorem W2 {n : Nat} {k : Int} (h0 : 0 <= k) (h1 : k < n) : FL n k = some k.toNat := by
 unfold FL
 rw [ag9 h0, ag9 h1]
theorem qF (l : List Int) : T.cK ((l.map D.int).map T.sh) = true := by
 rw [ahv]
 induction l with
 | nil => rfl
 | cons i r ih => rw [ahd, T.cK, ih]; rfl
section
variable {K : PySem.W.Frag} {CL : Str -> Addr} {b : Bx} {H Z : Hp} {δ : List (Option T)} {σ : L2.St} {ts tt : List T} {vs : List V} {t : T}
theorem aU.W3 {i j : Nat} (S : aU K CL b H Z δ σ ts vs) (hi : δ[i]? = some (some (.tup tt))) (hj : tt[j]? = some t) :
   ∃ a0 YR v, σ[i]? = some (some (.ref a0)) /\ Z a0 = some (.tup YR) /\ YR[j]? = some v /\ aU K CL b H Z (δ.set i (some (.tup (tt.set j (.sh .any))))) σ (t :: ts) (v :: vs) := by
 obtain ⟨fp, gp, e, r, nd, k⟩ := S.rep
 obtain ⟨v0, f1, f2, f3, hv, nG, rt, put, _⟩ := e.get hi
 subst nG
 cases rt with
 | @tup a0 YR _ _ hq r0 =>
   obtain ⟨vj, g1, g2, g3, hvj, hg, rj, set⟩ := r0.at hj
   subst hg
   have r2 := set (H' := H) (t' := .sh .any) (v' := vj) (g := []) (fun _ _ => rfl) (.sh (.any vj))
   rw [d8 hvj] at r2
   have e2 := put (H' := H) (.refl _) (fun _ _ => rfl) (bu.tup hq r2)
   rw [d8 hv] at e2
   have hp : ((f1 ++ ((g1 ++ ([] ++ g3)) ++ f3)) ++ (g2 ++ gp)).Perm ((f1 ++ ((g1 ++ (g2 ++ g3)) ++ f3)) ++ gp) := by
     simp only [aic, agT]
     refine ahA f1 (ahA g1 ?_)
     have := (ahl (l₁ := g3 ++ f3) (l₂ := g2)).append_right gp
     simp only [agT] at this
     exact this
   exact ⟨a0, YR, vj, hv, hq, hvj, ⟨⟨_, g2 ++ gp, e2, .cons rj r, hp.nodup_iff.mpr nd, fun a ha => k a (hp.mem_iff.mp ha)⟩, S.bh, S.zz, S.zh, S.new, S.tp, S.tab⟩⟩
end
section
variable {X : Cx} {CL : Str -> Addr} {b : Bx} {δ : List (Option T)} {tt : List T} {t : T} {i : Nat} {x : Str} {pp pc ps : Pos} {kj : Nat}
theorem jG (j : Nat) (n : Vn X i x) (h : δ[i]? = some (some (.tup tt))) (hj : tt[j]? = some t) : bV X CL b (.Subscript (.Name x pp) (.Constant (.int j) kj pc) ps) δ t (δ.set i (some (.tup (tt.set j (.sh .any))))) := fun H Z σ ts vs Q S k => by
 obtain ⟨a0, YR, v, hv, hq, hvj, S'⟩ := S.W3 h hj
 exact bU (yo FN (fW n.hi n.hv n.hd n.mS) Fv (fun _ _ => rfl)) ⟨_, hv, a0, YR, j, v, rfl, rfl, sF.of (S.zh _ _ hq), aL hvj, k v H Z (.refl _) (.refl _) S'⟩
end
section
variable {K : PySem.W.Frag} {CL : Str -> Addr} {b : Bx} {H H' Z : Hp} {δ : List (Option T)} {σ : L2.St} {ts tl : List T} {vs us : List V} {t : T} {v : V}
theorem gH.get : ∀ {fs : List (Str × D)} {gs : List (Str × V)} {f : Str} {d : D}, gH K CL Z fs gs -> fs.lookup f = some d -> ∃ v, gs.lookup f = some v /\ bq K CL Z d v
 | _, _, _, _, .nil, e => by simp at e
 | _, _, f, d, .cons (x := x) r t, e => by
   rw [aho] at e ⊢
   cases h : f == x with
   | true => rw [h] at e; cases e; exact ⟨_, rfl, r⟩
   | false => rw [h] at e; exact gH.get t e
noncomputable def jv (f : Str) (t : T) : List (Str × T) -> List (Str × T)
 | [] => [(f, t)]
 | (g, x) :: r => if g = f then (g, t) :: r else (g, x) :: jv f t r
theorem cV.length {fs : List (Str × T)} {gs : List (Str × V)} {fp : List Addr} (h : cV K CL H Z fs gs fp) : fs.length = gs.length :=
 cV.ind (P := fun d v _ => d.length = v.length) rfl (fun _ _ i => congrArg (· + 1) i) h
theorem cV.put {f : Str} {g : List Addr} (q : bu K CL H Z t v g) : ∀ {fs : List (Str × T)} {gs : List (Str × V)} {fp : List Addr}, cV K CL H Z fs gs fp →
   ∃ YS f', cV K CL H Z (jv f t fs) (k8 f v gs) YS /\ f'.Sublist fp /\ YS.Perm (g ++ f')
 | _, _, _, .nil => ⟨g ++ [], [], .cons q .nil, ahy _, aiN _⟩
 | _, _, _, .cons (x := x) (fp := fp) (gp := gp) r rs => by
   rw [jv, k8]
   by_cases h : x = f
   . rw [ag9 h, ag9 h]
     exact ⟨g ++ gp, gp, .cons q rs, ahI _ _, aiN _⟩
   . rw [ag2 h, ag2 h]
     obtain ⟨p, p', h1, h2, h3⟩ := cV.put (f := f) q rs
     refine ⟨fp ++ p, fp ++ p', .cons r h1, ahq (ahy _) h2, (ahA fp h3).trans ?_⟩
     rw [← agT, ← agT]
     exact ahl.append_right p'
theorem aU.Cq {a : Addr} {o : HO} {YS gp fp HY : List Addr} {δ2 : List (Option T)} (hm : mC o = false) (S : aU K CL b H Z δ σ ts vs) (own : ∀ c ∈ fp ++ gp, Z c = none /\ b.B c = none) (ha : a ∈ fp ++ gp)
   (e' : cH K CL (upd H a o) Z δ2 σ YS) (r' : aE K CL (upd H a o) Z tl us HY) (pm : (YS ++ HY).Nodup) (sub : ∀ c ∈ YS ++ HY, c ∈ fp ++ gp) :
   aU K CL b (upd H a o) Z δ2 σ tl us := by
 have oa := own a ha
 refine ⟨⟨_, _, e', r', pm, fun c hc => own c (sub c hc)⟩, fun c u q => ?_, S.zz, fun c u q => ?_, S.new, fun c u q i => ?_, S.tab⟩
 . rw [aq (bO q oa.2)]; exact S.bh c u q
 . rw [aq (bO q oa.1)]; exact S.zh c u q
 . by_cases hc : c = a
   . subst hc; rw [aI] at q; cases q; rw [hm] at i; cases i
   . rw [aq hc] at q; exact S.tp c u q i
theorem aU.setField {i : Nat} {x : Addr} {c f : Str} {fs : List (Str × T)} (S : aU K CL b H Z δ σ (t :: ts) (v :: vs)) (hi : δ[i]? = some (some (.pin x (.ins c fs)))) :
   ∃ dx gs, σ[i]? = some (some (.ref x)) /\ H x = some (.ins (CL c) dx gs) /\ gs.length = fs.length /\ aU K CL b (upd H x (.ins (CL c) dx (k8 f v gs))) Z (δ.set i (some (.pin x (.ins c (jv f t fs))))) σ ts vs := by
 obtain ⟨fp, gp, e, r, nd, k⟩ := S.rep
 obtain ⟨v0, f1, f2, f3, hv, nG, rt, put, _⟩ := e.get hi
 subst nG
 cases rt with
 | pin rt =>
 cases rt with
 | @ins a dx _ gs _ g ha rs =>
   cases r with
   | @cons _ _ _ _ ft gr q1 q2 =>
     have ne : ∀ c ∈ (f1 ++ (g ++ f3)) ++ (ft ++ gr), c ≠ x := fun c hc e => by
       subst e
       have hp : ((f1 ++ ((c :: g) ++ f3)) ++ (ft ++ gr)).Perm (c :: ((f1 ++ (g ++ f3)) ++ (ft ++ gr))) := by
         rw [ahi, ← ahi]
         exact (ahX.append_right _)
       exact (ahE.mp (hp.nodup_iff.mp nd)).1 hc
     refine ⟨dx, gs, hv, ha, rs.length.symm, ?_⟩
     have q1' := q1.mono (H' := upd H x (.ins (CL c) dx (k8 f v gs))) (.refl _) fun c hc => aq (ne c (by simp [hc]))
     have rs' := rs.mono (H' := upd H x (.ins (CL c) dx (k8 f v gs))) (.refl _) fun c hc => aq (ne c (by simp [hc]))
     obtain ⟨p, p', h1, h2, h3⟩ := cV.put (f := f) q1' rs'
     have r1 : bu K CL (upd H x (.ins (CL c) dx (k8 f v gs))) Z (.pin x (.ins c (jv f t fs))) (.ref x) (x :: p) := .pin (.ins aI h1)
     have e2 := put (H' := upd H x (.ins (CL c) dx (k8 f v gs))) (.refl _) (fun c hc => aq (ne c (by
       rcases ag0.mp hc with h | h
       . simp [h]
       . simp [h]))) r1
     rw [d8 hv] at e2
     have hp : ((f1 ++ ((x :: p) ++ f3)) ++ gr).Perm ((f1 ++ ((x :: p') ++ f3)) ++ (ft ++ gr)) := by
       have h4 : ((f1 ++ ((x :: p) ++ f3)) ++ gr).Perm ((f1 ++ ((x :: (ft ++ p')) ++ f3)) ++ gr) := ((h3.cons x).append_right f3).append_left f1 |>.append_right gr
       refine h4.trans ?_
       simp only [ahi, agT]
       refine ahA f1 (List.Perm.cons x ?_)
       have := (ahl (l₁ := ft) (l₂ := p' ++ f3)).append_right gr
       simp only [agT] at this
       exact this
     have sb : ((f1 ++ ((x :: p') ++ f3)) ++ (ft ++ gr)).Sublist ((f1 ++ ((x :: g) ++ f3)) ++ (ft ++ gr)) :=
       ahq (ahq (ahy _) (ahq (List.Sublist.cons₂ x h2) (ahy _))) (ahy _)
     exact S.Cq rfl k (by simp) e2 (q2.mono (.refl _) fun c hc => aq (ne c (by simp [hc]))) (hp.nodup_iff.mpr (nd.sublist sb)) fun c hc => sb.subset (hp.mem_iff.mp hc)
end
section
variable {X : Cx} {CL : Str -> Addr} {b : Bx} {δ δ1 : List (Option T)} {e : Expr} {t : T} {d : D} {c f x : Str} {fs : List (Str × D)} {pos : Pos} {DD : dP} {i : Nat}
theorem gJ (hc : j5 X.K (CL c)) (n : aF X.K (CL c) f) (h : dH X CL b e δ (.ins c fs) δ1) (hl : fs.lookup f = some d) (hb : attributeBase e f X.env (eval e X.env) = eval e X.env := by rfl) :
   dH X CL b (.Attribute e f pos) δ d δ1 := fun H Z σ ts vs Q S k =>
 bU (FH cI hb) (h H Z σ ts vs _ S fun v H' Z' z s S' r => by
   cases r with
   | @ins a dx _ gs _ ha rf =>
     obtain ⟨w, hw, B7⟩ := rf.get hl
     exact ⟨a, CL c, dx, gs, w, rfl, ha, hc, n, hw, k w H' Z' z s S' B7⟩)
theorem iC (hc : j5 X.K (CL c)) (n : aF X.K (CL c) f) (h : bV X CL b e δ (.sh (.ins c fs)) δ1) (hl : fs.lookup f = some d) (hb : attributeBase e f X.env (eval e X.env) = eval e X.env := by rfl) :
   bV X CL b (.Attribute e f pos) δ (.sh d) δ1 := fun H Z σ ts vs Q S k =>
 bU (FH cI hb) (h H Z σ ts vs _ S fun v H' Z' z s S' => by
   obtain ⟨fp, gp, _, r, _, _⟩ := S'.rep
   cases r with
   | cons r _ =>
     cases r with
     | sh r =>
       cases r with
       | @ins a dx _ gs _ ha rf =>
         obtain ⟨w, hw, B7⟩ := rf.get hl
         exact ⟨a, CL c, dx, gs, w, rfl, S'.zh _ _ ha, hc, n, hw, k w H' Z' z s (S'.pop.push B7)⟩)
theorem qG {ez : List Stmt} {a : Addr} {gs : List (Str × T)} {pa pb pc : Pos} (hc : j5 X.K (CL c)) (n : aF X.K (CL c) f) (nm : Vn X i x) (h : bV X CL b e δ t δ1) (h1 : δ1[i]? = some (some (.pin a (.ins c gs)))) (hl : gs.length < 1000)
   (k : cU X CL b ez (δ1.set i (some (.pin a (.ins c (jv f t gs))))) DD) (hs : swapsWith e (some (.Attribute (.Name x pa) f pb)) pc.line X.env = pure false := by rfl) :
   cU X CL b (.Assign [.Attribute (.Name x pa) f pb] e pc :: ez) δ DD := bG fun H Z σ ts vs E S M =>
 kH (Mt (fW nm.hi nm.hv nm.hd nm.mS) cI hs) (h H Z σ ts vs _ S fun v H' Z' z s S' => by
   obtain ⟨dx, ws, hv, hx, hlen, S2⟩ := S'.setField (f := f) h1
   exact ⟨.ref a, hv, a, CL c, dx, ws, rfl, hx, hc, n, by rw [hlen]; exact hl, M.nx _ σ _ Z' z S2 k⟩)
end
noncomputable def YT (K : PySem.W.Frag) (CL : Str -> Addr) {A : Type} (c : Str) (n : Nat) (arg : A -> List D) (Pre : A -> Prop) (res : A -> List (Str × T)) : Sp := fun vs H Q _ =>
 ∃ (W H0 : Hp) (a : A) (x dx : Addr) (us : List V), vs = .ref x :: us /\ H0 x = none /\ H0 dx = none /\ dx ≠ x /\ H = upd (upd H0 dx (.own x)) x (.ins (CL c) dx []) ∧
   aC W H0 /\ (∀ c o, H0 c = some o -> mC o = true -> W c = some o) /\ aH K CL W (arg a) us /\ (arg a).length + 1 = n /\ Pre a /\ oX CL W ∧
   ∀ H' W' fp, aC H0 H' -> aC W W' -> aC W' H' -> (∀ c o, W' c = some o -> W c = none -> H0 c = none) -> (∀ c o, H' c = some o -> mC o = true -> W' c = some o) →
     bu K CL H' W' (.ins c (res a)) (.ref x) fp -> fp.Nodup -> (∀ c ∈ fp, W' c = none /\ H0 c = none) -> Q .non H'
section
variable {X : Cx} {CL : Str -> Addr} {b : Bx} {δ δ1 δ2 : List (Option T)} {e o : Expr} {es : List Expr} {pos pp apos : Pos}
variable {A : Type} {k n : Nat} {f : Addr} {fd : FuncData} {ps : List Str} {arg : A -> List D} {Pre : A -> Prop} {x c m : Str}
theorem Ru {res : A -> List (Str × T)} (a : A) (M : Mk X.K (CL c) f) (F : cQ X.prog X.w X.K X.mg X.base kU k f fd ps (YT X.K CL c n arg Pre res)) (hr : dG (k + 1) X.A) (hm : X.mg x = some (.ref (CL c))) (hb : Binds X.K fd ps [])
   (h : Ka X CL b (e :: es) δ (arg a) δ1) (hn : (arg a).length + 1 = n) (hp : Pre a) (hc : T.jq (res a) = true) (hg : Gl X x)
   (nI : (x == ("__debug__" : Str)) = false := by decide) (he : starEach (e :: es) X.env = (false, eval e X.env) :: starEach es X.env := by exact aP rfl) (hpl : (backTo pos (starEach es X.env)).any (·.1) = false := by rfl) :
   bV X CL b (.Call (.Name x pp) (e :: es) [] pos) δ (.ins c (res a)) δ1 := fun H Z σ ts vs Q S kk =>
 bU (HB M F hr hg hm hb .nil sG Bs nI he hpl) (h H Z σ ts vs _ S fun us H1 Z1 z1 k1 S1 r x dx hx hdx ne => by
   rw [ag3]
   refine ⟨H1, H1, a, x, dx, us, rfl, hx, hdx, ne, rfl, .refl _, fun _ _ q _ => q, r, hn, hp, S1.MR, fun H' W' fp hh ww wh nw tp rt nd own => ⟨rfl, ?_⟩⟩
   obtain ⟨Z', z', S'⟩ := S1.back hh S1.zh ww wh nw tp rt nd own (.inr (by rw [T.clean]; exact hc))
   exact kk _ H' Z' (z1.trans z') (k1.trans hh) S')
theorem Ng {res : A -> List (Str × T)} (a : A) (M : Mk X.K (CL c) f) (F : cQ X.prog X.w X.K X.mg X.base kU k f fd ps (YT X.K CL c n arg Pre res)) (hr : dG (k + 1) X.A) (hm : X.mg x = some (.ref (CL c))) (hb : Binds X.K fd ps [])
   (h : Ec X CL b (e :: es) δ ((arg a).map T.sh) δ1) (hn : (arg a).length + 1 = n) (hp : Pre a) (hg : Gl X x)
   (nI : (x == ("__debug__" : Str)) = false := by decide) (he : starEach (e :: es) X.env = (false, eval e X.env) :: starEach es X.env := by exact aP rfl) (hpl : (backTo pos (starEach es X.env)).any (·.1) = false := by rfl) :
   bV X CL b (.Call (.Name x pp) (e :: es) [] pos) δ (.ins c (res a)) δ1 := fun H Z σ ts vs Q S kk =>
 bU (HB M F hr hg hm hb .nil sG Bs nI he hpl) (h H Z σ ts vs _ S fun us H1 Z1 hl z1 k1 S1 x dx hx hdx ne => by
   rw [ag3]
   have Vk : us.length = (arg a).length := by rw [hl, agU]
   have S2 := S1.drops (by simp [Vk])
   refine ⟨Z1, H1, a, x, dx, us, rfl, hx, hdx, ne, rfl, S1.zh, S1.tp, S1.Rj Vk, hn, hp, S1.FU, fun H' W' fp hh ww wh nw tp rt nd own => ⟨rfl, ?_⟩⟩
   obtain ⟨Z', z', S'⟩ := S2.back hh (.refl _) ww wh nw tp rt nd own (.inl rfl)
   exact kk _ H' Z' (z1.trans z') (k1.trans hh) S')
theorem Rw {res : A -> T} {fs : List (Str × D)} {ds : List D} {pl : Sem Bool} (a : A) (cc : j5 X.K (CL c)) (hm : Meth X.K (CL c) m f) (F : cQ X.prog X.w X.K X.mg X.base kU k f fd ps (Az X.K CL n arg Pre res)) (hr : dG k X.A) (hb : Binds X.K fd ps [])
   (ho : dH X CL b o δ (.ins c fs) δ1) (hf : fs.lookup m = none) (h : Ka X CL b (e :: es) δ1 ds δ2) (W4 : arg a = .ins c fs :: ds) (hn : (arg a).length = n) (hp : Pre a) (hc : (res a).clean = true)
   (he : starEach (e :: es) X.env = (false, eval e X.env) :: starEach es X.env := by exact aP rfl) (hpl : (backTo pos (starEach es X.env)).any (·.1) = false := by rfl)
   (ht : eval (.Call (.Attribute o m apos) (e :: es) [] pos) X.env = (do
     let ov ← eval o X.env
     standAt apos.atName
     let (f, first) ← holding [ov] (getMethod ov m pl)
     callWith pos f first (backTo pos (starEach (e :: es) X.env)) (backToKw pos (keywordEach [] X.env))) := by rfl) :
   bV X CL b (.Call (.Attribute o m apos) (e :: es) [] pos) δ (res a) δ2 := fun H Z σ ts vs Q S kk =>
 bU (Hz cI cc hm F hr hb .nil sG Bs he hpl ht) (ho H Z σ ts vs _ S fun v H1 Z1 z1 k1 S1 r1 => by
   cases r1 with
   | @ins aa dx _ gs _ ha rf =>
     have hfm : gs.lookup m = none := by
       have : ∀ {fs : List (Str × D)} {gs : List (Str × V)}, gH X.K CL H1 fs gs -> fs.lookup m = none -> gs.lookup m = none := by
         intro fs gs r
         induction fs generalizing gs with
         | nil => intro _; cases r; rfl
         | cons p fs ih =>
           cases r with
           | cons q r =>
             intro h
             rw [aho] at h ⊢
             split at h
             . cases h
             . rename_i hh; exact ih r h
       exact this rf hf
     refine ⟨aa, dx, gs, rfl, ha, hfm, h H1 Z1 σ ts vs _ S1 fun us H2 Z2 z2 k2 S2 r2 => ?_⟩
     rw [ag3]
     refine ⟨H2, a, .refl _, fun _ _ q _ => q, by rw [W4]; exact .cons (.ins (k2 _ _ ha) (rf.mono k2)) r2, hn, hp, S2.MR, fun v H' W' fp hh ww wh nw tp rt nd own => ?_⟩
     obtain ⟨Z', z', S'⟩ := S2.back hh S2.zh ww wh nw tp rt nd own (.inr hc)
     exact kk v H' Z' (z1.trans (z2.trans z')) (k1.trans (k2.trans hh)) S')
theorem Nh {res : A -> T} {fs : List (Str × D)} {pl : Sem Bool} (a : A) (cc : j5 X.K (CL c)) (hm : Meth X.K (CL c) m f) (F : cQ X.prog X.w X.K X.mg X.base kU k f fd ps (Az X.K CL n arg Pre res)) (hr : dG k X.A) (hb : Binds X.K fd ps [])
   (ho : dH X CL b o δ (.ins c fs) δ1) (hf : ∀ {H : Hp} {gs : List (Str × V)}, gH X.K CL H fs gs -> gs.lookup m = none) (W4 : arg a = [.ins c fs]) (hn : (arg a).length = n) (hp : Pre a) (hc : (res a).clean = true)
   (ht : eval (.Call (.Attribute o m apos) [] [] pos) X.env = (do
     let ov ← eval o X.env
     standAt apos.atName
     let (f, first) ← holding [ov] (getMethod ov m pl)
     callWith pos f first (backTo pos (starEach [] X.env)) (backToKw pos (keywordEach [] X.env))) := by rfl) :
   bV X CL b (.Call (.Attribute o m apos) [] [] pos) δ (res a) δ1 := fun H Z σ ts vs Q S kk =>
 bU (My cI cc hm F hr hb .nil sG ht) (ho H Z σ ts vs _ S fun v H1 Z1 z1 k1 S1 r1 => by
   cases r1 with
   | @ins aa dx _ gs _ ha rf =>
     refine ⟨aa, dx, gs, rfl, ha, hf rf, ?_⟩
     refine ⟨H1, a, .refl _, fun _ _ q _ => q, by rw [W4]; exact .cons (.ins ha rf) .nil, hn, hp, S1.MR, fun v H' W' fp hh ww wh nw tp rt nd own => ?_⟩
     obtain ⟨Z', z', S'⟩ := S1.back hh S1.zh ww wh nw tp rt nd own (.inr hc)
     exact kk v H' Z' (z1.trans z') (k1.trans hh) S')
end
theorem Ie {P : Program} {w : World} {K : PySem.W.Frag} {mg : Str -> Option Value} {base : Heap} {CL : Str -> Addr} {x qual c : Str} {st : Stmt} {f : Addr} {fd : FuncData} {N ps : List Str} {k : Nat} {A : Type} {arg : A -> List D} {Pre : A -> Prop} {res : A -> List (Str × T)} (F : mV K x qual st f fd) (S : aS N ps (ao st))
   (hb : ∀ (gO : Value) (Ar : Around) (outer : List Env) (s : Shared) (H : Hp) (E : XK) (b : Bx) (a : A) (y : Addr), dG k (Ar.deeper (envOfC qual (ao st) s.heap.objs.size f gO)) -> Pre a →
     cU (yk kU P w K mg base N qual (ao st) f gO Ar outer s H E).QL CL b (cB st) (some (.pin y (.ins c [])) :: ((arg a).map (fun d => some (T.sh d)) ++ List.replicate (N.length - ((arg a).length + 1)) none))
       { nx := fun δ => δ[0]? = some (some (.pin y (.ins c (res a)))), rt := fun _ _ => False }) :
   cQ P w K mg base kU (k + 1) f fd ps (YT K CL c ps.length arg Pre res) := by
 refine F.ok S (fun vs H Q E h => ?_) (fun gO Ar outer s H vs Q E hr h => ?_)
 . obtain ⟨W, H0, a, y, dx, us, rfl, _, _, _, _, _, _, r, hl, _⟩ := h
   rw [ahu, ← r.length]; exact hl
 . obtain ⟨W, H0, a, y, dx, us, rfl, hy, hdx, ne, rfl, wh, tp, r, hl, hp, tb, kk⟩ := h
   have old : ∀ {d : Addr} {o : HO}, H0 d = some o -> upd (upd H0 dx (.own y)) y (.ins (CL c) dx []) d = some o := fun {d o} q => by
     rw [aq (bO q hy), aq (bO q hdx)]; exact q
   refine ⟨_, LN, hb gO Ar outer s _ E ⟨H0, W⟩ a y hr hp _ W _ [] [] _ ⟨⟨[y] ++ [], [], ?_, .nil, by simp, fun d hd => ?_⟩, fun d o q => old q, .refl _, fun d o q => old (wh d o q), fun d o q z => ?_, fun d o q i => ?_, tb⟩ ⟨fun δ' σ' H' Z' s' S' e => ?_, fun t v H' Z' δ' σ' s' S' e => e.elim, fun _ _ _ _ _ _ e => e.elim, fun _ _ _ _ _ _ e => e.elim⟩⟩
   . unfold L2.start
     rw [ahd, ahu, ahi, ← r.length]
     exact .cons (.pin (.ins aI .nil)) (lq _ r)
   . have : d = y := by simpa using hd
     subst this
     exact ⟨FW wh hy, hy⟩
   . have q' : W d = some o := q
     have z' : W d = none := z
     rw [q'] at z'; cases z'
   . by_cases h1 : d = y
     . subst h1; rw [aI] at q; cases q; cases i
     . rw [aq h1] at q
       by_cases h2 : d = dx
       . subst h2; rw [aI] at q; cases q; cases i
       . rw [aq h2] at q; exact tp d o q i
   . obtain ⟨fp, gp, eE, _, nd, own⟩ := S'.rep
     obtain ⟨v, f1, f2, f3, hv, nG, rt, _, _⟩ := eE.get e
     subst nG
     cases rt with
     | pin rt =>
       refine kk H' Z' f2 S'.bh S'.zz S'.zh S'.new S'.tp rt ?_ fun d hd => own d (by simp [hd])
       have h1 := (aht.mp nd).1
       exact (aht.mp (aht.mp h1).2.1).1
section
variable {X : Cx} {CL : Str -> Addr} {b : Bx} {δ δ1 δ2 : List (Option T)} {e e1 e2 : Expr} {t : T} {ds Km : List D} {x : Str} {pos pp : Pos} {DD : dP} {i : Nat} {ez body : List Stmt}
theorem Rx (g : Gx X) (P : Nat -> List (Option T) -> Prop) (m : Nat) (h0 : P m δ)
   (hs : ∀ m δ, P m δ -> ∃ p δ1, vo X CL b e δ p δ1 ∧
     (p = true -> cU X CL b body δ1 { nx := fun δ2 => ∃ m', m' < m /\ P m' δ2, rt := DD.rt, bk := fun δ2 => cU X CL b ez δ2 DD, ct := fun δ2 => ∃ m', m' < m /\ P m' δ2 }) /\ (p = false -> cU X CL b ez δ1 DD)) :
   cU X CL b (.While e body [] pos :: ez) δ DD := bG fun H Z σ ts vs E S M =>
 kH (Mg g.xe Rc LN) (by
   refine ⟨fun m σ H => ∃ Z2 δ2, aC Z Z2 /\ aU X.K CL b H Z2 δ2 σ ts vs /\ P m δ2, ⟨m, Z, δ, .refl _, S, h0⟩, ?_⟩
   rintro m σ H ⟨Z2, δ2, z2, S2, p2⟩
   obtain ⟨p, δ3, ht, h1, h2⟩ := hs m δ2 p2
   refine ht H Z2 σ ts vs _ S2 fun H3 Z3 z3 k3 S3 => ?_
   cases p with
   | true =>
     rw [ag9 rfl]
     refine ⟨fun σ' H' => ∃ m', m' < m /\ ∃ Z2 δ2, aC Z Z2 /\ aU X.K CL b H' Z2 δ2 σ' ts vs /\ P m' δ2, fun σ' H' q => q, ?_⟩
     refine h1 rfl H3 Z3 σ ts vs _ S3 ⟨fun δ' σ' H' Z' s' S' ⟨m', l, q⟩ => ⟨m', l, Z', δ', z2.trans (z3.trans s'), S', q⟩, fun t v H' Z' δ' σ' s' S' q => M.rt t v H' Z' δ' σ' (z2.trans (z3.trans s')) S' q,
       fun δ' σ' H' Z' s' S' q => M.nx δ' σ' H' Z' (z2.trans (z3.trans s')) S' q, fun δ' σ' H' Z' s' S' ⟨m', l, q⟩ => ⟨m', l, Z', δ', z2.trans (z3.trans s'), S', q⟩⟩
   | false =>
     rw [ag2 (by decide)]
     exact M.nx δ3 σ H3 Z3 (z2.trans z3) S3 (h2 rfl))
noncomputable def aao (K : PySem.W.Frag) : R2 := fun x y H Q => ∃ l b xs zs, x = .ref l /\ y = .ref b /\ oS K H l xs /\ oS K H b zs /\ xs.length + zs.length <= sizeLine /\ ∀ p, H p = none -> Q (.ref p) (upd H p (.lst (xs ++ zs)))
theorem Ig : u6 X (binaryOp .Add) (aao X.K) := by
 intro pins s σ H x y v u Q I rx ry h
 obtain ⟨l, b, xs, zs, rfl, rfl, hH, hB, hz, q⟩ := h
 cases rx
 cases ry
 obtain ⟨its, r, pl, _⟩ := I.list hH
 obtain ⟨vm, r2, pl2, _⟩ := I.list hB
 have e1 := r.length
 have e2 := r2.length
 obtain ⟨⟨c1, dd, da1, sl⟩, ho, hc, n, hd⟩ := pl.isList
 obtain ⟨⟨c2, dd2, da2, sl2⟩, ho2, hc2, n2, hd2⟩ := pl2.isList
 cases hc; cases hc2; cases hd; cases hd2
 refine concat_meets ⟨_, ho, rfl⟩ ⟨_, ho2, rfl⟩ noFill_list_add seq_list_add PySem.F.slot_list_add PySem.F.entry_list_add (PySem.F.args_list_add_2 (Value.ref l) (Value.ref b))
   (list_addW l b its.toArray vm.toArray n n2 dd dd2 sl sl2 (by rw [ahf, ahf]; omega)) ⟨ho, ho2, ?_⟩
 have ea : its.toArray ++ vm.toArray = (its ++ vm).toArray := by simp
 rw [ea]
 exact ⟨.ref _, _, I.acQ (t' := s.toks) (r.append r2) (by rw [ahc]; omega), rfl, q _ I.fresh⟩
theorem aH.app {K : PySem.W.Frag} {Z : Hp} {ds Km : List L3.D} {vs vs2 : List V} (h : aH K CL Z ds vs) (r2 : aH K CL Z Km vs2) : aH K CL Z (ds ++ Km) (vs ++ vs2) :=
 aH.ind (P := fun ds vs => aH K CL Z (ds ++ Km) (vs ++ vs2)) r2 (fun r _ i => .cons r i) h
theorem Ry (h1 : dH X CL b e1 δ (.lst ds) δ1) (h2 : dH X CL b e2 δ1 (.lst Km) δ2) (i1 : D.bQ ds = true) (i2 : D.bQ Km = true) (hz : ds.length + Km.length <= sizeLine) :
   bV X CL b (.BinOp e1 .Add e2 pos) δ (.lst ((ds ++ Km).map T.sh)) δ2 := fun H Z σ ts vs Q S k =>
 bU (Hv Ig cI cI) (h1 H Z σ ts vs _ S fun v1 H1 Z1 z1 k1 S1 r1 => h2 H1 Z1 σ ts vs _ S1 fun v2 H2 Z2 z2 k2 S2 r2 => by
   have WC := r1.mono k2
   cases WC with
   | lst hq1 rr1 =>
     cases r2 with
     | lst hq2 Rz =>
       refine ⟨_, _, _, _, rfl, rfl, hq1, hq2, by rw [← rr1.length, ← Rz.length]; exact hz, fun p hp => ?_⟩
       have rc := aH.app (aH.mw S2.tp i1 rr1) (aH.mw S2.tp i2 Rz)
       obtain ⟨c, S4⟩ := (aU.qB rc S2).lg (g0 := []) (by simp [rc.length, rr1.length, Rz.length]) hp
       exact k _ _ _ (z1.trans z2) (k1.trans (k2.trans c)) S4)
theorem boot_min : bootBuiltins "min" = some (.builtin "min") := by decide +kernel
theorem boot_max : bootBuiltins "max" = some (.builtin "max") := by decide +kernel
theorem boot_str : bootBuiltins "str" = some (.type "str") := by decide +kernel
theorem RA {i j : Int} (g : Gx X) (hm : X.mg "min" = none) (hg : Gl X "min") (h : Ka X CL b [e1, e2] δ [.int i, .int j] δ1) (hs : starEach [e1, e2] X.env = (false, eval e1 X.env) :: starEach [e2] X.env := by exact aP rfl) (hpl : (backTo pos (starEach [e2] X.env)).any (·.1) = false := by rfl) :
   bV X CL b (.Call (.Name "min" pp) [e1, e2] [] pos) δ (.sh (.int (if j < i then j else i))) δ1 := fun H Z σ ts vs Q S k =>
 bU (nJ (JR g.calm) hg hm boot_min Bs (he := hs) (hpl := hpl)) (h H Z σ ts vs _ S fun us H1 Z1 z1 k1 S1 r => by
   cases r with
   | cons r1 r =>
     cases r with
     | cons r2 r =>
       cases r
       rw [r1.sc rfl, r2.sc rfl]
       exact ⟨i, j, rfl, k _ H1 Z1 z1 k1 (S1.push (.int _))⟩)
theorem RB {i j : Int} (g : Gx X) (hm : X.mg "max" = none) (hg : Gl X "max") (h : Ka X CL b [e1, e2] δ [.int i, .int j] δ1) (hs : starEach [e1, e2] X.env = (false, eval e1 X.env) :: starEach [e2] X.env := by exact aP rfl) (hpl : (backTo pos (starEach [e2] X.env)).any (·.1) = false := by rfl) :
   bV X CL b (.Call (.Name "max" pp) [e1, e2] [] pos) δ (.sh (.int (if j > i then j else i))) δ1 := fun H Z σ ts vs Q S k =>
 bU (nJ (JQ g.calm) hg hm boot_max Bs (he := hs) (hpl := hpl)) (h H Z σ ts vs _ S fun us H1 Z1 z1 k1 S1 r => by
   cases r with
   | cons r1 r =>
     cases r with
     | cons r2 r =>
       cases r
       rw [r1.sc rfl, r2.sc rfl]
       exact ⟨i, j, rfl, k _ H1 Z1 z1 k1 (S1.push (.int _))⟩)
theorem RC {i : Int} (hm : X.mg "str" = none) (hg : Gl X "str") (h : dH X CL b e δ (.int i) δ1) (hi : i.natAbs.log2 < 1920) (hs : starEach [e] X.env = (false, eval e X.env) :: starEach [] X.env := by exact aP rfl) :
   bV X CL b (.Call (.Name "str" pp) [e] [] pos) δ (.sh (.str (toString i))) δ1 := fun H Z σ ts vs Q S k =>
 bU (iu t6 hg hm boot_str (bD cI c6 hs) (he := hs)) (h H Z σ ts vs _ S fun v H1 Z1 z1 k1 S1 r => by
   rw [r.sc rfl]
   exact ⟨i, rfl, hi, k _ H1 Z1 z1 k1 (S1.push (.str _))⟩)
end
structure Fm (X : Cx) (CL : Str -> Addr) (x : Str) (k n : Nat) {A : Type} (arg : A -> List D) (Pre : A -> Prop) (res : A -> List (Str × T)) : Prop where
 ex : ∃ f fd ps, Mk X.K (CL x) f /\ cQ X.prog X.w X.K X.mg X.base kU k f fd ps (YT X.K CL x n arg Pre res) /\ X.mg x = some (.ref (CL x)) /\ Binds X.K fd ps []
 room : dG (k + 1) X.A
structure Fq (X : Cx) (CL : Str -> Addr) (c m : Str) (k n : Nat) {A : Type} (arg : A -> List D) (Pre : A -> Prop) (res : A -> T) : Prop where
 ex : ∃ f fd ps, Meth X.K (CL c) m f /\ cQ X.prog X.w X.K X.mg X.base kU k f fd ps (Az X.K CL n arg Pre res) /\ Binds X.K fd ps []
 room : dG k X.A
 cls : j5 X.K (CL c)
noncomputable def Ni (N : List Str) (y : Addr) (c : Str) (ds : List D) : List (Option T) := some (.pin y (.ins c [])) :: (ds.map (fun d => some (T.sh d)) ++ List.replicate (N.length - (ds.length + 1)) none)
theorem W5 {K : PySem.W.Frag} {CL CL' : Str -> Addr} {arg : List Int -> List D} {pre : List Int -> Prop} {res : List Int -> T} (ha : ∀ a, arg a = [.lst (a.map .int)]) (hr : ∀ a, res a = .sh (.bl true)) (h0 : ∀ x, HQ x = true -> CL x = 0) :
   ∀ (vs : List V) (H : Hp) (Q : VK) (E : XK), Az K CL' 1 arg pre res vs H Q E -> Az K CL 1 arg pre res vs H Q E := by
 rintro vs H Q E ⟨W, a, h1, h2, h3, h4, h5, _, k⟩
 have W6 : ∀ {l : List Int} {us : List V}, aH K CL' W (l.map .int) us -> aH K CL W (l.map .int) us := by
   intro l
   induction l with
   | nil => intro us r; cases r; exact .nil
   | cons i l ih =>
     intro us r
     cases r with
     | cons r t => cases r; exact .cons (.int i) (ih t)
 refine ⟨W, a, h1, h2, ?_, h4, h5, fun x hx e => absurd (h0 x hx) e, fun v H' W' fp a1 a2 a3 a4 a5 r nd own => k v H' W' fp a1 a2 a3 a4 a5 ?_ nd own⟩
 . rw [ha] at h3 ⊢
   cases h3 with
   | cons r t =>
     cases t
     cases r with
     | lst q rr => exact .cons (.lst q (W6 rr)) .nil
 . rw [hr] at r ⊢
   cases r with
   | sh r => cases r; exact .sh (.bl _)
section
variable {X : Cx} {CL : Str -> Addr} {b : Bx} {δ δ1 : List (Option T)} {e : Expr} {es : List Expr} {x m : Str} {pos pp : Pos} {D : dP}
theorem mk_ {k n : Nat} {A : Type} {arg : A -> List L3.D} {Pre : A -> Prop} {res : A -> List (Str × T)} (a : A) (F : Fm X CL x k n arg Pre res) (hg : Gl X x) (h : Ka X CL b (e :: es) δ (arg a) δ1) (hp : Pre a) (hc : T.jq (res a) = true) (hn : (arg a).length + 1 = n := by rfl)
   (nI : (x == ("__debug__" : Str)) = false := by decide) (he : starEach (e :: es) X.env = (false, eval e X.env) :: starEach es X.env := by exact aP rfl) (hpl : (backTo pos (starEach es X.env)).any (·.1) = false := by rfl) :
   bV X CL b (.Call (.Name x pp) (e :: es) [] pos) δ (.ins x (res a)) δ1 := by
 obtain ⟨f, fd, ps, M, F1, m, b⟩ := F.ex
 exact Ru a M F1 F.room m b h hn hp hc hg nI he hpl
theorem mkF {k n : Nat} {A : Type} {arg : A -> List L3.D} {Pre : A -> Prop} {res : A -> List (Str × T)} (a : A) (F : Fm X CL x k n arg Pre res) (hg : Gl X x) (h : Ec X CL b (e :: es) δ ((arg a).map T.sh) δ1) (hp : Pre a) (hn : (arg a).length + 1 = n := by rfl)
   (nI : (x == ("__debug__" : Str)) = false := by decide) (he : starEach (e :: es) X.env = (false, eval e X.env) :: starEach es X.env := by exact aP rfl) (hpl : (backTo pos (starEach es X.env)).any (·.1) = false := by rfl) :
   bV X CL b (.Call (.Name x pp) (e :: es) [] pos) δ (.ins x (res a)) δ1 := by
 obtain ⟨f, fd, ps, M, F1, m, b⟩ := F.ex
 exact Ng a M F1 F.room m b h hn hp hg nI he hpl
end
theorem fM {α : Type} {f : Str} {d : α} {fs : List (Str × α)} : ((f, d) :: fs).lookup f = some d := by
 rw [aho, aiB]
theorem aW {α : Type} {f g : Str} {d : α} {fs : List (Str × α)} (h : (f == g) = false) : ((g, d) :: fs).lookup f = fs.lookup f := by
 rw [aho, h]
theorem qH {f : Str} {t : T} : jv f t [] = [(f, t)] := rfl
theorem aQ {f g : Str} {t u : T} {fs : List (Str × T)} (h : ¬ g = f) : jv f t ((g, u) :: fs) = (g, u) :: jv f t fs := by
 rw [jv, ag2 h]
theorem rG {f : Str} {t u : T} {fs : List (Str × T)} : jv f t ((f, u) :: fs) = (f, t) :: fs := by
 rw [jv, ag9 rfl]
section
variable {X : Cx} {CL : Str -> Addr} {b : Bx} {δ δ1 δ2 : List (Option T)} {e1 e2 : Expr} {x : Str} {pos : Pos} {d : L3.D}
noncomputable def Nj (d : L3.D) : Option (List L3.D) := match d with
 | .lst ds => some ds
 | .tup ds => some ds
 | _ => none
theorem bq.Nj {K : PySem.W.Frag} {Z : Hp} {v : V} {ds : List L3.D} (r : bq K CL Z d v) (h : L3.Nj d = some ds) : ∃ p us, v = .ref p /\ (oS K Z p us \/ sF K Z p us) /\ aH K CL Z ds us := by
 cases r with
 | tup hq rr => cases h; exact ⟨_, _, rfl, .inr hq, rr⟩
 | lst hq rr => cases h; exact ⟨_, _, rfl, .inl hq, rr⟩
 | non => cases h
 | bl => cases h
 | int => cases h
 | str => cases h
 | any => cases h
 | val => cases h
 | rD => cases h
 | dct => cases h
 | ins => cases h
theorem Cr {l : List Str} (h1 : dH X CL b e1 δ (.str x) δ1) (h2 : dH X CL b e2 δ1 d δ2) (hd : L3.Nj d = some (l.map .str)) (hm : behindInMarks .In e2 = false) :
   vo X CL b (.Compare e1 [.In] [e2] pos) δ (decide (x ∈ l)) δ2 /\ bV X CL b (.Compare e1 [.In] [e2] pos) δ (.sh (.bl (decide (x ∈ l)))) δ2 := by
 constructor
 . intro H Z σ ts vs Q S k
   refine Ay (tZ Bo cI cI hm) (h1 H Z σ ts vs _ S fun v1 H1 Z1 z1 k1 S1 r1 => h2 H1 Z1 σ ts vs _ S1 fun v2 H2 Z2 z2 k2 S2 r2 => ?_)
   obtain ⟨p, us, rfl, hq, rr⟩ := bq.Nj r2 hd
   have e := rr.strs
   subst e
   refine ⟨_, _, rfl, hq, by rw [r1.sc rfl]; rfl, pC l, _, rfl, ?_⟩
   rw [ag2 ag5, r1.sc rfl, Cp]
   exact k H2 Z2 (z1.trans z2) (k1.trans k2) S2
 . intro H Z σ ts vs Q S k
   refine bU (xq Bo cI cI hm) (h1 H Z σ ts vs _ S fun v1 H1 Z1 z1 k1 S1 r1 => h2 H1 Z1 σ ts vs _ S1 fun v2 H2 Z2 z2 k2 S2 r2 => ?_)
   obtain ⟨p, us, rfl, hq, rr⟩ := bq.Nj r2 hd
   have e := rr.strs
   subst e
   refine ⟨_, _, rfl, hq, by rw [r1.sc rfl]; rfl, pC l, ?_⟩
   rw [ag2 ag5, r1.sc rfl, Cp]
   exact k _ H2 Z2 (z1.trans z2) (k1.trans k2) (S2.push (.bl _))
end
section
variable {X : Cx} {CL : Str -> Addr} {b : Bx} {δ δ1 δ2 : List (Option T)} {e : Expr} {es : List Expr} {d : L3.D} {ds : List L3.D} {t : T} {pos : Pos} {DD : dP} {ez : List Stmt}
theorem cF : Ec X CL b [] δ (([] : List L3.D).map T.sh) δ := bF
theorem aJ (h1 : bV X CL b e δ (.sh d) δ1) (h2 : Ec X CL b es δ1 (ds.map T.sh) δ2) (hs : starEach (e :: es) X.env = (false, eval e X.env) :: starEach es X.env := by exact aP rfl) : Ec X CL b (e :: es) δ ((d :: ds).map T.sh) δ2 := aT h1 h2 hs
theorem xE (h : Ec X CL b es δ (ds.map T.sh) δ1) (hl : ds.length <= sizeLine) : bV X CL b (.List es pos) δ (.lst (ds.map T.sh)) δ1 := c7 h (by simpa using hl)
theorem lA (l : List Str) : D.bQ (l.map L3.D.str) = true := bW (fun _ => rfl) _
theorem iD (h : bV X CL b e δ (.lst (ds.map T.sh)) δ1) : bV X CL b e δ (.sh (.lst ds)) δ1 := by
 have := FY h
 rwa [T.bS, iB] at this
theorem Ih (h : bV X CL b e δ t δ1) (q : t.bS = d) : bV X CL b e δ (.sh d) δ1 := q ▸ FY h
theorem RD (h : DD.bk δ) : cU X CL b (.Break pos :: ez) δ DD := bG (MY h)
theorem bR {t2 : T} (h : bV X CL b e δ t δ1) (q : t = t2) : bV X CL b e δ t2 δ1 := q ▸ h
end
structure RG (Z H Z' H' : Hp) : Prop where
 z : aC Z Z'
 h : aC H H'
 zh : aC Z' H'
 new : ∀ a o, Z' a = some o -> Z a = none -> H a = none
 tp : ∀ a o, H' a = some o -> mC o = true -> Z' a = some o
theorem RG.refl {Z H : Hp} (zh : aC Z H) (tp : ∀ a o, H a = some o -> mC o = true -> Z a = some o) : RG Z H Z H := ⟨.refl _, .refl _, zh, fun a o q z => (by rw [q] at z; cases z), tp⟩
section
variable {δ : List (Option T)} {σ : L2.St} {vs : List V}
noncomputable def aap (δ : List (Option T)) : List Nat -> List D -> List (Option T)
 | i :: is, d :: ds => aap (δ.set i (some (.sh d))) is ds
 | _, _ => δ
noncomputable def En (σ : L2.St) : List Nat -> List V -> L2.St
 | i :: is, v :: vs => En (σ.set i (some v)) is vs
 | _, _ => σ
end
section
variable {X : Cx} {CL : Str -> Addr} {b : Bx} {δ δ1 : List (Option T)} {ds : List D} {iter tg : Expr}
structure Ct (X : Cx) (CL : Str -> Addr) (b : Bx) (δ1 : List (Option T)) (σ : L2.St) (ts : List T) (vs : List V) (Z H : Hp) (ds : List D) (J : It) (H1 : Hp) : Prop where
 ex : ∃ Z1, aC Z Z1 /\ aC H H1 /\ aU X.K CL b H1 Z1 δ1 σ ts vs /\ (∀ i H2, aC Z1 H2 -> i < ds.length -> J.go i H2) ∧
   (∀ i Z2 H2 x H', aC Z1 Z2 -> aC Z2 H2 -> (∀ a o, H2 a = some o -> mC o = true -> Z2 a = some o) -> i < ds.length -> J.Qq i H2 x H' -> ∃ Z3 d, ds[i]? = some d /\ RG Z2 H2 Z3 H' /\ bq X.K CL Z3 d x) /\ (∀ H2, aC Z1 H2 -> J.stop ds.length H2)
noncomputable def GIt (X : Cx) (CL : Str -> Addr) (b : Bx) (tg e : Expr) (δ : List (Option T)) (ds : List D) (δ1 : List (Option T)) : Prop :=
 ∃ wi, PI X tg e wi /\ ∀ (H Z : Hp) (σ : L2.St) (ts : List T) (vs : List V) (R : It -> Hp -> Prop), aU X.K CL b H Z δ σ ts vs -> (∀ J H1, Ct X CL b δ1 σ ts vs Z H ds J H1 -> R J H1) -> wi σ H R
theorem Vl (h : LQ X CL b tg iter δ ds δ1) : GIt X CL b tg iter δ ds δ1 := by
 obtain ⟨wi, pi, hw⟩ := h
 refine ⟨wi, pi, fun H Z σ ts vs R S k => hw H Z σ ts vs R S fun J H1 zz => ?_⟩
 obtain ⟨Z1, us, z1, k1, S1, rr, go, yl, st⟩ := zz
 refine k J H1 ⟨Z1, z1, k1, S1, go, fun i Z2 H2 x H' s1 s2 tp hi hy => ?_, st⟩
 obtain ⟨e, hu⟩ := yl i H2 x H' (s1.trans s2) hi hy
 subst e
 obtain ⟨d, hd, rd⟩ := rr.Wt hu
 exact ⟨Z2, d, hd, .refl s2 tp, rd.mono s1⟩
noncomputable def Tgt (X : Cx) (CL : Str -> Addr) (tg : Expr) (is : List Nat) (parts : D -> Option (List D)) : Prop :=
 ∃ t : TG, PG X tg t /\ ∀ (Z H : Hp) (d : D) (ps : List D) (x : V) (σ : L2.St) (Q : L2.St -> Hp -> Prop), aC Z H -> bq X.K CL Z d x -> parts d = some ps -> (∀ ys, aH X.K CL Z ps ys -> Q (En σ is ys) H) -> t x σ H Q
noncomputable def part1 (d : D) : Option (List D) := some [d]
theorem Nk {i : Nat} {x : Str} {px : Pos} (hN : X.N.Nodup) (n : Ln X i x) : Tgt X CL (.Name x px) [i] part1 :=
 ⟨D4 i, rC hN n.hi n.loc n.hf, fun Z H d ps x σ Q zh r e k => by
   cases e
   exact k [x] (.cons r .nil)⟩
end
structure qI (X : Cx) (scope : Scope) (xs : List Str) (Nc : List Str) (ix : List Nat) : Prop where
 kind : scope.kind = .function
 vt : ∀ y ∈ scope.names, y.2 ≠ .cell
 nd : Nc.Nodup
 names : ∀ y ∈ scope.names, y.2 = .local -> scope.names.lookup y.1 = some .local
 own : ∀ x ∈ xs, scope.names.lookup x = some .local
 frees : ∀ y ∈ scope.names, y.2 = .free -> scope.names.lookup y.1 = some .free /\ (X.env.kindOf y.1 = some .cell \/ X.env.kindOf y.1 = some .free)
 hd : Nc = xs ++ ix.filterMap (X.N[·]?)
 Vj : ∀ i ∈ ix, ∃ y, X.N[i]? = some y /\ scope.names.lookup y = some .free
noncomputable def Kn (σ : L2.St) (ix : List Nat) (os : List (Option V)) : L2.St := os ++ ix.map fun i => (σ[i]?).getD none
section
variable {X : Cx} {scope : Scope} {xs : List Str} {Nc : List Str} {ix : List Nat} {pins : List (Addr × Obj)} {σ : L2.St} {H : Hp} {s : Shared}
theorem Eo {fp : List Addr} (sc : qI X scope xs Nc ix) (I : Inv X pins σ H s) (nG : ∀ b ∈ fp, su X pins H b /\ b < s.heap.objs.size) {h' : Heap} {m : Str -> Option Value} {tk : Nat}
   (hn : h'.Ns s.heap.objs.size m) (hk : ∀ b o, s.heap.get? b = some o -> h'.get? b = some o) :
   Inv (bP X scope Nc s.heap.objs.size s H fp) [] (Kn σ ix (List.replicate xs.length none)) H { s with heap := h', toks := tk } := by
 have frees : ∀ y ∈ scope.names, y.2 = .free -> ∃ c, X.env.cells.lookup y.1 = some c := fun y hy e => I.ok.has y.1 (sc.frees y hy e).2
 have sub : ∀ {y : Str} {c : Addr}, (fH X.env scope.names []).lookup y = some c -> X.env.cells.lookup y = some c := fun {y c} e => lu frees (fun _ _ z => by cases z) e
 have hlen : (Kn σ ix (List.replicate xs.length none)).length = Nc.length := by
   have all : ∀ l : List Nat, (∀ i ∈ l, ∃ y, X.N[i]? = some y /\ scope.names.lookup y = some .free) -> (l.filterMap (X.N[·]?)).length = l.length := by
     intro l
     induction l with
     | nil => intro _; rfl
     | cons i r ih =>
       intro h
       obtain ⟨y, e, _⟩ := h i agV
       rw [ahH, e]
       show _ + 1 = _ + 1
       rw [ih fun j hj => h j (agY _ hj)]
   unfold Kn
   rw [sc.hd, ahc, ahc, agU, ah4, all ix sc.Vj]
 have C0 : s.heap.get? s.heap.objs.size = none := Heap.get?_none_of_le (ag6 _)
 refine ⟨⟨I.ok.mod, sc.kind, I.ok.glob, I.ok.blt, ag6 _, fun y z c h1 h2 => I.ok.inj y z c (sub h1) (sub h2), fun y hy => ?_, fun y c hf _ => (by cases (show false = true from hf)), I.ok.hd, I.ok.frames, .inl rfl, fun b hb => ⟨ahF (nG b hb).2, fun y c e => (nG b hb).1.2.2.2.2.1 y c (sub e)⟩, I.bs, ahM I.ok.LJ I.sz, fun b o e hb => ?_, fun b hb hf => ?_, I.stack, I.B4⟩,
   rfl, I.bare, Un.kept hk, ⟨m, hn, fun i y v h1 h2 h3 => ?_⟩, fun y c e => ?_, I.dg.fresh (ag6 _), fun y c e => I.nH y c (sub e), fun p hp => absurd (show p ∈ ([] : List (Addr × Obj)) from hp) (by simp), I.dg.kept hk, hlen⟩
 . 
   have Z9 : (relabel scope X.env).names.lookup y = some .cell \/ (relabel scope X.env).names.lookup y = some .free := hy
   cases e : scope.names.lookup y with
   | none => 
     have := gI (env := X.env) e
     rcases Z9 with q | q <;> (rw [show (relabel scope X.env).names.lookup y = none from this] at q; cases q)
   | some k =>
     have q := dI (env := X.env) e
     have hk : k = .free := by
       by_cases hk : k = .free
       . exact hk
       . have hb : (k == NameKind.free) = false := by simpa using hk
         rw [ag2 (by rw [hb]; simp)] at q
         have nc : k ≠ .cell := fun z => by
           subst z
           exact sc.vt _ (ahR e) rfl
         rcases Z9 with z | z
         . rw [show (relabel scope X.env).names.lookup y = some k from q] at z
           exact absurd (ahg z) nc
         . rw [show (relabel scope X.env).names.lookup y = some k from q] at z
           exact absurd (ahg z) hk
     subst hk
     exact ly e
 . 
   rcases (nG b hb).1.2.2.2.1 with z | z
   . exact I.ok.JF b o e z
   . exact absurd (ahx (ahj e) (ahM I.ok.LJ z)) (aip _)
 . rcases ag4.mp (I.ve b hf) with z | z
   . exact (nG b hb).1.2.1 z
   . exact (nG b hb).1.2.2.1 z
 . 
   unfold Kn at h2
   by_cases hi : i < xs.length
   . rw [List.getElem?_append_left (by rw [ah4]; exact hi), List.getElem?_replicate, ag9 hi] at h2
     cases h2
   . obtain ⟨n, rfl⟩ : ∃ n, i = xs.length + n := ⟨i - xs.length, by omega⟩
     rw [List.getElem?_append_right (by rw [ah4]; omega), ah4, Nat.add_sub_cancel_left, ahh] at h2
     cases ei : ix[n]? with
     | none => rw [ei] at h2; cases h2
     | some j =>
       rw [ei] at h2
       have Rl : (σ[j]?).getD none = some v := ahg h2
       have hj : σ[j]? = some (some v) := by
         cases q : σ[j]? with
         | none => rw [q] at Rl; cases Rl
         | some o => rw [q] at Rl; exact congrArg some Rl
       obtain ⟨y', hy1, WH⟩ := sc.Vj j (ahk ei)
       have hNc : Nc[xs.length + n]? = some y' := by
         have all : ∀ (l : List Nat) (i : Nat), (∀ j ∈ l, ∃ y, X.N[j]? = some y /\ scope.names.lookup y = some .free) -> l[i]? = some j -> (l.filterMap (X.N[·]?))[i]? = some y' := by
           intro l
           induction l with
           | nil => intro i _ h; simp at h
           | cons a r ih =>
             intro i h hi
             obtain ⟨ya, ea, _⟩ := h a agV
             rw [ahH, ea]
             cases i with
             | zero =>
               simp at hi
               subst hi
               rw [hy1] at ea
               cases ea
               rfl
             | succ i => exact ih i (fun j hj => h j (List.mem_cons_of_mem _ hj)) (by simpa using hi)
         rw [sc.hd, List.getElem?_append_right (by omega), Nat.add_sub_cancel_left]
         exact all ix n sc.Vj ei
       have ey : y' = y := by
         have h1' : Nc[xs.length + n]? = some y := h1
         rw [hNc] at h1'
         exact ahg h1'
       subst ey
       have ym := (sc.frees (y', .free) (ahR WH) rfl).2
       have WK : U4 X.env.scope y' := ym.elim (fun z => .inr (.inl z)) (fun z => .inr (.inr z))
       obtain ⟨m0, YM, hl0⟩ := I.loc
       obtain ⟨u, ru, lk⟩ := hl0 j y' v hy1 hj WK
       refine ⟨u, ru, ?_⟩
       rcases lk with ⟨kk, _⟩ | ⟨_, c, hc, sE⟩
       . rcases ym with z | z
         . rw [kk] at z; cases z
         . rw [kk] at z; cases z
       . obtain ⟨c', U8⟩ := ly (env := X.env) (cs := []) WH
         have : c' = c := by
           have := sub U8
           rw [hc] at this
           exact (ahg this).symm
         subst this
         obtain ⟨o, ho, hd⟩ := sE
         refine .inr ⟨?_, c', U8, o, hk _ _ ho, hd⟩
         have q := dI (env := X.env) WH
         show (relabel scope X.env).names.lookup y' = some .cell \/ (relabel scope X.env).names.lookup y' = some .free
         rw [show (relabel scope X.env).names.lookup y' = _ from q]
         split
         . exact .inl rfl
         . exact .inr rfl
 . obtain ⟨v, o, ho, hd⟩ := I.cell y c (sub e)
   exact ⟨v, o, hk _ _ ho, hd⟩
noncomputable def Nm (X : Cx) (tg elt : Expr) (ifs : List Expr) (n : Nat) (σ : L2.St) (ix : List Nat) (D : Addr) (N : Hp -> Prop) (xv : V) (os : List (Option V)) (H3 : Hp) : Prop :=
 ∃ t : TG, PG X tg t /\ t xv (Kn σ ix os) H3 fun σ8 H4 => ∃ YK, YK.length = n /\ σ8 = Kn σ ix YK /\ M0 X ifs σ8 H4 fun ok H5 =>
   if ok = true then Eb X elt σ8 H5 fun y H6 => ∃ acc, H6 D = some (.lst acc) /\ acc.length < sizeLine /\ N (upd H6 D (.lst (acc ++ [y]))) else N H5
theorem F6 {elt iter tg : Expr} {pos : Pos} {ifs : List Expr} {J : It} {fp : List Addr} {it : Addr} {tn : Nat -> Heap -> Prop} {G : Addr -> Hp -> Prop} {RR : Value -> Addr -> Result -> Shared -> Prop} {E : Value -> Shared -> Prop}
   (sc : qI X scope xs Nc ix) (hc : X.calm = true) (I : Inv X pins σ H s) (Tn : Turn X.prog X.w X.K tg J fp it tn) (st : tn 0 s.heap) (hf : ∀ b ∈ fp, su X pins H b)
   (loop : ∀ D, H D = none -> ∃ W : Nat -> Nat -> Hp -> Prop, (∃ m, W 0 m (upd H D (.lst []))) /\ ∀ i m H2, W i m H2 -> (J.stop i H2 /\ G D H2) ∨
     (J.go i H2 /\ ∃ N : Hp -> Prop, (∀ H', N H' -> ∃ m', m' < m /\ W (i + 1) m' H') /\ ∀ xv H3, J.Qq i H2 xv H3 -> ∀ C s0 H0 f0 os, os.length = xs.length -> Nm (bP X scope Nc C s0 H0 f0) tg elt ifs xs.length σ ix D N xv os H3))
   (hRR : ∀ D C s' H', (∃ m, s'.heap.Ns C m) -> (∃ o, s'.heap.get? C = some o /\ ∀ v, o.data ≠ .cell v) -> H' C = none -> (C ≠ X.env.locals /\ C ∉ X.fs /\ X.s₀.heap.objs.size <= C /\ (∀ y c, X.env.cells.lookup y = some c -> c ≠ C) /\ ∀ q ∈ X.pn ++ pins, q.1 ≠ C) -> (∀ h', Heap.SameBut C s'.heap h' -> Inv X pins σ H' { s' with heap := h' }) -> G D H' -> RR (.ref D) C (.ok .next) s') :
   wpAny (model X.prog X.w) X.A (newList []) (fun acc s₃ => wpAny (model X.prog X.w) X.A (newFunctionEnv scope X.env.globals (fH X.env scope.names []) [] X.env.qual none .none (some X.env)) (fun Ef s₄ =>
     codeAny (model X.prog X.w) X.A (.compStart (.ListComp elt [⟨tg, iter, ifs, 0⟩] scope pos) 0 (.ref it) acc { Ef with scope := relabel scope X.env }) (RR acc Ef.locals) s₄) E s₃) E s := by
 refine aie ?_
 have I3 : Inv X pins σ (upd H s.heap.objs.size (.lst [])) { s with heap := s.heap.push { cls := .type "list", dict := none, data := .seq ([] : List Value).toArray } } :=
   I.laid (t' := s.toks) (fun b u e => ag8 _ e) (ag6 _) ⟨by show 0 <= sizeLine; exact ahs _, [], 0, .nil, ahC _ rfl⟩
 have hD : H s.heap.objs.size = none := I.dg.fresh (ag6 _)
 obtain ⟨W, ⟨m0, w0⟩, turn⟩ := loop _ hD
 have yt : ∀ b ∈ fp, su X pins (upd H s.heap.objs.size (.lst [])) b /\ b < (s.heap.push { cls := .type "list", dict := none, data := .seq ([] : List Value).toArray }).objs.size := fun b hb => by
   obtain ⟨f0, f1⟩ := hf b hb
   obtain ⟨o, ho, _⟩ := Tn.obj 0 _ st b hb
   have qi := ahj ho
   refine ⟨⟨by rw [aq (ahF qi)]; exact f0, f1⟩, ?_⟩
   rw [Heap.size_push]; exact Nat.lt_succ_of_lt qi
 have Va : tn 0 (s.heap.push { cls := .type "list", dict := none, data := .seq ([] : List Value).toArray }) := Tn.keep 0 _ _ st fun b _ o e => ag8 _ e
 generalize hs3 : ({ s with heap := s.heap.push { cls := .type "list", dict := none, data := .seq ([] : List Value).toArray } } : Shared) = s3 at I3 ⊢
 have M3 : s3.heap = s.heap.push { cls := .type "list", dict := none, data := .seq ([] : List Value).toArray } := by rw [← hs3]
 rw [← M3] at yt Va
 refine wpAny_newFunctionEnv sc.vt (by intro y hy; simp at hy) (fun h₁ F2 F3 => ?_) sc.kind
 have old : ∀ b o, s3.heap.get? b = some o -> h₁.get? b = some o := fun b o e => (F3.2 b (ahF (ahj e))).trans (ag8 _ e)
 have J0 := Eo (tk := s3.toks + ([] : List (Str × Value)).length) sc I3 yt F2 old
 have st4 : tn 0 h₁ := Tn.keep 0 _ _ Va fun b _ o e => old b o e
 have Eg : ∀ s4 : Shared, s4 = { s3 with heap := h₁, toks := s3.toks + ([] : List (Str × Value)).length } -> codeAny (model X.prog X.w) X.A (.compLoop (.ListComp elt [⟨tg, iter, ifs, 0⟩] scope pos) 0 (.ref it) (.ref s.heap.objs.size) (compEnvC scope (fH X.env scope.names []) s3.heap.objs.size X.env)) (RR (.ref s.heap.objs.size) s3.heap.objs.size) s4 := by
   rintro s4 rfl
   have stat : ∀ {H' : Hp}, (∀ b ∈ fp, H' b = none) -> ∀ b ∈ fp, su (bP X scope Nc s3.heap.objs.size s3 (upd H s.heap.objs.size (.lst [])) fp) [] H' b := fun {H'} hn b hb => by
     obtain ⟨⟨f0, f1, f2, f3, f4, f5⟩, qi⟩ := yt b hb
     refine ⟨hn b hb, ahF qi, fun z => ?_, .inl hb, fun y c e => f4 y c (lu (fun y hy e => I.ok.has y.1 (sc.frees y hy e).2) (fun _ _ z => by cases z) e), fun p hp => absurd (show p ∈ ([] : List (Addr × Obj)) from hp) (by simp)⟩
     rcases ag4.mp (I3.ve b z) with q | q
     . exact f1 q
     . exact f2 q
   refine ug (fun n s' => ∃ i o H', o.length = xs.length /\ Inv (bP X scope Nc s3.heap.objs.size s3 (upd H s.heap.objs.size (.lst [])) fp) [] (Kn σ ix o) H' s' /\ tn i s'.heap /\ (∀ b ∈ fp, H' b = none) /\ W i n H') ?_ m0 ⟨0, _, _, ah4, J0, st4, fun b hb => (yt b hb).1.1, w0⟩
   rintro n s5 ⟨i, o5, H5, ol5, I5, QO, V7, w5⟩
   rcases turn i n H5 w5 with ⟨stop, g⟩ | ⟨go, N, hN, step⟩
   . refine dF (Tn.done (bP X scope Nc s3.heap.objs.size s3 (upd H s.heap.objs.size (.lst [])) fp) rfl rfl rfl hc i [] s5 _ H5 _ I5 (stat V7) QO stop) fun r s6 zz => ?_
     obtain ⟨hr, I6⟩ := zz
     subst hr
     obtain ⟨m6, hn6, _⟩ := I6.loc
     obtain ⟨oc, esc, epc, YH, hdc, _⟩ := id hn6
     have Rm := I3.JK (ag6 s3.heap.objs.size) (H' := fun _ => none) rfl
     refine hRR _ _ s6 H5 ⟨m6, hn6⟩ ⟨oc, YH, fun v z => by rw [hdc] at z; cases z⟩ I6.free ⟨Rm.2.1, Rm.2.2.1, ?_, Rm.2.2.2.2.1, Rm.2.2.2.2.2⟩ (fun h' Rn => Bu I3 (fun b hb => (yt b hb).1) I6 Rn) g
     exact I3.sz
   . refine dF (Tn.item (bP X scope Nc s3.heap.objs.size s3 (upd H s.heap.objs.size (.lst [])) fp) rfl rfl rfl hc i [] s5 _ H5 _ I5 (stat V7) QO go) fun r s6 zz => ?_
     obtain ⟨u, hr, h6⟩ := zz
     subst hr
     refine dF h6 fun _ s7 zz => ?_
     obtain ⟨xv, H7, I7, r7, y7, WL, fr7⟩ := zz
     have I7' := I7.pinned (stat fr7) (Tn.obj _ _ WL)
     obtain ⟨t, hg, ht⟩ := step xv _ y7 s3.heap.objs.size s3 (upd H s.heap.objs.size (.lst [])) fp o5 ol5
     refine dF (hg _ s7 _ H7 xv u _ I7' r7 ht) fun _ s8 zz => ?_
     obtain ⟨σ8, H8, I8, os8, ol8, e8, h8⟩ := zz
     subst e8
     refine dF (Ed I8 h8 rfl) fun ok s9 zz => ?_
     obtain ⟨H9, I9, q9⟩ := zz
     have again : ∀ {Ha : Hp} {sa : Shared}, Inv (bP X scope Nc s3.heap.objs.size s3 (upd H s.heap.objs.size (.lst [])) fp) ([] ++ vg fp s7.heap) (Kn σ ix os8) Ha sa -> N Ha -> ∃ m, m < n /\ ∃ i o H', o.length = xs.length /\ Inv (bP X scope Nc s3.heap.objs.size s3 (upd H s.heap.objs.size (.lst [])) fp) [] (Kn σ ix o) H' sa /\ tn i sa.heap /\ (∀ b ∈ fp, H' b = none) /\ W i m H' := fun {Ha sa} Ia na => by
       obtain ⟨m', hm, wa⟩ := hN Ha na
       refine ⟨m', hm, i + 1, os8, Ha, ol8, Ia.qv, Tn.keep _ _ _ WL fun b hb o e => (Ia.pin (b, o) (agS _ (agS _ (jo hb e)))).1, fun b hb => ?_, wa⟩
       obtain ⟨o, e, d⟩ := Tn.obj _ _ WL b hb
       exact (Ia.pin (b, o) (agS _ (agS _ (jo hb e)))).2.1
     cases ok with
     | false =>
       rw [ag2 ag5] at q9 ⊢
       exact again I9 q9
     | true =>
       rw [ag9 rfl] at q9 ⊢
       refine dF (q9 _ s9 I9) fun v sa zz => ?_
       obtain ⟨y, Ha, Ia, ra, acc, WM, hlen, na⟩ := zz
       refine dF (nK (X := bP X scope Nc s3.heap.objs.size s3 (upd H s.heap.objs.size (.lst [])) fp) _ sa _ Ha (.ref s.heap.objs.size) [y] (.ref s.heap.objs.size) [v] (fun _ Hb => Hb = upd Ha s.heap.objs.size (.lst (acc ++ [y]))) Ia rfl (.cons ra .nil) ⟨_, acc, y, rfl, rfl, WM, hlen, rfl⟩) fun _ sb zz => ?_
       obtain ⟨_, Hb, Ib, _, eb⟩ := zz
       subst eb
       exact again Ib na
 exact codeAny_compStart_list (Eg _ rfl) (Tn.self _ 0 _ _ _ st4 (Eg _ rfl))
end
noncomputable def Ko (ps : List D) : List (Option T) := ps.map fun p => some (.sh p)
theorem Bw : ∀ {ys : List V} {os : List (Option V)} {pre r : L2.St}, os.length = ys.length -> En (pre ++ (os ++ r)) (List.range' pre.length ys.length) ys = pre ++ (ys.map some ++ r)
 | [], os, pre, r, h => by
   have : os = [] := List.length_eq_zero_iff.mp h
   subst this
   rfl
 | y :: ys, os, pre, r, h => by
   match os, h with
   | o :: os, h =>
     show En ((pre ++ (o :: (os ++ r))).set pre.length (some y)) (List.range' (pre.length + 1) ys.length) ys = _
     rw [List.set_append_right _ _ (ag6 _), Nat.sub_self, List.set_cons_zero]
     have := Bw (ys := ys) (os := os) (pre := pre ++ [some y]) (r := r) (by simpa using h)
     simp only [ahc, ahu, List.length_nil, agT, List.singleton_append] at this
     rw [this]
     simp
theorem RH {K : PySem.W.Frag} {CL : Str -> Addr} {H Z : Hp} : ∀ {ps : List D} {ys : List V} {δc : List (Option T)} {σc : L2.St}, aH K CL Z ps ys -> cH K CL H Z δc σc [] -> cH K CL H Z (Ko ps ++ δc) (ys.map some ++ σc) [] := fun {ps ys δc σc} h e =>
 aH.ind (P := fun ps ys => cH K CL H Z (Ko ps ++ δc) (ys.map some ++ σc) []) e (fun r _ i => .cons (fp := []) (gp := []) (.sh r) i) h
section
variable {X : Cx} {CL : Str -> Addr} {b : Bx} {H Z W1 : Hp} {δ δc : List (Option T)} {σ : L2.St} {ts : List T} {vs : List V} {ds : List D} {scope : Scope} {Nc : List Str} {n : Nat} {ix : List Nat} {elt tg : Expr} {ifs : List Expr} {p : D -> Bool} {g : D -> T} {J : It} {parts : D -> Option (List D)}
noncomputable def vC (X : Cx) (CL : Str -> Addr) (scope : Scope) (Nc : List Str) (n : Nat) (tg : Expr) (parts : D -> Option (List D)) (ifs : List Expr) (elt : Expr) (δc : List (Option T)) (ds : List D) (p : D -> Bool) (g : D -> T) : Prop :=
 ∀ C s0 H0 f0 b', Tgt (bP X scope Nc C s0 H0 f0) CL tg (List.range' 0 n) parts /\ ∀ d, d ∈ ds -> ∃ ps, parts d = some ps /\ ps.length = n /\ TIv (bP X scope Nc C s0 H0 f0) CL b' ifs (Ko ps ++ δc) (p d) /\ (p d = true -> bV (bP X scope Nc C s0 H0 f0) CL b' elt (Ko ps ++ δc) (g d) (Ko ps ++ δc))
structure GW (K : PySem.W.Frag) (CL : Str -> Addr) (H W1 : Hp) (D : Addr) (l : List T) (k : Nat) (H2 Z2 : Hp) (Fj : List V) (fp : List Addr) : Prop where
 a1 : aC H H2
 a2 : aC W1 Z2
 a3 : aC Z2 H2
 a4 : Z2 D = none
 a5 : ∀ a o, Z2 a = some o -> W1 a = none -> H a = none
 a6 : ∀ a o, H2 a = some o -> mC o = true -> Z2 a = some o
 a7 : H2 D = some (.lst Fj)
 a8 : aE K CL H2 Z2 l Fj fp
 a9 : fp.Nodup
 b1 : D ∉ fp
 b2 : ∀ a ∈ fp, Z2 a = none /\ H a = none
 b3 : Fj.length <= k
theorem yI (S : aU X.K CL b H Z δ σ ts vs) (zw : aC Z W1) (wh : aC W1 H) (tp : ∀ a o, H a = some o -> mC o = true -> W1 a = some o)
   (cap : ∀ H', cH X.K CL H' W1 δc (ix.map fun i => (σ[i]?).getD none) []) (inner : vC X CL scope Nc n tg parts ifs elt δc ds p g)
   (W7 : ∀ i H2, aC W1 H2 -> i < ds.length -> J.go i H2)
   (hy : ∀ i Z2 H2 x H', aC W1 Z2 -> aC Z2 H2 -> (∀ a o, H2 a = some o -> mC o = true -> Z2 a = some o) -> i < ds.length -> J.Qq i H2 x H' -> ∃ Z3 d, ds[i]? = some d /\ RG Z2 H2 Z3 H' /\ bq X.K CL Z3 d x)
   (Bh : ∀ H2, aC W1 H2 -> J.stop ds.length H2) (hlen : ds.length <= sizeLine) (c : W1 = Z \/ ∀ d ∈ ds, (g d).clean = true) :
   ∀ D, H D = none -> ∃ W : Nat -> Nat -> Hp -> Prop, (∃ m, W 0 m (upd H D (.lst []))) /\ ∀ i m H2, W i m H2 -> (J.stop i H2 /\ ∃ Z2, aC Z Z2 /\ aC H H2 /\ aU X.K CL b H2 Z2 δ σ (.lst ((ds.filter p).map g) :: ts) (.ref D :: vs)) ∨
     (J.go i H2 /\ ∃ N : Hp -> Prop, (∀ H', N H' -> ∃ m', m' < m /\ W (i + 1) m' H') /\ ∀ xv H3, J.Qq i H2 xv H3 -> ∀ C s0 H0 f0 os, os.length = n -> Nm (bP X scope Nc C s0 H0 f0) tg elt ifs n σ ix D N xv os H3) := by
 intro D hD
 have wD : W1 D = none := wh.free hD
 refine ⟨fun i m H2 => m = ds.length - i /\ i <= ds.length /\ ∃ Z2 Fj fp, GW X.K CL H W1 D (((ds.take i).filter p).map g) i H2 Z2 Fj fp, ⟨ds.length, rfl, ahs _, W1, [], [], aC.upd hD, .refl _, wh.trans (aC.upd hD), wD, fun a o q z => ?_, fun a o q i => ?_, aI, .nil, aiy, by simp, by simp, by simp⟩, ?_⟩
 . rw [q] at z; cases z
 . by_cases ha : a = D
   . subst ha; rw [aI] at q; cases q; cases i
   . rw [aq ha] at q; exact tp a o q i
 . rintro i m H2 ⟨rfl, hi, Z2, Fj, fp, hh, wz, zh, zD, nw, tp2, hD2, ra, nd, nD, own, hav⟩
   by_cases qi : i < ds.length
   . refine .inr ⟨W7 i H2 (wz.trans zh) qi, fun H' => ∃ Z2 Fj fp, GW X.K CL H W1 D (((ds.take (i + 1)).filter p).map g) (i + 1) H' Z2 Fj fp, fun H' h => ⟨ds.length - (i + 1), by omega, rfl, qi, h⟩, fun xv H3 y C s0 H0 f0 os hos => ?_⟩
     obtain ⟨Z3, d, hd, gr, rd⟩ := hy i Z2 H2 xv H3 wz zh tp2 qi y
     have W8 : ∀ a, Z2 a = none -> (∃ o, H2 a = some o) -> Z3 a = none := fun a e ⟨o, e2⟩ => by
       cases q : Z3 a with
       | none => rfl
       | some u => rw [gr.new a u q e] at e2; cases e2
     have nw3 : ∀ a o, Z3 a = some o -> W1 a = none -> H a = none := fun a o q z => by
       cases e : Z2 a with
       | none => exact hh.free (gr.new a o q e)
       | some u =>
         have := gr.z a u e
         rw [q] at this; cases this
         exact nw a o e z
     have W9 : aE X.K CL H3 Z3 (((ds.take i).filter p).map g) Fj fp := ra.mono gr.z fun a ha => by
       obtain ⟨o, e⟩ := ra.there a ha
       rw [e]; exact gr.h a o e
     have ow3 : ∀ a ∈ fp, Z3 a = none /\ H a = none := fun a ha => ⟨W8 a (own a ha).1 (ra.there a ha), (own a ha).2⟩
     have zD3 : Z3 D = none := W8 D zD ⟨_, hD2⟩
     have Vm : H3 D = some (.lst Fj) := gr.h D _ hD2
     have M3 := hh.trans gr.h
     have wz3 := wz.trans gr.z
     have zh3 := gr.zh
     have tp3 := gr.tp
     clear own nw ra zD hD2 hh wz zh tp2 gr W8
     have adj : d ∈ ds := ahk hd
     have Vo : ds.take (i + 1) = ds.take i ++ [d] := by rw [ahU, hd]; rfl
     obtain ⟨tgt, Ep⟩ := inner C s0 H0 f0 ⟨H3, Z3⟩
     obtain ⟨ps, hps, hpl, it, ie⟩ := Ep d adj
     obtain ⟨t, pg, ht⟩ := tgt
     refine ⟨t, pg, ht Z3 H3 d ps xv _ _ zh3 rd hps fun ys rys => ?_⟩
     have hyl : ys.length = n := by rw [← rys.length]; exact hpl
     have es : En (Kn σ ix os) (List.range' 0 n) ys = Kn σ ix (ys.map some) := by
       have := Bw (ys := ys) (os := os) (pre := []) (r := ix.map fun i => (σ[i]?).getD none) (by rw [hos, hyl])
       rw [hyl] at this
       exact this
     refine ⟨ys.map some, by rw [agU]; exact hyl, es, ?_⟩
     rw [es]
     have S0 : aU X.K CL ⟨H3, Z3⟩ H3 Z3 (Ko ps ++ δc) (Kn σ ix (ys.map some)) [] [] :=
       ⟨⟨[], [], RH rys ((cap H3).mono wz3 fun a ha => by cases ha), .nil, aiy, fun a ha => by cases ha⟩, .refl _, .refl _, zh3, fun a o q z => (by have z' : Z3 a = none := z; rw [show Z3 a = some o from q] at z'; cases z'), tp3, (S.FU.mono zw).mono wz3⟩
     refine it.sem S0 fun H4 Z4 z4 k4 S4 => ?_
     have adl : ∀ a ∈ fp, H4 a = H3 a := fun a ha => by
       obtain ⟨o, e⟩ := W9.there a ha
       rw [e]; exact k4 a o e
     have Nn : ∀ a, Z3 a = none -> (∃ o, H3 a = some o) -> Z4 a = none := fun a e ⟨o, e2⟩ => by
       cases q : Z4 a with
       | none => rfl
       | some u =>
         have := S4.new a u q e
         rw [show H3 a = none from this] at e2; cases e2
     cases hp : p d with
     | false =>
       refine J1 ⟨Z4, Fj, fp, M3.trans k4, wz3.trans z4, S4.zh, Nn D zD3 ⟨_, Vm⟩, fun a o q z => ?_, S4.tp, k4 D _ Vm, ?_, nd, nD, fun a ha => ⟨Nn a (ow3 a ha).1 (W9.there a ha), (ow3 a ha).2⟩, by omega⟩
       . cases e : Z3 a with
         | none => exact M3.free (S4.new a o q e)
         | some u => 
           have := z4 a u e
           rw [q] at this; cases this
           exact nw3 a o e z
       . rw [Vo, List.filter_append, List.filter_cons_of_neg (by simp [hp]), List.filter_nil, ag3]
         exact W9.mono z4 adl
     | true =>
       refine J2 ((ie hp) H4 Z4 (Kn σ ix (ys.map some)) [] [] _ S4 fun yv H5 Z5 z5 k5 S5 => ⟨Fj, k5 D _ (k4 D _ Vm), by omega, ?_⟩)
       obtain ⟨f1, g1, e1, r1, ZX, aaq⟩ := S5.rep
       cases r1 with
       | @cons _ _ _ _ fy fn ry rn =>
         cases rn
         rw [ag3] at ZX aaq
         have ndy : fy.Nodup := (aht.mp ZX).2.1
         have RJ : ∀ a ∈ fy, Z5 a = none /\ H3 a = none := fun a ha => aaq a (agS _ ha)
         have F7 : ∀ a, Z3 a = none -> (∃ o, H3 a = some o) -> Z5 a = none := fun a e ⟨o, e2⟩ => by
           cases q : Z5 a with
           | none => rfl
           | some u =>
             have := S5.new a u q e
             rw [show H3 a = none from this] at e2; cases e2
         have yD : ∀ a ∈ fy, a ≠ D := fun a ha e => by
           subst e
           rw [(RJ a ha).2] at Vm; cases Vm
         have h5D : H5 D = some (.lst Fj) := k5 D _ (k4 D _ Vm)
         have sD : aC H (upd H5 D (.lst (Fj ++ [yv]))) := fun a o q => by
           rw [aq (bO q hD)]
           exact k5 a o (k4 a o (M3 a o q))
         refine ⟨Z5, Fj ++ [yv], fp ++ fy, sD, wz3.trans (z4.trans z5), fun a o q => ?_, F7 D zD3 ⟨_, Vm⟩, fun a o q z => ?_, fun a o q im => ?_, aI, ?_, ?_, ?_, fun a ha => ?_, ?_⟩
         . rw [aq (bO q (F7 D zD3 ⟨_, Vm⟩))]; exact S5.zh a o q
         . cases e : Z3 a with
           | none => exact M3.free (S5.new a o q e)
           | some u =>
             have := z5 a u (z4 a u e)
             rw [q] at this; cases this
             exact nw3 a o e z
         . by_cases ha : a = D
           . subst ha; rw [aI] at q; cases q; cases im
           . rw [aq ha] at q; exact S5.tp a o q im
         . rw [Vo, List.filter_append, List.filter_cons_of_pos hp, List.filter_nil, ag1]
           refine aE.app (W9.mono (z4.trans z5) fun a ha => ?_) (by
             have := aE.cons (fp := fy) (gp := []) (ry.mono (.refl _) fun a ha => aq (yD a ha)) (aE.nil (H := upd H5 D (.lst (Fj ++ [yv]))) (Z := Z5))
             rwa [ag3] at this)
           have : a ≠ D := fun e => nD (e ▸ ha)
           rw [aq this]
           obtain ⟨o, e⟩ := W9.there a ha
           rw [e]; exact k5 a o (k4 a o e)
         . refine aht.mpr ⟨nd, ndy, fun a ha a' J9 e => ?_⟩
           subst e
           obtain ⟨o, e⟩ := W9.there a ha
           rw [(RJ a J9).2] at e; cases e
         . intro h
           rcases ag0.mp h with h | h
           . exact nD h
           . exact yD D h rfl
         . rcases ag0.mp ha with h | h
           . exact ⟨F7 a (ow3 a h).1 (W9.there a h), (ow3 a h).2⟩
           . exact ⟨(RJ a h).1, M3.free (RJ a h).2⟩
         . rw [ahc, List.length_singleton]; omega
   . have e : i = ds.length := by omega
     subst e
     refine .inl ⟨Bh H2 (wz.trans zh), ?_⟩
     rw [ahQ] at ra
     obtain ⟨Z', z', S'⟩ := S.back (H' := H2) (W := W1) (W' := Z2) (t := .lst ((ds.filter p).map g)) (v := .ref D) (fp := D :: fp) hh zw wz zh nw tp2 (.lst hD2 ra) (ahE.mpr ⟨nD, nd⟩) (fun a ha => by
       rcases ag4.mp ha with h | h
       . subst h; exact ⟨zD, hD⟩
       . exact own a h) (c.imp id fun c => by
         rw [jr]
         exact yu fun d hd => c d (List.mem_filter.mp hd).1)
     exact ⟨Z', z', hh, S'⟩
end
section
variable {X : Cx} {CL : Str -> Addr} {b : Bx} {δ δ1 : List (Option T)} {scope : Scope} {xs : List Str} {Nc : List Str} {ix : List Nat} {elt iter tg : Expr} {ifs : List Expr} {pos : Pos} {ds : List D} {p : D -> Bool} {g : D -> T} {δc : List (Option T)} {parts : D -> Option (List D)}
theorem By {J : It} {fp : List Addr} {it : Addr} {tn : Nat -> Heap -> Prop} {pins : List (Addr × Obj)} {σ : L2.St} {H H1 Z : Hp} {s : Shared} {ts : List T} {vs : List V} {RR : Value -> Addr -> Result -> Shared -> Prop} {E : Value -> Shared -> Prop}
   (sc : qI X scope xs Nc ix) (hc : X.calm = true) (C : Ct X CL b δ1 σ ts vs Z H ds J H1) (I : L2.Inv X pins σ H1 s) (Tn : Turn X.prog X.w X.K tg J fp it tn) (st : tn 0 s.heap) (hf : ∀ b ∈ fp, su X pins H1 b)
   (hb : (δc = Eh δ1 ix /\ ∀ d ∈ ds, (g d).clean = true) \/ δc = yw δ1 ix) (inner : vC X CL scope Nc xs.length tg parts ifs elt δc ds p g) (hlen : ds.length <= sizeLine)
   (hRR : ∀ D C s' H' Z', (∃ m, s'.heap.Ns C m) -> (∃ o, s'.heap.get? C = some o /\ ∀ v, o.data ≠ .cell v) -> H' C = none -> (C ≠ X.env.locals /\ C ∉ X.fs /\ X.s₀.heap.objs.size <= C /\ (∀ y c, X.env.cells.lookup y = some c -> c ≠ C) /\ ∀ q ∈ X.pn ++ pins, q.1 ≠ C) -> (∀ h', Heap.SameBut C s'.heap h' -> L2.Inv X pins σ H' { s' with heap := h' }) -> aC Z Z' -> aC H H' -> aU X.K CL b H' Z' δ1 σ (.lst ((ds.filter p).map g) :: ts) (.ref D :: vs) -> RR (.ref D) C (.ok .next) s') :
   wpAny (model X.prog X.w) X.A (newList []) (fun acc s₃ => wpAny (model X.prog X.w) X.A (newFunctionEnv scope X.env.globals (fH X.env scope.names []) [] X.env.qual none .none (some X.env)) (fun Ef s₄ =>
     codeAny (model X.prog X.w) X.A (.compStart (.ListComp elt [⟨tg, iter, ifs, 0⟩] scope pos) 0 (.ref it) acc { Ef with scope := relabel scope X.env }) (RR acc Ef.locals) s₄) E s₃) E s := by
 obtain ⟨Z1, z1, k1, S1, go, yl, stp⟩ := C.ex
 have lp : ∀ D, H1 D = none -> ∃ W : Nat -> Nat -> Hp -> Prop, (∃ m, W 0 m (upd H1 D (.lst []))) /\ ∀ i m H2, W i m H2 -> (J.stop i H2 /\ ∃ Z2, aC Z1 Z2 /\ aC H1 H2 /\ aU X.K CL b H2 Z2 δ1 σ (.lst ((ds.filter p).map g) :: ts) (.ref D :: vs)) ∨
     (J.go i H2 /\ ∃ N : Hp -> Prop, (∀ H', N H' -> ∃ m', m' < m /\ W (i + 1) m' H') /\ ∀ xv H3, J.Qq i H2 xv H3 -> ∀ C s0 H0 f0 os, os.length = xs.length -> Nm (bP X scope Nc C s0 H0 f0) tg elt ifs xs.length σ ix D N xv os H3) := by
   rcases hb with ⟨e, cl⟩ | e
   . subst e
     exact yI (W1 := H1) S1 S1.zh (.refl _) (fun _ _ q _ => q) (Ei S1 ix) inner (fun i H2 s => go i H2 (S1.zh.trans s)) (fun i Z2 H2 y H' s => yl i Z2 H2 y H' (S1.zh.trans s)) (fun H2 s => stp H2 (S1.zh.trans s)) hlen (.inr cl)
   . subst e
     exact yI (W1 := Z1) S1 (.refl _) S1.zh S1.tp (yx S1 ix) inner go yl stp hlen (.inl rfl)
 exact F6 sc hc I Tn st hf lp fun D C s' H' m io nC ch ci ⟨Z', z', k', S'⟩ => hRR D C s' H' Z' m io nC ch ci (z1.trans z') (k1.trans k') S'
theorem wB (sc : qI X scope xs Nc ix) {pins : List (Addr × Obj)} {σ : L2.St} {H : Hp} {s : Shared} (I : L2.Inv X pins σ H s) : closureFor scope X.env = pure (fH X.env scope.names []) :=
 sJ fun y hy e => I.ok.has y.1 (sc.frees y hy e).2
theorem Er (sc : qI X scope xs Nc ix) (hc : X.calm = true) (h : GIt X CL b tg iter δ ds δ1) (hb : (δc = Eh δ1 ix /\ ∀ d ∈ ds, (g d).clean = true) \/ δc = yw δ1 ix) (inner : vC X CL scope Nc xs.length tg parts ifs elt δc ds p g) (hlen : ds.length <= sizeLine)
   (hs : ∀ x, foldedSetIterable iter X.env x = pure x := by intro _; rfl) : bV X CL b (.ListComp elt [⟨tg, iter, ifs, 0⟩] scope pos) δ (.lst ((ds.filter p).map g)) δ1 := fun H Z σ ts vs Q S k pins s I => by
 obtain ⟨wi, pi, hw⟩ := h
 rw [eval_ListComp]
 refine aiM (use := none) rfl hs (wB sc I) sc.kind sc.names ?_
 refine dF (pi pins s σ H _ I (hw H Z σ ts vs (fun J H1 => Ct X CL b δ1 σ ts vs Z H ds J H1) S fun J H1 C => C)) fun v s1 h1 => dF h1 fun Zn s2 zz => ?_
 obtain ⟨it, fp, tn, J, H1, e, I1, Tn, st, hf, C⟩ := zz
 subst e
 refine By (RR := fun acc C => compPost (model X.prog X.w) X.A X.xe none (EP X pins σ Q) acc C) sc hc C I1 Tn st hf hb inner hlen fun D C' s' H' Z' m io nC ch ci z' k' S' => ?_
 obtain ⟨m, hn⟩ := m
 exact ⟨m, hn, fun h' Rn => ⟨.ref D, H', ci h' Rn, rfl, k _ H' Z' z' k' S'⟩⟩
theorem RK {D : dP} {y : Str} {py aar : Pos} (i : Nat) (sc : qI X scope xs Nc ix) (hc : X.calm = true) (h : GIt X CL b tg iter δ ds δ1) (hb : (δc = Eh δ1 ix /\ ∀ d ∈ ds, (g d).clean = true) \/ δc = yw δ1 ix) (inner : vC X CL scope Nc xs.length tg parts ifs elt δc ds p g) (hlen : ds.length <= sizeLine)
   (k : D.nx (δ1.set i (some (.lst ((ds.filter p).map g))))) (hl : i < δ1.length) (hN : X.N.Nodup) (hi : X.N[i]? = some y) (hx : Loc X.env.scope y) (hf' : X.fn y = true \/ X.env.scope.names.lookup y = some .local)
   (AA : swapsWith (.ListComp elt [⟨tg, iter, ifs, 0⟩] scope pos) (some (.Name y py)) aar.line X.env = pure true)
   (hs : ∀ x, foldedSetIterable iter X.env x = pure x := by intro _; rfl) : Kc X CL b (.Assign [.Name y py] (.ListComp elt [⟨tg, iter, ifs, 0⟩] scope pos) aar) δ D := fun H Z σ ts vs E S M pins s I => by
 obtain ⟨wi, pi, hw⟩ := h
 rw [exec_Assign_Name_used _ _ _ _ AA]
 refine agW (wpAny_standAt (agW ?_))
 show wpAny _ X.A (do let _ ← comprehension (.ListComp elt [⟨tg, iter, ifs, 0⟩] scope pos) scope X.env _ (newList []) false (eval iter X.env) (some (assign (.Name y py) X.env))) _ _ s
 refine agW (ahZ (aiM (use := some (assign (.Name y py) X.env)) (Q := fun _ s' => SP X pins E .next s') rfl hs (wB sc I) sc.kind sc.names ?_) (fun _ s' hq => ahe (ahe hq)) fun _ _ e => e)
 refine dF (pi pins s σ H _ I (hw H Z σ ts vs (fun J H1 => Ct X CL b δ1 σ ts vs Z H ds J H1) S fun J H1 C => C)) fun v s1 h1 => dF h1 fun Zn s2 zz => ?_
 obtain ⟨it, fp, tn, J, H1, e, I1, Tn, st, hf, C⟩ := zz
 subst e
 refine By (RR := fun acc C => compPost (model X.prog X.w) X.A X.xe (some (assign (.Name y py) X.env)) (fun _ s' => SP X pins E .next s') acc C) sc hc C I1 Tn st hf hb inner hlen fun D' C' s' H' Z' m io nC ch ci z' k' S' => ?_
 obtain ⟨m, hn⟩ := m
 obtain ⟨o, ho, sE⟩ := io
 have I' : L2.Inv X pins σ H' s' := ci s'.heap (.refl ..)
 have I2 : L2.Inv X (pins ++ [(C', o)]) σ H' s' := I'.xj fun q hq => by
   rcases ag0.mp hq with z | z
   . exact I'.pin q (agS _ z)
   . have e : q = (C', o) := by simpa using z
     subst e
     exact ⟨ho, nC, ch.1, ch.2.1, sE⟩
 show wpAny _ X.A (assign (.Name y py) X.env (.ref D')) _ _ s'
 have hg : PG X (.Name y py) (D4 i) := rC hN hi hx hf'
 refine dF (hg _ s' σ H' (.ref D') (.ref D') (fun σ8 H8 => σ8 = σ.set i (some (.ref D')) /\ H8 = H') I2 rfl ⟨rfl, rfl⟩) fun _ s8 zz => ?_
 obtain ⟨σ8, H8, I8, e8, e8'⟩ := zz
 subst e8
 subst e8'
 obtain ⟨hC8, nC8, _⟩ := I8.pin (C', o) (agS _ (agS _ (by simp)))
 refine ⟨m, hn.at' fun o' e' => by rw [ho] at e'; cases e'; exact hC8, fun h' Rn => ?_⟩
 have I9 : L2.Inv X pins (σ.set i (some (.ref D'))) _ s8 := I8.xj fun q hq => I8.pin q (agS _ (agX _ hq))
 have I10 := I9.turned (it := C') (h' := h') (t' := s8.toks) (fun b o hb e => (Rn.2 b hb).trans e) nC8 ch.1.symm.symm (.inr ch.2.2.1) ch.2.2.2.1 ch.2.2.2.2
 exact ⟨_, _, I10, M.nx _ _ _ Z' z' (S'.set hl) k⟩
theorem Xa {D : dP} {ez : List Stmt} {i : Nat} {x : Str} {pos' pc : Pos} (gx : Gx X) (n : Ln X i x) (sc : qI X scope xs Nc ix) (h : GIt X CL b tg iter δ ds δ1)
   (hb : (δc = Eh δ1 ix /\ ∀ d ∈ ds, (g d).clean = true) \/ δc = yw δ1 ix) (inner : vC X CL scope Nc xs.length tg parts ifs elt δc ds p g) (hlen : ds.length <= sizeLine) (k : cU X CL b ez (δ1.set i (some (.lst ((ds.filter p).map g)))) D) (hl : i < δ1.length)
   (AA : swapsWith (.ListComp elt [⟨tg, iter, ifs, 0⟩] scope pc) (some (.Name x pos')) pos.line X.env = pure true \/ swapsWith (.ListComp elt [⟨tg, iter, ifs, 0⟩] scope pc) (some (.Name x pos')) pos.line X.env = pure false) (hs : ∀ x, foldedSetIterable iter X.env x = pure x := by intro _; rfl) :
   cU X CL b (.Assign [.Name x pos'] (.ListComp elt [⟨tg, iter, ifs, 0⟩] scope pc) pos :: ez) δ D := by
 rcases AA with AA | AA
 . exact bG (RK i sc gx.calm h hb inner hlen k hl gx.nd n.hi n.loc n.hf AA hs)
 . exact bG (MZ i (Er sc gx.calm h hb inner hlen hs) k hl gx.nd n.hi n.loc AA n.hf)
theorem Xb {i : Nat} {x : Str} {C : Addr} {s : Shared} {H : Hp} {fp : List Addr} (h1 : Nc[i]? = some x) (h2 : scope.names.lookup x = some .local) (hd : (x == ("__debug__" : Str)) = false := by decide) (mS : (x == ("__classdict__" : Str)) = false := by decide) : Ln (bP X scope Nc C s H fp) i x :=
 ⟨pe h1 h2 hd mS, .inl (aii h2), .inr (aii h2)⟩
end
section
variable {CL : Str -> Addr} {e : Expr}
theorem Kp {K : PySem.W.Frag} {Z : Hp} {l : List Int} {us : List V} (h : aH K CL Z (l.map D.int) us) : us = l.map V.int := by
 refine aH.ind (P := fun ds us => ∀ l : List Int, ds = l.map D.int -> us = l.map V.int) ?_ ?_ h l rfl
 . intro l e
   cases l with
   | nil => rfl
   | cons => cases e
 . intro d v ds vs r _ i l e
   cases l with
   | nil => cases e
   | cons a l =>
     injection e with e1 e2
     subst e1
     rw [i l e2]
     cases r
     rfl
end
section
variable {X : Cx}
theorem Kq (hc : X.calm = true) : qw X (.builtin "sum") (fun xs H Q => ∃ (p : Addr) (ns : List Int), xs = [.ref p] /\ oS X.K H p (ns.map V.int) /\ Q (.int ns.sum) H) := by
 intro pins s σ H xs us Q I r h
 obtain ⟨p, ns, rfl, hq, q⟩ := h
 obtain ⟨u, rfl, rx⟩ := vals1 r
 cases rx
 obtain ⟨its, r', pl, hz⟩ := I.list hq
 have hi := intsAre_of r'
 obtain ⟨xs, hx⟩ := hi.allInts.items
 have hn := hi.numsOf
 have hl := pl.isList
 rw [hx] at hl
 refine sum_intListG (I.ok.hd hc) hl fun h' tk t' hk => ⟨.int ns.sum, H, I.kept (t' := tk) hk, ?_, q⟩
 refine ⟨t', ?_⟩
 have e : its = (intItems xs).toList := by rw [← hx]
 rw [e, nums_intItems] at hn
 rw [preSum_eq, List.take_of_length_le (by simp), hn]
theorem Kr : bootBuiltins "sum" = some (.builtin "sum") := by decide +kernel
end
section
variable {X : Cx} {CL : Str -> Addr} {b : Bx} {δ δ1 : List (Option T)} {e : Expr} {pos pp : Pos}
theorem RL {l : List Int} (g : Gx X) (hm : X.mg "sum" = none) (h : dH X CL b e δ (.lst (l.map .int)) δ1) (hg : Gl X "sum") (hs : starEach [e] X.env = (false, eval e X.env) :: starEach [] X.env := by exact aP rfl) : bV X CL b (.Call (.Name "sum" pp) [e] [] pos) δ (.sh (.int l.sum)) δ1 := fun H Z σ ts vs Q S k =>
 bU (nJ (Kq g.calm) hg hm Kr (bD cI c6 hs) (he := hs)) (h H Z σ ts vs _ S fun v H1 Z1 z1 k1 S1 r => by
   cases r with
   | @lst a us _ hq rr =>
     have := Kp rr
     subst this
     exact ⟨a, l, rfl, hq, k _ H1 Z1 z1 k1 (S1.push (.int _))⟩)
end
theorem Np {α β : Type} {f : α -> β} {l : List α} {j : Nat} {d : β} (h : (l.map f)[j]? = some d) : ∃ x, d = f x /\ l[j]? = some x /\ x ∈ l /\ j < l.length /\ l.drop j = x :: l.drop (j + 1) /\ l.take (j + 1) = l.take j ++ [x] := by
 rw [ahh] at h
 cases hx : l[j]? with
 | none => rw [hx] at h; cases h
 | some x =>
   rw [hx] at h
   cases h
   have hj : j < l.length := (ahp.mp hx).1
   have e : l[j] = x := (ahp.mp hx).2
   exact ⟨x, rfl, rfl, ahk hx, hj, by rw [List.drop_eq_getElem_cons hj, e], by rw [ahU, hx]; rfl⟩
noncomputable def D.at1 : L3.D -> L3.D
 | .tup (a :: _) => a
 | d => d
noncomputable def D.at2 : L3.D -> L3.D
 | .tup (_ :: a :: _) => a
 | d => d
section
variable {K : PySem.W.Frag} {CL : Str -> Addr} {b : Bx} {H Z : Hp} {δ : List (Option T)} {σ : L2.St} {ts tl Vp : List T} {vs : List V} {v : V}
theorem aU.extend {i : Nat} (S : aU K CL b H Z δ σ (.lst Vp :: ts) (v :: vs)) (hi : δ[i]? = some (some (.lst tl))) :
   ∃ a us a2 Qu, σ[i]? = some (some (.ref a)) /\ H a = some (.lst us) /\ us.length = tl.length /\ v = .ref a2 /\ H a2 = some (.lst Qu) /\ Qu.length = Vp.length /\ aU K CL b (upd H a (.lst (us ++ Qu))) Z (δ.set i (some (.lst (tl ++ Vp)))) σ ts vs := by
 obtain ⟨fp, gp, e, r, nd, k⟩ := S.rep
 obtain ⟨v0, f1, f2, f3, hv, nG, rt, put, _⟩ := e.get hi
 subst nG
 cases rt with
 | @lst a us _ g ha rs =>
   cases r with
   | @cons _ _ _ _ ft gr q1 q2 =>
     cases q1 with
     | @lst a2 Qu _ g2 Nq Ii =>
       have ne : ∀ c ∈ (f1 ++ (g ++ f3)) ++ (g2 ++ gr), c ≠ a := fun c hc e => by
         subst e
         have hp : ((f1 ++ ((c :: g) ++ f3)) ++ ((a2 :: g2) ++ gr)).Perm (c :: ((f1 ++ (g ++ f3)) ++ ((a2 :: g2) ++ gr))) := by
           rw [ahi, ← ahi]
           exact (ahX.append_right _)
         refine (ahE.mp (hp.nodup_iff.mp nd)).1 ?_
         rcases ag0.mp hc with z | z
         . exact agX _ z
         . exact agS _ (agY _ z)
       refine ⟨a, us, a2, Qu, hv, ha, rs.length.symm, rfl, Nq, Ii.length.symm, ?_⟩
       have r1 : bu K CL (upd H a (.lst (us ++ Qu))) Z (.lst (tl ++ Vp)) (.ref a) (a :: (g ++ g2)) :=
         .lst aI (aE.app (rs.mono (.refl _) fun c hc => aq (ne c (by simp [hc]))) (Ii.mono (.refl _) fun c hc => aq (ne c (by simp [hc]))))
       have e2 := put (H' := upd H a (.lst (us ++ Qu))) (.refl _) (fun c hc => aq (ne c (by
         rcases ag0.mp hc with h | h
         . simp [h]
         . simp [h]))) r1
       rw [d8 hv] at e2
       have hp : ((f1 ++ ((a :: (g ++ g2)) ++ f3)) ++ gr).Perm ((f1 ++ ((a :: g) ++ f3)) ++ (g2 ++ gr)) := by
         simp only [ahi, agT]
         refine ahA f1 (List.Perm.cons a (ahA g ?_))
         rw [← agT, ← agT]
         exact ahl.append_right gr
       have sb : ((f1 ++ ((a :: g) ++ f3)) ++ (g2 ++ gr)).Sublist ((f1 ++ ((a :: g) ++ f3)) ++ ((a2 :: g2) ++ gr)) :=
         ahq (ahy _) (by rw [ahi]; exact List.sublist_cons_self _ _)
       exact S.write nd k (agV) ⟨_, ha⟩ e2 (q2.mono (.refl _) fun c hc => aq (ne c (by simp [hc]))) (hp.nodup_iff.mpr (nd.sublist sb)) fun c hc => sb.subset (hp.mem_iff.mp hc)
end
section
variable {X : Cx} {CL : Str -> Addr} {b : Bx} {δ δ1 : List (Option T)} {e : Expr} {tl Qt Vp : List T} {D : dP} {pos pp pa pb : Pos} {i : Nat} {x : Str} {ez : List Stmt}
theorem Es (n : Vn X i x) (h0 : δ[i]? = some (some (.lst Qt))) (h : bV X CL b e δ (.lst Vp) δ1) (h1 : δ1[i]? = some (some (.lst tl))) (hl : tl.length + Vp.length <= 1000000) (k : cU X CL b ez (δ1.set i (some (.lst (tl ++ Vp)))) D)
   (iz : attributeBase (.Name x pp) "extend" X.env (eval (.Name x pp) X.env) = eval (.Name x pp) X.env := by rfl)
   (oW : ((backTo pb (starEach [e] X.env)).all (fun x => !x.1) && (backToKw pb (keywordEach [] X.env)).all (fun x => x.1.isSome) && decide ([e].length + ([] : List Keyword).length + (if ([] : List Keyword).isEmpty then 0 else 1) < 30)) = true := by rfl)
   (hline : (pa.endLine == pb.line) = true := by rfl) (hs : starEach [e] X.env = (false, eval e X.env) :: starEach [] X.env := by exact aP rfl)
   (AA : swapsWith (.Call (.Attribute (.Name x pp) "extend" pa) [e] [] pb) none pos.line X.env = pure false := by rfl) :
   cU X CL b (.Expr (.Call (.Attribute (.Name x pp) "extend" pa) [e] [] pb) pos :: ez) δ D := bG fun H Z σ ts vs E S M =>
 kH (rB (Bp ah0 PySem.F.slot_list_extend PySem.F.type_list_extend JX (fW n.hi n.hv n.hd n.mS) (bD cI c6 hs) iz oW hline hs rfl) AA) (by
   obtain ⟨v0, e0, r0⟩ := S.look h0
   refine ⟨v0, e0, ?_, ?_⟩
   . rw [T.bS] at r0
     cases r0 with
     | lst hq _ => exact .inl ⟨rfl, _, hq⟩
   . refine h H Z σ ts vs _ S fun v H1 Z1 z1 k1 S1 => ?_
     obtain ⟨a, us, a2, Qu, ea, ha, hu, rfl, Nq, hu2, S2⟩ := S1.extend h1
     rw [e0] at ea
     cases ea
     exact ⟨a, a2, us, Qu, rfl, rfl, ha, Nq, by rw [hu, hu2]; exact ah3 (ahW hl (by rw [ahS]; decide)), M.nx _ σ _ Z1 z1 S2 k⟩)
end
section
variable {X : Cx} {CL : Str -> Addr} {b : Bx} {δ : List (Option T)} {x : Str} {pos : Pos}
theorem aH.Vq {K : PySem.W.Frag} {Z : Hp} : ∀ l : List Str, aH K CL Z (l.map .str) (l.map V.str)
 | [] => .nil
 | x :: l => .cons (.str x) (aH.Vq l)
noncomputable def GT (X : Cx) (x : Str) (l : List Str) : Prop := ∃ a, X.mg x = some (.ref a) /\ ∀ H : Hp, sF X.K H a (l.map V.str)
theorem Et {l : List Str} (hm : GT X x l) (hg : Gl X x) (hd : (x == ("__debug__" : Str)) = false := by decide) : bV X CL b (.Name x pos) δ (.sh (.tup (l.map .str))) δ := fun H Z σ ts vs Q S kk => by
 obtain ⟨a, hm, hs⟩ := hm
 exact bU (xo (v := .ref a) hg hm rfl hd) (kk _ H Z (.refl _) (.refl _) (S.push (.tup (hs Z) (aH.Vq l))))
theorem aas {l : List Str} {a : Addr} {od : Option Addr} {its : Array Value} {n : Nat} {sl : Array (Option Value)} (h1 : X.mg x = some (.ref a)) (h2 : X.K.lookup a = some ⟨.type "tuple", od, .seq its n, sl⟩) (h3 : its.size <= sizeLine) (h4 : Vals (l.map V.str) its.toList) : GT X x l :=
 ⟨a, h1, fun H => .inr ⟨_, its, n, h2, rfl, rfl, h3, h4⟩⟩
end
section
variable {X : Cx} {CL : Str -> Addr} {b : Bx} {δ : List (Option T)} {pos pp : Pos} {x : Str}
theorem c0 {k n : Nat} {A : Type} {arg : A -> List L3.D} {Pre : A -> Prop} {res : A -> T} (a : A) (F : Fc X CL x k n arg Pre res) (hg : Gl X x) (ha : arg a = []) (hp : Pre a) (hc : (res a).clean = true) (hn : (arg a).length = n := by rfl)
   (nI : (x == ("__debug__" : Str)) = false := by decide) : bV X CL b (.Call (.Name x pp) [] [] pos) δ (res a) δ := by
 obtain ⟨f, fd, ps, F1, m, kk, bb⟩ := F.ex
 intro H Z σ ts vs Q S k
 refine bU (Mx F1 F.room hg m kk bb .nil sG nI) ?_
 refine ⟨H, a, .refl _, fun _ _ q _ => q, by rw [ha]; exact .nil, hn, hp, S.MR, fun v H' W' fp hh ww wh nw tp rt nd own => ?_⟩
 obtain ⟨Z', z', S'⟩ := S.back hh S.zh ww wh nw tp rt nd own (.inr hc)
 exact k v H' Z' z' hh S'
end
noncomputable def F8 : Key -> D
 | .inl i => .int i
 | .inr x => .str x
section
variable {K : PySem.W.Frag} {CL : Str -> Addr} {Z : Hp} {v : V} {kvs : List (Key × D)} {gs : List (Key × V)}
theorem cC.length {kvs : List (Key × D)} {gs : List (Key × V)} (h : cC K CL Z kvs gs) : kvs.length = gs.length :=
 cC.ind (P := fun kvs gs => kvs.length = gs.length) rfl (fun _ _ i => congrArg (· + 1) i) h
theorem bq.key {k : Key} (r : bq K CL Z (F8 k) v) : v = kV k := by
 cases k with
 | inl i => exact r.sc rfl
 | inr x => exact r.sc rfl
theorem RM {Z : Hp} (k : Key) : bq K CL Z (F8 k) (kV k) := by
 cases k with
 | inl i => exact .int i
 | inr x => exact .str x
theorem Eu {Z : Hp} : ∀ ks : List Key, aH K CL Z (ks.map F8) (ks.map kV)
 | [] => .nil
 | k :: ks => .cons (RM k) (Eu ks)
end
namespace Rv
theorem Ks : Manifest.owners.lookup (String.ofList ['d', 'e', 's', 'r', 'e', 'v', 'e', 'r'].reverse) = some Manifest.sig_reversed := by kernel_rfl
theorem Ku : PySem.Slot "reversed" "__init__" "object.__init__" :=
 .of (owner := "object") (n := "__init__") (by rw [typeLookup_type, builtinLookup_eq_fast]; kernel_rfl) (by decide +kernel) (by decide +kernel) (by decide +kernel)
   (by first | exact .inl (by decide +kernel) | exact .inr (by decide +kernel)) (by rw [isSubtype_type]; kernel_rfl)
theorem called : TypeCalled "reversed" "reversed.__new__" "object.__init__" :=
 ⟨by decide +kernel, by decide +kernel, ⟨_, _, PySem.F.mro_reversed⟩, PySem.F.made_reversed, by decide +kernel, PySem.F.sub_reversed_self, Ku⟩
theorem slot_next : PySem.Slot "reversed" "__next__" "reversed.__next__" :=
 .of (owner := "reversed") (n := "__next__") (by rw [typeLookup_type, builtinLookup_eq_fast]; kernel_rfl) (by decide +kernel) (by decide +kernel) (by decide +kernel)
   (by first | exact .inl (by decide +kernel) | exact .inr (by decide +kernel)) (by rw [isSubtype_type]; kernel_rfl)
theorem entry_next : entryFor table "reversed.__next__" = some Builtin.«reversed.__next__» := entryFor_of_tree (by kernel_rfl)
theorem args_next (a : Value) : argsOk "reversed.__next__" ⟨[a], []⟩ := by
 unfold argsOk; rw [signature?_of (id := "reversed.__next__") (n := ['_', '_', 't', 'x', 'e', 'n', '_', '_']) (o := ['d', 'e', 's', 'r', 'e', 'v', 'e', 'r']) (by kernel_rfl) Ks]; kernel_rfl
noncomputable def obj (t : Addr) (i : Int) : Obj := { cls := .type "reversed", data := .fields #[.ref t, rawInt i] }
noncomputable def Is (h : Heap) (a t : Addr) (i : Int) : Prop := ∃ o, h.get? a = some o /\ o.cls = .type "reversed" /\ o.data = .fields #[.ref t, rawInt i]
section
variable {s : Shared}
theorem Is.typeIs {a t : Addr} {i : Int} (x : Is s.heap a t i) : s.TypeIs (.ref a) "reversed" := let ⟨o, ho, hc, _⟩ := x; ⟨o, ho, hc⟩
end
end Rv
namespace Rv
section
variable {prog : Program} {w : World} {A : Around} {E : Value -> Shared -> Prop} {s : Shared}
theorem next_item {it t : Addr} {i : Nat} {items : Array Value} {x : Value} {Q : Option Value -> Shared -> Prop} (hit : Is s.heap it t (i : Int)) (ht : IsTup s.heap t items) (hne : t ≠ it) (hx : items[i]? = some x) (hsz : (items.size : Int) < 2 ^ 63)
   (hQ : ∀ h' tk, Is h' it t ((i : Int) - 1) -> Heap.SameBut it s.heap h' -> Q (some x) { s with heap := h', toks := tk }) : wpAny (model prog w) A (pyNext (.ref it)) Q E s := by
 obtain ⟨o, ho, hc, hd⟩ := id hit
 have hi : i < items.size := (Array.getElem?_eq_some_iff.mp hx).1
 unfold pyNext
 refine agW (aiT (aio (name := Str.ofString "__next__") hit.typeIs slot_next
   (ail slot_next hit.typeIs entry_next ?_ (args_next _))))
 unfold Builtin.«reversed.__next__»
 refine agW (wpAny_of_eq (a := (Value.ref it, [])) rfl ?_)
 try dsimp only
 refine agW (wpAny_field ho hd (x := .ref t) rfl ?_)
 refine agW (wpAny_field ho hd (x := rawInt (i : Int)) rfl ?_)
 show wpAny _ _ (if (i : Int) < 0 then _ else _) _ _ s
 rw [ag2 (by omega)]
 refine agW (wpAny_specialOf ht.typeIs PySem.F.slot_tuple_getitem.lookup ?_)
 rw [ag2 (by decide)]
 refine agW (wpAny_mkInt ?_)
 refine agW (aiT (getItem_tuple (s := { s with toks := s.toks + 1 }) ht (by omega) (by omega) (j := i) (by simp [seqIndex?]; omega) hx ?_))
 try dsimp only
 refine agW (wpAny_field (s := { s with toks := s.toks + 1 }) ho hd (x := rawInt (i : Int)) rfl ?_)
 show wpAny _ _ (setField (.ref it) 1 (rawInt ((i : Int) - 1)) >>= _) _ _ _
 refine agW (aiO (s := { s with toks := s.toks + 1 }) ho hd (by simp) ?_)
 refine ahe ⟨x, rfl, ahe (hQ _ _ ?_ (aiF ..))⟩
 exact ⟨_, aix _ ho (Obj.isFreed_of_fields (ah9 hd _)), (Obj.cls_mapFields ..).trans hc, by
   rw [ah9 hd]; simp⟩
theorem next_end {it t : Addr} {Q : Option Value -> Shared -> Prop} (hh : A.handled = none) (hit : Is s.heap it t (-1))
   (hQ : ∀ h', Heap.ExtBut it s.heap h' -> Q none { s with heap := h' }) : wpAny (model prog w) A (pyNext (.ref it)) Q E s := by
 obtain ⟨o, ho, hc, hd⟩ := id hit
 unfold pyNext
 refine agW (aiT (aio (name := Str.ofString "__next__") hit.typeIs slot_next
   (ail slot_next hit.typeIs entry_next ?_ (args_next _))))
 unfold Builtin.«reversed.__next__»
 refine agW (wpAny_of_eq (a := (Value.ref it, [])) rfl ?_)
 try dsimp only
 refine agW (wpAny_field ho hd (x := .ref t) rfl ?_)
 refine agW (wpAny_field ho hd (x := rawInt (-1)) rfl ?_)
 show wpAny _ _ (if (-1 : Int) < 0 then _ else _) _ _ s
 rw [ag9 (by decide)]
 refine agW (wpAny_rule ?_)
 refine agW ?_
 refine agW (aiO ho hd (by simp) ?_)
 have ho2 := aix (Obj.mapFields fun x => x.setIfInBounds 1 (rawInt (-1))) ho (Obj.isFreed_of_fields (ah9 hd _))
 have e1 : Heap.ExtBut it s.heap (s.heap.update it (Obj.mapFields fun x => x.setIfInBounds 1 (rawInt (-1)))) := (aiF ..).extBut
 refine aiO ho2 (ah9 hd _) (by simp) ?_
 refine agW ?_
 show wpAny _ _ (newExc (.type "StopIteration") [] >>= _) _ _ _
 refine agW ?_
 simp only [newExc, newTuple]
 refine agW (aie ?_ (by size_fits))
 refine agW (m := firstArgMember _ _) (wpAny_of_eq (a := Value.none) (by first | rfl | (simp only [firstArgMember]; rfl)) ?_)
 refine aie ?_ (by size_fits)
 simp only [raiseNew]
 refine agW (wpAny_handled ?_)
 first | rw [show A.in1.handled = none from hh] | rw [hh]
 refine agW (ahe (wpAny_throw ?_))
 refine agW (wpAny_isInstance (T := "StopIteration") (b := true) ⟨_, ahC _ rfl, rfl⟩ isSubtype_stop ?_)
 exact ahe (hQ _ fun b o hb e => ag8 _ (ag8 _ ((Heap.get?_update_other _ _ (Ne.symm hb)).trans (e1 b o hb e))))
end
end Rv
section
variable {CL : Str -> Addr} {b : Bx} {δ : List (Option T)}
theorem aU.F9 {K : PySem.W.Frag} {H Z : Hp} {σ : L2.St} {ts : List T} {v : V} {vs : List V} {d : L3.D} (S : aU K CL b H Z δ σ (.sh d :: ts) (v :: vs)) : bq K CL Z d v := by
 obtain ⟨fp, gp, e0, r0, nd, ow⟩ := S.rep
 cases r0 with
 | cons q1 q2 =>
   cases q1 with
   | sh r => exact r
end
section
variable {ι : Nat -> Nat}
noncomputable def turned (ι : Nat -> Nat) (i j : Nat) : Nat -> Nat := fun k => if i <= k /\ k < j then ι (i + j - 1 - k) else ι k
end
section
variable {X : Cx} {i : Nat} {x : Str}
theorem Cu (hi : X.N[i]? = some x) (h : X.env.scope.names.lookup x = some .local) (hf : X.fn x = true) (hd : (x == ("__debug__" : Str)) = false := by decide) (hc : (x == ("__classdict__" : Str)) = false := by decide) : Ln X i x := ⟨⟨hi, .inl h, hd, hc⟩, .inl h, .inl hf⟩
theorem mkC (hi : X.N[i]? = some x) (h : X.env.scope.names.lookup x = some .cell) (hf : X.fn x = true) (hd : (x == ("__debug__" : Str)) = false := by decide) (hc : (x == ("__classdict__" : Str)) = false := by decide) : Ln X i x := ⟨⟨hi, .inr (.inl h), hd, hc⟩, .inr h, .inl hf⟩
end
section
variable {X : Cx} {CL : Str -> Addr} {b : Bx} {δ δ1 δc : List (Option T)} {scope : Scope} {y : Str} {Nc : List Str} {ix : List Nat} {elt iter : Expr} {ifs : List Expr} {px pc pos : Pos} {p : L3.D -> Bool} {g : L3.D -> T} {ds : List L3.D}
theorem aat (sc : gj X scope y Nc ix) : qI X scope [y] Nc ix := ⟨sc.kind, sc.vt, sc.nd, sc.names, (fun x hx => by rw [ahN] at hx; subst hx; exact sc.own), sc.frees, sc.hd, sc.Vj⟩
theorem aau (sc : gj X scope y Nc ix) (h : Block X CL scope Nc ifs elt δc ds p g) (h1 : (y == ("__debug__" : Str)) = false) (h2 : (y == ("__classdict__" : Str)) = false) : vC X CL scope Nc [y].length (.Name y px) part1 ifs elt δc ds p g := fun C s0 H0 f0 b' =>
 ⟨Nk (i := 0) sc.nd (Xb (by rw [sc.hd]; rfl) sc.own h1 h2), fun d hd => ⟨[d], rfl, rfl, (h C s0 H0 f0 b' d hd).1, (h C s0 H0 f0 b' d hd).2⟩⟩
theorem Ij (sc : gj X scope y Nc ix) (hc : X.calm = true) (h : LQ X CL b (.Name y px) iter δ ds δ1) (hb : (δc = Eh δ1 ix /\ ∀ d ∈ ds, (g d).clean = true) \/ δc = yw δ1 ix) (inner : Block X CL scope Nc ifs elt δc ds p g) (hlen : ds.length <= sizeLine)
   (hs : ∀ x, foldedSetIterable iter X.env x = pure x := by intro _; rfl) (h1 : (y == ("__debug__" : Str)) = false := by decide) (h2 : (y == ("__classdict__" : Str)) = false := by decide) : bV X CL b (.ListComp elt [⟨.Name y px, iter, ifs, 0⟩] scope pos) δ (.lst ((ds.filter p).map g)) δ1 :=
 Er (xs := [y]) (aat sc) hc (Vl h) hb (aau sc inner h1 h2) hlen hs
theorem Ga {D : dP} {ez : List Stmt} {i : Nat} {x : Str} {pos' : Pos} {gg : L3.D -> T} (g : Gx X) (n : Ln X i x) (sc : gj X scope y Nc ix) (h : LQ X CL b (.Name y px) iter δ ds δ1) (hb : (δc = Eh δ1 ix /\ ∀ d ∈ ds, (gg d).clean = true) \/ δc = yw δ1 ix) (inner : Block X CL scope Nc ifs elt δc ds p gg)
   (hlen : ds.length <= sizeLine) (k : cU X CL b ez (δ1.set i (some (.lst ((ds.filter p).map gg)))) D) (hl : i < δ1.length)
   (AA : swapsWith (.ListComp elt [⟨.Name y px, iter, ifs, 0⟩] scope pc) (some (.Name x pos')) pos.line X.env = pure true \/ swapsWith (.ListComp elt [⟨.Name y px, iter, ifs, 0⟩] scope pc) (some (.Name x pos')) pos.line X.env = pure false) (hs : ∀ x, foldedSetIterable iter X.env x = pure x := by intro _; rfl)
   (h1 : (y == ("__debug__" : Str)) = false := by decide) (h2 : (y == ("__classdict__" : Str)) = false := by decide) : cU X CL b (.Assign [.Name x pos'] (.ListComp elt [⟨.Name y px, iter, ifs, 0⟩] scope pc) pos :: ez) δ D :=
 Xa (xs := [y]) g n (aat sc) (Vl h) hb (aau sc inner h1 h2) hlen k hl AA hs
end
section
variable {X : Cx} {CL : Str -> Addr} {b : Bx} {δ : List (Option T)} {i : Nat} {x : Str} {d : L3.D} {pos : Pos}
theorem bE (n : Ln X i x) (h : δ[i]? = some (some (.sh d)) := by rfl) : dH X CL b (.Name x pos) δ d δ := ai (v_ n.1 h)
end
structure cW (X : Cx) : Prop where
 g : Gx X
 u : X.A.units + 64 < cLine
noncomputable abbrev aO (X : Cx) (CL : Str -> Addr) (b : Bx) (st : Stmt) (N : List Str) (l : List L3.D) (r : T) : Prop := cU X CL b (cB st) (entry N l) { nx := fun _ => r = .sh .non, rt := fun AF _ => AF = r }
noncomputable abbrev aG : NameKind := .globalImplicit
noncomputable abbrev av : NameKind := .local
theorem bz {N P : List Str} {sc : Scope} (h1 : sc.kind = .function := by rfl) (h2 : sc.isCoroutine = false := by rfl) (h3 : sc.isGenerator = false := by rfl) (h4 : N.Nodup := by decide +kernel) (h5 : N.take P.length = P := by rfl) (h6 : ∀ x ∈ P, sc.names.lookup x = some .local \/ sc.names.lookup x = some .cell := by decide +kernel) (h7 : ∀ y ∈ sc.names, y.2 ≠ .free := by decide +kernel) : aS N P sc := ⟨h1, h2, h3, h4, h5, h6, h7⟩
section
variable {X : Cx} {i : Nat} {x : Str} {tb : List (Str × NameKind)}
theorem bJ (c : pA X.env.scope tb = true) (j : Nat) (hj : tb[j]? = some (x, .local) := by rfl) (hi : X.N[i]? = some x := by rfl) (hf : X.fn x = true := by rfl) (hd : (x == ("__debug__" : Str)) = false := by decide) (hc : (x == ("__classdict__" : Str)) = false := by decide) : Ln X i x := Cu hi (jF c j hj) hf hd hc
theorem Xc (c : pA X.env.scope tb = true) (j : Nat) (hj : tb[j]? = some (x, .cell) := by rfl) (hi : X.N[i]? = some x := by rfl) (hf : X.fn x = true := by rfl) (hd : (x == ("__debug__" : Str)) = false := by decide) (hc : (x == ("__classdict__" : Str)) = false := by decide) : Ln X i x := mkC hi (jF c j hj) hf hd hc
theorem fY (c : pA X.env.scope tb = true) (j : Nat) (hj : tb[j]? = some (x, .globalImplicit) := by rfl) : Gl X x := jF c j hj
theorem pD {CL : Str -> Addr} {k n m : Nat} {A : Type} {arg : A -> List D} {Pre : A -> Prop} {res : A -> T} (F : ∃ f fd ps, cQ X.prog X.w X.K X.mg X.base kU k f fd ps (Az X.K CL n arg Pre res) /\ X.mg x = some (.ref f) /\ PySem.W.keepIn X.K (.ref f) = true /\ Binds X.K fd ps []) (r : dG m X.A) (h : k <= m := by decide) : Fc X CL x k n arg Pre res := ⟨F, r.mono h⟩
end
section
variable {K : PySem.W.Frag} {CL : Str -> Addr} {b : Bx} {H H' Z Z' : Hp} {δ δ' : List (Option T)} {σ σ' : L2.St} {ts tl : List T} {vs us : List V} {t : T} {v : V} {y : Addr} {i : Nat}
theorem aU.aav (S : aU K CL b H Z δ σ ts vs) (hi : δ[i]? = some (some (.pin y t))) : σ[i]? = some (some (.ref y)) /\ aU K CL b H Z (δ.set i (some t)) σ ts vs := by
 obtain ⟨fp, gp, e, r, nd, k⟩ := S.rep
 obtain ⟨v0, f1, f2, f3, hv, nG, rt, put, _⟩ := e.get hi
 subst nG
 cases rt with
 | pin rt =>
   have e2 := put (.refl _) (fun _ _ => rfl) rt
   rw [d8 hv] at e2
   exact ⟨hv, ⟨⟨_, gp, e2, r, nd, k⟩, S.bh, S.zz, S.zh, S.new, S.tp, S.tab⟩⟩
noncomputable def qq (H : Hp) (gp : List Addr) : Hp := fun c => if c ∈ gp then none else H c
theorem gQ {gp : List Addr} {c : Addr} (h : c ∉ gp) : qq H gp c = H c := ag2 h
theorem pF {gp : List Addr} {c : Addr} (h : c ∈ gp) : qq H gp c = none := ag9 h
theorem jw {gp : List Addr} {c : Addr} {o : HO} (h : qq H gp c = some o) : c ∉ gp /\ H c = some o := by
 by_cases hc : c ∈ gp
 . rw [pF hc] at h; cases h
 . rw [gQ hc] at h; exact ⟨hc, h⟩
theorem aU.cut (S : aU K CL b H Z δ σ (tl ++ ts) (us ++ vs)) (hl : tl.length = us.length) : ∃ gp, aE K CL H Z tl us gp /\ gp.Nodup /\ aU K CL b (qq H gp) Z δ σ ts vs := by
 obtain ⟨fp, g, e, r, nd, k⟩ := S.rep
 obtain ⟨g1, g2, rfl, r1, r2⟩ := aE.split hl r
 have hp : (fp ++ (g1 ++ g2)).Perm (g1 ++ (fp ++ g2)) := by
   rw [← agT, ← agT]
   exact ahl.append_right g2
 have DY := aht.mp (hp.nodup_iff.mp nd)
 have ne : ∀ c ∈ fp ++ g2, c ∉ g1 := fun c hc h => DY.2.2 c h c hc rfl
 have own : ∀ c ∈ g1, Z c = none /\ b.B c = none := fun c hc => k c (agS _ (agX _ hc))
 refine ⟨g1, r1, DY.1, ⟨⟨fp, g2, e.mono (.refl _) (fun c hc => gQ (ne c (agX _ hc))), r2.mono (.refl _) (fun c hc => gQ (ne c (agS _ hc))), DY.2.1, fun c hc => k c (hp.mem_iff.mpr (agS _ hc))⟩, fun c o q => ?_, S.zz, fun c o q => ?_, S.new, fun c o q im => S.tp c o (jw q).2 im, S.tab⟩⟩
 . rw [gQ (fun h => by rw [(own c h).2] at q; cases q)]; exact S.bh c o q
 . rw [gQ (fun h => by rw [(own c h).1] at q; cases q)]; exact S.zh c o q
theorem aU.Nr {W' : Hp} {fp : List Addr} (S : aU K CL b H Z δ σ ts vs) (hh : aC H H') (ww : aC Z W') (wh : aC W' H') (new : ∀ a o, W' a = some o -> Z a = none -> H a = none)
   (tp : ∀ a o, H' a = some o -> mC o = true -> W' a = some o) (r : aE K CL H' W' tl us fp) (nd : fp.Nodup) (own : ∀ a ∈ fp, W' a = none /\ H a = none) : aU K CL b H' W' δ σ (tl ++ ts) (us ++ vs) := by
 obtain ⟨f0, g0, e0, r0, ZY, k0⟩ := S.rep
 have old : ∀ a ∈ f0 ++ g0, ∃ o, H a = some o := fun a ha => (ag0.mp ha).elim (e0.there a) (r0.there a)
 have keep : ∀ a ∈ f0 ++ g0, H' a = H a := fun a ha => by
   obtain ⟨o, e⟩ := old a ha
   rw [e]; exact hh a o e
 have hp : (f0 ++ (fp ++ g0)).Perm (fp ++ (f0 ++ g0)) := by
   rw [← agT, ← agT]
   exact ahl.append_right g0
 have wn : ∀ a ∈ f0 ++ g0, W' a = none := fun a ha => by
   cases q : W' a with
   | none => rfl
   | some o =>
     obtain ⟨u, e⟩ := old a ha
     rw [new a o q (k0 a ha).1] at e; cases e
 refine ⟨⟨f0, fp ++ g0, e0.mono ww (fun a ha => keep a (agX _ ha)), aE.app r (r0.mono ww fun a ha => keep a (agS _ ha)), ?_, fun a ha => ?_⟩, S.bh.trans hh, S.zz.trans ww, wh, fun a o q z => ?_, tp, S.tab⟩
 . refine hp.nodup_iff.mpr (aht.mpr ⟨nd, ZY, fun a ha c hc e => ?_⟩)
   subst e
   obtain ⟨o, q⟩ := old a hc
   rw [(own a ha).2] at q; cases q
 . rcases ag0.mp (hp.mem_iff.mp ha) with h | h
   . exact ⟨(own a h).1, FW S.bh (own a h).2⟩
   . exact ⟨wn a h, (k0 a h).2⟩
 . cases q2 : Z a with
   | none => exact FW S.bh (new a o q q2)
   | some u =>
     exact S.new a u q2 z
noncomputable def RN : List T -> List T -> Prop
 | [], [] => True
 | .sh d :: l, .sh e :: m => d = e /\ RN l m
 | .pin x _ :: l, .pin z _ :: m => x = z /\ RN l m
 | _, _ => False
noncomputable def Keeps (δ : List (Option T)) (ol : List T) : Prop := ∀ (j : Nat) (y : Addr) (t : T), ol[j]? = some (T.pin y t) -> δ[j]? = some (some (T.pin y t))
theorem Keeps.tail {o : Option T} {d : T} {ol : List T} (k : Keeps (o :: δ) (d :: ol)) : Keeps δ ol := fun j y t h => k (j + 1) y t h
theorem cH.outs {W W' : Hp} (ww : aC W W') : ∀ {al ol : List T} {vs : List V} {g0 : List Addr} {δ : List (Option T)} {σ : L2.St} {fp : List Addr}, RN al ol -> aE K CL H W al vs g0 -> cH K CL H' W' δ σ fp -> Keeps δ ol -> ∃ g, aE K CL H' W' ol vs g /\ g.Sublist fp
 | [], [], _, _, _, _, fp, _, .nil, _, _ => ⟨[], .nil, List.nil_sublist _⟩
 | .sh d :: al, .sh e :: ol, _, _, δ, σ, fp, ho, .cons (.sh r) rs, re, k => by
   obtain ⟨h1, h2⟩ := ho
   subst h1
   cases re with
   | nil =>
     obtain ⟨g, q, s⟩ := cH.outs ww h2 rs (.nil (H := H') (Z := W')) (fun j y t h => by have := k (j + 1) y t h; simp at this)
     exact ⟨[] ++ g, .cons (.sh (r.mono ww)) q, s⟩
   | skip re =>
     obtain ⟨g, q, s⟩ := cH.outs ww h2 rs re k.tail
     exact ⟨[] ++ g, .cons (.sh (r.mono ww)) q, s⟩
   | cons rt re =>
     obtain ⟨g, q, s⟩ := cH.outs ww h2 rs re k.tail
     exact ⟨[] ++ g, .cons (.sh (r.mono ww)) q, s.trans (ahI _ _)⟩
 | .pin x t0 :: al, .pin z t :: ol, _, _, δ, σ, fp, ho, .cons (.pin r) rs, re, k => by
   obtain ⟨h1, h2⟩ := ho
   subst h1
   have h0 := k 0 x t rfl
   cases re with
   | nil => simp at h0
   | skip re => simp at h0
   | cons rt re =>
     simp at h0
     subst h0
     obtain ⟨g, q, s⟩ := cH.outs ww h2 rs re k.tail
     cases rt with
     | pin rt => exact ⟨_, .cons (.pin rt) q, ahq (ahy _) s⟩
noncomputable def j7 (N : List Str) (al : List T) : List (Option T) := al.map some ++ List.replicate (N.length - al.length) none
theorem wC : ∀ {al : List T} {vs : List V} {gp : List Addr} (n : Nat), aE K CL H Z al vs gp -> cH K CL H Z (al.map some ++ List.replicate n none) (vs.map some ++ List.replicate n none) gp
 | _, _, _, n, .nil => lq (ds := []) (vs := []) n .nil
 | _, _, _, n, .cons r t => .cons r (wC n t)
noncomputable def Ew (K : PySem.W.Frag) (CL : Str -> Addr) {A : Type} (n : Nat) (arg : A -> List T) (Pre : A -> Prop) (res : A -> T) (out : A -> List T) : Sp := fun vs H Q _ =>
 ∃ (W : Hp) (a : A) (gp : List Addr), aC W (qq H gp) /\ (∀ c o, H c = some o -> mC o = true -> W c = some o) /\ aE K CL H W (arg a) vs gp /\ gp.Nodup /\ (arg a).length = n /\ Pre a /\ oX CL W ∧
   ∀ v H' W' fp, aC (qq H gp) H' -> aC W W' -> aC W' H' -> (∀ c o, W' c = some o -> W c = none -> qq H gp c = none) -> (∀ c o, H' c = some o -> mC o = true -> W' c = some o) →
     aE K CL H' W' (res a :: out a) (v :: vs) fp -> fp.Nodup -> (∀ c ∈ fp, W' c = none /\ qq H gp c = none) -> Q v H'
theorem mW {P : Program} {w : World} {mg : Str -> Option Value} {base : Heap} {x qual : Str} {st : Stmt} {f : Addr} {fd : FuncData} {N ps : List Str} {k : Nat} {A : Type} {arg : A -> List T} {Pre : A -> Prop} {res : A -> T} {out : A -> List T} (F : mV K x qual st f fd) (S : aS N ps (ao st)) (ho : ∀ a, Pre a -> RN (arg a) (out a))
   (hb : ∀ (gO : Value) (Ar : Around) (outer : List Env) (s : Shared) (H : Hp) (E : XK) (b : Bx) (a : A), dG k (Ar.deeper (envOfC qual (ao st) s.heap.objs.size f gO)) -> Pre a →
     cU (yk kU P w K mg base N qual (ao st) f gO Ar outer s H E).QL CL b (cB st) (j7 N (arg a)) { nx := fun δ => res a = .sh .non /\ Keeps δ (out a), rt := fun t δ => t = res a /\ Keeps δ (out a) }) :
   cQ P w K mg base kU (k + 1) f fd ps (Ew K CL ps.length arg Pre res out) := by
 refine F.ok S (fun vs H Q E h => ?_) (fun gO Ar outer s H vs Q E hr h => ?_)
 . obtain ⟨W, a, gp, _, _, r, _, hl, _⟩ := h
   rw [← r.length]; exact hl
 . obtain ⟨W, a, gp, wh, tp, r, nd, hl, hp, tb, kk⟩ := h
   have wn : ∀ c ∈ gp, W c = none := fun c hc => by
     cases q : W c with
     | none => rfl
     | some o => exact absurd hc (jw (wh c o q)).1
   refine ⟨_, LN, hb gO Ar outer s H E ⟨qq H gp, W⟩ a hr hp H W _ [] [] _ ⟨⟨gp, [], ?_, .nil, by rw [ag3]; exact nd, fun c hc => ?_⟩, fun c o q => (jw q).2, .refl _, fun c o q => (jw (wh c o q)).2, fun c o q z => ?_, tp, tb⟩ ⟨fun δ' σ' H' Z' s' S' e => ?_, fun t v H' Z' δ' σ' s' S' e => ?_, fun _ _ _ _ _ _ e => e.elim, fun _ _ _ _ _ _ e => e.elim⟩⟩
   . unfold j7 L2.start
     rw [← r.length]
     exact wC _ r
   . rw [ag3] at hc
     exact ⟨wn c hc, pF hc⟩
   . have q' : W c = some o := q
     have z' : W c = none := z
     rw [q'] at z'; cases z'
   . obtain ⟨e1, e2⟩ := e
     obtain ⟨fp, gq, re, r', DY, own⟩ := S'.rep
     obtain ⟨g, q, sb⟩ := cH.outs S'.zz (ho a hp) r re e2
     have nf := (aht.mp DY).1
     exact kk .non H' Z' ([] ++ g) S'.bh S'.zz S'.zh S'.new S'.tp (.cons (by rw [e1]; exact .sh .non) q) (nf.sublist sb) fun c hc => own c (agX _ (sb.subset hc))
   . obtain ⟨e1, e2⟩ := e
     subst e1
     obtain ⟨fp, gq, re, r', DY, own⟩ := S'.rep
     obtain ⟨g, q, sb⟩ := cH.outs S'.zz (ho a hp) r re e2
     cases r' with
     | @cons _ _ _ _ f1 f2 r1 r2 =>
       have sub : (g ++ f1).Sublist (fp ++ (f1 ++ f2)) := ahq sb (List.sublist_append_left _ _)
       have pm : (f1 ++ g).Perm (g ++ f1) := ahl
       exact kk v H' Z' (f1 ++ g) S'.bh S'.zz S'.zh S'.new S'.tp (.cons r1 q) (pm.nodup_iff.mpr (DY.sublist sub)) fun c hc => own c (sub.subset (pm.mem_iff.mp hc))
end
noncomputable def AtS (σ : L2.St) : List Nat -> List Addr -> Prop
 | [], [] => True
 | i :: is, y :: ys => σ[i]? = some (some (.ref y)) /\ AtS σ is ys
 | _, _ => False
noncomputable def lB : List T -> List Addr -> List T -> Prop
 | [], [], [] => True
 | .sh _ :: ol, ys, ns => lB ol ys ns
 | .pin y t :: ol, z :: ys, n :: ns => y = z /\ (n = t \/ n = .pin y t) /\ lB ol ys ns
 | _, _, _ => False
noncomputable def Kv : List (Option T) -> List Nat -> List T -> List (Option T)
 | δ, i :: is, n :: ns => Kv (δ.set i (some n)) is ns
 | δ, _, _ => δ
section
variable {K : PySem.W.Frag} {CL : Str -> Addr} {b : Bx} {H Z : Hp} {σ : L2.St} {ts : List T} {vs : List V}
theorem aU.RP : ∀ {ol : List T} {us : List V} {is : List Nat} {ys : List Addr} {ns : List T} {δ : List (Option T)}, aU K CL b H Z δ σ (ol ++ ts) (us ++ vs) -> ol.length = us.length -> AtS σ is ys -> lB ol ys ns -> (∀ i ∈ is, i < δ.length) -> aU K CL b H Z (Kv δ is ns) σ ts vs
 | [], [], [], [], [], δ, S, _, _, _, _ => S
 | [], [], _ :: _, [], _, δ, S, _, ha, _, _ => ha.elim
 | [], [], _ :: _, _ :: _, _, δ, S, _, _, hp, _ => by simp [lB] at hp
 | .pin _ _ :: _, _ :: _, [], _ :: _, _, δ, S, _, ha, _, _ => ha.elim
 | .pin _ _ :: _, _ :: _, [], [], _, δ, S, _, _, hp, _ => by simp [lB] at hp
 | .sh d :: ol, u :: us, is, ys, ns, δ, S, hl, ha, hp, hi => aU.RP (ol := ol) (us := us) (ys := ys) S.pop (by simpa using hl) ha (by rw [lB] at hp; exact hp) hi
 | .pin y t :: ol, u :: us, i :: is, z :: ys, n :: ns, δ, S, hl, ha, hp, hi => by
   rw [lB] at hp
   obtain ⟨rfl, hn, hp⟩ := hp
   obtain ⟨ha0, ha⟩ := ha
   have hu : u = .ref y := by
     obtain ⟨_, _, _, r, _, _⟩ := S.rep
     cases r with
     | cons r _ => cases r; rfl
   subst hu
   have hi0 := hi i agV
   have S1 := S.set hi0
   rw [d8 ha0] at S1
   have S2 : aU K CL b H Z (δ.set i (some n)) σ (ol ++ ts) (us ++ vs) := by
     rcases hn with rfl | rfl
     . have := (S1.aav (aiu hi0)).2
       rwa [List.set_set] at this
     . exact S1
   rw [Kv]
   exact aU.RP S2 (by simpa using hl) ha hp fun j hj => by rw [List.length_set]; exact hi j (List.mem_cons_of_mem _ hj)
end
section
variable {X : Cx} {CL : Str -> Addr} {b : Bx} {δ δ1 δ2 : List (Option T)} {e : Expr} {es : List Expr} {t : T} {d : L3.D} {pos pp : Pos} {D : dP} {i : Nat} {x : Str} {is : List Nat} {fx : List Addr -> Prop} {al : List Addr -> List T} {y : Addr}
noncomputable def jj (X : Cx) (CL : Str -> Addr) (b : Bx) (e : Expr) (δ : List (Option T)) (t : T) (δ' : List (Option T)) : Prop :=
 ∀ (H Z : Hp) (σ : L2.St) (ts : List T) (vs : List V) (Q : VK), aU X.K CL b H Z δ σ ts vs -> (∀ v H' Z', aC Z Z' -> aU X.K CL b H' Z' δ' σ (t :: ts) (v :: vs) -> Q v H') -> Eb X e σ H Q
theorem bV.m (h : bV X CL b e δ t δ1) : jj X CL b e δ t δ1 := fun H Z σ ts vs Q S k => h H Z σ ts vs Q S fun v H' Z' z _ S' => k v H' Z' z S'
theorem RQ (h : jj X CL b e δ t δ1) (k : D.rt t δ1) : Kc X CL b (.Return (some e) pos) δ D := fun H Z σ ts vs E S M => kH (L8 cI) (h H Z σ ts vs _ S fun v H1 Z1 z1 S1 => M.rt t v H1 Z1 δ1 σ z1 S1 k)
theorem Nt (h : jj X CL b e δ t δ1) (k : D.nx δ1) (hs : swapsWith e none pos.line X.env = pure false := by rfl) : Kc X CL b (.Expr e pos) δ D := fun H Z σ ts vs E S M => kH (rB cI hs) (h H Z σ ts vs _ S fun v H1 Z1 z1 S1 => M.nx δ1 σ H1 Z1 z1 S1.pop k)
theorem RT (i : Nat) {x : Str} {pos' : Pos} (h : jj X CL b e δ t δ1) (k : D.nx (δ1.set i (some t))) (hl : i < δ1.length := by decide) (hN : X.N.Nodup := by assumption) (hi : X.N[i]? = some x := by rfl) (hx : Loc X.env.scope x := by first | exact .inl rfl | exact .inr rfl)
   (hs : swapsWith e (some (.Name x pos')) pos.line X.env = pure false := by rfl) (hf : X.fn x = true \/ X.env.scope.names.lookup x = some .local := by first | exact .inl rfl | exact .inr rfl | assumption) : Kc X CL b (.Assign [.Name x pos'] e pos) δ D := fun H Z σ ts vs E S M =>
 kH (Mf hN hi hx cI hs hf) (h H Z σ ts vs _ S fun v H1 Z1 z1 S1 => M.nx _ _ H1 Z1 z1 (S1.set hl) k)
noncomputable def Ik (X : Cx) (CL : Str -> Addr) (b : Bx) (es : List Expr) (δ : List (Option T)) (is : List Nat) (fx : List Addr -> Prop) (al : List Addr -> List T) (δ' : List (Option T)) : Prop :=
 ∀ (H Z : Hp) (σ : L2.St) (ts : List T) (vs : List V) (Q : List V -> Hp -> Prop), aU X.K CL b H Z δ σ ts vs →
   (∀ ys us H' Z', ys.length = is.length -> AtS σ is ys -> fx ys -> us.length = (al ys).length -> aC Z Z' -> aC H H' -> aU X.K CL b H' Z' δ' σ ((al ys).reverse ++ ts) (us.reverse ++ vs) -> Q us H') -> J8 X es σ H Q
theorem cj : Ik X CL b [] δ [] (fun _ => True) (fun _ => []) δ := fun H Z σ ts vs Q S k => Cb c6 (k [] [] H Z rfl trivial trivial rfl (.refl _) (.refl _) S)
theorem cu (h1 : bV X CL b e δ (.sh d) δ1) (h2 : Ik X CL b es δ1 is fx al δ2) (hs : starEach (e :: es) X.env = (false, eval e X.env) :: starEach es X.env := by exact aP rfl) : Ik X CL b (e :: es) δ is fx (fun ys => .sh d :: al ys) δ2 := fun H Z σ ts vs Q S k =>
 Cb (bD cI Bs hs) (h1 H Z σ ts vs _ S fun v H1 Z1 z1 k1 S1 => h2 H1 Z1 σ _ _ _ S1 fun ys us H2 Z2 hy ha hf hl z2 k2 S2 => k ys (v :: us) H2 Z2 hy ha hf (by simp [hl]) (z1.trans z2) (k1.trans k2) (by
   rw [ahD, ahD, agT, agT]
   exact S2))
noncomputable def T.isRef : T -> Bool
 | .lst _ => true
 | .ins _ _ => true
 | .rD _ => true
 | .dct _ => true
 | _ => false
theorem aU.Nu {K : PySem.W.Frag} {H Z : Hp} {σ : L2.St} {ts : List T} {v : V} {vs : List V} (S : aU K CL b H Z δ σ (t :: ts) (v :: vs)) (h : t.isRef = true) : ∃ y, v = .ref y /\ aU K CL b H Z δ σ (.pin y t :: ts) (.ref y :: vs) := by
 obtain ⟨fp, gp, e, r, nd, k⟩ := S.rep
 cases r with
 | cons r rs =>
   cases r with
   | sh r => cases h
   | tup r _ => cases h
   | pin r => cases h
   | lst r q => exact ⟨_, rfl, ⟨⟨fp, _, e, .cons (.pin (.lst r q)) rs, nd, k⟩, S.bh, S.zz, S.zh, S.new, S.tp, S.tab⟩⟩
   | ins r q => exact ⟨_, rfl, ⟨⟨fp, _, e, .cons (.pin (.ins r q)) rs, nd, k⟩, S.bh, S.zz, S.zh, S.new, S.tp, S.tab⟩⟩
   | rD r q => exact ⟨_, rfl, ⟨⟨fp, _, e, .cons (.pin (.rD r q)) rs, nd, k⟩, S.bh, S.zz, S.zh, S.new, S.tp, S.tab⟩⟩
   | dct r q => exact ⟨_, rfl, ⟨⟨fp, _, e, .cons (.pin (.dct r q)) rs, nd, k⟩, S.bh, S.zz, S.zh, S.new, S.tp, S.tab⟩⟩
theorem iE (n : Vn X i x) (h : δ[i]? = some (some t)) (ho : t.isRef = true) (h2 : Ik X CL b es (δ.set i none) is fx al δ2) (hs : starEach (.Name x pos :: es) X.env = (false, eval (.Name x pos) X.env) :: starEach es X.env := by exact aP rfl) :
   Ik X CL b (.Name x pos :: es) δ (i :: is) (fun ys => fx ys.tail) (fun ys => .pin (ys.headD 0) t :: al ys.tail) δ2 := fun H Z σ ts vs Q S k => by
 obtain ⟨v, e, S1⟩ := S.move h
 obtain ⟨y, rfl, S0⟩ := S1.Nu ho
 exact Cb (bD (fW n.hi n.hv n.hd n.mS) Bs hs) ⟨_, e, h2 H Z σ _ _ _ S0 fun ys us H2 Z2 hy ha hf hl z2 k2 S2 => k (y :: ys) (.ref y :: us) H2 Z2 (by simp [hy]) ⟨e, ha⟩ hf (by simp [hl]) z2 k2 (by
   show aU _ _ _ _ _ _ _ ((T.pin y t :: al ys).reverse ++ ts) _
   rw [ahD, ahD, agT, agT]
   exact S2)⟩
theorem kF (n : Vn X i x) (h : δ[i]? = some (some (.pin y t))) (h2 : Ik X CL b es (δ.set i none) is fx al δ2) (hs : starEach (.Name x pos :: es) X.env = (false, eval (.Name x pos) X.env) :: starEach es X.env := by exact aP rfl) :
   Ik X CL b (.Name x pos :: es) δ (i :: is) (fun ys => ys.headD 0 = y /\ fx ys.tail) (fun ys => .pin y t :: al ys.tail) δ2 := fun H Z σ ts vs Q S k => by
 obtain ⟨v, e, S1⟩ := S.move h
 have hv : v = .ref y := by
   obtain ⟨_, _, _, r, _, _⟩ := S1.rep
   cases r with
   | cons r _ => cases r; rfl
 subst hv
 exact Cb (bD (fW n.hi n.hv n.hd n.mS) Bs hs) ⟨_, e, h2 H Z σ _ _ _ S1 fun ys us H2 Z2 hy ha hf hl z2 k2 S2 => k (y :: ys) (.ref y :: us) H2 Z2 (by simp [hy]) ⟨e, ha⟩ ⟨rfl, hf⟩ (by simp [hl]) z2 k2 (by
   show aU _ _ _ _ _ _ _ ((T.pin y t :: al ys).reverse ++ ts) _
   rw [ahD, ahD, agT, agT]
   exact S2)⟩
theorem Ex {A : Type} {k n : Nat} {f : Addr} {fd : FuncData} {ps : List Str} {arg : A -> List T} {Pre : A -> Prop} {res : A -> T} {out : A -> List T} (a : List Addr -> A) (ns : List T) (F : cQ X.prog X.w X.K X.mg X.base kU k f fd ps (Ew X.K CL n arg Pre res out)) (hr : dG k X.A) (hm : X.mg x = some (.ref f)) (hk : PySem.W.keepIn X.K (.ref f) = true) (hb : Binds X.K fd ps [])
   (h : Ik X CL b (e :: es) δ is fx al δ1) (ha : ∀ ys, ys.length = is.length -> fx ys -> arg (a ys) = al ys /\ (arg (a ys)).length = n /\ Pre (a ys) /\ res (a ys) = t /\ lB (out (a ys)) ys ns) (Ao : ∀ i ∈ is, i < δ1.length) (hg : Gl X x)
   (nI : (x == ("__debug__" : Str)) = false := by decide) (he : starEach (e :: es) X.env = (false, eval e X.env) :: starEach es X.env := by exact aP rfl) (hpl : (backTo pos (starEach es X.env)).any (·.1) = false := by rfl) :
   jj X CL b (.Call (.Name x pp) (e :: es) [] pos) δ t (Kv δ1 is ns) := fun H Z σ ts vs Q S kk =>
 bU (B6 F hr hg hm hk hb .nil sG Bs nI he hpl) (h H Z σ ts vs _ S fun ys us H1 Z1 hly Gb hf RV z1 k1 S1 => by
   rw [ag3]
   obtain ⟨Rr, Nq, hp, hrs, hpu⟩ := ha ys hly hf
   obtain ⟨g, r, nd, S2⟩ := S1.cut (by simp [RV])
   obtain ⟨g', r', pm⟩ := r.rev
   have ec : qq H1 g = qq H1 g' := funext fun c => by
     by_cases hc : c ∈ g
     . rw [pF hc, pF (pm.mem_iff.mpr hc)]
     . rw [gQ hc, gQ (fun z => hc (pm.mem_iff.mp z))]
   rw [ec] at S2
   rw [← Rr] at r'
   refine ⟨Z1, a ys, g', S2.zh, S1.tp, r', pm.nodup_iff.mpr nd, Nq, hp, S1.FU, fun v H' W' fp hh ww wh nw tp rt DY own => ?_⟩
   cases rt with
   | @cons _ _ _ _ f1 f2 q1 q2 =>
     have HW : (f2 ++ (f1 ++ [])).Perm (f1 ++ f2) := by rw [ag3]; exact ahl
     have S3 := S2.Nr hh ww wh nw tp (aE.app q2 (.cons q1 .nil)) (HW.nodup_iff.mpr DY) fun c hc => own c (HW.mem_iff.mp hc)
     rw [agT, agT] at S3
     have S4 := S3.RP q2.length Gb hpu Ao
     rw [hrs] at S4
     exact kk v H' W' (z1.trans ww) S4)
structure BD (X : Cx) (CL : Str -> Addr) (x : Str) (k n : Nat) {A : Type} (arg : A -> List T) (Pre : A -> Prop) (res : A -> T) (out : A -> List T) : Prop where
 ex : ∃ f fd ps, cQ X.prog X.w X.K X.mg X.base kU k f fd ps (Ew X.K CL n arg Pre res out) /\ X.mg x = some (.ref f) /\ PySem.W.keepIn X.K (.ref f) = true /\ Binds X.K fd ps []
 room : dG k X.A
theorem Il {A : Type} {k n : Nat} {arg : A -> List T} {Pre : A -> Prop} {res : A -> T} {out : A -> List T} (a : Addr -> A) (nt : T) (F : BD X CL x k n arg Pre res out) (hg : Gl X x) (h : Ik X CL b (e :: es) δ [i] fx al δ1) (hp : ∀ y, fx [y] -> Pre (a y)) (yJ : ∀ y, fx [y] -> res (a y) = t) (Cv : ∀ y, fx [y] -> lB (out (a y)) [y] [nt])
   (wO : ∀ y, fx [y] -> arg (a y) = al [y] := by intros; rfl) (hlen : ∀ y, (arg (a y)).length = n := by intros; rfl) (Ao : i < δ1.length := by exact agZ rfl)
   (nI : (x == ("__debug__" : Str)) = false := by decide) (he : starEach (e :: es) X.env = (false, eval e X.env) :: starEach es X.env := by exact aP rfl) (hpl : (backTo pos (starEach es X.env)).any (·.1) = false := by rfl) :
   jj X CL b (.Call (.Name x pp) (e :: es) [] pos) δ t (δ1.set i (some nt)) := by
 obtain ⟨⟨f, fd, ps, G, m, q, bd⟩, r⟩ := F
 exact Ex (fun ys => a (ys.headD 0)) [nt] G r m q bd h (fun ys hl hf => match ys, hl, hf with | [y], _, hf => ⟨wO y hf, hlen y, hp y hf, yJ y hf, Cv y hf⟩) (fun j hj => by cases ahN.mp hj; exact Ao) hg nI he hpl
variable {ez : List Stmt}
theorem fJ {pos' : Pos} (g : Gx X) (n : Ln X i x) (h : jj X CL b e δ t δ1) (k : cU X CL b ez (δ1.set i (some t)) D) (hl : i < δ1.length := by exact agZ rfl) (hs : swapsWith e (some (.Name x pos')) pos.line X.env = pure false := by rfl) :
   cU X CL b (.Assign [.Name x pos'] e pos :: ez) δ D := bG (RT i h k hl g.nd n.hi n.loc hs n.hf)
theorem tE (h : jj X CL b e δ t δ1) (k : D.rt t δ1) : cU X CL b (.Return (some e) pos :: ez) δ D := bG (RQ h k)
theorem RW (h : jj X CL b e δ t δ1) (k : cU X CL b ez δ1 D) (hs : swapsWith e none pos.line X.env = pure false := by rfl) : cU X CL b (.Expr e pos :: ez) δ D := bG (Nt h k hs)
end
section
variable {X : Cx} {CL : Str -> Addr} {b : Bx} {δ δ1 : List (Option T)} {e : Expr} {pos : Pos}
theorem Nv {ds : List L3.D} (h : dH X CL b e δ (.lst ds) δ1) (he : ∀ whole, isTrue e X.env whole = (do let v ← whole; standAt e.pos; holding [v] (truthy v)) := by intro _; rfl) : vo X CL b e δ (!ds.isEmpty) δ1 := fun H Z σ ts vs Q S k =>
 Ay (Mq cI he) (h H Z σ ts vs _ S fun v H1 Z1 z1 k1 S1 r => by
   cases r with
   | @lst a us _ hq rr =>
     refine ⟨_, .inl ⟨us, hq, rfl⟩, ?_⟩
     have e : us.isEmpty = ds.isEmpty := by
       have := rr.length
       cases us <;> cases ds <;> simp at this ⊢
     rw [e]
     exact k H1 Z1 z1 k1 S1)
end
noncomputable def Im (ks : List Key) : D := .tup (ks.map F8)
noncomputable def jT (ks : List Key) : T := .tup ((ks.map F8).map T.sh)
noncomputable def fj {α : Type} (kvs : List (List Key × α)) (k : List Key) : Option α := (kvs.find? fun kv => decide (kv.1 = k)).map (·.2)
theorem jU {α : Type} {p : List Key × α} {r : List (List Key × α)} {k : List Key} (e : p.1 = k) : fj (p :: r) k = some p.2 := by simp [fj, ah5, e]
theorem gR {α : Type} {p : List Key × α} {r : List (List Key × α)} {k : List Key} (e : ¬ p.1 = k) : fj (p :: r) k = fj r k := by simp [fj, ah5, e]
theorem Nx {α : Type} {kvs : List (List Key × α)} {k : List Key} (h : k ∉ kvs.map (·.1)) : fj kvs k = none := by
 induction kvs with
 | nil => rfl
 | cons p r ih =>
   rw [ahd, ag4, not_or] at h
   rw [gR (fun e => h.1 e.symm), ih h.2]
theorem FT.tr {H : Hp} {a b : Addr} {kvs : List (List Key × V)} {k : List Key} (e : Rd H a (.dT kvs)) (eb : H b = some (.tup (k.map kV))) : FT H a (.ref b) (jR kvs k) := .inr ⟨kvs, k, b, e, rfl, eb, rfl⟩
section
variable {K : PySem.W.Frag} {CL : Str -> Addr} {b : Bx} {H Z : Hp} {δ : List (Option T)} {σ : L2.St} {ts : List T} {vs : List V} {t : T} {v : V} {d : D}
theorem Kw {ks : List Key} {us : List V} {fp : List Addr} (r : aE K CL H Z ((ks.map F8).map T.sh) us fp) : us = ks.map kV := by
 induction ks generalizing us fp with
 | nil => cases r; rfl
 | cons k ks ih =>
   rw [ahd, ahd] at r
   cases r with
   | cons r rr =>
     cases r with
     | sh r => rw [r.key, ih rr, ahd]
theorem Ny (ks : List Key) : T.bS (jT ks) = Im ks := by
 unfold jT Im
 rw [T.bS, iB]
theorem cZ.length {kvs : List (List Key × D)} {gs : List (List Key × V)} (h : cZ K CL Z kvs gs) : kvs.length = gs.length :=
 cZ.ind (P := fun kvs gs => kvs.length = gs.length) rfl (fun _ _ i => congrArg (· + 1) i) h
theorem cZ.keys {kvs : List (List Key × D)} {gs : List (List Key × V)} (h : cZ K CL Z kvs gs) : kvs.map (·.1) = gs.map (·.1) :=
 cZ.ind (P := fun kvs gs => kvs.map (·.1) = gs.map (·.1)) rfl (fun {x _ _ _ _} _ _ i => congrArg (x :: ·) i) h
theorem cZ.val {k : List Key} {kvs : List (List Key × D)} {gs : List (List Key × V)} (h : cZ K CL Z kvs gs) : (fj kvs k = none /\ jR gs k = none) \/ ∃ d v, fj kvs k = some d /\ jR gs k = some v /\ bq K CL Z d v :=
 cZ.ind (P := fun kvs gs => (fj kvs k = none /\ jR gs k = none) \/ ∃ d v, fj kvs k = some d /\ jR gs k = some v /\ bq K CL Z d v) (.inl ⟨rfl, rfl⟩) (fun {x d v _ _} r _ i => by
   by_cases e : x = k
   . exact .inr ⟨d, v, jU e, qx e, r⟩
   . rw [gR (p := (x, d)) e, qy (p := (x, v)) e]
     exact i) h
theorem cA.length {kvs : List (List Key × T)} {gs : List (List Key × V)} {fp : List Addr} (h : cA K CL H Z kvs gs fp) : kvs.length = gs.length :=
 cA.ind (P := fun kvs gs _ => kvs.length = gs.length) rfl (fun _ _ i => congrArg (· + 1) i) h
theorem cA.keys {kvs : List (List Key × T)} {gs : List (List Key × V)} {fp : List Addr} (h : cA K CL H Z kvs gs fp) : kvs.map (·.1) = gs.map (·.1) :=
 cA.ind (P := fun kvs gs _ => kvs.map (·.1) = gs.map (·.1)) rfl (fun {x _ _ _ _ _ _} _ _ i => congrArg (x :: ·) i) h
theorem cA.snoc {k : List Key} {kvs : List (List Key × T)} {gs : List (List Key × V)} {fp ft : List Addr} (h : cA K CL H Z kvs gs fp) (q : bu K CL H Z t v ft) : cA K CL H Z (kvs ++ [(k, t)]) (gs ++ [(k, v)]) (fp ++ (ft ++ [])) :=
 cA.ind (P := fun kvs gs fp => cA K CL H Z (kvs ++ [(k, t)]) (gs ++ [(k, v)]) (fp ++ (ft ++ []))) (by rw [aic, aic, aic]; exact .cons q .nil) (fun r _ i => by
   rw [agT]
   exact .cons r i) h
theorem aU.Xd {p : Addr} (S : aU K CL b H Z δ σ ts vs) (hp : H p = none) : aC H (upd H p (.dT [])) /\ aU K CL b (upd H p (.dT [])) Z δ σ (.dct [] :: ts) (.ref p :: vs) := by
 obtain ⟨fp, gp, e, r, nd, k⟩ := S.rep
 have zp : Z p = none := S.zh.free hp
 have sh : aC H (upd H p (.dT [])) := aC.upd hp
 have keep : ∀ a ∈ fp ++ gp, a ≠ p := fun a ha => by
   have : ∃ o, H a = some o := by
     rcases ag0.mp ha with h | h
     . exact e.there a h
     . exact r.there a h
   obtain ⟨o, q⟩ := this
   exact bO q hp
 refine ⟨sh, ⟨⟨fp, [p] ++ gp, e.mono (.refl _) (fun a ha => aq (keep a (agX _ ha))), .cons (.dct aI .nil) (r.mono (.refl _) fun a ha => aq (keep a (by simp [ha]))), ?_, fun a ha => ?_⟩, S.bh.trans sh, S.zz, S.zh.trans sh, S.new, fun a o q i => ?_, S.tab⟩⟩
 . refine (ahX (l₁ := fp) (l₂ := gp) (a := p)).nodup_iff.mpr (ahE.mpr ⟨fun h => keep p h rfl, nd⟩)
 . rcases ag4.mp ((ahX (l₁ := fp) (l₂ := gp) (a := p)).mem_iff.mp ha) with h | h
   . subst h; exact ⟨zp, S.bh.free hp⟩
   . exact k a h
 . by_cases ha : a = p
   . subst ha; rw [aI] at q; cases q; cases i
   . rw [aq ha] at q; exact S.tp a o q i
theorem aU.yK {ks : List Key} (S : aU K CL b H Z δ σ (jT ks :: ts) (v :: vs)) : ∃ a, v = .ref a /\ H a = some (.tup (ks.map kV)) := by
 obtain ⟨fp, gp, e, r, nd, k⟩ := S.rep
 cases r with
 | cons r _ =>
   cases r with
   | tup hz rr => exact ⟨_, rfl, by rw [← Kw rr]; exact S.zh _ _ hz⟩
theorem aU.Xe {i : Nat} {k : List Key} {kvs : List (List Key × T)} (S : aU K CL b H Z δ σ (t :: ts) (v :: vs)) (hi : δ[i]? = some (some (.dct kvs))) (hk : k ∉ kvs.map (·.1)) :
   ∃ a gs, σ[i]? = some (some (.ref a)) /\ H a = some (.dT gs) /\ gs.length = kvs.length /\ aU K CL b (upd H a (.dT (putK gs k v))) Z (δ.set i (some (.dct (kvs ++ [(k, t)])))) σ ts vs := by
 obtain ⟨fp, gp, e, r, nd, kk⟩ := S.rep
 obtain ⟨v0, f1, f2, f3, hv, nG, rt, put, _⟩ := e.get hi
 subst nG
 cases rt with
 | @dct a gs _ g ha rs =>
   cases r with
   | @cons _ _ _ _ ft gr q1 q2 =>
     have ne : ∀ c ∈ (f1 ++ (g ++ f3)) ++ (ft ++ gr), c ≠ a := fun c hc e => by
       subst e
       have hp : ((f1 ++ ((c :: g) ++ f3)) ++ (ft ++ gr)).Perm (c :: ((f1 ++ (g ++ f3)) ++ (ft ++ gr))) := by
         rw [ahi, ← ahi]
         exact (ahX.append_right _)
       exact (ahE.mp (hp.nodup_iff.mp nd)).1 hc
     have eg : putK gs k v = gs ++ [(k, v)] := by
       unfold putK
       rw [ua, ag2]
       rcases hx : jR gs k with _ | z
       . exact ag5
       . exfalso
         refine hk ?_
         rw [rs.keys]
         unfold jR at hx
         cases hf : gs.find? fun kv => decide (kv.1 = k) with
         | none => rw [hf] at hx; cases hx
         | some q =>
           have h1 := List.find?_some hf
           have h2 := aij hf
           have : q.1 = k := aha h1
           rw [← this]
           exact List.mem_map_of_mem h2
     refine ⟨a, gs, hv, ha, rs.length.symm, ?_⟩
     rw [eg]
     have r1 : bu K CL (upd H a (.dT (gs ++ [(k, v)]))) Z (.dct (kvs ++ [(k, t)])) (.ref a) (a :: (g ++ (ft ++ []))) :=
       .dct aI (cA.snoc (rs.mono (.refl _) fun c hc => aq (ne c (by simp [hc]))) (q1.mono (.refl _) fun c hc => aq (ne c (by simp [hc]))))
     have e2 := put (H' := upd H a (.dT (gs ++ [(k, v)]))) (.refl _) (fun c hc => aq (ne c (by
       rcases ag0.mp hc with h | h
       . simp [h]
       . simp [h]))) r1
     rw [d8 hv] at e2
     have hp : ((f1 ++ ((a :: (g ++ (ft ++ []))) ++ f3)) ++ gr).Perm ((f1 ++ ((a :: g) ++ f3)) ++ (ft ++ gr)) := by
       simp only [ag3, ahi, agT]
       refine ahA f1 (List.Perm.cons a (ahA g ?_))
       rw [← agT, ← agT]
       exact ahl.append_right gr
     exact S.Cq rfl kk (by simp) e2 (q2.mono (.refl _) fun c hc => aq (ne c (by simp [hc]))) (hp.nodup_iff.mpr nd) fun c hc => hp.mem_iff.mp hc
end
section
variable {X : Cx} {CL : Str -> Addr} {b : Bx} {δ δ1 δ2 : List (Option T)} {e e1 e2 : Expr} {t : T} {d : L3.D} {DD : dP} {pos pp ps : Pos} {i : Nat} {x : Str} {ez : List Stmt} {kvs : List (List Key × L3.D)} {k : List Key}
theorem Ey : bV X CL b (.Dict [] [] pos) δ (.dct []) δ := fun H Z σ ts vs Q S kk => bU MN fun p hp => by
 obtain ⟨c, S1⟩ := S.Xd hp
 exact kk _ _ Z (.refl _) c S1
theorem RX {kvs : List (List Key × T)} (k : List Key) (hu : X.A.units + 64 < cLine) (n : Vn X i x) (h : bV X CL b e δ t δ1) (h2 : bV X CL b e2 δ1 (jT k) δ1) (h1 : δ1[i]? = some (some (.dct kvs))) (hk : k ∉ kvs.map (·.1)) (hl : kvs.length <= 1000000) (kk : cU X CL b ez (δ1.set i (some (.dct (kvs ++ [(k, t)])))) DD)
   (hs : swapsWith e (some (.Subscript (.Name x pp) e2 ps)) pos.line X.env = pure false := by rfl) :
   cU X CL b (.Assign [.Subscript (.Name x pp) e2 ps] e pos :: ez) δ DD := bG fun H Z σ ts vs E S M =>
 kH (HN (by omega) (fW n.hi n.hv n.hd n.mS) cI cI hs) (h H Z σ ts vs _ S fun v H1 Z1 z1 k1 S1 => by
   obtain ⟨v0, e0, _⟩ := S1.look h1
   refine ⟨v0, e0, h2 H1 Z1 σ _ _ _ S1 fun v2 H2 Z2 z2 k2 S2 => ?_⟩
   obtain ⟨kb, rfl, hb⟩ := S2.yK
   obtain ⟨a, gs, ea, ha, hg, S3⟩ := S2.pop.Xe h1 hk
   rw [e0] at ea
   cases ea
   exact ⟨a, _, rfl, J4.t ha hb (by rw [hg]; exact ahW hl (by rw [ahS]; decide)), M.nx _ σ _ Z2 (z1.trans z2) S3 kk⟩)
theorem Nz (k : List Key) (hu : X.A.units + 64 < cLine) (h1 : dH X CL b e1 δ (.dct kvs) δ1) (h2 : bV X CL b e2 δ1 (jT k) δ2) (hk : fj kvs k = some d) (hs : J7 e2 := by exact fun _ _ => rfl) : dH X CL b (.Subscript e1 e2 pos) δ d δ2 := fun H Z σ ts vs Q S kk =>
 bU (HM (by omega) cI cI hs) (h1 H Z σ ts vs _ S fun v H1 Z1 z1 k1 S1 r1 => h2 H1 Z1 σ ts vs _ S1 fun v2 H2 Z2 z2 k2 S2 => by
   obtain ⟨kb, rfl, hb⟩ := S2.yK
   cases r1 with
   | @dct a gs _ ha rr =>
     have rr' := rr.mono k2
     rcases rr'.val (k := k) with ⟨h0, _⟩ | ⟨d', v', h0, hv, rd⟩
     . rw [hk] at h0; cases h0
     . rw [hk] at h0; cases h0
       refine ⟨a, v', rfl, ?_, kk v' H2 Z2 (z1.trans z2) (k1.trans k2) S2.pop rd⟩
       rw [← hv]
       exact FT.tr (Rd.mono k2 ha) hb)
theorem NB (k : List Key) (hu : X.A.units + 64 < cLine) (h1 : bV X CL b e1 δ (.sh (.dct kvs)) δ1) (h2 : bV X CL b e2 δ1 (jT k) δ2) (hk : fj kvs k = some d) (hs : J7 e2 := by exact fun _ _ => rfl) : bV X CL b (.Subscript e1 e2 pos) δ (.sh d) δ2 := fun H Z σ ts vs Q S kk =>
 bU (HM (by omega) cI cI hs) (h1 H Z σ ts vs _ S fun v H1 Z1 z1 k1 S1 => h2 H1 Z1 σ _ _ _ S1 fun v2 H2 Z2 z2 k2 S2 => by
   obtain ⟨kb, rfl, hb⟩ := S2.yK
   have r := S2.pop.F9
   cases r with
   | @dct a gs _ ha rr =>
     rcases rr.val (k := k) with ⟨h0, _⟩ | ⟨d', v', h0, hv, rd⟩
     . rw [hk] at h0; cases h0
     . rw [hk] at h0; cases h0
       refine ⟨a, v', rfl, ?_, kk v' H2 Z2 (z1.trans z2) (k1.trans k2) (S2.pop.pop.push rd)⟩
       rw [← hv]
       exact FT.tr (Rd.mono S2.zh ha) hb)
end
section
variable {X : Cx} {CL : Str -> Addr} {b : Bx} {δ δ1 δ2 : List (Option T)} {e1 e2 : Expr} {pos : Pos}
theorem NC : u6 X (binaryOp .FloorDiv) (rI (fun _ j => 0 < j /\ j.natAbs.log2 < 9000) fun i j => .int (i / j)) := Zt fun i j _ _ _ _ _ hc q => by
 have h1 : (0 : Int) < j := hc.1
 exact floordiv_int (by omega) (by rw [Int.fdiv_eq_ediv_of_nonneg i (by omega)]; exact q) (.inl (PyProof.noPylong_of_log2 hc.2))
theorem NF {i j : Int} (h1 : dH X CL b e1 δ (.int i) δ1) (h2 : dH X CL b e2 δ1 (.int j) δ2) (c : 0 < j /\ j.natAbs.log2 < 9000) : bV X CL b (.BinOp e1 .FloorDiv e2 pos) δ (.sh (.int (i / j))) δ2 := qz NC h1 h2 rfl rfl rfl fun _ _ q => ⟨i, j, rfl, rfl, c, q⟩
end
section
variable {X : Cx} {CL : Str -> Addr} {b : Bx} {δ : List (Option T)} {t : T} {D : dP} {ez : List Stmt} {i : Nat}
theorem Vr {d : L3.D} (h : δ[i]? = some (some t)) (q : t.bS = d) (k : cU X CL b ez (δ.set i (some (.sh d))) D) : cU X CL b ez δ D := fun H Z σ ts vs E S M => by
 subst q
 obtain ⟨v, Z', _, z, S'⟩ := S.Rf h
 exact k H Z' σ ts vs E S'.pop (M.mono z)
end
end L3
namespace L2
open PySem PySem.Spec PyProof.Rows
section
variable {s : Shared}
open PySem.W in
open PySem PySem.Calls PyProof.Rows Builtin Builtin.ObjectAttr Builtin.Getset_descriptor PySem.W PySem.Builtin.ObjectAttr in
noncomputable def NK : V -> Bool
 | .ref _ => true
 | .ty _ => true
 | _ => false
noncomputable def clsOf : V -> Value
 | .ref a => .ref a
 | .ty n => .type n
 | _ => .none
theorem Kx {v : V} {u : Value} (hc : NK v = true) (r : RelV v u) : u = clsOf v := by
 cases v <;> first | exact r | cases hc
end
end L2
namespace L3
open PySem PySem.Spec PyProof.Rows L2
section
variable {X : Cx} {CL : Str -> Addr} {b : Bx} {δ : List (Option T)} {x : Str} {pos : Pos}
theorem Xf {v : V} {u : Value} (hg : Gl X x) (hm : X.mg x = some u) (r : RelV v u) (hd : (x == ("__debug__" : Str)) = false := by decide) : bV X CL b (.Name x pos) δ (.sh (.val v)) δ := fun H Z σ ts vs Q S k => bU (xo hg hm r hd) (k _ _ Z (.refl _) (.refl _) (S.push (.val v)))
end
theorem NP (l q : Addr) (xs ys : Array Value) (n m : Nat) (dq : Option Addr) (sq : Array (Option Value)) (hc : ¬(!xs.isEmpty && Builtin.List.listTooLong (xs.size + ys.size)) = true) (hx : xs.size <= sizeLine) (hy : xs.size + ys.size <= sizeLine + 1) :
   PySem.Meets (Builtin.«list.extend» ⟨[.ref l, .ref q], []⟩) (fun _ R s => s.heap.get? l = some { cls := .type "list", dict := none, data := .seq xs n, slots := #[] } /\ s.heap.get? q = some { cls := .type "list", dict := dq, data := .seq ys m, slots := sq } ∧
     R (.ok (.ret Value.none)) { s with heap := s.heap.update l (Obj.mapSeq fun x => x ++ ys), toks := s.toks }) :=
 PySem.Meets.of_wp fun prog w A R s h => by
   obtain ⟨hp, g, d, tk, os⟩ := s
   obtain ⟨hl, hb, h⟩ := h
   have f1 := AutoSeq1.idx_int
   have f2 := AutoSeq1.sub_tuple_tuple
   have f3 := AutoSeq1.sub_list_list
   have f4 := AutoSeq1.sub_tuple_list
   have f5 := AutoSeq1.sub_list_tuple
   have hz : (xs ++ ys).size <= sizeLine + 1 := by
     rw [Array.size_append]
     exact hy
   wp_walk using (wpAny_updateSeq hl rfl (hz := hx) (_hz' := hz)), wpAny_loadPart' hl, wpAny_loadPart' hb
   exact ⟨_, rfl, h⟩
noncomputable def aax (K : PySem.W.Frag) : V -> List V -> Hp -> VK -> Prop := fun x vs H Q => ∃ l q xs zs, x = .ref l /\ vs = [.ref q] /\ H l = some (.lst xs) /\ oS K H q zs /\ xs.length + zs.length <= sizeLine /\ Q .non (upd H l (.lst (xs ++ zs)))
theorem RZ {X : Cx} : ZP X "list.extend" (aax X.K) := by
 intro pins s σ H x vs v us Q I rx rv h
 obtain ⟨l, q, xs, zs, rfl, rfl, hH, hB, hz, k⟩ := h
 cases rx
 obtain ⟨u, rfl, ru⟩ := rv.one
 cases ru
 obtain ⟨z, its, n, r, hl, e⟩ := I.MC hH
 obtain ⟨vm, r2, ⟨⟨c2, d2, da2, s2⟩, n2, e2, hc2, _, hd2⟩, z2⟩ := I.list hB
 cases hc2
 cases hd2
 have hl2 := r2.length
 have hsz : its.toArray.size + vm.toArray.size <= sizeLine := by
   rw [ahf, ahf]
   omega
 have MD : ¬ (!its.toArray.isEmpty && Builtin.List.listTooLong (its.toArray.size + vm.toArray.size)) = true := by
   rw [D8 hsz, Bool.and_false]
   decide
 refine call_meets F.slot_list_extend ⟨_, e, rfl⟩ F.entry_list_extend (F.args_list_extend_2 _ _) (NP l q its.toArray vm.toArray n n2 d2 s2 MD (by rw [ahf]; omega) (by omega)) ⟨e, e2, ?_⟩
 refine ⟨.non, _, I.Q6 (its' := its ++ vm) hH e (by simp) (r.append r2) ?_, rfl, k⟩
 rw [ahc]
 omega
inductive BE where
 | ix (j : Nat) | fld (f : Str) | key (k : List Key)
noncomputable def wQ {α : Type} (k : List Key) (t : α) : List (List Key × α) -> List (List Key × α)
 | [] => []
 | (x, u) :: r => if x = k then (x, t) :: r else (x, u) :: wQ k t r
noncomputable def T.core : T -> T
 | .pin _ t => t
 | t => t
noncomputable def T.Gd : T -> T -> T
 | .pin y _, u => .pin y u
 | _, u => u
noncomputable def T.LV : BE -> T -> Option T
 | .ix j, .lst ts => ts[j]?
 | .ix j, .tup ts => ts[j]?
 | .fld f, .ins _ fs => fs.lookup f
 | .key k, .dct kvs => fj kvs k
 | _, _ => none
noncomputable def T.NQ : BE -> T -> T -> T
 | .ix j, .lst ts, u => .lst (ts.set j u)
 | .ix j, .tup ts, u => .tup (ts.set j u)
 | .fld f, .ins c fs, u => .ins c (jv f u fs)
 | .key k, .dct kvs, u => .dct (wQ k u kvs)
 | _, t, _ => t
noncomputable def T.jx : List BE -> T -> Option T
 | [], t => some t.core
 | s :: p, t => (t.core.LV s).bind (T.jx p)
noncomputable def T.jV : List BE -> T -> T -> T
 | [], u, t => t.Gd u
 | s :: p, u, t => match t.core.LV s with
   | some k => t.Gd (t.core.NQ s (T.jV p u k))
   | none => t
noncomputable def R0 (H : Hp) (v : V) : BE -> V -> Prop
 | .ix j, w => ∃ a us, v = .ref a /\ (H a = some (.lst us) \/ H a = some (.tup us)) /\ us[j]? = some w
 | .fld f, w => ∃ a C dx gs, v = .ref a /\ H a = some (.ins C dx gs) /\ gs.lookup f = some w
 | .key k, w => ∃ a gs, v = .ref a /\ H a = some (.dT gs) /\ jR gs k = some w
noncomputable def Aq (H : Hp) : V -> List BE -> V -> Prop
 | v, [], w => v = w
 | v, s :: p, w => ∃ u, R0 H v s u /\ Aq H u p w
theorem R0.mono {H H' : Hp} (e : aC H H') {v w : V} {s : BE} (h : R0 H v s w) : R0 H' v s w := by
 cases s with
 | ix j => obtain ⟨a, us, h1, h2, h3⟩ := h; exact ⟨a, us, h1, h2.imp (e _ _) (e _ _), h3⟩
 | fld f => obtain ⟨a, C, dx, gs, h1, h2, h3⟩ := h; exact ⟨a, C, dx, gs, h1, e _ _ h2, h3⟩
 | key k => obtain ⟨a, gs, h1, h2, h3⟩ := h; exact ⟨a, gs, h1, e _ _ h2, h3⟩
theorem R0.inj {H : Hp} {v w w' : V} {s : BE} (h : R0 H v s w) (q : R0 H v s w') : w = w' := by
 cases s with
 | ix j =>
   obtain ⟨a, us, h1, h2, h3⟩ := h
   obtain ⟨a', us', q1, q2, q3⟩ := q
   subst h1
   cases q1
   have e : us = us' := by
     rcases h2 with h2 | h2 <;> rcases q2 with q2 | q2 <;> rw [h2] at q2 <;> cases q2 <;> rfl
   subst e
   rw [h3] at q3
   exact ahg q3
 | fld f =>
   obtain ⟨a, C, dx, gs, h1, h2, h3⟩ := h
   obtain ⟨a', C', dx', gs', q1, q2, q3⟩ := q
   subst h1
   cases q1
   rw [h2] at q2
   cases q2
   rw [h3] at q3
   exact ahg q3
 | key k =>
   obtain ⟨a, gs, h1, h2, h3⟩ := h
   obtain ⟨a', gs', q1, q2, q3⟩ := q
   subst h1
   cases q1
   rw [h2] at q2
   cases q2
   rw [h3] at q3
   exact ahg q3
theorem Aq.mono {H H' : Hp} (e : aC H H') : ∀ {p : List BE} {v w : V}, Aq H v p w -> Aq H' v p w
 | [], _, _, h => h
 | _ :: _, _, _, ⟨u, h, q⟩ => ⟨u, h.mono e, Aq.mono e q⟩
theorem Aq.inj {H : Hp} : ∀ {p : List BE} {v w w' : V}, Aq H v p w -> Aq H v p w' -> w = w'
 | [], _, _, _, h, q => h.symm.trans q
 | _ :: _, _, _, _, ⟨_, h1, h2⟩, ⟨_, q1, q2⟩ => by
   have := h1.inj q1
   subst this
   exact Aq.inj h2 q2
theorem Aq.snoc {H : Hp} {s : BE} : ∀ {p : List BE} {v w z : V}, Aq H v p w -> R0 H w s z -> Aq H v (p ++ [s]) z
 | [], _, _, z, h, q => by
   have h' : _ = _ := h
   subst h'
   exact ⟨z, q, rfl⟩
 | _ :: _, _, _, _, ⟨u, h1, h2⟩, q => ⟨u, h1, Aq.snoc h2 q⟩
section
variable {K : PySem.W.Frag} {CL : Str -> Addr} {b : Bx} {H H' Z Z' : Hp} {δ : List (Option T)} {σ : L2.St} {ts tl : List T} {vs us : List V} {t u t0 : T} {v v0 w : V} {fp : List Addr} {i : Nat} {p : List BE}
theorem bu.NR (h : bu K CL H Z t v fp) : bu K CL H Z t.core v fp /\ ∀ {H' Z' : Hp} {u : T} {g : List Addr}, bu K CL H' Z' u v g -> bu K CL H' Z' (t.Gd u) v g := by
 cases h with
 | pin r => exact ⟨r, fun q => .pin q⟩
 | sh r => exact ⟨.sh r, fun q => q⟩
 | tup r q => exact ⟨.tup r q, fun q => q⟩
 | lst r q => exact ⟨.lst r q, fun q => q⟩
 | ins r q => exact ⟨.ins r q, fun q => q⟩
 | rD r q => exact ⟨.rD r q, fun q => q⟩
 | dct r q => exact ⟨.dct r q, fun q => q⟩
theorem cV.at {f : Str} {t : T} : ∀ (fs : List (Str × T)) {gs : List (Str × V)} {fp : List Addr}, cV K CL H Z fs gs fp -> fs.lookup f = some t -> ∃ w f1 f2 f3, gs.lookup f = some w /\ fp = f1 ++ (f2 ++ f3) /\ bu K CL H Z t w f2 ∧
   ∀ {H' : Hp} {t' : T} {g : List Addr}, (∀ a ∈ f1 ++ f3, H' a = H a) -> bu K CL H' Z t' w g -> cV K CL H' Z (jv f t' fs) gs (f1 ++ (g ++ f3)) := by
 intro fs
 induction fs with
 | nil => intro gs fp h e; cases e
 | cons p fs ih =>
   obtain ⟨x, t0⟩ := p
   intro gs fp h e
   cases h with
   | @cons _ _ v _ vs f0 g0 r rs =>
     rw [aho] at e
     cases hx : f == x with
     | true =>
       rw [hx] at e
       cases e
       have hxe : x = f := (aiA.mp hx).symm
       refine ⟨v, [], f0, g0, by rw [aho, hx], rfl, r, fun {H' t' g} kk r' => ?_⟩
       rw [jv, ag9 hxe]
       exact cV.cons (fp := g) (gp := g0) r' (rs.mono (.refl _) fun a ha => kk a (by simpa using ha))
     | false =>
       rw [hx] at e
       obtain ⟨w, f1, f2, f3, h1, h2, h3, h4⟩ := ih rs e
       subst h2
       refine ⟨w, f0 ++ f1, f2, f3, by rw [aho, hx]; exact h1, by rw [agT], h3, fun {H' t' g} kk r' => ?_⟩
       rw [jv, ag2 (fun z => by rw [z, aiB] at hx; cases hx), agT]
       exact .cons (r.mono (.refl _) fun a ha => kk a (by simp [ha])) (h4 (fun a ha => kk a (by rw [agT]; exact agS _ ha)) r')
theorem cA.LV {k : List Key} {kvs : List (List Key × T)} {gs : List (List Key × V)} {fp : List Addr} (h : cA K CL H Z kvs gs fp) (hk : fj kvs k = some t) :
   ∃ v f1 f2 f3, jR gs k = some v /\ fp = f1 ++ (f2 ++ f3) /\ bu K CL H Z t v f2 ∧
     ∀ {H' : Hp} {t' : T} {g : List Addr}, (∀ a ∈ f1 ++ f3, H' a = H a) -> bu K CL H' Z t' v g -> cA K CL H' Z (wQ k t' kvs) gs (f1 ++ (g ++ f3)) := by
 refine cA.ind (P := fun kvs gs fp => fj kvs k = some t -> ∃ v f1 f2 f3, jR gs k = some v /\ fp = f1 ++ (f2 ++ f3) /\ bu K CL H Z t v f2 ∧
     ∀ {H' : Hp} {t' : T} {g : List Addr}, (∀ a ∈ f1 ++ f3, H' a = H a) -> bu K CL H' Z t' v g -> cA K CL H' Z (wQ k t' kvs) gs (f1 ++ (g ++ f3))) (fun e => by cases e) (fun {x t0 v0 ts vs fp gp} r rr i hk => ?_) h hk
 by_cases e : x = k
 . rw [jU (p := (x, t0)) e] at hk
   cases hk
   refine ⟨v0, [], fp, gp, qx e, rfl, r, fun {H' t' g} ka q => ?_⟩
   rw [wQ, ag9 e]
   exact (show cA K CL H' Z ((x, t') :: ts) ((x, v0) :: vs) (g ++ gp) from .cons q (rr.mono (.refl _) fun a ha => ka a ha))
 . rw [gR (p := (x, t0)) e] at hk
   obtain ⟨v, f1, f2, f3, h1, h2, h3, h4⟩ := i hk
   refine ⟨v, fp ++ f1, f2, f3, by rw [qy (p := (x, v0)) e]; exact h1, by rw [h2, agT], h3, fun {H' t' g} ka q => ?_⟩
   rw [wQ, ag2 e, agT]
   exact .cons (r.mono (.refl _) fun a ha => ka a (by simp [ha])) (h4 (fun a ha => ka a (by rw [agT]; exact agS _ ha)) q)
theorem bu.LV {s : BE} {k : T} (zh : aC Z H) (h : bu K CL H Z t v fp) (hk : t.LV s = some k) : ∃ w f1 f2 f3, R0 H v s w /\ fp = f1 ++ (f2 ++ f3) /\ bu K CL H Z k w f2 ∧
   ∀ {H' : Hp} {k' : T} {g : List Addr}, (∀ c ∈ f1 ++ f3, H' c = H c) -> bu K CL H' Z k' w g -> bu K CL H' Z (t.NQ s k') v (f1 ++ (g ++ f3)) := by
 cases s with
 | ix j =>
   cases h with
   | @lst a us ts g ha rs =>
     obtain ⟨w, f1, f2, f3, h1, h2, h3, h4⟩ := rs.at (j := j) (t := k) hk
     subst h2
     refine ⟨w, a :: f1, f2, f3, ⟨a, us, rfl, .inl ha, h1⟩, rfl, h3, fun {H' k' g} kk r' => ?_⟩
     have q := h4 (fun c hc => kk c (agY _ hc)) r'
     rw [d8 h1] at q
     exact .lst ((kk a agV).trans ha) q
   | @tup a us ts g ha rs =>
     obtain ⟨w, f1, f2, f3, h1, h2, h3, h4⟩ := rs.at (j := j) (t := k) hk
     subst h2
     refine ⟨w, f1, f2, f3, ⟨a, us, rfl, .inr (zh _ _ ha), h1⟩, rfl, h3, fun {H' k' g} kk r' => ?_⟩
     have q := h4 kk r'
     rw [d8 h1] at q
     exact .tup ha q
   | _ => cases hk
 | fld f =>
   cases h with
   | @ins a dx c gs fs g ha rs =>
     obtain ⟨w, f1, f2, f3, h1, h2, h3, h4⟩ := cV.at fs rs (f := f) (t := k) hk
     subst h2
     refine ⟨w, a :: f1, f2, f3, ⟨a, _, dx, gs, rfl, ha, h1⟩, rfl, h3, fun {H' k' g} kk r' => ?_⟩
     exact .ins ((kk a agV).trans ha) (h4 (fun c hc => kk c (agY _ hc)) r')
   | _ => cases hk
 | key x =>
   cases h with
   | @dct a gs kvs g ha rs =>
     obtain ⟨w, f1, f2, f3, h1, h2, h3, h4⟩ := rs.LV (k := x) (t := k) hk
     subst h2
     refine ⟨w, a :: f1, f2, f3, ⟨a, gs, rfl, ha, h1⟩, rfl, h3, fun {H' k' g} kk r' => ?_⟩
     exact .dct ((kk a agV).trans ha) (h4 (fun c hc => kk c (agY _ hc)) r')
   | _ => cases hk
theorem bu.focus (zh : aC Z H) : ∀ (p : List BE) {t u : T} {v : V} {fp : List Addr}, bu K CL H Z t v fp -> T.jx p t = some u -> ∃ w f1 f2 f3, Aq H v p w /\ fp = f1 ++ (f2 ++ f3) /\ bu K CL H Z u w f2 ∧
   ∀ {H' : Hp} {u' : T} {g : List Addr}, (∀ c ∈ f1 ++ f3, H' c = H c) -> bu K CL H' Z u' w g -> bu K CL H' Z (T.jV p u' t) v (f1 ++ (g ++ f3))
 | [], t, u, v, fp, h, e => by
   obtain ⟨h1, h2⟩ := h.NR
   cases e
   exact ⟨v, [], fp, [], rfl, by simp, h1, fun {H' u' g} _ r => by rw [aic, ag3]; exact h2 r⟩
 | s :: p, t, u, v, fp, h, e => by
   obtain ⟨h1, h2⟩ := h.NR
   rw [T.jx] at e
   cases hk : t.core.LV s with
   | none => rw [hk] at e; cases e
   | some k =>
     rw [hk] at e
     obtain ⟨w1, a1, a2, a3, q1, q2, q3, q4⟩ := h1.LV zh hk
     obtain ⟨w, f1, f2, f3, r1, r2, r3, r4⟩ := bu.focus zh p q3 e
     subst q2 r2
     refine ⟨w, a1 ++ f1, f2, f3 ++ a3, ⟨w1, q1, r1⟩, by simp only [agT], r3, fun {H' u' g} kk r' => ?_⟩
     rw [T.jV, hk]
     have q := h2 (q4 (k' := T.jV p u' k) (fun c hc => kk c (by
       rcases ag0.mp hc with h | h
       . simp [h]
       . simp [h])) (r4 (fun c hc => kk c (by
       rcases ag0.mp hc with h | h
       . simp [h]
       . simp [h])) r'))
     simpa only [List.append_assoc] using q
theorem aU.yL (S : aU K CL b H Z δ σ ts vs) (ev : σ[i]? = some (some v0)) (hi : δ[i]? = some (some t0)) (hp : T.jx p t0 = some u) (rH : Aq H v0 p w) : ∃ f2 gp, bu K CL H Z u w f2 /\ aE K CL H Z ts vs gp /\ (f2 ++ gp).Nodup ∧
   ∀ {a : Addr} {o : HO} {u' : T} {tl' : List T} {us' : List V} {g HY : List Addr}, w = .ref a -> a ∈ f2 -> mC o = false -> bu K CL (upd H a o) Z u' w g -> aE K CL (upd H a o) Z tl' us' HY -> (g ++ HY).Nodup -> (∀ c ∈ g ++ HY, c ∈ f2 ++ gp) →
     aU K CL b (upd H a o) Z (δ.set i (some (T.jV p u' t0))) σ tl' us' := by
 obtain ⟨fp, gp, e, r, nd, k⟩ := S.rep
 obtain ⟨v1, e1, e2, e3, hv, nG, rt, put, _⟩ := e.get hi
 rw [ev] at hv
 cases hv
 obtain ⟨w', f1, f2, f3, at', hf, ru, put2⟩ := rt.focus S.zh p hp
 have hw := at'.inj rH
 subst hw
 subst hf
 subst nG
 have hpm : ((e1 ++ ((f1 ++ (f2 ++ f3)) ++ e3)) ++ gp).Perm ((e1 ++ (f1 ++ (f3 ++ e3))) ++ (f2 ++ gp)) := ah8.mpr fun c => by
   simp only [aif]; omega
 have ZY := hpm.nodup_iff.mp nd
 have DY := aht.mp ZY
 refine ⟨f2, gp, ru, r, DY.2.1, fun {a o u' tl' us' g HY} hwa ha hm hu ht M7 MS => ?_⟩
 have hup : ∀ c ∈ e1 ++ (f1 ++ (f3 ++ e3)), upd H a o c = H c := fun c hc => aq fun z => DY.2.2 c hc a (agX _ ha) z
 have q1 := put2 (H' := upd H a o) (fun c hc => hup c (by
   rcases ag0.mp hc with h | h
   . simp [h]
   . simp [h])) hu
 have q2 := put (H' := upd H a o) (.refl _) (fun c hc => hup c (by
   rcases ag0.mp hc with h | h
   . simp [h]
   . simp [h])) q1
 rw [d8 ev] at q2
 have aaz : ((e1 ++ ((f1 ++ (g ++ f3)) ++ e3)) ++ HY).Perm ((e1 ++ (f1 ++ (f3 ++ e3))) ++ (g ++ HY)) := ah8.mpr fun c => by
   simp only [aif]; omega
 refine S.Cq hm k (by simp [ha]) q2 ht (aaz.nodup_iff.mpr (aht.mpr ⟨DY.1, M7, fun c hc d hd => DY.2.2 c hc d (MS d hd)⟩)) fun c hc => ?_
 refine hpm.mem_iff.mpr ?_
 rcases ag0.mp (aaz.mem_iff.mp hc) with h | h
 . exact agX _ h
 . exact agS _ (MS c h)
theorem aU.Ge (S : aU K CL b H Z δ σ ts vs) (ev : σ[i]? = some (some v0)) (hi : δ[i]? = some (some t0)) (hp : T.jx p t0 = some u) : ∃ w f2, Aq H v0 p w /\ bu K CL H Z u w f2 := by
 obtain ⟨fp, gp, e, r, nd, k⟩ := S.rep
 obtain ⟨v1, e1, e2, e3, hv, nG, rt, put, _⟩ := e.get hi
 rw [ev] at hv
 cases hv
 obtain ⟨w', f1, f2, f3, at', hf, ru, put2⟩ := rt.focus S.zh p hp
 exact ⟨w', f2, at', ru⟩
theorem aU.R1 (S : aU K CL b H Z δ σ (t :: ts) (v :: vs)) (ev : σ[i]? = some (some v0)) (hi : δ[i]? = some (some t0)) (hp : T.jx p t0 = some (.lst tl)) (rH : Aq H v0 p w) :
   ∃ a us, w = .ref a /\ H a = some (.lst us) /\ us.length = tl.length /\ aU K CL b (upd H a (.lst (us ++ [v]))) Z (δ.set i (some (T.jV p (.lst (tl ++ [t])) t0))) σ ts vs := by
 obtain ⟨f2, gp, ru, rr, nd, go⟩ := S.yL ev hi hp rH
 cases ru with
 | @lst a us _ g ha rs =>
   cases rr with
   | @cons _ _ _ _ ft gr q1 q2 =>
     have ne : ∀ c ∈ g ++ (ft ++ gr), c ≠ a := fun c hc z => by subst z; exact (ahE.mp nd).1 hc
     have pm : ((a :: (g ++ (ft ++ []))) ++ gr).Perm ((a :: g) ++ (ft ++ gr)) := ah8.mpr fun c => by simp only [aif, List.count_cons, List.count_nil]; omega
     exact ⟨a, us, rfl, ha, rs.length.symm, go rfl agV rfl (.lst aI (aE.app (rs.mono (.refl _) fun c hc => aq (ne c (by simp [hc]))) (.cons (q1.mono (.refl _) fun c hc => aq (ne c (by simp [hc]))) .nil)))
       (q2.mono (.refl _) fun c hc => aq (ne c (by simp [hc]))) (pm.nodup_iff.mpr nd) fun c hc => pm.mem_iff.mp hc⟩
theorem aU.NS {ds : List D} (S : aU K CL b H Z δ σ ts vs) (hr : aH K CL Z ds us) (ev : σ[i]? = some (some v0)) (hi : δ[i]? = some (some t0)) (hp : T.jx p t0 = some (.lst tl)) (rH : Aq H v0 p w) :
   ∃ a ws, w = .ref a /\ H a = some (.lst ws) /\ ws.length = tl.length /\ aU K CL b (upd H a (.lst (ws ++ us))) Z (δ.set i (some (T.jV p (.lst (tl ++ ds.map T.sh)) t0))) σ ts vs := by
 obtain ⟨f2, gp, ru, rr, nd, go⟩ := S.yL ev hi hp rH
 cases ru with
 | @lst a ws _ g ha rs =>
   have ne : ∀ c ∈ g ++ gp, c ≠ a := fun c hc z => by subst z; exact (ahE.mp nd).1 hc
   exact ⟨a, ws, rfl, ha, rs.length.symm, go (g := a :: (g ++ [])) rfl agV rfl (.lst aI (aE.app (rs.mono (.refl _) fun c hc => aq (ne c (by simp [hc]))) (aE.ofF hr)))
     (rr.mono (.refl _) fun c hc => aq (ne c (by simp [hc]))) (by rw [ag3]; exact nd) fun c hc => by rw [ag3] at hc; exact hc⟩
theorem aU.Xg {j : Nat} (S : aU K CL b H Z δ σ (t :: ts) (v :: vs)) (ev : σ[i]? = some (some v0)) (hi : δ[i]? = some (some t0)) (hp : T.jx p t0 = some (.lst tl)) (rH : Aq H v0 p w) (hj : j < tl.length) :
   ∃ a us, w = .ref a /\ H a = some (.lst us) /\ us.length = tl.length /\ aU K CL b (upd H a (.lst (us.set j v))) Z (δ.set i (some (T.jV p (.lst (tl.set j t)) t0))) σ ts vs := by
 obtain ⟨f2, gp, ru, rr, nd, go⟩ := S.yL ev hi hp rH
 cases ru with
 | @lst a us _ g ha rs =>
   cases rr with
   | @cons _ _ _ _ ft gr q1 q2 =>
     obtain ⟨w0, g1, g2, g3, h1, h2, h3, h4⟩ := rs.at (ag7 hj)
     subst h2
     have ne : ∀ c ∈ (g1 ++ (g2 ++ g3)) ++ (ft ++ gr), c ≠ a := fun c hc z => by subst z; exact (ahE.mp nd).1 hc
     have sb : ((a :: (g1 ++ g3)) ++ (ft ++ gr)).Sublist ((a :: (g1 ++ (g2 ++ g3))) ++ (ft ++ gr)) := by
       simp only [ahi, agT]
       exact List.Sublist.cons₂ _ (ahq (ahy _) (ahI _ _))
     have pm : ((a :: (g1 ++ (ft ++ g3))) ++ gr).Perm ((a :: (g1 ++ g3)) ++ (ft ++ gr)) := ah8.mpr fun c => by simp only [aif, List.count_cons]; omega
     exact ⟨a, us, rfl, ha, rs.length.symm, go rfl agV rfl (.lst aI (h4 (fun c hc => aq (ne c (by
         rcases ag0.mp hc with h | h
         . simp [h]
         . simp [h]))) (q1.mono (.refl _) fun c hc => aq (ne c (by simp [hc])))))
       (q2.mono (.refl _) fun c hc => aq (ne c (by simp [hc]))) (pm.nodup_iff.mpr (nd.sublist sb)) fun c hc => sb.subset (pm.mem_iff.mp hc)⟩
theorem aU.aaA (S : aU K CL b H Z δ σ ts vs) (ev : σ[i]? = some (some v0)) (hi : δ[i]? = some (some t0)) (hp : T.jx p t0 = some (.lst (t :: tl))) (rH : Aq H v0 p w) :
   ∃ a us x, w = .ref a /\ H a = some (.lst (x :: us)) /\ aU K CL b (upd H a (.lst us)) Z (δ.set i (some (T.jV p (.lst tl) t0))) σ (t :: ts) (x :: vs) := by
 obtain ⟨f2, gp, ru, rr, nd, go⟩ := S.yL ev hi hp rH
 cases ru with
 | @lst a us _ g ha rs =>
   cases rs with
   | @cons _ x _ us g2 g1 r2 r1 =>
     have ne : ∀ c ∈ (g2 ++ g1) ++ gp, c ≠ a := fun c hc z => by subst z; exact (ahE.mp nd).1 hc
     have pm : ((a :: g1) ++ (g2 ++ gp)).Perm ((a :: (g2 ++ g1)) ++ gp) := ah8.mpr fun c => by simp only [aif, List.count_cons]; omega
     exact ⟨a, us, x, rfl, ha, go rfl agV rfl (.lst aI (r1.mono (.refl _) fun c hc => aq (ne c (by simp [hc]))))
       (.cons (r2.mono (.refl _) fun c hc => aq (ne c (by simp [hc]))) (rr.mono (.refl _) fun c hc => aq (ne c (by simp [hc])))) (pm.nodup_iff.mpr nd) fun c hc => pm.mem_iff.mp hc⟩
end
section
variable {X : Cx} {CL : Str -> Addr} {b : Bx} {δ δ1 : List (Option T)} {e e0 e2 : Expr} {t t0 t1 u : T} {tl Qt : List T} {d : L3.D} {ds : List L3.D} {D : dP} {pos pa pb ps : Pos} {i : Nat} {x c f : Str} {ez : List Stmt} {p : List BE} {fs : List (Str × T)}
noncomputable def Io (X : Cx) (CL : Str -> Addr) (b : Bx) (e : Expr) (δ : List (Option T)) (i : Nat) (p : List BE) : Prop :=
 ∀ (H Z : Hp) (σ : L2.St) (ts : List T) (vs : List V) (Q : VK), aU X.K CL b H Z δ σ ts vs -> (∀ v0 v H' Z', aC Z Z' -> aC H H' -> aU X.K CL b H' Z' δ σ ts vs -> σ[i]? = some (some v0) -> Aq H' v0 p v -> Q v H') -> Eb X e σ H Q
theorem b8 (n : Vn X i x) (h : δ[i]? = some (some t)) : Io X CL b (.Name x pos) δ i [] := fun H Z σ ts vs Q S k => by
 obtain ⟨v, hv, _⟩ := S.look h
 exact bU (fW n.hi n.hv n.hd n.mS) ⟨v, hv, k v v H Z (.refl _) (.refl _) S hv rfl⟩
theorem Cw (hc : j5 X.K (CL c)) (n : aF X.K (CL c) f) (h : Io X CL b e δ i p) (hi : δ[i]? = some (some t)) (hg : T.jx p t = some (.ins c fs)) (hl : fs.lookup f = some u) (hb : attributeBase e f X.env (eval e X.env) = eval e X.env := by rfl) :
   Io X CL b (.Attribute e f pos) δ i (p ++ [.fld f]) := fun H Z σ ts vs Q S k =>
 bU (FH cI hb) (h H Z σ ts vs _ S fun v0 v H' Z' z s S' ev rH => by
   obtain ⟨w, f2, at', r⟩ := S'.Ge ev hi hg
   have := at'.inj rH
   subst this
   cases r with
   | @ins a dx _ gs _ g ha rs =>
     obtain ⟨w, _, _, _, hw, _, _, _⟩ := cV.at fs rs hl
     exact ⟨a, CL c, dx, gs, w, rfl, ha, hc, n, hw, k v0 w H' Z' z s S' ev (rH.snoc ⟨a, _, dx, gs, rfl, ha, hw⟩)⟩)
theorem lC {z : Int} {j : Nat} (h : Io X CL b e δ i p) (hi : δ[i]? = some (some t)) (hg : T.jx p t = some (.lst tl)) (h2 : dH X CL b e2 δ (.int z) δ) (hk : FL tl.length z = some j) (hp : oU e2 := by exact fun _ _ => rfl) :
   Io X CL b (.Subscript e e2 pos) δ i (p ++ [.ix j]) := fun H Z σ ts vs Q S k =>
 bU (yo xx cI cI hp) (h H Z σ ts vs _ S fun v0 v H' Z' z1 s1 S' ev rH => h2 H' Z' σ ts vs _ S' fun v2 H2 Z2 z2 s2 S2 r2 => by
   have at2 := rH.mono s2
   obtain ⟨w, f2, at', r⟩ := S2.Ge ev hi hg
   have := at'.inj at2
   subst this
   cases r with
   | @lst a us _ g ha rs =>
     have hj : j < tl.length := (t7 hk).2.1
     obtain ⟨w, _, _, _, hw, _, _, _⟩ := rs.at (ag7 hj)
     refine ⟨a, us, z, w, rfl, r2.sc rfl, oS.of ha, ?_, k v0 w H2 Z2 (z1.trans z2) (s1.trans s2) S2 ev (at2.snoc ⟨a, us, rfl, .inl ha, hw⟩)⟩
     unfold An
     rw [← rs.length, hk]
     exact hw)
theorem uh (h : Io X CL b e δ i p) (hi : δ[i]? = some (some t)) (hg : T.jx p t = some (.sh d)) : bV X CL b e δ (.sh d) δ := fun H Z σ ts vs Q S k =>
 h H Z σ ts vs _ S fun v0 v H' Z' z s S' ev rH => by
   obtain ⟨w, f2, at', r⟩ := S'.Ge ev hi hg
   have := at'.inj rH
   subst this
   cases r with
   | sh r => exact k _ H' Z' z s (S'.push r)
theorem xF (h : Io X CL b e δ i p) (hi : δ[i]? = some (some t)) (hg : T.jx p t = some u) (hd : u.bS = d) : dH X CL b e δ d δ := fun H Z σ ts vs Q S k =>
 h H Z σ ts vs _ S fun v0 v H' Z' z s S' ev rH => by
   obtain ⟨w, f2, at', r⟩ := S'.Ge ev hi hg
   have := at'.inj rH
   subst this
   subst hd
   exact k _ H' Z' z s S' (r.bS S'.zh fun _ _ => rfl)
theorem lD (hE : Io X CL b e0 δ i p) (h0 : δ[i]? = some (some t0)) (hp0 : T.jx p t0 = some (.lst Qt)) (h : bV X CL b e δ t δ1) (h1 : δ1[i]? = some (some t1)) (R3 : T.jx p t1 = some (.lst tl)) (hl : tl.length <= 1000000) (k : cU X CL b ez (δ1.set i (some (T.jV p (.lst (tl ++ [t])) t1))) D)
   (iz : attributeBase e0 "append" X.env (eval e0 X.env) = eval e0 X.env := by rfl)
   (oW : ((backTo pb (starEach [e] X.env)).all (fun x => !x.1) && (backToKw pb (keywordEach [] X.env)).all (fun x => x.1.isSome) && decide ([e].length + ([] : List Keyword).length + (if ([] : List Keyword).isEmpty then 0 else 1) < 30)) = true := by rfl)
   (hline : (pa.endLine == pb.line) = true := by rfl) (hs : starEach [e] X.env = (false, eval e X.env) :: starEach [] X.env := by exact aP rfl) (AA : swapsWith (.Call (.Attribute e0 "append" pa) [e] [] pb) none pos.line X.env = pure false := by rfl) :
   cU X CL b (.Expr (.Call (.Attribute e0 "append" pa) [e] [] pb) pos :: ez) δ D := bG fun H Z σ ts vs E S M =>
 kH (rB (Bp ah0 aiK aiL nK cI (bD cI c6 hs) iz oW hline hs rfl) AA) (hE H Z σ ts vs _ S fun v0 v H0 Z0 z0 s0 S0 ev rH => by
   obtain ⟨w, f2, at', r⟩ := S0.Ge ev h0 hp0
   have := at'.inj rH
   subst this
   refine ⟨?_, h H0 Z0 σ ts vs _ S0 fun v2 H1 Z1 z1 k1 S1 => ?_⟩
   . cases r with
     | lst ha _ => exact .inl ⟨rfl, _, oS.of ha⟩
   . obtain ⟨a, us, ea, ha, hu, S2⟩ := S1.R1 ev h1 R3 (rH.mono k1)
     exact ⟨a, us, v2, ea, rfl, ha, by rw [hu]; exact ahW hl (by rw [ahS]; decide), M.nx _ σ _ Z1 (z0.trans z1) S2 k⟩)
theorem R4 (hE : Io X CL b e0 δ i p) (h0 : δ[i]? = some (some t0)) (hp0 : T.jx p t0 = some (.lst Qt)) (h : dH X CL b e δ (.lst ds) δ1) (YV : L3.D.bQ ds = true) (h1 : δ1[i]? = some (some t1)) (R3 : T.jx p t1 = some (.lst tl)) (hl : tl.length + ds.length <= 1000000) (k : cU X CL b ez (δ1.set i (some (T.jV p (.lst (tl ++ ds.map T.sh)) t1))) D)
   (iz : attributeBase e0 "extend" X.env (eval e0 X.env) = eval e0 X.env := by rfl)
   (oW : ((backTo pb (starEach [e] X.env)).all (fun x => !x.1) && (backToKw pb (keywordEach [] X.env)).all (fun x => x.1.isSome) && decide ([e].length + ([] : List Keyword).length + (if ([] : List Keyword).isEmpty then 0 else 1) < 30)) = true := by rfl)
   (hline : (pa.endLine == pb.line) = true := by rfl) (hs : starEach [e] X.env = (false, eval e X.env) :: starEach [] X.env := by exact aP rfl) (AA : swapsWith (.Call (.Attribute e0 "extend" pa) [e] [] pb) none pos.line X.env = pure false := by rfl) :
   cU X CL b (.Expr (.Call (.Attribute e0 "extend" pa) [e] [] pb) pos :: ez) δ D := bG fun H Z σ ts vs E S M =>
 kH (rB (Bp ah0 PySem.F.slot_list_extend PySem.F.type_list_extend RZ cI (bD cI c6 hs) iz oW hline hs rfl) AA) (hE H Z σ ts vs _ S fun v0 v H0 Z0 z0 s0 S0 ev rH => by
   obtain ⟨w, f2, at', r⟩ := S0.Ge ev h0 hp0
   have := at'.inj rH
   subst this
   refine ⟨?_, h H0 Z0 σ ts vs _ S0 fun v2 H1 Z1 z1 k1 S1 rr => ?_⟩
   . cases r with
     | lst ha _ => exact .inl ⟨rfl, _, oS.of ha⟩
   . cases rr with
     | lst hq rr =>
       obtain ⟨a, ws, ea, ha, hu, S2⟩ := S1.NS (aH.mw S1.tp YV rr) ev h1 R3 (rH.mono k1)
       have hz := rr.length
       exact ⟨a, _, ws, _, ea, rfl, ha, hq, by rw [hu, ← hz]; exact ah3 (ahW hl (by rw [ahS]; decide)), M.nx _ σ _ Z1 (z0.trans z1) S2 k⟩)
theorem NT {z : Int} {j : Nat} (h : bV X CL b e δ t δ1) (hE : Io X CL b e0 δ1 i p) (h2 : dH X CL b e2 δ1 (.int z) δ1) (h1 : δ1[i]? = some (some t1)) (R3 : T.jx p t1 = some (.lst tl)) (hk : FL tl.length z = some j) (kk : cU X CL b ez (δ1.set i (some (T.jV p (.lst (tl.set j t)) t1))) D)
   (ha : ∀ v, assign (.Subscript e0 e2 ps) X.env v = (do
     let ov ← holding [v] (eval e0 X.env)
     let iv ← holding [v, ov] (eval e2 X.env)
     standAt ps
     holding [v, ov, iv] (setItem ov iv v)
     release [v, ov, iv] []) := by intro _; rfl)
   (hs : swapsWithSole [.Subscript e0 e2 ps] e pos.line X.env = pure false := by rfl) (hw : swappedStores [.Subscript e0 e2 ps] e X.env = pure none := by rfl) (Rr : (assignEach [.Subscript e0 e2 ps] X.env).map (·.2) = [assign (.Subscript e0 e2 ps) X.env] := by rfl) :
   cU X CL b (.Assign [.Subscript e0 e2 ps] e pos :: ez) δ D := by
 refine bG fun H Z σ ts vs E S M => kH (Mb cI (Ma cI cI set_list ha) hs hw Rr) (h H Z σ ts vs _ S fun v H1 Z1 z1 k1 S1 => ?_)
 have hj : j < tl.length := (t7 hk).2.1
 refine hE H1 Z1 σ _ _ _ S1 fun v0 w H2 Z2 z2 k2 S2 ev rH => h2 H2 Z2 σ _ _ _ S2 fun v2 H3 Z3 z3 k3 S3 r3 => ?_
 obtain ⟨a, us, ea, J9, hu, S4⟩ := S3.Xg ev h1 R3 (rH.mono k3) hj
 exact ⟨a, us, z, j, ea, r3.sc rfl, J9, by rw [hu]; exact hk, M.nx _ σ _ Z3 (z1.trans (z2.trans z3)) S4 kk⟩
theorem NV {kj : Nat} {pc : Pos} (hE : Io X CL b e0 δ i p) (h : δ[i]? = some (some t0)) (hp : T.jx p t0 = some (.lst (t :: tl))) (iz : attributeBase e0 "pop" X.env (eval e0 X.env) = eval e0 X.env := by rfl)
   (oW : ((backTo pos (starEach [.Constant (.int 0) kj pc] X.env)).all (fun x => !x.1) && (backToKw pos (keywordEach [] X.env)).all (fun x => x.1.isSome) && decide ([Expr.Constant (.int 0) kj pc].length + ([] : List Keyword).length + (if ([] : List Keyword).isEmpty then 0 else 1) < 30)) = true := by rfl)
   (hline : (pa.endLine == pos.line) = true := by rfl) (hs : starEach [.Constant (.int 0) kj pc] X.env = (false, eval (.Constant (.int 0) kj pc) X.env) :: starEach [] X.env := by exact aP rfl) :
   jj X CL b (.Call (.Attribute e0 "pop" pa) [.Constant (.int 0) kj pc] [] pos) δ t (δ.set i (some (T.jV p (.lst tl) t0))) := fun H Z σ ts vs Q S k =>
 bU (Bp ah0 PySem.F.slot_list_pop PySem.F.type_list_pop MF cI (bD Fv c6 hs) iz oW hline hs rfl) (hE H Z σ ts vs _ S fun v0 w H0 Z0 z0 s0 S0 ev rH => by
   obtain ⟨a, us, x, ea, ha, S2⟩ := S0.aaA ev h hp rH
   subst ea
   refine ⟨.inl ⟨rfl, _, .inl (.inl ha)⟩, a, x :: us, 0, 0, x, rfl, rfl, ha, by decide, by decide, ?_, rfl, ?_⟩
   . unfold seqIndex?
     simp
   . exact k x _ Z0 z0 S2)
end
theorem cV.none {K : PySem.W.Frag} {CL : Str -> Addr} {H Z : Hp} {m : Str} : ∀ {fs : List (Str × T)} {gs : List (Str × V)} {fp : List Addr}, cV K CL H Z fs gs fp -> fs.lookup m = none -> gs.lookup m = none := by
 intro fs
 induction fs with
 | nil => intro gs fp r _; cases r; rfl
 | cons p fs ih =>
   intro gs fp r h
   cases r with
   | cons q r =>
     rw [aho] at h ⊢
     split at h
     . cases h
     . exact ih r h
section
variable {X : Cx} {CL : Str -> Addr} {b : Bx} {δ δ1 : List (Option T)} {e o : Expr} {es : List Expr} {t : T} {pos pp apos : Pos} {i : Nat} {x c m : Str} {is : List Nat} {fx : List Addr -> Prop} {al : List Addr -> List T} {y : Addr} {fs : List (Str × T)}
variable {A : Type} {k n : Nat} {f : Addr} {fd : FuncData} {ps : List Str} {arg : A -> List T} {Pre : A -> Prop} {res : A -> T} {out : A -> List T}
theorem BF {H1 Z1 : Hp} {σ : L2.St} {ts : List T} {us vs : List V} {al : List T} {ys : List Addr} {ns : List T} {Q : VK} {E : XK} (a : A) (Rr : arg a = al) (Nq : (arg a).length = n) (hp : Pre a) (hrs : res a = t) (hpu : lB (out a) ys ns) (Gb : AtS σ is ys) (Ao : ∀ i ∈ is, i < δ1.length) (RV : us.length = al.length)
   (S1 : aU X.K CL b H1 Z1 δ1 σ (al.reverse ++ ts) (us.reverse ++ vs)) (kk : ∀ v H' Z', aC Z1 Z' -> aU X.K CL b H' Z' (Kv δ1 is ns) σ (t :: ts) (v :: vs) -> Q v H') : Ew X.K CL n arg Pre res out us H1 Q E := by
 obtain ⟨g, r, nd, S2⟩ := S1.cut (by simp [RV])
 obtain ⟨g', r', pm⟩ := r.rev
 have ec : qq H1 g = qq H1 g' := funext fun c => by
   by_cases hc : c ∈ g
   . rw [pF hc, pF (pm.mem_iff.mpr hc)]
   . rw [gQ hc, gQ (fun z => hc (pm.mem_iff.mp z))]
 rw [ec] at S2
 rw [← Rr] at r'
 refine ⟨Z1, a, g', S2.zh, S1.tp, r', pm.nodup_iff.mpr nd, Nq, hp, S1.FU, fun v H' W' fp hh ww wh nw tp rt DY own => ?_⟩
 cases rt with
 | @cons _ _ _ _ f1 f2 q1 q2 =>
   have HW : (f2 ++ (f1 ++ [])).Perm (f1 ++ f2) := by rw [ag3]; exact ahl
   have S3 := S2.Nr hh ww wh nw tp (aE.app q2 (.cons q1 .nil)) (HW.nodup_iff.mpr DY) fun c hc => own c (HW.mem_iff.mp hc)
   rw [agT, agT] at S3
   have S4 := S3.RP q2.length Gb hpu Ao
   rw [hrs] at S4
   exact kk v H' W' ww S4
inductive Recv (δ : List (Option T)) (i : Nat) (c : Str) (fs : List (Str × T)) : (Addr -> Prop) -> Prop where
 | own : δ[i]? = some (some (.ins c fs)) -> Recv δ i c fs (fun _ => True)
 | pin {y : Addr} : δ[i]? = some (some (.pin y (.ins c fs))) -> Recv δ i c fs (fun z => z = y)
theorem aU.recv {H Z : Hp} {σ : L2.St} {ts : List T} {vs : List V} {g : Addr -> Prop} (S : aU X.K CL b H Z δ σ ts vs) (h : Recv δ i c fs g) : ∃ y dx gs, g y /\ σ[i]? = some (some (.ref y)) /\ H y = some (.ins (CL c) dx gs) /\ (∀ m, fs.lookup m = none -> gs.lookup m = none) /\ aU X.K CL b H Z (δ.set i none) σ (.pin y (.ins c fs) :: ts) (.ref y :: vs) := by
 cases h with
 | own h =>
   obtain ⟨v, e, S1⟩ := S.move h
   obtain ⟨y, rfl, S0⟩ := S1.Nu rfl
   obtain ⟨fp, gp, _, r, _, _⟩ := S0.rep
   cases r with
   | cons r _ =>
     cases r with
     | pin r =>
       cases r with
       | ins ha rs => exact ⟨y, _, _, trivial, e, ha, fun m hm => rs.none hm, S0⟩
 | @pin y h =>
   obtain ⟨v, e, S0⟩ := S.move h
   obtain ⟨fp, gp, _, r, _, _⟩ := S0.rep
   cases r with
   | cons r _ =>
     cases r with
     | pin r =>
       cases r with
       | ins ha rs => exact ⟨y, _, _, rfl, e, ha, fun m hm => rs.none hm, S0⟩
theorem NW {pl : Sem Bool} {g : Addr -> Prop} (a : Addr -> List Addr -> A) (ns : List T) (cc : j5 X.K (CL c)) (hm : Meth X.K (CL c) m f) (F : cQ X.prog X.w X.K X.mg X.base kU k f fd ps (Ew X.K CL n arg Pre res out)) (hr : dG k X.A) (hb : Binds X.K fd ps [])
   (nm : Vn X i x) (hi : Recv δ i c fs g) (hf : fs.lookup m = none) (h : Ik X CL b (e :: es) (δ.set i none) is fx al δ1)
   (ha : ∀ y ys, g y -> ys.length = is.length -> fx ys -> arg (a y ys) = .pin y (.ins c fs) :: al ys /\ (arg (a y ys)).length = n /\ Pre (a y ys) /\ res (a y ys) = t /\ lB (out (a y ys)) (y :: ys) ns) (Ao : ∀ j ∈ i :: is, j < δ1.length)
   (he : starEach (e :: es) X.env = (false, eval e X.env) :: starEach es X.env := by exact aP rfl) (hpl : (backTo pos (starEach es X.env)).any (·.1) = false := by rfl)
   (ht : eval (.Call (.Attribute (.Name x pp) m apos) (e :: es) [] pos) X.env = (do
     let ov ← eval (.Name x pp) X.env
     standAt apos.atName
     let (f, first) ← holding [ov] (getMethod ov m pl)
     callWith pos f first (backTo pos (starEach (e :: es) X.env)) (backToKw pos (keywordEach [] X.env))) := by rfl) :
   jj X CL b (.Call (.Attribute (.Name x pp) m apos) (e :: es) [] pos) δ t (Kv δ1 (i :: is) ns) := fun H Z σ ts vs Q S kk => by
 obtain ⟨y, dx, gs, hy, ev, hH, hn, S0⟩ := S.recv hi
 refine bU (Hz (fW nm.hi nm.hv nm.hd nm.mS) cc hm F hr hb .nil sG Bs he hpl ht) ⟨_, ev, y, dx, gs, rfl, hH, hn m hf, h H Z σ _ _ _ S0 fun ys us H1 Z1 hly Gb hfx RV z1 k1 S1 => ?_⟩
 rw [ag3]
 obtain ⟨h1, h2, h3, h4, h5⟩ := ha y ys hy hly hfx
 refine BF (al := .pin y (.ins c fs) :: al ys) (us := .ref y :: us) (is := i :: is) (ys := y :: ys) (a y ys) h1 h2 h3 h4 h5 ⟨ev, Gb⟩ Ao (by simp [RV]) ?_ fun v H' Z' z S' => kk v H' Z' (z1.trans z) S'
 rw [ahD, ahD, agT, agT]
 exact S1
structure FqM (X : Cx) (CL : Str -> Addr) (c m : Str) (k n : Nat) {A : Type} (arg : A -> List T) (Pre : A -> Prop) (res : A -> T) (out : A -> List T) : Prop where
 ex : ∃ f fd ps, Meth X.K (CL c) m f /\ cQ X.prog X.w X.K X.mg X.base kU k f fd ps (Ew X.K CL n arg Pre res out) /\ Binds X.K fd ps []
 room : dG k X.A
 cls : j5 X.K (CL c)
theorem qM {pl : Sem Bool} {g : Addr -> Prop} {dl : List L3.D} (a : Addr -> A) (nt : T) (F : FqM X CL c m k n arg Pre res out) (nm : Vn X i x) (hi : Recv δ i c fs g) (h : Ec X CL b (e :: es) (δ.set i none) (dl.map T.sh) δ1) (hp : ∀ y, g y -> Pre (a y)) (yJ : ∀ y, g y -> res (a y) = t) (Cv : ∀ y, g y -> lB (out (a y)) [y] [nt])
   (hf : fs.lookup m = none := by rfl) (wO : ∀ y, g y -> arg (a y) = .pin y (.ins c fs) :: dl.map T.sh := by intros; rfl) (hlen : ∀ y, (arg (a y)).length = n := by intros; rfl) (Ao : i < δ1.length := by exact agZ rfl)
   (he : starEach (e :: es) X.env = (false, eval e X.env) :: starEach es X.env := by exact aP rfl) (hpl : (backTo pos (starEach es X.env)).any (·.1) = false := by rfl)
   (ht : eval (.Call (.Attribute (.Name x pp) m apos) (e :: es) [] pos) X.env = (do
     let ov ← eval (.Name x pp) X.env
     standAt apos.atName
     let (f, first) ← holding [ov] (getMethod ov m pl)
     callWith pos f first (backTo pos (starEach (e :: es) X.env)) (backToKw pos (keywordEach [] X.env))) := by rfl) :
   jj X CL b (.Call (.Attribute (.Name x pp) m apos) (e :: es) [] pos) δ t (δ1.set i (some nt)) := by
 obtain ⟨⟨f, fd, ps, M, G, bd⟩, r, cc⟩ := F
 have h' : Ik X CL b (e :: es) (δ.set i none) [] (fun _ => True) (fun _ => dl.map T.sh) δ1 := fun H Z σ ts vs Q S k => h H Z σ ts vs Q S fun us H' Z' hl z s S' => k [] us H' Z' rfl trivial trivial hl z s S'
 exact NW (fun y _ => a y) [nt] cc M G r bd nm hi hf h' (fun y ys hy hl _ => by
   cases List.length_eq_zero_iff.mp hl
   exact ⟨wO y hy, hlen y, hp y hy, yJ y hy, Cv y hy⟩) (fun j hj => by cases ahN.mp hj; exact Ao) he hpl ht
end
end L3
namespace L2
open PySem PySem.Spec PyProof.Rows
section
variable {X : Cx} {CX : LK} {k : Nat} {f C : Addr} {fd : FuncData} {ps : List Str} {sp : Sp} {wm : List V} {ds : List Value} {E : XK} {x m : Str} {p pos apos : Pos} {e : Expr} {es : List Expr} {t : TA}
structure Vs (K : PySem.W.Frag) (C : Addr) (m : Str) (f : Addr) : Prop where
 ga : PySem.W.specialIn K (.ref C) "__getattribute__" = some (some (.builtin "type.__getattribute__"))
 rd : PySem.W.readsIn K C (.type "type") = true
 fnd : PySem.W.findCls K (.ref C) (.type "type") m = some (.val (.ref f))
 kp : PySem.W.keepIn K (.ref f) = true
theorem NX {pl : Sem Bool} (hc : Vs X.K C m f) (F : cQ X.prog X.w X.K X.mg X.base CX k f fd ps sp) (hr : dG k X.A) (hg : Gl X x) (Wo : X.mg x = some (.ref C)) (hb : Binds X.K fd ps ds) (hd : Vals wm ds) (hx : Passes CX X E) (ha : PA X (e :: es) t)
   (nI : (x == ("__debug__" : Str)) = false := by decide) (Bh : starEach (e :: es) X.env = (false, eval e X.env) :: starEach es X.env := by rfl) (hpl : (backTo pos (starEach es X.env)).any (·.1) = false := by rfl)
   (ht : eval (.Call (.Attribute (.Name x p) m apos) (e :: es) [] pos) X.env = (do
     let ov ← eval (.Name x p) X.env
     standAt apos.atName
     let (f, first) ← holding [ov] (getMethod ov m pl)
     callWith pos f first (backTo pos (starEach (e :: es) X.env)) (backToKw pos (keywordEach [] X.env))) := by rfl) :
   PE X (.Call (.Attribute (.Name x p) m apos) (e :: es) [] pos) (Mw sp wm E t) := by
 intro pins s σ H Q I h
 refine aiw (pl := pl) (dF (xo (v := .ref C) hg Wo rfl nI pins s σ H (fun v H1 => v = .ref C /\ H1 = H) I ⟨rfl, rfl⟩) fun u s1 ⟨x, H1, I1, rx, ex, eh⟩ => ?_) ht
 subst ex
 subst eh
 obtain rfl : u = Value.ref C := rx
 refine PySem.W.method_cls I1.wK hc.ga (PySem.W.cls_value I1.wK hc.rd hc.fnd rfl ?_)
 have I2 := I1.tok (s1.toks + 1)
 refine aiI (h₀ := X.base) I.ok.mod.YF hc.kp (dF (ha pos pins _ σ H1 _ I2 h) fun us s2 ⟨vs, H2, I3, r, q2⟩ => ⟨I3.wK, ?_⟩) Bh hpl
 exact yj F hr hb hd hx I3 r q2
end
end L2
namespace L3
open PySem PySem.Spec PyProof.Rows L2
section
variable {X : Cx} {CL : Str -> Addr} {b : Bx} {δ δ1 : List (Option T)} {e : Expr} {es : List Expr} {t : T} {pos pp apos : Pos} {i : Nat} {x m : Str} {is : List Nat} {fx : List Addr -> Prop} {al : List Addr -> List T} {y : Addr}
variable {A : Type} {k n : Nat} {arg : A -> List T} {Pre : A -> Prop} {res : A -> T} {out : A -> List T}
structure FkM (X : Cx) (CL : Str -> Addr) (x m : Str) (k n : Nat) {A : Type} (arg : A -> List T) (Pre : A -> Prop) (res : A -> T) (out : A -> List T) : Prop where
 ex : ∃ f fd ps, Vs X.K (CL x) m f /\ cQ X.prog X.w X.K X.mg X.base kU k f fd ps (Ew X.K CL n arg Pre res out) /\ X.mg x = some (.ref (CL x)) /\ Binds X.K fd ps []
 room : dG k X.A
theorem kM1 {pl : Sem Bool} (a : Addr -> A) (nt : T) (F : FkM X CL x m k n arg Pre res out) (hg : Gl X x) (h : Ik X CL b (e :: es) δ [i] fx al δ1) (hp : ∀ y, fx [y] -> Pre (a y)) (yJ : ∀ y, fx [y] -> res (a y) = t) (Cv : ∀ y, fx [y] -> lB (out (a y)) [y] [nt])
   (wO : ∀ y, fx [y] -> arg (a y) = al [y] := by intros; rfl) (hlen : ∀ y, (arg (a y)).length = n := by intros; rfl) (Ao : i < δ1.length := by exact agZ rfl)
   (nI : (x == ("__debug__" : Str)) = false := by decide) (he : starEach (e :: es) X.env = (false, eval e X.env) :: starEach es X.env := by exact aP rfl) (hpl : (backTo pos (starEach es X.env)).any (·.1) = false := by rfl)
   (ht : eval (.Call (.Attribute (.Name x pp) m apos) (e :: es) [] pos) X.env = (do
     let ov ← eval (.Name x pp) X.env
     standAt apos.atName
     let (f, first) ← holding [ov] (getMethod ov m pl)
     callWith pos f first (backTo pos (starEach (e :: es) X.env)) (backToKw pos (keywordEach [] X.env))) := by rfl) :
   jj X CL b (.Call (.Attribute (.Name x pp) m apos) (e :: es) [] pos) δ t (δ1.set i (some nt)) := fun H Z σ ts vs Q S kk => by
 obtain ⟨⟨f, fd, ps, C, G, mg, bd⟩, r⟩ := F
 refine bU (NX C G r hg mg bd .nil sG Bs nI he hpl ht) (h H Z σ ts vs _ S fun ys us H1 Z1 hly Gb hf RV z1 k1 S1 => ?_)
 rw [ag3]
 match ys, hly, hf, Gb, S1, RV with
 | [y], _, hf, Gb, S1, RV => exact BF (al := al [y]) (is := [i]) (ys := [y]) (ns := [nt]) (a y) (wO y hf) (hlen y) (hp y hf) (yJ y hf) (Cv y hf) Gb (fun j hj => by cases ahN.mp hj; exact Ao) RV S1 fun v H' Z' z S' => kk v H' Z' (z1.trans z) S'
end
end L3
namespace L2
open PySem PySem.Spec PyProof.Rows
structure Gf (K : PySem.W.Frag) (C : Addr) : Prop where
 ha : PySem.W.findIn K (.ref C) "__class__" = some (some (.builtin "object.__class__"))
 hn : PySem.W.specialIn K (.builtin "object.__class__") "__get__" = some (some (.builtin "getset_descriptor.__get__"))
 tk : PySem.W.takesIn K (.builtin "object.__class__") = some true
 hm : PySem.W.mroIn K C (.type "object") = some true
section
variable {X : Cx}
theorem NZ : qw X (.builtin "isinstance") (fun xs H Q => ∃ (a C dx : Addr) (gs : List (Str × V)) (y : V) (bb : Bool), xs = [.ref a, y] /\ H a = some (.ins C dx gs) /\ j5 X.K C /\ Gf X.K C /\ NK y = true /\ PySem.W.kitOne X.K (.ref C) (clsOf y) = some bb /\ Q (.bl bb) H) := by
 intro pins s σ H xs us Q I r h
 obtain ⟨a, C, dx, gs, y, bb, rfl, he, cc, O, hc, ha, q⟩ := h
 obtain ⟨u, u2, rfl, ru, ru2⟩ := r.two
 cases (show u = Value.ref a from ru)
 have fin : ∀ tk, EP X pins σ Q (.bool bb) { s with toks := tk } := fun tk => ⟨.bl _, H, I.tok tk, rfl, q⟩
 obtain ⟨mA, OM, _⟩ := xr I.dg he
 obtain ⟨od, J, _⟩ := OM.look
 rw [Kx hc ru2]
 exact aib (PySem.W.kitx_own (cc.get _) cc.hd O.ha O.hn O.tk O.hm) I.wK J ha (fun z => nomatch z) fin
end
end L2
namespace L3
open PySem PySem.Spec PyProof.Rows L2
theorem gH.none {K : PySem.W.Frag} {CL : Str -> Addr} {Z : Hp} {m : Str} : ∀ {fs : List (Str × D)} {gs : List (Str × V)}, gH K CL Z fs gs -> fs.lookup m = none -> gs.lookup m = none := by
 intro fs
 induction fs with
 | nil => intro gs r _; cases r; rfl
 | cons p fs ih =>
   intro gs r h
   cases r with
   | cons q r =>
     rw [aho] at h ⊢
     split at h
     . cases h
     . exact ih r h
section
variable {X : Cx} {CL : Str -> Addr} {b : Bx} {δ δ1 δ2 : List (Option T)} {e e1 e2 o : Expr} {es : List Expr} {pos pp apos pos' : Pos} {i : Nat} {x c m : Str} {fs : List (Str × L3.D)} {ds : List L3.D} {D : dP} {ez : List Stmt}
variable {A : Type} {k n : Nat} {arg : A -> List L3.D} {Pre : A -> Prop} {res : A -> T}
theorem q_ {pl : Sem Bool} (a : A) (F : Fq X CL c m k n arg Pre res) (ho : dH X CL b o δ (.ins c fs) δ1) (hf : fs.lookup m = none) (h : Ka X CL b (e :: es) δ1 ds δ2) (W4 : arg a = .ins c fs :: ds) (hp : Pre a) (hc : (res a).clean = true) (hn : (arg a).length = n := by rfl)
   (he : starEach (e :: es) X.env = (false, eval e X.env) :: starEach es X.env := by exact aP rfl) (hpl : (backTo pos (starEach es X.env)).any (·.1) = false := by rfl)
   (ht : eval (.Call (.Attribute o m apos) (e :: es) [] pos) X.env = (do
     let ov ← eval o X.env
     standAt apos.atName
     let (f, first) ← holding [ov] (getMethod ov m pl)
     callWith pos f first (backTo pos (starEach (e :: es) X.env)) (backToKw pos (keywordEach [] X.env))) := by rfl) :
   bV X CL b (.Call (.Attribute o m apos) (e :: es) [] pos) δ (res a) δ2 := by
 obtain ⟨⟨f, fd, ps, M, G, bd⟩, r, cc⟩ := F
 exact Rw a cc M G r bd ho hf h W4 hn hp hc he hpl ht
theorem YW {pl : Sem Bool} (a : A) (F : Fq X CL c m k n arg Pre res) (ho : dH X CL b o δ (.ins c fs) δ1) (hf : fs.lookup m = none) (W4 : arg a = [.ins c fs]) (hp : Pre a) (hc : (res a).clean = true) (hn : (arg a).length = n := by rfl)
   (ht : eval (.Call (.Attribute o m apos) [] [] pos) X.env = (do
     let ov ← eval o X.env
     standAt apos.atName
     let (f, first) ← holding [ov] (getMethod ov m pl)
     callWith pos f first (backTo pos (starEach [] X.env)) (backToKw pos (keywordEach [] X.env))) := by rfl) :
   bV X CL b (.Call (.Attribute o m apos) [] [] pos) δ (res a) δ1 := by
 obtain ⟨⟨f, fd, ps, M, G, bd⟩, r, cc⟩ := F
 exact Nh a cc M G r bd ho (fun q => q.none hf) W4 hn hp hc ht
theorem Xh {v : V} {bb : Bool} (cc : j5 X.K (CL c)) (O : Gf X.K (CL c)) (hm : X.mg "isinstance" = none) (hg : Gl X "isinstance") (h : Ka X CL b [e1, e2] δ [.ins c fs, .val v] δ1) (hc : NK v = true) (hk : PySem.W.kitOne X.K (.ref (CL c)) (clsOf v) = some bb)
   (hs : starEach [e1, e2] X.env = (false, eval e1 X.env) :: starEach [e2] X.env := by exact aP rfl) (hpl : (backTo pos (starEach [e2] X.env)).any (·.1) = false := by rfl) :
   bV X CL b (.Call (.Name "isinstance" pp) [e1, e2] [] pos) δ (.sh (.bl bb)) δ1 := fun H Z σ ts vs Q S k =>
 bU (nJ NZ hg hm boot_isinstance Bs (he := hs) (hpl := hpl)) (h H Z σ ts vs _ S fun us H1 Z1 z1 k1 S1 r => by
   cases r with
   | cons r1 r =>
     cases r with
     | cons r2 r =>
       cases r
       cases r2
       cases r1 with
       | ins ha _ => exact ⟨_, _, _, _, v, bb, rfl, ha, cc, O, hc, hk, k _ H1 Z1 z1 k1 (S1.push (.bl _))⟩)
theorem Xi {z w : Int} (g : Gx X) (nm : Ln X i x) (hx : δ[i]? = some (some (.sh (.int z)))) (h : dH X CL b e δ (.int w) δ) (k : cU X CL b ez (δ.set i (some (.sh (.int (z + w))))) D) :
   cU X CL b (.AugAssign (.Name x pos') .Add e pos :: ez) δ D := bG fun H Z σ ts vs E S M =>
 kH (V2 g.nd nm.hi nm.loc cI V3 nm.hf) (by
   obtain ⟨v, hv, r⟩ := S.HR hx
   cases r
   refine ⟨_, hv, h H Z σ ts vs _ S fun v2 H1 Z1 z1 k1 S1 r2 => ?_⟩
   cases r2
   have hl : i < δ.length := by
     rcases Nat.lt_or_ge i δ.length with h | h
     . exact h
     . rw [ahV h] at hx; cases hx
   exact ⟨z, w, rfl, rfl, M.nx _ _ H1 Z1 z1 ((S1.push (.int (z + w))).set hl) k⟩)
theorem R5 {Km : List L3.D} (h1 : bV X CL b e1 δ (.lst (ds.map T.sh)) δ1) (h2 : jj X CL b e2 δ1 (.lst (Km.map T.sh)) δ2) (hz : ds.length + Km.length <= sizeLine) :
   jj X CL b (.BinOp e1 .Add e2 pos) δ (.lst ((ds ++ Km).map T.sh)) δ2 := fun H Z σ ts vs Q S k =>
 bU (Hv Ig cI cI) (h1 H Z σ ts vs _ S fun v1 H1 Z1 z1 k1 S1 => h2 H1 Z1 σ _ _ _ S1 fun v2 H2 Z2 z2 S2 => by
   obtain ⟨fp, gp, _, r, _, _⟩ := S2.rep
   cases r with
   | cons r2 r =>
     cases r with
     | cons r1 _ =>
       cases r2 with
       | @lst a2 Qu _ g2 Nq Ii =>
         cases r1 with
         | @lst a1 us1 _ g1 Rr rs1 =>
           have f1 := (aE.toF rs1).1
           have f2 := (aE.toF Ii).1
           refine ⟨_, _, _, _, rfl, rfl, oS.of Rr, oS.of Nq, by rw [← f1.length, ← f2.length]; exact hz, fun p hp => ?_⟩
           have rc := aH.app f1 f2
           obtain ⟨c, S4⟩ := (aU.qB rc S2.pop.pop).lg (g0 := []) (by simp [rc.length, f1.length, f2.length]) hp
           exact k _ _ _ (z1.trans z2) S4)
theorem Xj {t : T} {f : Str} {a : Addr} {gs : List (Str × T)} {pa pb pc : Pos} (hc : j5 X.K (CL c)) (n : aF X.K (CL c) f) (nm : Vn X i x) (h : jj X CL b e δ t δ1) (h1 : δ1[i]? = some (some (.pin a (.ins c gs)))) (hl : gs.length < 1000)
   (k : cU X CL b ez (δ1.set i (some (.pin a (.ins c (jv f t gs))))) D) (hs : swapsWith e (some (.Attribute (.Name x pa) f pb)) pc.line X.env = pure false := by rfl) :
   cU X CL b (.Assign [.Attribute (.Name x pa) f pb] e pc :: ez) δ D := bG fun H Z σ ts vs E S M =>
 kH (Mt (fW nm.hi nm.hv nm.hd nm.mS) cI hs) (h H Z σ ts vs _ S fun v H' Z' z S' => by
   obtain ⟨dx, ws, hv, hx, hlen, S2⟩ := S'.setField (f := f) h1
   exact ⟨.ref a, hv, a, CL c, dx, ws, rfl, hx, hc, n, by rw [hlen]; exact hl, M.nx _ σ _ Z' z S2 k⟩)
end
theorem j8 {p : T} {δ : List (Option T)} {ds : List D} : Keeps (some p :: δ) (p :: ds.map T.sh) := fun j y t h => by
 cases j with
 | zero => cases h; rfl
 | succ j =>
   have h' : (ds.map T.sh)[j]? = some (T.pin y t) := h
   rw [ahh] at h'
   cases e : ds[j]? with
   | none => rw [e] at h'; cases h'
   | some d => rw [e] at h'; cases h'
end L3
namespace L2
open PySem PySem.Spec PyProof.Rows
noncomputable def jk {α : Type} (xs : List α) (lo hi st : Option Int) : List α :=
 (sliceRange (sliceBounds lo hi st xs.length).1 (sliceBounds lo hi st xs.length).2.1 (sliceBounds lo hi st xs.length).2.2).filterMap (xs[·]?)
theorem BG (its : List Value) (lo hi st : Option Int) : slicePick its.toArray lo hi st = (jk its lo hi st).toArray := by
 unfold slicePick jk
 simp only [ahf, List.getElem?_toArray] <;> rfl
theorem N1 {α : Type} (f : α -> Value) (xs : List α) (lo hi st : Option Int) : (jk xs lo hi st).length <= xs.length := by
 have h := slicePick_size_le (xs.map f).toArray lo hi st
 rw [BG] at h
 have e : (jk (xs.map f) lo hi st) = (jk xs lo hi st).map f := by
   unfold jk
   rw [agU, List.map_filterMap]
   simp only [ahh]
 rw [e] at h
 simpa using h
theorem Vals.jk {xs : List V} {us : List Value} (r : Vals xs us) (lo hi st : Option Int) : Vals (jk xs lo hi st) (jk us lo hi st) := by
 unfold L2.jk
 rw [r.length]
 generalize sliceRange _ _ _ = l
 induction l with
 | nil => exact .nil
 | cons i l ih =>
   rw [ahH, ahH]
   cases e : xs[i]? with
   | none =>
     have e2 : us[i]? = none := ahV (by
       have := r.length
       have := List.getElem?_eq_none_iff.mp e
       omega)
     rw [e2]
     exact ih
   | some x =>
     obtain ⟨u, e2, ru⟩ := r.get e
     rw [e2]
     exact .cons ru ih
section
variable {X : Cx} {e st : Expr} {lo hi : Option Expr} {te : TE} {tl th tk : TO} {pos p2 : Pos}
theorem Ky (he : PE X e te) (hl : PO X lo tl) (hu : PO X hi th) (hk : PO X (some st) tk) : PE X (.Subscript e (.Slice lo hi (some st) p2) pos) (fun σ H Q => te σ H fun x H1 => tl σ H1 fun l H2 => th σ H2 fun u H3 => tk σ H3 fun k H4 => ∃ a xs, x = .ref a /\ oS X.K H4 a xs /\ k ≠ some 0 /\ ∀ p, H4 p = none -> Q (.ref p) (upd H4 p (.lst (jk xs l u k)))) := by
 intro pins s σ H Q I h
 refine Subscript_ (dF (he pins s σ H _ I h) fun v s1 ⟨x, H1, I1, r1, q1⟩ => ?_)
 refine wpAny_Slice (dF (hl pins s1 σ H1 _ I1 q1) fun vl s2 ⟨l, H2, I2, pl, q2⟩ => dF (hu pins s2 σ H2 _ I2 q2) fun vu s3 ⟨u, H3, I3, pu, q3⟩ => dF (hk pins s3 σ H3 _ I3 q3) fun vk s4 ⟨k, H4, I4, pk, q4⟩ => ?_)
 obtain ⟨a, xs, rfl, hx, hk0, q⟩ := q4
 cases r1
 have I5 : Inv X pins σ H4 { s4 with heap := s4.heap.push { cls := .type "slice", data := .fields #[vl, vu, vk] } } := I4.kept (t' := s4.toks) fun b ob q => ag8 _ q
 obtain ⟨its, r, ht, hz⟩ := I5.list hx
 have hlen := r.length
 show wpAny (model X.prog X.w) X.A (subscriptTail e (.Slice lo hi (some st) p2) (.ref a) (.ref s4.heap.objs.size)) (EP X pins σ Q) X.xe { s4 with heap := s4.heap.push { cls := .type "slice", data := .fields #[vl, vu, vk] } }
 refine tail_any (ops := [.ref a, .ref s4.heap.objs.size]) ht.isList.typeIs slot_list_getitem.lookup ?_ (by with_unfolding_all rfl)
 refine wpAny_getItem_list_slice ht.isList (Heap.IsSliceOf.new ..) pl pu pk hk0 ?_ (by rw [ahf] <;> omega)
 rw [BG]
 have hc := N1 (fun _ : V => Value.none) xs l u k
 refine ⟨.ref _, _, I5.laid (t' := s4.toks) (o := .lst (jk xs l u k)) (fun b ob q => ag8 _ q) (ag6 _) ?_, rfl, q _ (I5.dg.fresh (ag6 _))⟩
 exact ⟨ahM hc hz, _, 0, r.jk l u k, ahC _ rfl⟩
end
end L2
namespace L3
open PySem PySem.Spec PyProof.Rows L2
theorem N2 {α β : Type} {f : α -> β} {l : List α} {lo hi st : Option Int} : jk (l.map f) lo hi st = (jk l lo hi st).map f := by
 unfold jk
 rw [agU, List.map_filterMap]
 simp only [ahh]
section
variable {X : Cx} {CL : Str -> Addr} {b : Bx} {δ δ1 δ2 δ3 δ4 : List (Option T)} {e st : Expr} {lo hi : Option Expr} {l u k : Option Int} {ds : List L3.D} {pos p2 : Pos}
theorem aH.jk {K : PySem.W.Frag} {Z : Hp} {ds : List L3.D} {us : List V} (r : aH K CL Z ds us) (lo hi st : Option Int) : aH K CL Z (jk ds lo hi st) (jk us lo hi st) := by
 unfold L2.jk
 rw [r.length]
 generalize sliceRange _ _ _ = l
 induction l with
 | nil => exact .nil
 | cons i l ih =>
   rw [ahH, ahH]
   cases e : ds[i]? with
   | none =>
     have e2 : us[i]? = none := ahV (by
       have := r.length
       have := List.getElem?_eq_none_iff.mp e
       omega)
     rw [e2]
     exact ih
   | some x =>
     obtain ⟨u, e2, ru⟩ := r.get e
     rw [e2]
     exact .cons ru ih
theorem Kz (h1 : dH X CL b e δ (.lst ds) δ1) (hi1 : D.bQ ds = true) (h2 : W0 X CL b lo δ1 l δ2) (h3 : W0 X CL b hi δ2 u δ3) (h4 : W0 X CL b (some st) δ3 k δ4) (hk : k ≠ some 0) :
   bV X CL b (.Subscript e (.Slice lo hi (some st) p2) pos) δ (.lst ((jk ds l u k).map T.sh)) δ4 := by
 intro H Z σ ts vs Q S kk
 obtain ⟨t2, po2, w2⟩ := h2
 obtain ⟨t3, po3, w3⟩ := h3
 obtain ⟨t4, po4, w4⟩ := h4
 refine bU (Ky cI po2 po3 po4) (h1 H Z σ ts vs _ S fun v H1 Z1 z1 k1 S1 r => w2 H1 Z1 σ ts vs _ S1 fun H2 Z2 z2 k2 S2 => w3 H2 Z2 σ ts vs _ S2 fun H3 Z3 z3 k3 S3 => w4 H3 Z3 σ ts vs _ S3 fun H4 Z4 z4 k4 S4 => ?_)
 have r := r.mono (k2.trans (k3.trans k4))
 cases r with
 | lst hq rr =>
   refine ⟨_, _, rfl, hq, hk, fun p hp => ?_⟩
   have rc := (aH.mw S4.tp hi1 rr).jk l u k
   obtain ⟨c, S5⟩ := (aU.qB rc S4).lg (g0 := []) (by simp [rc.length]) hp
   exact kk _ _ _ (z1.trans (z2.trans (z3.trans z4))) (k1.trans (k2.trans (k3.trans (k4.trans c)))) S5
end
section
variable {X : Cx} {CL : Str -> Addr} {b : Bx} {δ δ1 δ2 : List (Option T)} {e : Expr} {p : Bool} {pos : Pos} {D : dP} {ez a c : List Stmt}
noncomputable def YX (X : Cx) (CL : Str -> Addr) (b : Bx) (e : Expr) (δ : List (Option T)) (p : Bool) (δ' : List (Option T)) : Prop :=
 ∀ (H Z : Hp) (σ : L2.St) (ts : List T) (vs : List V) (Q : Bool -> Hp -> Prop), aU X.K CL b H Z δ σ ts vs -> (∀ H' Z', aC Z Z' -> aU X.K CL b H' Z' δ' σ ts vs -> Q p H') -> MP X e σ H Q
theorem Xk (h : jj X CL b e δ (.sh (.bl p)) δ1) (he : ∀ whole, isTrue e X.env whole = (do let v ← whole; standAt e.pos; holding [v] (truthy v)) := by intro _; rfl) : YX X CL b e δ p δ1 := fun H Z σ ts vs Q S k =>
 Ay (L1 cI he) (h H Z σ ts vs _ S fun v H1 Z1 z1 S1 => ⟨p, by have := S1.view; rw [T.bS] at this; exact this.sc rfl, k H1 Z1 z1 S1.pop⟩)
theorem Xl (h : YX X CL b e δ p δ1) (h1 : p = true -> cU X CL b a δ1 D) (h2 : p = false -> cU X CL b c δ1 D) : Kc X CL b (.If e a c pos) δ D := fun H Z σ ts vs E S M =>
 kH (U9 Rc LN LN) (h H Z σ ts vs _ S fun H1 Z1 z1 S1 => by
   cases p with
   | true => exact J2 (h1 rfl H1 Z1 σ ts vs E S1 (M.mono z1))
   | false => exact J1 (h2 rfl H1 Z1 σ ts vs E S1 (M.mono z1)))
theorem Vt (h : YX X CL b e δ p δ1) (h1 : p = true -> cU X CL b a δ1 { D with nx := fun δ2 => cU X CL b ez δ2 D }) (h2 : p = false -> cU X CL b c δ1 { D with nx := fun δ2 => cU X CL b ez δ2 D }) : cU X CL b (.If e a c pos :: ez) δ D := bG (Xl h h1 h2)
end
noncomputable def Xm {α : Type} : Nat -> (List α -> Prop) -> Prop
 | 0, P => P []
 | n + 1, P => ∀ a, Xm n fun r => P (a :: r)
theorem eV {α : Type} {n : Nat} {P : List α -> Prop} (h : Xm n P) : ∀ us : List α, us.length = n -> P us := by
 intro us hl
 induction us generalizing n P with
 | nil => subst hl; exact h
 | cons a r ih => subst hl; exact ih (P := fun r => P (a :: r)) (h a) rfl
noncomputable abbrev um (K : PySem.W.Frag) (x : Str) (f : Addr) : Prop := PySem.W.nsIn K mainGlobals x = some (some (.ref f))
theorem Xn (P : Program) (w : World) (mg : Str -> Option Value) (base : Heap) {K : PySem.W.Frag} {h : Heap} (CL : Str -> Addr) (XX : K.In h) (G : h.Ns mainGlobals mg) {x qual : Str} {st : Stmt} {f : Addr} {fd : FuncData} {N ps : List Str} (k : Nat) {A : Type} (arg : A -> List D) (Pre : A -> Prop) (res : A -> T) (F : mV K x qual st f fd) (S : aS N ps (ao st)) (m : um K x f)
   (hb : ∀ (gO : Value) (Ar : Around) (outer : List Env) (s : Shared) (H : Hp) (E : XK) (b : Bx) (a : A), dG k (Ar.deeper (envOfC qual (ao st) s.heap.objs.size f gO)) -> cW (yk kU P w K mg base N qual (ao st) f gO Ar outer s H E).QL -> Pre a →
     cU (yk kU P w K mg base N qual (ao st) f gO Ar outer s H E).QL CL b (cB st) (entry N (arg a)) { nx := fun _ => res a = .sh .non, rt := fun t _ => t = res a })
   (q : ∀ (kV doc pm : Value) (an : Option Addr) (gO ct : Value), Xm ps.length fun us => bindArgs (W.fnOf x qual (t9 st) (cB st) (ao st) Value.none kV doc pm an gO ct) { pos := us } = pure (ps.zip us) := by (repeat intro _); rfl) :
   ∃ f fd ps', cQ P w K mg base kU (k + 1) f fd ps' (Az K CL ps.length arg Pre res) /\ mg x = some (.ref f) /\ PySem.W.keepIn K (.ref f) = true /\ Binds K fd ps' [] := ⟨f, fd, ps, mE F S fun a b c d e f g h r p => hb a b c d e f g h r ⟨⟨S.nd, rfl, .never⟩, r.units⟩ p, ahL XX G m, F.kp, F.binds fun a b c d e f => eV (q a b c d e f)⟩
section
variable {X : Cx} {CL : Str -> Addr} {b : Bx} {δ δ1 δ2 : List (Option T)} {e e1 e2 : Expr} {es : List Expr} {t : T} {d d1 d2 : L3.D} {tl : List T} {ds : List L3.D} {pos pp : Pos}
noncomputable def Xo (X : Cx) (CL : Str -> Addr) (b : Bx) (es : List Expr) (δ : List (Option T)) (tl : List T) (δ' : List (Option T)) : Prop :=
 ∀ (H Z : Hp) (σ : L2.St) (ts : List T) (vs : List V) (Q : List V -> Hp -> Prop), aU X.K CL b H Z δ σ ts vs →
   (∀ us H' Z', us.length = tl.length -> aC Z Z' -> aU X.K CL b H' Z' δ' σ (tl.reverse ++ ts) (us.reverse ++ vs) -> Q us H') -> J8 X es σ H Q
theorem Ec.m (h : Ec X CL b es δ tl δ1) : Xo X CL b es δ tl δ1 := fun H Z σ ts vs Q S k => h H Z σ ts vs Q S fun v H' Z' l z _ S' => k v H' Z' l z S'
theorem jH : Xo X CL b [] δ [] δ := bF.m
theorem bC (h1 : jj X CL b e δ t δ1) (h2 : Xo X CL b es δ1 tl δ2) (hs : starEach (e :: es) X.env = (false, eval e X.env) :: starEach es X.env := by exact aP rfl) : Xo X CL b (e :: es) δ (t :: tl) δ2 := fun H Z σ ts vs Q S k =>
 Cb (bD cI Bs hs) (h1 H Z σ ts vs _ S fun v H1 Z1 z1 S1 => h2 H1 Z1 σ _ _ _ S1 fun us H2 Z2 hl z2 S2 => k (v :: us) H2 Z2 (by simp [hl]) (z1.trans z2) (by
   rw [ahD, ahD, agT, agT]
   exact S2))
theorem Cy {op : Operator} {r : R2} {w1 w2 w : V} (ho : u6 X (binaryOp op) r) (h1 : jj X CL b e1 δ (.sh d1) δ1) (h2 : jj X CL b e2 δ1 (.sh d2) δ2) (s1 : Qs d1 = some w1) (s2 : Qs d2 = some w2) (s3 : Qs d = some w)
   (hr : ∀ (H : Hp) (Q : VK), Q w H -> r w1 w2 H Q) : jj X CL b (.BinOp e1 op e2 pos) δ (.sh d) δ2 := fun H Z σ ts vs Q S k => by
 refine bU (Hv ho cI cI) (h1 H Z σ ts vs _ S fun v1 H1 Z1 z1 S1 => h2 H1 Z1 σ _ _ _ S1 fun v2 H2 Z2 z2 S2 => ?_)
 have r2 := S2.view
 have r1 := S2.pop.view
 rw [T.bS] at r1 r2
 rw [r1.sc s1, r2.sc s2]
 exact hr H2 Q (k w H2 Z2 (z1.trans z2) (S2.pop.pop.push (HV s3)))
theorem Cz {i j : Int} (h1 : jj X CL b e1 δ (.sh (.int i)) δ1) (h2 : jj X CL b e2 δ1 (.sh (.int j)) δ2) : jj X CL b (.BinOp e1 .Add e2 pos) δ (.sh (.int (i + j))) δ2 := Cy Mj h1 h2 rfl rfl rfl fun _ _ q => ⟨i, j, rfl, rfl, q⟩
theorem CB {i j : Int} (h1 : jj X CL b e1 δ (.sh (.int i)) δ1) (h2 : jj X CL b e2 δ1 (.sh (.int j)) δ2) : jj X CL b (.BinOp e1 .Sub e2 pos) δ (.sh (.int (i - j))) δ2 := Cy Ml h1 h2 rfl rfl rfl fun _ _ q => ⟨i, j, rfl, rfl, q⟩
theorem N3 {x y : Str} (h1 : jj X CL b e1 δ (.sh (.str x)) δ1) (h2 : jj X CL b e2 δ1 (.sh (.str y)) δ2) (c : x.length + y.length <= sizeLine) : jj X CL b (.BinOp e1 .Add e2 pos) δ (.sh (.str (x ++ y))) δ2 := Cy yi h1 h2 rfl rfl rfl fun _ _ q => ⟨x, y, rfl, rfl, c, q⟩
theorem Ip (h : jj X CL b e δ t δ1) : jj X CL b e δ (.sh t.bS) δ1 := fun H Z σ ts vs Q S k => h H Z σ ts vs Q S fun v H1 Z1 z1 S1 => by
 obtain ⟨Z2, z2, S2⟩ := S1.Cd
 exact k v H1 Z2 (z1.trans z2) S2
theorem R6 {j : Nat} (h : Xo X CL b es δ tl δ1) (hl : tl.length <= sizeLine) : jj X CL b (.Tuple es j pos) δ (.tup tl) δ1 := fun H Z σ ts vs Q S k =>
 bU (Mu Bs) (h H Z σ ts vs _ S fun us H1 Z1 hu z1 S1 => ⟨by rw [hu]; exact hl, fun p hp => by
   obtain ⟨a, c, S2⟩ := S1.Ci hu hp
   exact k _ _ _ (z1.trans a) S2⟩)
theorem iF {j : Nat} (h : Xo X CL b es δ (ds.map T.sh) δ1) (hl : ds.length <= sizeLine) : jj X CL b (.Tuple es j pos) δ (.sh (.tup ds)) δ1 := by
 have := Ip (R6 (pos := pos) (j := j) h (by simpa using hl))
 rwa [T.bS, iB] at this
theorem R7 (h : Xo X CL b es δ tl δ1) (hl : tl.length <= sizeLine) : jj X CL b (.List es pos) δ (.lst tl) δ1 := fun H Z σ ts vs Q S k =>
 bU (Mv Bs) (h H Z σ ts vs _ S fun us H1 Z1 hu z1 S1 => ⟨by rw [hu]; exact hl, fun p hp => by
   obtain ⟨c, S2⟩ := S1.lg (g0 := []) hu hp
   exact k _ _ _ z1 S2⟩)
theorem N4 (h : jj X CL b e δ t δ1) (q : t.bS = d) : jj X CL b e δ (.sh d) δ1 := q ▸ Ip h
theorem CD {k : Int} (h1 : jj X CL b e1 δ (.sh (.lst ds)) δ1) (h2 : jj X CL b e2 δ1 (.sh (.int k)) δ2) (hk : An ds k = some d) (hs : oU e2 := by exact fun _ _ => rfl) : jj X CL b (.Subscript e1 e2 pos) δ (.sh d) δ2 := fun H Z σ ts vs Q S kk =>
 bU (yo xx cI cI hs) (h1 H Z σ ts vs _ S fun v1 H1 Z1 z1 S1 => h2 H1 Z1 σ _ _ _ S1 fun v2 H2 Z2 z2 S2 => by
   have r2 := S2.view
   rw [T.bS] at r2
   obtain ⟨fp, gp, _, r, _, _⟩ := S2.pop.rep
   cases r with
   | cons r _ =>
     cases r with
     | sh r =>
       cases r with
       | lst hq rr =>
         obtain ⟨v, hv, rv⟩ := uf rr hk
         exact ⟨_, _, k, v, rfl, r2.sc rfl, S2.zh.seq hq, hv, kk v H2 Z2 (z1.trans z2) (S2.pop.pop.push rv)⟩)
theorem N5 {i : Int} (hm : X.mg "str" = none) (hg : Gl X "str") (h : jj X CL b e δ (.sh (.int i)) δ1) (hi : i.natAbs.log2 < 1920) (hs : starEach [e] X.env = (false, eval e X.env) :: starEach [] X.env := by exact aP rfl) :
   jj X CL b (.Call (.Name "str" pp) [e] [] pos) δ (.sh (.str (toString i))) δ1 := fun H Z σ ts vs Q S k =>
 bU (iu t6 hg hm boot_str (bD cI c6 hs) (he := hs)) (h H Z σ ts vs _ S fun v H1 Z1 z1 S1 => by
   have r := S1.view
   rw [T.bS] at r
   rw [r.sc rfl]
   exact ⟨i, rfl, hi, k _ H1 Z1 z1 (S1.pop.push (.str _))⟩)
theorem KC {A : Type} {k n i : Nat} {x : Str} {y : Addr} {al : List Addr -> List T} {arg : A -> List T} {Pre : A -> Prop} {res : A -> T} {out : A -> List T} (a : A) (nt : T) (F : BD X CL x k n arg Pre res out) (hg : Gl X x) (h : Ik X CL b (e :: es) δ [i] (fun ys => ys.headD 0 = y /\ True) al δ1) (hp : Pre a) (yJ : res a = t) (Cv : lB (out a) [y] [nt])
   (wO : arg a = al [y] := by rfl) (hlen : (arg a).length = n := by rfl) (Ao : i < δ1.length := by exact agZ rfl)
   (nI : (x == ("__debug__" : Str)) = false := by decide) (he : starEach (e :: es) X.env = (false, eval e X.env) :: starEach es X.env := by exact aP rfl) (hpl : (backTo pos (starEach es X.env)).any (·.1) = false := by rfl) :
   jj X CL b (.Call (.Name x pp) (e :: es) [] pos) δ t (δ1.set i (some nt)) :=
 Il (fun _ => a) nt F hg h (fun _ _ => hp) (fun _ _ => yJ) (fun z hz => (show z = y from hz.1) ▸ Cv) (fun z hz => (show z = y from hz.1) ▸ wO) (fun _ => hlen) Ao nI he hpl
theorem Iq {i : Nat} {x : Str} {pos' pr pc : Pos} {n : Int} {D : dP} {body ez : List Stmt} (g : Gx X) (nm : Ln X i x) (P : Nat -> List (Option T) -> Prop) (hm : X.mg "range" = none) (hg : Gl X "range") (h : jj X CL b e δ (.sh (.int n)) δ1) (hn : -(2 ^ 62) <= n /\ n < 2 ^ 62) (h0 : P 0 δ1) (hl : ∀ j δ, P j δ -> i < δ.length)
   (hs : ∀ (j : Nat) δ, j < n.toNat -> P j δ -> cU X CL b body (δ.set i (some (.sh (.int j)))) { nx := P (j + 1), rt := D.rt, bk := fun δ2 => cU X CL b ez δ2 D, ct := P (j + 1) }) (hd : ∀ δ, P n.toNat δ -> cU X CL b ez δ D)
   (Bh : starEach [e] X.env = [(false, eval e X.env)] := by rfl) (M5 : starEach [e] X.env = (false, eval e X.env) :: starEach [] X.env := by exact aP rfl)
   (hq : ∀ x, foldedSetIterable (.Call (.Name "range" pr) [e] [] pc) X.env x = pure x := by intro _; rfl) :
   cU X CL b (.For (.Name x pos') (.Call (.Name "range" pr) [e] [] pc) body [] pos :: ez) δ D := bG fun H Z σ ts vs E S M =>
 kH (Fy g.xe g.calm (vf hg hm (bD cI c6 M5) Bh) (rC g.nd nm.hi nm.loc nm.hf) LN hq) (h H Z σ ts vs _ S fun v H1 Z1 z1 S1 => by
   have r := S1.view
   rw [T.bS] at r
   refine ⟨n, by rw [r.sc rfl], hn.1, hn.2, JN (lo := 0) (n := n.toNat) (fun j σ H2 => ∃ Z2 δ2, aC Z1 Z2 /\ aU X.K CL b H2 Z2 δ2 σ ts vs /\ P j δ2) ⟨Z1, δ1, .refl _, S1.pop, h0⟩ ?_ ?_⟩
   . rintro j σ H2 hj ⟨Z2, δ2, s, S2, p2⟩
     rw [aiz]
     have S3 := (S2.push (.int (j : Int))).set (hl j δ2 p2)
     refine hs j δ2 hj p2 H2 Z2 _ ts vs _ S3 ⟨fun δ' σ' H' Z' s' S' k => ⟨Z', δ', s.trans s', S', k⟩, fun t v H' Z' δ' σ' s' S' k => M.rt t v H' Z' δ' σ' (z1.trans (s.trans s')) S' k, fun δ' σ' H' Z' s' S' k => M.nx δ' σ' H' Z' (z1.trans (s.trans s')) S' k, fun δ' σ' H' Z' s' S' k => ⟨Z', δ', s.trans s', S', k⟩⟩
   . rintro σ H2 ⟨Z2, δ2, s, S2, p2⟩
     exact M.nx δ2 σ H2 Z2 (z1.trans s) S2 (hd δ2 p2))
end
noncomputable def AG (δ : List (Option T)) (ix : List Nat) (i : Nat) (t : T) : List (Option T) := ix.map fun k => if k = i then some t else WO δ[k]?
section
variable {K : PySem.W.Frag} {CL : Str -> Addr} {b : Bx} {H H' Z Z' : Hp} {δ : List (Option T)} {σ : L2.St} {ts tl : List T} {vs : List V} {t : T} {v : V} {i : Nat} {fp : List Addr} {d : D}
theorem N6 {ix : List Nat} (h : i ∉ ix) : AG δ ix i t = yw δ ix := ain fun k hk => ag2 fun (e : k = i) => h (e ▸ hk)
theorem R8 {o : Option (Option T)} {w : Option V} {r : List (Option T)} {σ' : L2.St} (S : aU K CL b H Z δ σ ts vs) (zz : aC Z Z') (k : Nat) (ih : cH K CL H' Z' r σ' fp) : cH K CL H' Z' (WO δ[k]? :: r) ((σ[k]?).getD none :: σ') fp := by
 cases e : δ[k]? with
 | none => exact .skip ih
 | some o =>
   cases o with
   | none => exact .skip ih
   | some t =>
     cases t with
     | sh d =>
       obtain ⟨v, hv, rv⟩ := S.HR e
       rw [hv]
       exact cH.cons (fp := []) (.sh (rv.mono zz)) ih
     | _ => exact .skip ih
theorem Ez (S : aU K CL b H Z δ σ ts vs) (zz : aC Z Z') (hv : σ[i]? = some (some v)) (rt : bu K CL H' Z' t v fp) : ∀ {ix : List Nat}, i ∈ ix -> ix.Nodup -> cH K CL H' Z' (AG δ ix i t) (ix.map fun k => (σ[k]?).getD none) fp
 | [], h, _ => absurd h ahb
 | k :: r, h, nd => by
   have nd := ahE.mp nd
   show cH K CL H' Z' ((if k = i then some t else WO δ[k]?) :: AG δ r i t) (((σ[k]?).getD none) :: r.map fun k => (σ[k]?).getD none) fp
   by_cases e : k = i
   . subst e
     rw [ag9 rfl, hv, N6 nd.1]
     have q : cH K CL H' Z' (yw δ r) (r.map fun k => (σ[k]?).getD none) [] := (yx S r H').mono zz fun a ha => absurd ha ahb
     have := cH.cons (δ := yw δ r) rt q
     rwa [ag3] at this
   . rw [ag2 e]
     exact R8 (o := none) (w := none) S zz k (Ez S zz hv rt ((ag4.mp h).resolve_left fun z => e z.symm) nd.2)
theorem yM (hv : σ[i]? = some (some v)) : ∀ {ix : List Nat} {fp : List Addr}, i ∈ ix -> cH K CL H Z (AG δ ix i t) (ix.map fun k => (σ[k]?).getD none) fp -> ∃ f3, bu K CL H Z t v f3 /\ f3.Sublist fp
 | [], _, h, _ => absurd h ahb
 | k :: r, fp, h, q => by
   have q : cH K CL H Z ((if k = i then some t else WO δ[k]?) :: AG δ r i t) (((σ[k]?).getD none) :: r.map fun k => (σ[k]?).getD none) fp := q
   by_cases e : k = i
   . subst e
     rw [ag9 rfl, hv] at q
     cases q with
     | cons rt _ => exact ⟨_, rt, List.sublist_append_left _ _⟩
   . rw [ag2 e] at q
     have hm := (ag4.mp h).resolve_left fun z => e z.symm
     generalize WO δ[k]? = o at q
     generalize (σ[k]?).getD none = w at q
     cases q with
     | skip q => exact yM hv hm q
     | cons _ q2 =>
       obtain ⟨f3, h1, h2⟩ := yM hv hm q2
       exact ⟨f3, h1, h2.trans (ahI _ _)⟩
theorem aU.Xp {D : Addr} (S : aU K CL b H Z δ σ (.sh d :: .lst tl :: ts) (v :: .ref D :: vs)) : ∃ us, H D = some (.lst us) /\ us.length = tl.length /\ aU K CL b (upd H D (.lst (us ++ [v]))) Z δ σ (.lst (tl ++ [.sh d]) :: ts) (.ref D :: vs) := by
 obtain ⟨fp, gp, e, r, nd, k⟩ := S.rep
 cases r with
 | cons r1 r2 =>
   cases r1 with
   | sh rd =>
     cases r2 with
     | cons r2 r3 =>
       cases r2 with
       | @lst a us _ g ha rs =>
         rename_i gr
         rw [aic] at nd k
         have pm : (fp ++ ((D :: g) ++ gr)).Perm (D :: (fp ++ (g ++ gr))) := by
           rw [ahi]
           exact ahX
         have ne : ∀ c ∈ fp ++ (g ++ gr), c ≠ D := fun c hc z => by
           subst z
           exact (ahE.mp (pm.nodup_iff.mp nd)).1 hc
         refine ⟨us, ha, rs.length.symm, S.Cq rfl k (by simp) (e.mono (.refl _) fun c hc => aq (ne c (by simp [hc]))) (.cons (.lst aI (aE.app (rs.mono (.refl _) fun c hc => aq (ne c (by simp [hc]))) (.cons (.sh rd) .nil))) (r3.mono (.refl _) fun c hc => aq (ne c (by simp [hc])))) ?_ fun c hc => ?_⟩
         . simpa using nd
         . simpa using hc
end
section
variable {X : Cx} {CL : Str -> Addr} {b : Bx} {δ δ1 : List (Option T)} {scope : Scope} {x : Str} {Nc : List Str} {ix : List Nat} {elt e : Expr} {px pr pc pos : Pos} {i n : Nat} {y : Addr}
theorem KD (t : Nat -> T) (gv : Nat -> L3.D) (sc : gj X scope x Nc ix) (hc : X.calm = true) (hm : X.mg "range" = none) (hg : Gl X "range") (h : jj X CL b e δ (.sh (.int n)) δ1) (hn : n <= 1000) (hi : δ1[i]? = some (some (.pin y (t 0)))) (YV : i ∈ ix) (M7 : ix.Nodup)
   (inner : ∀ C s0 H0 f0 b' (j : Nat), j < n -> jj (bP X scope Nc C s0 H0 f0) CL b' elt (some (.sh (.int j)) :: AG δ1 ix i (.pin y (t j))) (.sh (gv j)) (some (.sh (.int j)) :: AG δ1 ix i (.pin y (t (j + 1)))))
   (Bh : starEach [e] X.env = [(false, eval e X.env)] := by rfl) (M5 : starEach [e] X.env = (false, eval e X.env) :: starEach [] X.env := by exact aP rfl)
   (hs : ∀ x, foldedSetIterable (.Call (.Name "range" pr) [e] [] pc) X.env x = pure x := by intro _; rfl) :
   jj X CL b (.ListComp elt [⟨.Name x px, .Call (.Name "range" pr) [e] [] pc, [], 0⟩] scope pos) δ (.lst ((List.range n).map fun j => T.sh (gv j))) (δ1.set i (some (.pin y (t n)))) := fun H Z σ ts vs Q S k pins s I => by
 rw [eval_ListComp]
 refine aiM (use := none) rfl hs (F4 sc I) sc.kind sc.names ?_
 refine dF ((vf (tg := .Name x px) hg hm (bD cI c6 M5) Bh) pins s σ H (fun J H1 => J = V5 0 n /\ ∃ Z1, aC Z Z1 /\ aU X.K CL b H1 Z1 δ1 σ ts vs) I (h H Z σ ts vs _ S fun v H1 Z1 z1 S1 => ?_)) fun v s1 h1 => dF h1 fun Zn s2 zz => ?_
 . have r := S1.view
   rw [T.bS] at r
   exact ⟨n, by rw [r.sc rfl], by omega, by omega, by rw [ah6], Z1, z1, S1.pop⟩
 obtain ⟨it, fp, tn, J, H1, e0, I1, Tn, st, hf, rfl, Z1, z1, S1⟩ := zz
 subst e0
 have Ao : i < δ1.length := by
   rcases Nat.lt_or_ge i δ1.length with h | h
   . exact h
   . rw [ahV h] at hi; cases hi
 refine Kf (G := fun D H' => ∃ Z', aC Z1 Z' /\ aU X.K CL b H' Z' (δ1.set i (some (.pin y (t n)))) σ (.lst ((List.range n).map fun j => T.sh (gv j)) :: ts) (.ref D :: vs)) (RR := fun acc C => compPost (model X.prog X.w) X.A X.xe none (EP X pins σ Q) acc C) sc hc I1 Tn st hf (fun D hD => ?_) fun D C' s' H' m io nC ch ci ⟨Z', z', S'⟩ => ?_
 . refine ⟨fun j m H2 => m = n - j /\ j <= n /\ ∃ Z2, aC Z1 Z2 /\ aU X.K CL b H2 Z2 (δ1.set i (some (.pin y (t j)))) σ (.lst ((List.range j).map fun j => T.sh (gv j)) :: ts) (.ref D :: vs), ⟨n, rfl, ahs _, Z1, .refl _, ?_⟩, ?_⟩
   . rw [d8 hi]
     exact (aU.lg (tl := []) (us := []) (g0 := []) S1 rfl hD).2
   rintro j m H2 ⟨rfl, hj, Z2, z2, S2⟩
   by_cases qi : j < n
   . refine .inr ⟨qi, fun H' => ∃ Z2, aC Z1 Z2 /\ aU X.K CL b H' Z2 (δ1.set i (some (.pin y (t (j + 1))))) σ (.lst ((List.range (j + 1)).map fun j => T.sh (gv j)) :: ts) (.ref D :: vs), fun H' h => ⟨n - (j + 1), by omega, rfl, qi, h⟩, fun xv H3 yy C s0 H0 f0 => ?_⟩
     obtain ⟨rfl, rfl⟩ := yy
     unfold M0
     dsimp only
     rw [ag9 rfl]
     obtain ⟨v0, ev, Sm⟩ := S2.move (aiu Ao)
     have hv0 : v0 = .ref y := by
       obtain ⟨_, _, _, r, _, _⟩ := Sm.rep
       cases r with
       | cons r _ => cases r; rfl
     subst hv0
     rw [List.set_set] at Sm
     obtain ⟨gp, r, nd, Sc⟩ := aU.cut (tl := [.pin y (t j)]) (us := [.ref y]) Sm rfl
     have ads : ∀ u : T, AG (δ1.set i (some (.pin y (t j)))) ix i u = AG δ1 ix i u := fun u => ain fun q _ => by
       by_cases e : q = i
       . rw [ag9 e, ag9 e]
       . rw [ag2 e, ag2 e, List.getElem?_set_ne fun z => e z.symm]
     obtain ⟨g1, r1, hg1⟩ : ∃ g1, bu X.K CL H3 Z2 (.pin y (t j)) (.ref y) g1 /\ gp = g1 := by
       cases r with
       | cons r1 r2 =>
         cases r2
         exact ⟨_, r1, by rw [ag3]⟩
     subst hg1
     have zn : ∀ c ∈ gp, Z2 c = none := fun c hc => by
       cases q : Z2 c with
       | none => rfl
       | some o => exact absurd hc (jw (Sc.zh c o q)).1
     have aaB := Ez (ix := ix) S2 (.refl _) ev r1 YV M7
     rw [ads] at aaB
     have S0 : aU X.K CL ⟨qq H3 gp, Z2⟩ H3 Z2 (some (.sh (.int (j : Int))) :: AG δ1 ix i (.pin y (t j))) (lz σ ix (some (.int (0 + (j : Int))))) [] [] :=
       ⟨⟨[] ++ gp, [], .cons (by rw [aiz]; exact .sh (.int _)) aaB, .nil, by rw [ag3]; exact nd, fun c hc => by
         have hc : c ∈ gp := by simpa using hc
         exact ⟨zn c hc, pF hc⟩⟩, fun c o q => (jw q).2, .refl _, S2.zh, fun c o q z => (by have z' : Z2 c = none := z; rw [show Z2 c = some o from q] at z'; cases z'), S2.tp, S2.FU⟩
     refine inner C s0 H0 f0 ⟨qq H3 gp, Z2⟩ j qi H3 Z2 _ [] [] _ S0 fun yv H5 Z5 z5 S5 => ?_
     obtain ⟨f1, g5, e1, r5, nd5, adt⟩ := S5.rep
     cases r5 with
     | cons ry rn =>
       cases rn
       cases ry with
       | sh ry =>
         cases e1 with
         | @cons _ _ _ _ f0 f2 rk e2 =>
           obtain ⟨f3, rp, sb⟩ := yM ev YV e2
           have nf : f2.Nodup := by
             have := (aht.mp nd5).1
             exact (aht.mp this).2.1
           have S6 := Sc.Nr (H' := H5) (W' := Z5) (tl := [.pin y (t (j + 1)), .sh (gv j)]) (us := [.ref y, yv]) (fp := f3 ++ ([] ++ [])) S5.bh z5 S5.zh S5.new S5.tp (.cons rp (.cons (.sh ry) .nil)) (by simpa using nf.sublist sb) (fun c hc => by
             have hc : c ∈ f3 := by simpa using hc
             exact adt c (agX _ (agS _ (sb.subset hc))))
           have S7 := aU.set (i := i) S6 (by rw [List.length_set]; exact Ao)
           rw [d8 ev, List.set_set] at S7
           obtain ⟨us, hus, hul, S8⟩ := aU.Xp S7
           refine ⟨us, hus, ?_, Z5, z2.trans z5, ?_⟩
           . rw [hul, agU, ahP]
             have := ahS
             exact ahx (show j < 1000 by omega) (by rw [ahS]; decide)
           . rw [ait, ag1]
             exact S8
   . have ej : j = n := by omega
     subst ej
     exact .inl ⟨ag6 _, Z2, z2, S2⟩
 . obtain ⟨m, hn'⟩ := m
   exact ⟨m, hn', fun h' Rn => ⟨.ref D, H', ci h' Rn, rfl, k _ H' Z' (z1.trans z') S'⟩⟩
end
section
variable {X : Cx} {CL : Str -> Addr} {b : Bx} {δ δ1 δ2 : List (Option T)} {e1 e2 : Expr} {pos : Pos} {x : Str}
theorem N7 {scope : Scope} {Nc : List Str} {C : Addr} {s : Shared} {H : Hp} {fp : List Addr} {k n : Nat} {A : Type} {arg out : A -> List T} {Pre : A -> Prop} {res : A -> T} (F : BD X CL x k n arg Pre res out) : BD (bP X scope Nc C s H fp) CL x k n arg Pre res out := ⟨F.ex, F.room⟩
theorem R9 {i j : Int} (h1 : jj X CL b e1 δ (.sh (.int i)) δ1) (h2 : dH X CL b e2 δ1 (.int j) δ2) : YX X CL b (.Compare e1 [.Eq] [e2] pos) δ (decide (i = j)) δ2 := fun H Z σ ts vs Q S k =>
 Ay (tZ Mp cI cI (k7 _)) (h1 H Z σ ts vs _ S fun v1 H1 Z1 z1 S1 => h2 H1 Z1 σ _ _ _ S1 fun v2 H2 Z2 z2 s2 S2 r2 => by
   have r1 := S2.view
   rw [T.bS] at r1
   rw [r1.sc rfl, r2.sc rfl]
   exact ⟨rfl, _, rfl, by rw [show decide (V.int i = V.int j) = decide (i = j) by simp]; exact k H2 Z2 (z1.trans z2) S2.pop⟩)
end
section
variable {X : Cx} {CL : Str -> Addr} {b : Bx} {δ δ1 δ2 : List (Option T)} {e e2 : Expr} {t t0 : T} {tl Qt : List T} {ds : List L3.D} {pos pp pa pb p2 : Pos} {i : Nat} {x : Str} {ez : List Stmt} {DD : dP}
theorem lE {t2 : T} (h : jj X CL b e δ t δ1) (q : t = t2) : jj X CL b e δ t2 δ1 := q ▸ h
theorem N8 (hm : X.mg "tuple" = none) (h : jj X CL b e δ (.lst (ds.map T.sh)) δ1) (hi : D.bQ ds = true) (hg : Gl X "tuple") (hs : starEach [e] X.env = (false, eval e X.env) :: starEach [] X.env := by exact aP rfl) : jj X CL b (.Call (.Name "tuple" pp) [e] [] pos) δ (.sh (.tup ds)) δ1 := fun H Z σ ts vs Q S k =>
 bU (iu mU hg hm qD (bD cI c6 hs) (he := hs)) (h H Z σ ts vs _ S fun v H1 Z1 z1 S0 => by
   have r := S0.view
   rw [T.bS, iB] at r
   have S1 := S0.pop
   cases r with
   | lst hq rr =>
     refine ⟨_, _, rfl, .inl ⟨hq, fun l hl => ?_⟩⟩
     obtain ⟨a, c, S2⟩ := (aU.qB (aH.mw S1.tp hi rr) S1).Ci (by simp [rr.length]) hl
     obtain ⟨Z3, z3, S3⟩ := S2.Cd
     rw [T.bS, iB] at S3
     exact k _ _ Z3 (z1.trans (a.trans z3)) S3)
theorem Gg (n : Vn X i x) (h0 : δ[i]? = some (some (.lst Qt))) (h : jj X CL b e δ t δ1) (h1 : δ1[i]? = some (some (.lst tl))) (hl : tl.length <= 1000000) (k : cU X CL b ez (δ1.set i (some (.lst (tl ++ [t])))) DD)
   (iz : attributeBase (.Name x pp) "append" X.env (eval (.Name x pp) X.env) = eval (.Name x pp) X.env := by rfl)
   (oW : ((backTo pb (starEach [e] X.env)).all (fun x => !x.1) && (backToKw pb (keywordEach [] X.env)).all (fun x => x.1.isSome) && decide ([e].length + ([] : List Keyword).length + (if ([] : List Keyword).isEmpty then 0 else 1) < 30)) = true := by rfl)
   (hline : (pa.endLine == pb.line) = true := by rfl) (hs : starEach [e] X.env = (false, eval e X.env) :: starEach [] X.env := by exact aP rfl) (AA : swapsWith (.Call (.Attribute (.Name x pp) "append" pa) [e] [] pb) none pos.line X.env = pure false := by rfl) :
   cU X CL b (.Expr (.Call (.Attribute (.Name x pp) "append" pa) [e] [] pb) pos :: ez) δ DD := bG fun H Z σ ts vs E S M =>
 kH (rB (Bp ah0 aiK aiL nK (fW n.hi n.hv n.hd n.mS) (bD cI c6 hs) iz oW hline hs rfl) AA) (by
   obtain ⟨v0, e0, r0⟩ := S.look h0
   refine ⟨v0, e0, ?_, ?_⟩
   . rw [T.bS] at r0
     cases r0 with
     | lst hq _ => exact .inl ⟨rfl, _, hq⟩
   . refine h H Z σ ts vs _ S fun v H1 Z1 z1 S1 => ?_
     obtain ⟨a, us, ea, ha, hu, S2⟩ := S1.append h1
     rw [e0] at ea
     cases ea
     exact ⟨a, us, v, rfl, rfl, ha, by rw [hu]; exact ahW hl (by rw [ahS]; decide), M.nx _ σ _ Z1 z1 S2 k⟩)
theorem KG {h : Int} (h1 : bV X CL b e δ (.sh (.lst ds)) δ1) (hi1 : D.bQ ds = true) (h3 : jj X CL b e2 δ1 (.sh (.int h)) δ2) : jj X CL b (.Subscript e (.Slice none (some e2) none p2) pos) δ (.lst ((cutD ds none (some h)).map T.sh)) δ2 := fun H Z σ ts vs Q S k => by
 refine bU (D6 HG cI HC (HD cI)) (h1 H Z σ ts vs _ S fun v H1 Z1 z1 k1 S1 => h3 H1 Z1 σ _ _ _ S1 fun v2 H2 Z2 z2 S2 => ?_)
 have r2 := S2.view
 rw [T.bS] at r2
 refine ⟨h, r2.sc rfl, ?_⟩
 have r := S2.pop.view
 rw [T.bS] at r
 have S3 := S2.pop.pop
 cases r with
 | lst hq rr =>
   refine ⟨_, _, rfl, hq, fun p hp => ?_⟩
   have rc := aH.mw S3.tp (pB fun d hd => gP hi1 d (HZ hd)) (rr.cut none (some h))
   obtain ⟨c, S4⟩ := (aU.qB rc S3).lg (g0 := []) (by simp [rc.length]) hp
   exact k _ _ _ (z1.trans z2) S4
theorem adu {A : Type} {k n i2 : Nat} {x2 : Str} {e1 : Expr} {d d1 : L3.D} {t2 : T} {p3 : Pos} {arg : A -> List T} {Pre : A -> Prop} {res : A -> T} {out : A -> List T} (a : Addr -> A) (F : BD X CL x k n arg Pre res out) (hg : Gl X x) (h : bV X CL b e δ t0 δ1) (ho : t0.isRef = true) (h1 : bV X CL b e1 δ1 (.sh d1) δ1) (n2 : Vn X i2 x2) (Vu : δ1[i2]? = some (some t2)) (hp : ∀ y, Pre (a y)) (yJ : ∀ y, res (a y) = .sh d) (hd : d.mw = true)
   (wO : ∀ y, arg (a y) = [.pin y t0, .sh d1, .sh t2.bS]) (hlen : 3 = n := by rfl)
   (nI : (x == ("__debug__" : Str)) = false := by decide) (he : starEach [e, e1, .Name x2 p3] X.env = (false, eval e X.env) :: starEach [e1, .Name x2 p3] X.env := by exact aP rfl) (he1 : starEach [e1, .Name x2 p3] X.env = (false, eval e1 X.env) :: starEach [.Name x2 p3] X.env := by exact aP rfl) (he2 : starEach [.Name x2 p3] X.env = (false, eval (.Name x2 p3) X.env) :: starEach [] X.env := by exact aP rfl) (hpl : (backTo pos (starEach [e1, .Name x2 p3] X.env)).any (·.1) = false := by rfl) :
   jj X CL b (.Call (.Name x pp) [e, e1, .Name x2 p3] [] pos) δ (.sh d) δ1 := by
 obtain ⟨⟨f, fd, ps, G, m, q, bd⟩, r⟩ := F
 intro H Z σ ts vs Q S kk
 refine bU (B6 G r hg m q bd .nil sG (bD cI (bD cI (bD (fW n2.hi n2.hv n2.hd n2.mS) c6 he2) he1) he) nI he hpl) (h H Z σ ts vs _ S fun v0 H1 Z1 z1 k1 S1 => h1 H1 Z1 σ _ _ _ S1 fun v1 H2 Z2 z2 k2 S2 => ?_)
 obtain ⟨v2, e2, _⟩ := S2.look Vu
 refine ⟨v2, e2, ?_⟩
 have r1 := S2.F9
 obtain ⟨g, rr, nd, S3⟩ := aU.cut (tl := [t0]) (us := [v0]) S2.pop rfl
 obtain ⟨y, ey, rp⟩ : ∃ y, v0 = .ref y /\ bu X.K CL H2 Z2 (.pin y t0) (.ref y) g := by
   cases rr with
   | cons r1 r2 =>
     cases r2
     rw [ag3]
     cases r1 with
     | sh r => cases ho
     | tup r _ => cases ho
     | pin r => cases ho
     | lst r q => exact ⟨_, rfl, .pin (.lst r q)⟩
     | ins r q => exact ⟨_, rfl, .pin (.ins r q)⟩
     | rD r q => exact ⟨_, rfl, .pin (.rD r q)⟩
     | dct r q => exact ⟨_, rfl, .pin (.dct r q)⟩
 subst ey
 have r2 : bq X.K CL (qq H2 g) t2.bS v2 := by
   obtain ⟨fp, gp, e, _, _, _⟩ := S3.rep
   obtain ⟨v', _, f2, _, hv, _, rt, _, _⟩ := e.get Vu
   rw [e2] at hv
   cases hv
   exact rt.bS S3.zh fun _ _ => rfl
 have ra : aE X.K CL H2 (qq H2 g) (arg (a y)) [.ref y, v1, v2] (g ++ ([] ++ ([] ++ []))) := by
   rw [wO]
   exact .cons (rp.mono S3.zh fun _ _ => rfl) (.cons (.sh (r1.mono S3.zh)) (.cons (.sh r2) .nil))
 rw [show g ++ ([] ++ ([] ++ [])) = g by simp] at ra
 have zn : ∀ c ∈ g, Z2 c = none := fun c hc => by
   cases q : Z2 c with
   | none => rfl
   | some o => exact absurd hc (jw (S3.zh c o q)).1
 refine ⟨qq H2 g, a y, g, .refl _, fun c o q im => ?_, ra, nd, by rw [wO]; exact hlen, hp y, S3.FU.mono S3.zh, fun v H' W' fp hh ww wh nw tp rt DY own => ?_⟩
 . refine (gQ fun hc => ?_).trans q
   have := S2.tp c o q im
   rw [zn c hc] at this
   cases this
 . cases rt with
   | @cons _ _ _ _ f1 f2 q1 q2 =>
     rw [yJ] at q1
     obtain ⟨Z', z', S4⟩ := S3.back hh S3.zh ww wh nw tp q1 (aht.mp DY).1 (fun c hc => own c (agX _ hc)) (.inr (by rw [T.clean]; exact hd))
     exact kk v H' Z' (z1.trans (z2.trans z')) S4
end
namespace Dk
section
variable {prog : Program} {w : World} {A : Around} {E : Value -> Shared -> Prop} {s : Shared} {it d : Addr} {i ep : Nat} {es : Array DictEntry} {od : Obj}
theorem N9 {Q : Value -> Shared -> Prop} (hd : (d == sysModules) = false) (ho : s.heap.get? d = some od) (hT : s.TypeIs (.ref d) "dict") (Gh : od.data = .dict es ep)
   (hQ : Q (.ref s.heap.objs.size) { s with heap := s.heap.push { cls := .type "dict_keyiterator", data := .fields #[.ref d, .int 0 0, .int es.size 0, .int ep 0] } }) : wpAny (model prog w) A (pyIter (.ref d)) Q E s := by
 refine wpAny_pyIter_slot hT PySem.F.slot_dict_iter (ail PySem.F.slot_dict_iter hT PySem.F.entry_dict_iter ?_ (PySem.F.args_dict_iter_1 _))
 unfold Builtin.«dict.__iter__» Builtin.Dict.dictSlotNone
 refine agW (agW (wpAny_notOrdered_dict hT (show wpAny _ _ (pure (Value.ref d)) _ _ s from ahe ?_)))
 show wpAny _ _ (Builtin.Dict.showsAll d >>= _) _ _ s
 unfold Builtin.Dict.showsAll
 rw [ag2 (by rw [hd]; exact ag5)]
 exact wpAny_bind (wpAny_pure (wpAny_bind (wpAny_dictEntries ho Gh (wpAny_bind (wpAny_dictEpoch ho Gh (wpAny_bind (wpAny_newObj_type (wpAny_pure ⟨_, rfl, "dict_keyiterator", _, ⟨_, Heap.get?_push_size _ rfl, rfl⟩, PySem.F.slot_dict_keyiterator_next.lookup, by simpa [rawInt] using hQ⟩))))))))
theorem next_item {Q : Option Value -> Shared -> Prop} (hit : s.heap.IsKeyIter it d i es.size ep) (hod : s.heap.get? d = some od) (hdd : od.data = .dict es ep) {e : DictEntry} (hx : es[i]? = some e)
   (hQ : ∀ h', h'.IsKeyIter it d (i + 1) es.size ep -> Heap.SameBut it s.heap h' -> Q (some e.key) { s with heap := h' }) : wpAny (model prog w) A (pyNext (.ref it)) Q E s := by
 obtain ⟨o, ho, hc, hd⟩ := id hit
 have Xq : Builtin.Dict_items.ownsTuple "dict_keyiterator" = false := by decide
 unfold pyNext
 refine agW (aiT (aio (name := Str.ofString "__next__") hit.typeIs ah1 (ail ah1 hit.typeIs PySem.F.entry_dict_keyiterator_next (agW (ahe ?_)) (PySem.F.args_dict_keyiterator_next_1 _))))
 refine agW (agW (agW (ah7 hit.typeIs (ahe (agW (wpAny_fieldsOf ho hd ?_))))))
 simp only [Xq, ais, aiJ]
 show wpAny _ _ (if (Value.ref d == Value.none) = true then _ else _) _ _ s
 rw [ag2 (show ¬ ((Value.ref d == Value.none) = true) from ag5)]
 refine agW (ahe (agW (aih hod hdd ?_)))
 rw [ag2 (by simp)]
 refine agW (ahe (agW (wpAny_dictEpoch hod hdd ?_)))
 rw [ag2 (by simp)]
 refine ahe ?_
 obtain ⟨qi, he⟩ := Array.getElem?_eq_some_iff.mp hx
 simp only [show ¬ ((i : Int) < 0) from by omega, aiJ, ah6, Array.getElem?_eq_getElem qi]
 refine agW (agW (ah7 hit.typeIs (ahe (agW (wpAny_isOneOf_keyiter hit.typeIs ?_)))))
 show wpAny _ _ (setField (.ref it) 1 (rawInt ((i : Int) + 1)) >>= _) _ _ s
 have aaE : (s.heap.update it (Obj.mapFields (·.setIfInBounds 1 (rawInt ((i : Int) + 1))))).IsKeyIter it d (i + 1) es.size ep :=
   ⟨_, aix _ ho (Obj.isFreed_of_fields (ah9 hd _)), (Obj.cls_mapFields ..).trans hc, by rw [ah9 hd]; simp [rawInt]⟩
 refine agW (aiO ho hd (by simp) (agW (aiD (agW (wpAny_isOneOf_keyiter (s := { s with heap := s.heap.update it (Obj.mapFields (·.setIfInBounds 1 (rawInt ((i : Int) + 1)))) }) aaE.typeIs ?_)))))
 show wpAny _ _ (pure es[i].key) _ _ _
 rw [he]
 exact ahe (ahe ⟨_, rfl, ahe (hQ _ aaE (aiF ..))⟩)
theorem next_end {Q : Option Value -> Shared -> Prop} (hh : A.handled = none) (hit : s.heap.IsKeyIter it d i es.size ep) (hod : s.heap.get? d = some od) (hdd : od.data = .dict es ep) (hx : es.size <= i)
   (hQ : ∀ h', Heap.ExtBut it s.heap h' -> Q none { s with heap := h' }) : wpAny (model prog w) A (pyNext (.ref it)) Q E s := by
 obtain ⟨o, ho, hc, hd⟩ := id hit
 have Xq : Builtin.Dict_items.ownsTuple "dict_keyiterator" = false := by decide
 unfold pyNext
 refine agW (aiT (aio (name := Str.ofString "__next__") hit.typeIs ah1 (ail ah1 hit.typeIs PySem.F.entry_dict_keyiterator_next (agW (ahe ?_)) (PySem.F.args_dict_keyiterator_next_1 _))))
 refine agW (agW (agW (ah7 hit.typeIs (ahe (agW (wpAny_fieldsOf ho hd ?_))))))
 simp only [Xq, ais, aiJ]
 show wpAny _ _ (if (Value.ref d == Value.none) = true then _ else _) _ _ s
 rw [ag2 (show ¬ ((Value.ref d == Value.none) = true) from ag5)]
 refine agW (ahe (agW (aih hod hdd ?_)))
 rw [ag2 (by simp)]
 refine agW (ahe (agW (wpAny_dictEpoch hod hdd ?_)))
 rw [ag2 (by simp)]
 refine ahe ?_
 simp only [show ¬ ((i : Int) < 0) from by omega, aiJ, ah6, Array.getElem?_eq_none hx]
 refine agW (agW (ah7 hit.typeIs (ahe ?_)))
 show wpAny _ _ (setField (.ref it) 0 .none >>= _) _ _ s
 refine agW (aiO ho hd (by simp) ?_)
 show wpAny _ _ (newExc (.type "StopIteration") [] >>= _) _ _ _
 refine agW ?_
 simp only [newExc, newTuple]
 refine agW (aie (agW (m := firstArgMember _ _) (wpAny_of_eq (a := Value.none) (by first | rfl | (simp only [firstArgMember]; rfl)) (aie ?_ (by size_fits)))) (by size_fits))
 simp only [raiseNew]
 refine agW (wpAny_handled ?_)
 rw [show A.in1.handled = none from hh]
 refine agW (ahe (wpAny_throw ?_))
 exact agW (wpAny_isInstance (T := "StopIteration") (b := true) ⟨_, ahC _ rfl, rfl⟩ isSubtype_stop (ahe (hQ _ (((aiF ..).extBut.push _).push _))))
end
end Dk
end L3
namespace L2
open PySem PySem.Spec PyProof.Rows
section
variable {X : Cx} {pins : List (Addr × Obj)} {σ : St} {H : Hp} {s : Shared} {a : Addr} {gs : List (List Key × V)} {o : Obj}
theorem Inv.told {u u0 : HO} (I : Inv X pins σ H s) (ha : H a = some u0) (hu : eN X.prog X.w (upd H a u) s.heap a u) (ht : ∀ xs, u0 ≠ .tup xs) (hz : ∀ ob q, X.H₀ a ≠ some (.bS ob q)) (hb : ∀ ps, u0 ≠ .U1 ps) (hw : ∀ y, u0 ≠ .own y) (hc : ∀ q, u0 ≠ .U3 q) : Inv X pins σ (upd H a u) s := by
 have ne : ∀ b, H b = none -> b ≠ a := fun b e z => by rw [z, ha] at e; cases e
 have n1 : ∀ b xs, H b = some (.tup xs) -> upd H a u b = some (.tup xs) := fun b xs e => by
   rw [aq fun z => by rw [z, ha] at e; cases e; exact ht _ rfl]; exact e
 refine ⟨I.ok, I.os, I.bare, ⟨I.base.keep, I.base.slot, fun b ob e n hx => ?_, I.base.there, fun b xs e => n1 b xs (I.base.Au b xs e), fun b ob q e => ?_, fun b ps e => ?_⟩, I.loc, I.cell, ?_, fun x c e => ?_, fun p hp => ?_, fun b v q => ?_, I.len⟩
 . have := I.base.free b ob e n hx
   rw [aq (ne b this)]; exact this
 . rw [aq fun z => by rw [z] at e; exact hz _ _ e]
   exact I.base.jn b ob q e
 . obtain ⟨more, q⟩ := I.base.Av b ps e
   exact ⟨more, by rw [aq fun z => by rw [z, ha] at q; cases q; exact hb _ rfl]; exact q⟩
 . rw [aq (ne _ I.free)]; exact I.free
 . rw [aq (ne _ (I.nH x c e))]; exact I.nH x c e
 . obtain ⟨p1, p2, p3⟩ := I.pin p hp
   exact ⟨p1, by rw [aq (ne _ p2)]; exact p2, p3⟩
 . by_cases e : b = a
   . subst e
     rw [aI] at q
     cases q
     exact hu
   . rw [aq e] at q
     exact (I.dg b v q).BZ (fun _ _ _ e => e) (fun c z => by rw [aq fun z2 => by rw [z2, ha] at z; cases z; exact hw _ rfl]; exact z) n1 fun c k z => by rw [aq fun z2 => by rw [z2, ha] at z; cases z; exact hc _ rfl]; exact z
theorem Inv.adv (I : Inv X pins σ H s) (ha : H a = some (.dT gs)) : ∃ o, s.heap.get? a = some o /\ (∀ ob q, X.H₀ a ≠ some (.bS ob q)) /\ Inv X pins σ (upd H a (.bS o (.dT gs))) s := by
 have hz : ∀ ob q, X.H₀ a ≠ some (.bS ob q) := fun ob q e => by
   have := I.base.jn a ob q e
   rw [ha] at this; cases this
 have k := (show eN X.prog X.w H s.heap a (.dT gs) from I.dg a _ ha)
 obtain ⟨_, _, _, _, o, es, ep, e, _⟩ := id k
 refine ⟨o, e, hz, I.told ha ⟨e, ?_⟩ (fun _ z => nomatch z) hz (fun _ z => nomatch z) (fun _ z => nomatch z) fun _ z => nomatch z⟩
 exact k.BZ (fun _ _ _ e => e) (fun c z => by rw [aq fun z2 => by rw [z2, ha] at z; cases z]; exact z) (fun c xs z => by rw [aq fun z2 => by rw [z2, ha] at z; cases z]; exact z) fun c k z => by rw [aq fun z2 => by rw [z2, ha] at z; cases z]; exact z
theorem Inv.KH (I : Inv X pins σ H s) (ha : H a = some (.bS o (.dT gs))) (hz : ∀ ob q, X.H₀ a ≠ some (.bS ob q)) : Inv X pins σ (upd H a (.dT gs)) s := by
 obtain ⟨_, k⟩ := (show eN X.prog X.w H s.heap a (.bS o (.dT gs)) from I.dg a _ ha)
 refine I.told ha ?_ (fun _ z => nomatch z) hz (fun _ z => nomatch z) (fun _ z => nomatch z) fun _ z => nomatch z
 exact k.BZ (fun _ _ _ e => e) (fun c z => by rw [aq fun z2 => by rw [z2, ha] at z; cases z]; exact z) (fun c xs z => by rw [aq fun z2 => by rw [z2, ha] at z; cases z]; exact z) fun c k z => by rw [aq fun z2 => by rw [z2, ha] at z; cases z]; exact z
end
noncomputable def Itd (a : Addr) (o : Obj) (gs : List (List Key × V)) : It :=
 ⟨fun i H => i < gs.length /\ H a = some (.bS o (.dT gs)), fun i H x H' => H' = H /\ ∃ b k v, x = .ref b /\ gs[i]? = some (k, v) /\ H b = some (.tup (k.map kV)), fun i H => gs.length <= i /\ H a = some (.bS o (.dT gs))⟩
theorem Paired.YY {α β : Type} {F : α -> β -> Prop} {l : List α} {m : List β} (r : Paired F l m) : ∀ {i : Nat} {x : α}, l[i]? = some x -> ∃ y, m[i]? = some y /\ F x y := by
 induction r with
 | nil => intro i x e; simp at e
 | cons h _ ih =>
   intro i x e
   cases i with
   | zero => cases e; exact ⟨_, rfl, h⟩
   | succ j => exact ih e
theorem Oa {P : Program} {w : World} {K : PySem.W.Frag} {tg : Expr} {a it : Addr} {o : Obj} {gs : List (List Key × V)} {es : Array DictEntry} {ep : Nat} (Gh : o.data = .dict es ep) : Turn P w K tg (Itd a o gs) [it] it (fun i h => h.IsKeyIter it a i es.size ep) where
 mem := by simp
 obj := fun i h st b hb => by
   have e : b = it := by simpa using hb
   subst e
   obtain ⟨ob, e, c, d⟩ := st
   exact ⟨ob, e, fun v z => by rw [d] at z; cases z⟩
 keep := fun i h h' st k => st.at fun ob e => k it (by simp) ob e
 item := by
   intro X hP hw hK hc i pins s σ H E I hf st hg
   subst hP hw hK
   obtain ⟨qi, ha⟩ := hg
   obtain ⟨e, z, y, xs, r, o', QI, YG, e', c, d, hes, nd⟩ := (show eN X.prog X.w H s.heap a (.bS o (.dT gs)) from I.dg a _ ha)
   rw [e] at e'
   cases e'
   rw [Gh] at d
   cases d
   obtain ⟨f0, f1, f2, f3, f4, f5⟩ := hf it (by simp)
   obtain ⟨q, hq, q1, q2, q3⟩ := Paired.YY r (i := i) (x := gs[i]) (ag7 qi)
   have hx : es[i]? = some (entryOfKey (tupleKind (eO X.prog X.w)) q) := by
     rw [← Array.getElem?_toList, hes, ahh, hq]
     rfl
   refine L3.Dk.next_item st e Gh hx fun h' Mh sb => ?_
   have I1 : Inv X pins σ H { s with heap := h' } := I.turned (t' := s.toks) (fun b ob hb e => (sb.2 b hb).trans e) f0 f1 f3 f4 f5
   obtain ⟨ob, e2, c2, d2⟩ := id Mh
   exact ⟨_, rfl, Hu (s := { s with heap := h' }) e2 c2 d2 (by decide) ⟨.ref q.2.1, H, I1, rfl, ⟨rfl, q.2.1, gs[i].1, gs[i].2, rfl, ag7 qi, q2⟩, Mh, fun b hb => (hf b hb).1⟩⟩
 done := by
   intro X hP hw hK hc i pins s σ H E I hf st hg
   subst hP hw hK
   obtain ⟨hge, ha⟩ := hg
   obtain ⟨e, z, y, xs, r, o', QI, YG, e', c, d, hes, nd⟩ := (show eN X.prog X.w H s.heap a (.bS o (.dT gs)) from I.dg a _ ha)
   rw [e] at e'
   cases e'
   rw [Gh] at d
   cases d
   obtain ⟨f0, f1, f2, f3, f4, f5⟩ := hf it (by simp)
   have hl := aid r
   have hsz : es.size = xs.length := by rw [← Array.length_toList, hes, agU]
   exact L3.Dk.next_end (I.ok.hd hc) st e Gh (by omega) fun h' eb => ⟨rfl, I.turned (t' := s.toks) (fun b ob hb e => eb b ob hb e) f0 f1 f3 f4 f5⟩
 self := fun _ _ _ _ _ st h => wpAny_pyIter_keyiter st h
end L2
namespace L3
open PySem PySem.Spec PyProof.Rows L2
noncomputable def Conv (Z Z' : Hp) : Prop := ∀ c o, Z c = some o -> Z' c = some o \/ (∃ gs ob, o = .dT gs /\ Z' c = some (.bS ob (.dT gs))) \/ ∃ gs ob, o = .bS ob (.dT gs) /\ Z' c = some (.dT gs)
section
variable {K : PySem.W.Frag} {CL : Str -> Addr} {Z Z' : Hp} {a : Addr}
theorem Conv.keep {o : HO} (e : Conv Z Z') (h : Z a = some o) (h1 : ∀ gs, o ≠ .dT gs) (h2 : ∀ gs ob, o ≠ .bS ob (.dT gs)) : Z' a = some o := by
 rcases e a o h with q | ⟨gs, ob, q, _⟩ | ⟨gs, ob, q, _⟩
 . exact q
 . exact absurd q (h1 gs)
 . exact absurd q (h2 gs ob)
theorem Conv.HP {xs : List V} (e : Conv Z Z') (h : sF K Z a xs) : sF K Z' a xs := by
 rcases h with (h | ⟨o, h⟩) | h
 . exact .inl (.inl (e.keep h (fun _ z => nomatch z) fun _ _ z => nomatch z))
 . exact .inl (.inr ⟨o, e.keep h (fun _ z => nomatch z) fun _ _ z => nomatch z⟩)
 . exact .inr h
theorem Conv.sqL {xs : List V} (e : Conv Z Z') (h : oS K Z a xs) : oS K Z' a xs := by
 rcases h with (h | ⟨o, h⟩) | h
 . exact .inl (.inl (e.keep h (fun _ z => nomatch z) fun _ _ z => nomatch z))
 . exact .inl (.inr ⟨o, e.keep h (fun _ z => nomatch z) fun _ _ z => nomatch z⟩)
 . exact .inr h
theorem Conv.rd {gs : List (List Key × V)} (e : Conv Z Z') (h : Rd Z a (.dT gs)) : Rd Z' a (.dT gs) := by
 rcases h with h | ⟨o, h⟩
 . rcases e a _ h with q | ⟨g, ob, q, z⟩ | ⟨g, ob, q, z⟩
   . exact .inl q
   . cases q; exact .inr ⟨ob, z⟩
   . cases q
 . rcases e a _ h with q | ⟨g, ob, q, z⟩ | ⟨g, ob, q, z⟩
   . exact .inr ⟨o, q⟩
   . cases q
   . cases q; exact .inl z
theorem bq.conv {Z Z' : Hp} (e : Conv Z Z') {d : D} {v : V} (h : bq K CL Z d v) : bq K CL Z' d v :=
 bq.rec (motive_1 := fun d v _ => bq K CL Z' d v) (motive_2 := fun d v _ => aH K CL Z' d v) (motive_3 := fun d v _ => gH K CL Z' d v) (motive_4 := fun d v _ => cC K CL Z' d v) (motive_5 := fun d v _ => cZ K CL Z' d v)
   .non .bl .int .str .any .val (fun h _ r => .tup (e.HP h) r) (fun h _ r => .lst (e.sqL h) r) (fun h _ r => .ins (e.keep h (fun _ z => nomatch z) fun _ _ z => nomatch z) r) (fun h _ r => .rD (e.keep h (fun _ z => nomatch z) fun _ _ z => nomatch z) r) (fun h _ r => .dct (e.rd h) r) .nil (fun _ _ h r => .cons h r) .nil (fun _ _ h r => .cons h r) .nil (fun _ _ h r => .cons h r) .nil (fun _ _ h r => .cons h r) h
theorem cC.conv {Z Z' : Hp} (e : Conv Z Z') {d : List (Key × D)} {v : List (Key × V)} (h : cC K CL Z d v) : cC K CL Z' d v :=
 cC.rec (motive_1 := fun d v _ => bq K CL Z' d v) (motive_2 := fun d v _ => aH K CL Z' d v) (motive_3 := fun d v _ => gH K CL Z' d v) (motive_4 := fun d v _ => cC K CL Z' d v) (motive_5 := fun d v _ => cZ K CL Z' d v)
   .non .bl .int .str .any .val (fun h _ r => .tup (e.HP h) r) (fun h _ r => .lst (e.sqL h) r) (fun h _ r => .ins (e.keep h (fun _ z => nomatch z) fun _ _ z => nomatch z) r) (fun h _ r => .rD (e.keep h (fun _ z => nomatch z) fun _ _ z => nomatch z) r) (fun h _ r => .dct (e.rd h) r) .nil (fun _ _ h r => .cons h r) .nil (fun _ _ h r => .cons h r) .nil (fun _ _ h r => .cons h r) .nil (fun _ _ h r => .cons h r) h
theorem bu.conv {H H' Z Z' : Hp} (e : Conv Z Z') {t : T} {v : V} {fp : List Addr} (k : ∀ a ∈ fp, H' a = H a) (h : bu K CL H Z t v fp) : bu K CL H' Z' t v fp :=
 bu.rec (motive_1 := fun t v fp _ => (∀ a ∈ fp, H' a = H a) -> bu K CL H' Z' t v fp) (motive_2 := fun t v fp _ => (∀ a ∈ fp, H' a = H a) -> aE K CL H' Z' t v fp) (motive_3 := fun t v fp _ => (∀ a ∈ fp, H' a = H a) -> cV K CL H' Z' t v fp) (motive_4 := fun t v fp _ => (∀ a ∈ fp, H' a = H a) -> cA K CL H' Z' t v fp)
   (fun h _ => .sh (h.conv e)) (fun h _ r k => .tup (e.keep h (fun _ z => nomatch z) fun _ _ z => nomatch z) (r k)) (fun h _ r k => .lst ((k _ agV).trans h) (r fun a ha => k a (agY _ ha))) (fun h _ r k => .ins ((k _ agV).trans h) (r fun a ha => k a (agY _ ha))) (fun h f k => .rD ((k _ agV).trans h) (cC.conv e f)) (fun h _ r k => .dct ((k _ agV).trans h) (r fun a ha => k a (agY _ ha))) (fun _ r k => .pin (r k)) (fun _ => .nil) (fun _ _ h r k => .cons (h fun a ha => k a (agX _ ha)) (r fun a ha => k a (agS _ ha))) (fun _ => .nil) (fun _ _ h r k => .cons (h fun a ha => k a (agX _ ha)) (r fun a ha => k a (agS _ ha))) (fun _ => .nil) (fun _ _ h r k => .cons (h fun a ha => k a (agX _ ha)) (r fun a ha => k a (agS _ ha))) h k
theorem aE.conv {H H' Z Z' : Hp} (e : Conv Z Z') {t : List T} {v : List V} {fp : List Addr} (k : ∀ a ∈ fp, H' a = H a) (h : aE K CL H Z t v fp) : aE K CL H' Z' t v fp :=
 aE.rec (motive_1 := fun t v fp _ => (∀ a ∈ fp, H' a = H a) -> bu K CL H' Z' t v fp) (motive_2 := fun t v fp _ => (∀ a ∈ fp, H' a = H a) -> aE K CL H' Z' t v fp) (motive_3 := fun t v fp _ => (∀ a ∈ fp, H' a = H a) -> cV K CL H' Z' t v fp) (motive_4 := fun t v fp _ => (∀ a ∈ fp, H' a = H a) -> cA K CL H' Z' t v fp)
   (fun h _ => .sh (h.conv e)) (fun h _ r k => .tup (e.keep h (fun _ z => nomatch z) fun _ _ z => nomatch z) (r k)) (fun h _ r k => .lst ((k _ agV).trans h) (r fun a ha => k a (agY _ ha))) (fun h _ r k => .ins ((k _ agV).trans h) (r fun a ha => k a (agY _ ha))) (fun h f k => .rD ((k _ agV).trans h) (cC.conv e f)) (fun h _ r k => .dct ((k _ agV).trans h) (r fun a ha => k a (agY _ ha))) (fun _ r k => .pin (r k)) (fun _ => .nil) (fun _ _ h r k => .cons (h fun a ha => k a (agX _ ha)) (r fun a ha => k a (agS _ ha))) (fun _ => .nil) (fun _ _ h r k => .cons (h fun a ha => k a (agX _ ha)) (r fun a ha => k a (agS _ ha))) (fun _ => .nil) (fun _ _ h r k => .cons (h fun a ha => k a (agX _ ha)) (r fun a ha => k a (agS _ ha))) h k
theorem cH.conv {H H' : Hp} {δ : List (Option T)} {σ : L2.St} {fp : List Addr} (e : Conv Z Z') (k : ∀ a ∈ fp, H' a = H a) (r : cH K CL H Z δ σ fp) : cH K CL H' Z' δ σ fp := by
 induction r with
 | nil => exact .nil
 | skip _ ih => exact .skip (ih k)
 | cons r _ ih => exact .cons (r.conv e fun a ha => k a (agX _ ha)) (ih fun a ha => k a (agS _ ha))
end
noncomputable def adw (X : Cx) (te : TE) : TI := fun σ H R => te σ H fun x H1 => ∃ a gs, x = .ref a /\ ((H1 a = some (.dT gs) /\ ∀ o, (∀ ob q, X.H₀ a ≠ some (.bS ob q)) -> R (Itd a o gs) (upd H1 a (.bS o (.dT gs)))) \/ ∃ o, H1 a = some (.bS o (.dT gs)) /\ R (Itd a o gs) H1)
theorem Xr {X : Cx} {tg e : Expr} {te : TE} (he : PE X e te) : PI X tg e (adw X te) := by
 intro pins s σ H R I h
 refine dF (he pins s σ H _ I h) fun v s1 zz => ?_
 obtain ⟨x, H1, I1, r1, a, gs, ex, q⟩ := zz
 subst ex
 cases r1
 have main : ∀ (H2 : Hp) (o : Obj), L2.Inv X pins σ H2 s1 -> H2 a = some (.bS o (.dT gs)) -> R (Itd a o gs) H2 -> wpAny (model X.prog X.w) X.A (pyIter (.ref a)) (PIE X pins σ tg R) X.xe s1 := fun H2 o I2 ha hR => by
   obtain ⟨e, z, y, xs, r, o', es, ep, e', c, d, hes, nd⟩ := (show eN X.prog X.w H2 s1.heap a (.bS o (.dT gs)) from I2.dg a _ ha)
   rw [e] at e'
   cases e'
   obtain ⟨_, _, _, _, dd⟩ := sH I2.dg (.inr ⟨o, ha⟩)
   refine Dk.N9 y e dd.typeIs d ?_
   refine ⟨s1.heap.objs.size, [s1.heap.objs.size], _, _, H2, rfl, I2.kept (t' := s1.toks) fun b ob e => ag8 _ e, Oa d, ⟨_, ahC _ rfl, rfl, rfl⟩, fun b hb => ?_, hR⟩
   have e : b = s1.heap.objs.size := by simpa using hb
   subst e
   exact I2.JK (ag6 _) (I2.dg.fresh (ag6 _))
 rcases q with ⟨ha, q⟩ | ⟨o, ha, q⟩
 . obtain ⟨o, e, hz, I2⟩ := I1.adv ha
   exact main _ o I2 aI (q o hz)
 . exact main _ o I1 ha q
noncomputable def Xs (X : Cx) (E : Ends) : Ends :=
 { nx := fun σ H => E.nx σ H \/ ∃ a o gs, H a = some (.bS o (.dT gs)) /\ (∀ ob q, X.H₀ a ≠ some (.bS ob q)) /\ E.nx σ (upd H a (.dT gs))
   rt := fun v H => E.rt v H \/ ∃ a o gs, H a = some (.bS o (.dT gs)) /\ (∀ ob q, X.H₀ a ≠ some (.bS ob q)) /\ E.rt v (upd H a (.dT gs))
   bk := E.bk
   ct := E.ct }
theorem KJ {X : Cx} {st : Stmt} {E : Ends} {σ : L2.St} {H : Hp} (h : MQ X st (Xs X E) σ H) : MQ X st E σ H := fun pins s I => by
 refine ahZ (h pins s I) (fun f s' z => ?_) fun _ _ z => z
 cases f with
 | next =>
   obtain ⟨σ', H', I', q⟩ := z
   rcases q with q | ⟨a, o, gs, ha, hz, q⟩
   . exact ⟨σ', H', I', q⟩
   . exact ⟨σ', _, I'.KH ha hz, q⟩
 | ret u =>
   obtain ⟨v, σ', H', I', r, q⟩ := z
   rcases q with q | ⟨a, o, gs, ha, hz, q⟩
   . exact ⟨v, σ', H', I', r, q⟩
   . exact ⟨v, σ', _, I'.KH ha hz, r, q⟩
 | brk => exact z
 | cont => exact z
noncomputable def vD (b : Bx) (a : Addr) (F : HO) : Bx := ⟨fun c => if c = a /\ (b.B a).isSome = true then some F else b.B c, fun c => if c = a /\ (b.Z a).isSome = true then some F else b.Z c⟩
section
variable {K : PySem.W.Frag} {CL : Str -> Addr} {b : Bx} {H Z : Hp} {δ : List (Option T)} {σ : L2.St} {ts : List T} {vs : List V} {a : Addr} {gs : List (List Key × V)} {o : Obj}
theorem dU {F : HO} {c : Addr} (h : c ≠ a) : (vD b a F).B c = b.B c /\ (vD b a F).Z c = b.Z c := ⟨ag2 fun z => h z.1, ag2 fun z => h z.1⟩
theorem aU.still (S : aU K CL b H Z δ σ ts vs) (ha : Z a = some (.dT gs)) (o : Obj) : aU K CL (vD b a (.bS o (.dT gs))) (upd H a (.bS o (.dT gs))) (upd Z a (.bS o (.dT gs))) δ σ ts vs := by
 have cv : Conv Z (upd Z a (.bS o (.dT gs))) := fun c u q => by
   by_cases e : c = a
   . subst e
     rw [ha] at q
     cases q
     exact .inr (.inl ⟨gs, o, rfl, aI⟩)
   . exact .inl (by rw [aq e]; exact q)
 obtain ⟨fp, gp, e, r, nd, k⟩ := S.rep
 have ne : ∀ c ∈ fp ++ gp, c ≠ a := fun c hc z => by
   have := (k c hc).1
   rw [z, ha] at this; cases this
 have hH := S.zh a _ ha
 refine ⟨⟨fp, gp, e.conv cv fun c hc => aq (ne c (agX _ hc)), r.conv cv fun c hc => aq (ne c (agS _ hc)), nd, fun c hc => ⟨by rw [aq (ne c hc)]; exact (k c hc).1, by rw [(dU (ne c hc)).1]; exact (k c hc).2⟩⟩, fun c u q => ?_, fun c u q => ?_, fun c u q => ?_, fun c u q z => ?_, fun c u q im => ?_, fun x hx h0 => ?_⟩
 . by_cases e : c = a
   . subst e
     rw [aI]
     have q : (if c = c /\ (b.B c).isSome = true then some _ else b.B c) = some u := q
     by_cases hs : (b.B c).isSome = true
     . rw [ag9 ⟨rfl, hs⟩] at q; exact q
     . rw [ag2 fun z => hs z.2] at q
       rw [q] at hs; exact absurd rfl hs
   . rw [(dU e).1] at q
     rw [aq e]; exact S.bh c u q
 . by_cases e : c = a
   . subst e
     rw [aI]
     have q : (if c = c /\ (b.Z c).isSome = true then some _ else b.Z c) = some u := q
     by_cases hs : (b.Z c).isSome = true
     . rw [ag9 ⟨rfl, hs⟩] at q; exact q
     . rw [ag2 fun z => hs z.2] at q
       rw [q] at hs; exact absurd rfl hs
   . rw [(dU e).2] at q
     rw [aq e]; exact S.zz c u q
 . by_cases e : c = a
   . subst e
     rw [aI] at q ⊢; exact q
   . rw [aq e] at q ⊢; exact S.zh c u q
 . by_cases e : c = a
   . subst e
     have z : (if c = c /\ (b.Z c).isSome = true then some _ else b.Z c) = none := z
     have hz : b.Z c = none := by
       by_cases hs : (b.Z c).isSome = true
       . rw [ag9 ⟨rfl, hs⟩] at z; cases z
       . rw [ag2 fun z => hs z.2] at z; exact z
     have hB := S.new c _ ha hz
     show (if c = c /\ (b.B c).isSome = true then some _ else b.B c) = none
     rw [ag2 fun z => by rw [hB] at z; exact absurd z.2 (by decide)]
     exact hB
   . rw [aq e] at q
     rw [(dU e).2] at z
     rw [(dU e).1]; exact S.new c u q z
 . by_cases e : c = a
   . subst e
     rw [aI] at q ⊢; exact q
   . rw [aq e] at q ⊢; exact S.tp c u q im
 . have q := S.tab x hx h0
   have e : CL x ≠ a := fun z => by
     have := S.zz _ _ q
     rw [z, ha] at this; cases this
   rw [(dU e).2]; exact q
theorem aU.KH (S : aU K CL (vD b a (.bS o (.dT gs))) H Z δ σ ts vs) (ha : Z a = some (.bS o (.dT gs))) (h1 : ∀ u, b.B a = some u -> u = .dT gs) (h2 : ∀ u, b.Z a = some u -> u = .dT gs) (h3 : b.Z a = none -> b.B a = none) : aU K CL b (upd H a (.dT gs)) (upd Z a (.dT gs)) δ σ ts vs := by
 have cv : Conv Z (upd Z a (.dT gs)) := fun c u q => by
   by_cases e : c = a
   . subst e
     rw [ha] at q
     cases q
     exact .inr (.inr ⟨gs, o, rfl, aI⟩)
   . exact .inl (by rw [aq e]; exact q)
 obtain ⟨fp, gp, e, r, nd, k⟩ := S.rep
 have ne : ∀ c ∈ fp ++ gp, c ≠ a := fun c hc z => by
   have := (k c hc).1
   rw [z, ha] at this; cases this
 refine ⟨⟨fp, gp, e.conv cv fun c hc => aq (ne c (agX _ hc)), r.conv cv fun c hc => aq (ne c (agS _ hc)), nd, fun c hc => ⟨by rw [aq (ne c hc)]; exact (k c hc).1, by rw [← (dU (F := .bS o (.dT gs)) (ne c hc)).1]; exact (k c hc).2⟩⟩, fun c u q => ?_, fun c u q => ?_, fun c u q => ?_, fun c u q z => ?_, fun c u q im => ?_, fun x hx h0 => ?_⟩
 . by_cases e : c = a
   . subst e
     rw [aI, h1 u q]
   . rw [aq e]
     exact S.bh c u (by rw [(dU e).1]; exact q)
 . by_cases e : c = a
   . subst e
     rw [aI, h2 u q]
   . rw [aq e]
     exact S.zz c u (by rw [(dU e).2]; exact q)
 . by_cases e : c = a
   . subst e
     rw [aI] at q ⊢; exact q
   . rw [aq e] at q ⊢; exact S.zh c u q
 . by_cases e : c = a
   . subst e
     exact h3 z
   . rw [aq e] at q
     have := S.new c u q (by rw [(dU e).2]; exact z)
     rwa [(dU e).1] at this
 . by_cases e : c = a
   . subst e
     rw [aI] at q
     cases q
     cases im
   . rw [aq e] at q ⊢; exact S.tp c u q im
 . have q := S.tab x hx h0
   have e : CL x ≠ a := fun z => by
     have := S.zz _ _ q
     rw [z, ha] at this; cases this
   rwa [(dU e).2] at q
end
theorem aU.Ob {K : PySem.W.Frag} {CL : Str -> Addr} {b : Bx} {H Z : Hp} {δ : List (Option T)} {σ : L2.St} {ts : List T} {vs : List V} {t : T} {v : V} (S : aU K CL b H Z δ σ ts vs) (r : bu K CL H Z t v []) : aU K CL b H Z δ σ (t :: ts) (v :: vs) := by
 obtain ⟨fp, gp, e, q, nd, k⟩ := S.rep
 exact ⟨⟨fp, [] ++ gp, e, .cons r q, nd, k⟩, S.bh, S.zz, S.zh, S.new, S.tp, S.tab⟩
section
variable {X : Cx} {CL : Str -> Addr} {b : Bx} {δ δ1 : List (Option T)} {e : Expr} {D : dP} {pos pos' : Pos} {x : Str} {i : Nat} {ez body : List Stmt} {kvs : List (List Key × L3.D)}
theorem Ir (g : Gx X) (nm : Ln X i x) (P : Nat -> List (Option T) -> Prop) (h : bV X CL b e δ (.sh (.dct kvs)) δ1) (h0 : P 0 δ1) (hl : ∀ j δ, P j δ -> i < δ.length)
   (hs : ∀ (b' : Bx) (j : Nat) (k : List Key) (d : L3.D) δ, kvs[j]? = some (k, d) -> P j δ -> cU X CL b' body (δ.set i (some (jT k))) { nx := P (j + 1), rt := D.rt, bk := fun δ2 => cU X CL b ez δ2 D, ct := P (j + 1) }) (hd : ∀ δ, P kvs.length δ -> cU X CL b ez δ D)
   (hq : ∀ x, foldedSetIterable e X.env x = pure x := by intro _; rfl) : cU X CL b (.For (.Name x pos') e body [] pos :: ez) δ D := bG fun H Z σ ts vs E S M =>
 KJ (kH (Fy g.xe g.calm (Xr cI) (rC g.nd nm.hi nm.loc nm.hf) LN hq) (h H Z σ ts vs _ S fun v H1 Z1 z1 k1 S1 => by
   have r := S1.F9
   cases r with
   | @dct a gs _ ha rr =>
     have hkl : kvs.length = gs.length := rr.length
     have QV : ∀ (j : Nat) (k : List Key) (v : V), gs[j]? = some (k, v) -> ∃ d, kvs[j]? = some (k, d) := fun j k v hj => by
       have e1 := congrArg (·[j]?) rr.keys
       simp only [ahh, hj] at e1
       obtain ⟨p, hp, e2⟩ := ahw.mp e1
       have e2 : p.1 = k := e2
       exact ⟨p.2, by rw [hp, ← e2]⟩
     have aaF : ∀ {Z2 H2 : Hp} {kb : Addr} {k : List Key}, (∀ a o, H2 a = some o -> mC o = true -> Z2 a = some o) -> H2 kb = some (.tup (k.map kV)) -> bu X.K CL H2 Z2 (jT k) (.ref kb) [] := fun tp hk => .tup (tp _ _ hk rfl) (aE.ofF (Eu _))
     rcases ha with ha | ⟨o, ha⟩
     . have hH := S1.zh a _ ha
       refine ⟨a, gs, rfl, .inl ⟨hH, fun o hz => ?_⟩⟩
       have S2 := S1.pop.still ha o
       have t1 : ∀ u, b.B a = some u -> u = .dT gs := fun u q => by
         have := S1.bh a u q
         rw [hH] at this; exact (ahg this).symm
       have t2 : ∀ u, b.Z a = some u -> u = .dT gs := fun u q => by
         have := S1.zz a u q
         rw [ha] at this; exact (ahg this).symm
       have t3 : b.Z a = none -> b.B a = none := S1.new a _ ha
       have back : ∀ {Z2 : Hp}, aC (upd Z1 a (.bS o (.dT gs))) Z2 -> aC Z (upd Z2 a (.dT gs)) := fun {Z2} s c u q => by
         have q1 := z1 c u q
         by_cases e : c = a
         . subst e
           rw [ha] at q1
           cases q1
           exact aI
         . rw [aq e]
           exact s c u (by rw [aq e]; exact q1)
       refine ⟨fun j m σ H2 => m = gs.length - j /\ j <= gs.length /\ ∃ Z2 δ2, aC (upd Z1 a (.bS o (.dT gs))) Z2 /\ aU X.K CL (vD b a (.bS o (.dT gs))) H2 Z2 δ2 σ ts vs /\ P j δ2, ⟨_, rfl, ahs _, _, δ1, .refl _, S2, h0⟩, ?_⟩
       rintro j m σ2 H2 ⟨rfl, hj, Z2, δ2, s, S3, p2⟩
       have za : Z2 a = some (.bS o (.dT gs)) := s a _ aI
       by_cases qi : j < gs.length
       . refine .inr ⟨⟨qi, S3.zh a _ za⟩, fun σ' H' => ∃ Z2 δ2, aC (upd Z1 a (.bS o (.dT gs))) Z2 /\ aU X.K CL (vD b a (.bS o (.dT gs))) H' Z2 δ2 σ' ts vs /\ P (j + 1) δ2, fun σ' H' h => ⟨gs.length - (j + 1), by omega, rfl, qi, h⟩, fun y H' hy => ?_⟩
         obtain ⟨rfl, kb, k, v, rfl, hg, hk⟩ := hy
         obtain ⟨d, QH⟩ := QV j k v hg
         have S4 := (S3.Ob (aaF S3.tp hk)).set (hl j δ2 p2)
         exact hs _ j k d δ2 QH p2 _ Z2 _ ts vs _ S4 ⟨fun δ' σ' H' Z' s' S' k => ⟨Z', δ', s.trans s', S', k⟩, fun t v H' Z' δ' σ' s' S' k => .inr ⟨a, o, gs, S'.zh a _ (s' a _ za), hz, M.rt t v _ _ δ' σ' (back (s.trans s')) (S'.KH (s' a _ za) t1 t2 t3) k⟩, fun δ' σ' H' Z' s' S' k => .inr ⟨a, o, gs, S'.zh a _ (s' a _ za), hz, M.nx δ' σ' _ _ (back (s.trans s')) (S'.KH (s' a _ za) t1 t2 t3) k⟩, fun δ' σ' H' Z' s' S' k => ⟨Z', δ', s.trans s', S', k⟩⟩
       . have ej : j = gs.length := by omega
         subst ej
         exact .inl ⟨⟨ag6 _, S3.zh a _ za⟩, .inr ⟨a, o, gs, S3.zh a _ za, hz, M.nx δ2 σ2 _ _ (back s) (S3.KH za t1 t2 t3) (hd δ2 (hkl ▸ p2))⟩⟩
     . refine ⟨a, gs, rfl, .inr ⟨o, S1.zh a _ ha, ?_⟩⟩
       refine ⟨fun j m σ H2 => m = gs.length - j /\ j <= gs.length /\ ∃ Z2 δ2, aC Z1 Z2 /\ aU X.K CL b H2 Z2 δ2 σ ts vs /\ P j δ2, ⟨_, rfl, ahs _, _, δ1, .refl _, S1.pop, h0⟩, ?_⟩
       rintro j m σ2 H2 ⟨rfl, hj, Z2, δ2, s, S3, p2⟩
       have za : Z2 a = some (.bS o (.dT gs)) := s a _ ha
       by_cases qi : j < gs.length
       . refine .inr ⟨⟨qi, S3.zh a _ za⟩, fun σ' H' => ∃ Z2 δ2, aC Z1 Z2 /\ aU X.K CL b H' Z2 δ2 σ' ts vs /\ P (j + 1) δ2, fun σ' H' h => ⟨gs.length - (j + 1), by omega, rfl, qi, h⟩, fun y H' hy => ?_⟩
         obtain ⟨rfl, kb, k, v, rfl, hg, hk⟩ := hy
         obtain ⟨d, QH⟩ := QV j k v hg
         have S4 := (S3.Ob (aaF S3.tp hk)).set (hl j δ2 p2)
         exact hs _ j k d δ2 QH p2 _ Z2 _ ts vs _ S4 ⟨fun δ' σ' H' Z' s' S' k => ⟨Z', δ', s.trans s', S', k⟩, fun t v H' Z' δ' σ' s' S' k => .inl (M.rt t v _ _ δ' σ' (z1.trans (s.trans s')) S' k), fun δ' σ' H' Z' s' S' k => .inl (M.nx δ' σ' _ _ (z1.trans (s.trans s')) S' k), fun δ' σ' H' Z' s' S' k => ⟨Z', δ', s.trans s', S', k⟩⟩
       . have ej : j = gs.length := by omega
         subst ej
         exact .inl ⟨⟨ag6 _, S3.zh a _ za⟩, .inl (M.nx δ2 σ2 _ _ (z1.trans s) S3 (hd δ2 (hkl ▸ p2)))⟩))
theorem Iu {ks : List Key} (n : Vn X i x) (h : δ[i]? = some (some (jT ks))) : bV X CL b (.Name x pos) δ (jT ks) δ := fun H Z σ ts vs Q S k => by
 obtain ⟨fp, gp, e, q, nd, kk⟩ := S.rep
 obtain ⟨v, f1, f2, f3, hv, nG, rt, _, _⟩ := e.get h
 have h2 : f2 = [] := by
   cases rt with
   | tup hz rr => exact (aE.toF rr).2
 subst h2
 exact bU (fW n.hi n.hv n.hd n.mS) ⟨v, hv, k v H Z (.refl _) (.refl _) (S.Ob rt)⟩
end
section
variable {K : PySem.W.Frag} {CL : Str -> Addr} {b : Bx} {H Z : Hp} {δ : List (Option T)} {σ : L2.St} {ts : List T} {vs : List V} {t t0 : T} {v v0 w : V} {i : Nat} {p : List BE} {kvs : List (List Key × T)} {k : List Key}
theorem cA.fresh {gs : List (List Key × V)} {fp : List Addr} (rs : cA K CL H Z kvs gs fp) (hk : k ∉ kvs.map (·.1)) (v : V) : putK gs k v = gs ++ [(k, v)] := by
 refine MH v ?_
 cases hx : jR gs k with
 | none => rfl
 | some z =>
   exfalso
   refine hk ?_
   rw [rs.keys]
   unfold jR at hx
   obtain ⟨q, hf, _⟩ := ahw.mp hx
   have h0 := List.find?_some hf
   have h1 : q.1 = k := aha h0
   rw [← h1]
   exact List.mem_map_of_mem (aij hf)
theorem aU.Sb (S : aU K CL b H Z δ σ (t :: ts) (v :: vs)) (ev : σ[i]? = some (some v0)) (hi : δ[i]? = some (some t0)) (hp : T.jx p t0 = some (.dct kvs)) (rH : Aq H v0 p w) (hk : k ∉ kvs.map (·.1)) :
   ∃ a gs, w = .ref a /\ H a = some (.dT gs) /\ gs.length = kvs.length /\ aU K CL b (upd H a (.dT (putK gs k v))) Z (δ.set i (some (T.jV p (.dct (kvs ++ [(k, t)])) t0))) σ ts vs := by
 obtain ⟨f2, gp, ru, rr, nd, go⟩ := S.yL ev hi hp rH
 cases ru with
 | @dct a gs _ g ha rs =>
   cases rr with
   | @cons _ _ _ _ ft gr q1 q2 =>
     have ne : ∀ c ∈ g ++ (ft ++ gr), c ≠ a := fun c hc z => by subst z; exact (ahE.mp nd).1 hc
     have pm : ((a :: (g ++ (ft ++ []))) ++ gr).Perm ((a :: g) ++ (ft ++ gr)) := ah8.mpr fun c => by simp only [aif, List.count_cons, List.count_nil]; omega
     refine ⟨a, gs, rfl, ha, rs.length.symm, ?_⟩
     rw [rs.fresh hk]
     exact go rfl agV rfl (.dct aI (cA.snoc (rs.mono (.refl _) fun c hc => aq (ne c (by simp [hc]))) (q1.mono (.refl _) fun c hc => aq (ne c (by simp [hc])))))
       (q2.mono (.refl _) fun c hc => aq (ne c (by simp [hc]))) (pm.nodup_iff.mpr nd) fun c hc => pm.mem_iff.mp hc
end
section
variable {X : Cx} {CL : Str -> Addr} {b : Bx} {δ δ1 : List (Option T)} {e e0 e2 : Expr} {t t1 : T} {D : dP} {pos ps : Pos} {i : Nat} {ez : List Stmt} {p : List BE} {kvs : List (List Key × T)}
theorem Sd (k : List Key) (hu : X.A.units + 64 < cLine) (h : bV X CL b e δ t δ1) (hE : Io X CL b e0 δ1 i p) (h2 : bV X CL b e2 δ1 (jT k) δ1) (h1 : δ1[i]? = some (some t1)) (R3 : T.jx p t1 = some (.dct kvs)) (hk : k ∉ kvs.map (·.1)) (hl : kvs.length <= 1000000) (kk : cU X CL b ez (δ1.set i (some (T.jV p (.dct (kvs ++ [(k, t)])) t1))) D)
   (hs : swapsWith e (some (.Subscript e0 e2 ps)) pos.line X.env = pure false := by rfl) : cU X CL b (.Assign [.Subscript e0 e2 ps] e pos :: ez) δ D := bG fun H Z σ ts vs E S M =>
 kH (HN (by omega) cI cI cI hs) (h H Z σ ts vs _ S fun v H1 Z1 z1 k1 S1 => hE H1 Z1 σ _ _ _ S1 fun v0 w H2 Z2 z2 k2 S2 ev rH => h2 H2 Z2 σ _ _ _ S2 fun v2 H3 Z3 z3 k3 S3 => by
   obtain ⟨kb, rfl, hb⟩ := S3.yK
   obtain ⟨a, gs, ea, ha, hg, S4⟩ := S3.pop.Sb ev h1 R3 (rH.mono k3) hk
   exact ⟨a, _, ea, J4.t ha hb (by rw [hg]; exact ahW hl (by rw [ahS]; decide)), M.nx _ σ _ Z3 (z1.trans (z2.trans z3)) S4 kk⟩)
end
end L3
namespace L2
open PySem PySem.Spec PyProof.Rows
section
variable {X : Cx} {pins : List (Addr × Obj)} {σ : St} {H : Hp} {s : Shared} {a b : Addr} {k : List Key} {gs : List (List Key × V)} {v : V} {A : Around} {E : Value -> Shared -> Prop}
theorem Iv (I : Inv X pins σ H s) (h : sF X.K H b (k.map kV)) : (tupleKind (eO X.prog X.w)).is s.heap k b := by
 obtain ⟨its, rv, ⟨o, h1, h2, n, h3⟩, hz⟩ := I.tuple h
 exact ⟨o, its.toArray, n, h1, h2, h3, by simpa using vn rv⟩
theorem KL {Q : Value -> Shared -> Prop} (hu : A.units + 1 < cLine) (I : Inv X pins σ H s) (e : Rd H a (.dT gs)) (hb : sF X.K H b (k.map kV)) (l : jR gs k = some v) (h : ∀ w' s', Inv X pins σ H s' -> RelV v w' -> Q w' s') : wpAny (model X.prog X.w) A (getItem (.ref a) (.ref b)) Q E s := by
 obtain ⟨z, hd, xs, rel, dd⟩ := sH I.dg e
 obtain ⟨w', hw, B7⟩ := oR.some_of (v := v) (o := (atKey xs k).map (·.2)) (by rw [← l]; exact rel.val k)
 obtain ⟨p, hp, ZT⟩ := ahw.mp hw
 refine wpAny_getItem_heap (air hu) (Iv I hb) dd hp ?_
 rw [ZT]
 exact h w' _ (I.tok _) B7
end
section
variable {X : Cx} {o i : Expr} {td ty : TE} {pos : Pos}
noncomputable def aaG (X : Cx) (td ty : TE) : TE := fun σ H Q => td σ H fun x H1 => ty σ H1 fun y H2 => ∃ a v gs k b, x = .ref a /\ y = .ref b /\ Rd H2 a (.dT gs) /\ sF X.K H2 b (k.map kV) /\ jR gs k = some v /\ Q v H2
theorem Se (hu : X.A.units + 1 < cLine) (ho : PE X o td) (hi : PE X i ty) (hs : J7 i) : PE X (.Subscript o i pos) (aaG X td ty) := by
 intro pins s σ H Q I h
 refine HL PySem.F.slot_dict_getitem.lookup hs (dF (ho pins s σ H _ I h) fun u s1 ⟨x, H1, I1, rx, q1⟩ => dF (hi pins s1 σ H1 _ I1 q1) fun iv s2 zz => ?_)
 obtain ⟨y, H2, I2, ry, a, v, gs, k, b, ex, ey, g, hb, l, q2⟩ := zz
 subst ex ey
 obtain rfl : u = Value.ref a := rx
 obtain rfl : iv = Value.ref b := ry
 obtain ⟨_, _, _, _, dd⟩ := sH I2.dg g
 exact ⟨dd.typeIs, KL hu I2 g hb l fun w' s3 I3 B7 => ⟨v, H2, I3, B7, q2⟩⟩
end
end L2
namespace L3
open PySem PySem.Spec PyProof.Rows L2
section
variable {K : PySem.W.Frag} {CL : Str -> Addr} {Z : Hp} {kvs : List (List Key × T)} {k : List Key}
theorem Gi {ks : List Key} {us : List V} (r : aH K CL Z (ks.map F8) us) : us = ks.map kV := by
 induction ks generalizing us with
 | nil => cases r; rfl
 | cons k ks ih =>
   rw [ahd] at r
   cases r with
   | cons r rr => rw [r.key, ih rr, ahd]
theorem yN {α : Type} {kvs : List (List Key × α)} {k : List Key} {x : α} (h : fj kvs k = some x) : (k, x) ∈ kvs := by
 unfold fj at h
 obtain ⟨q, hf, rfl⟩ := ahw.mp h
 have h0 := List.find?_some hf
 have h1 : q.1 = k := aha h0
 rw [← h1]
 exact aij hf
end
section
variable {X : Cx} {CL : Str -> Addr} {b : Bx} {δ δ1 : List (Option T)} {e : Expr} {t : T} {D : dP} {pos pp : Pos}
theorem KN {ds : List L3.D} (hm : X.mg "tuple" = none) (h : bV X CL b e δ (.sh (.tup ds)) δ1) (hg : Gl X "tuple") (hs : starEach [e] X.env = (false, eval e X.env) :: starEach [] X.env := by exact aP rfl) : bV X CL b (.Call (.Name "tuple" pp) [e] [] pos) δ (.sh (.tup ds)) δ1 := fun H Z σ ts vs Q S k =>
 bU (iu mU hg hm qD (bD cI c6 hs) (he := hs)) (h H Z σ ts vs _ S fun v H1 Z1 z1 k1 S1 => by
   have r := S1.F9
   cases r with
   | tup hq rr => exact ⟨_, _, rfl, .inr ⟨aC.HP S1.zh hq, k _ H1 Z1 z1 k1 S1⟩⟩)
end
end L3
namespace L3
open PySem L2
section
variable {X : Cx} {CL : Str -> Addr} {b : Bx} {δ δ1 : List (Option T)} {e : Expr} {es : List Expr} {pos pp : Pos} {x : Str} {t : T} {fx : List Addr -> Prop} {al : List Addr -> List T} {i j : Nat}
theorem cM2 {A : Type} {k n : Nat} {arg : A -> List T} {Pre : A -> Prop} {res : A -> T} {out : A -> List T} (a : Addr -> Addr -> A) (nt mt : T) (F : BD X CL x k n arg Pre res out) (hg : Gl X x) (h : Ik X CL b (e :: es) δ [i, j] fx al δ1) (hp : ∀ y z, fx [y, z] -> Pre (a y z)) (yJ : ∀ y z, fx [y, z] -> res (a y z) = t) (Cv : ∀ y z, fx [y, z] -> lB (out (a y z)) [y, z] [nt, mt])
   (wO : ∀ y z, fx [y, z] -> arg (a y z) = al [y, z] := by intros; rfl) (hlen : ∀ y z, (arg (a y z)).length = n := by intros; rfl) (Ao : i < δ1.length := by exact agZ rfl) (Fl : j < δ1.length := by exact agZ rfl)
   (nI : (x == ("__debug__" : Str)) = false := by decide) (he : starEach (e :: es) X.env = (false, eval e X.env) :: starEach es X.env := by exact aP rfl) (hpl : (backTo pos (starEach es X.env)).any (·.1) = false := by rfl) :
   jj X CL b (.Call (.Name x pp) (e :: es) [] pos) δ t ((δ1.set i (some nt)).set j (some mt)) := by
 obtain ⟨⟨f, fd, ps, G, m, q, bd⟩, r⟩ := F
 exact Ex (fun ys => a (ys.headD 0) (ys.tail.headD 0)) [nt, mt] G r m q bd h (fun ys hl hf => match ys, hl, hf with | [y, z], _, hf => ⟨wO y z hf, hlen y z, hp y z hf, yJ y z hf, Cv y z hf⟩) (fun k hk => by
   rcases ag4.mp hk with rfl | hk
   . exact Ao
   . cases ahN.mp hk; exact Fl) hg nI he hpl
theorem Xu {p q : T} {d : D} {o : Option T} {ρ : List (Option T)} : Keeps (o :: some p :: some q :: ρ) [.sh d, p, q] := fun j y t h => by
 match j, h with
 | 0, h => cases h
 | 1, h => cases h; rfl
 | 2, h => cases h; rfl
 | j + 3, h => cases h
end
end L3
namespace L2
open PySem PySem.Spec PyProof.Rows
section
variable {X : Cx} {o e : Expr} {es : List Expr} {to : TE} {t : TA} {apos sX : Pos}
noncomputable def Vv (X : Cx) : V -> List V -> Hp -> VK -> Prop := fun x xs H Q => ∃ a gs k b dv, x = .ref a /\ xs = [.ref b, dv] /\ Rd H a (.dT gs) /\ sF X.K H b (k.map kV) /\ Q ((jR gs k).getD dv) H
theorem Sf (hu : X.A.units + 1 < cLine) : ZP X "dict.get" (Vv X) := by
 intro pins s σ H x vs v us Q I rx rv h
 obtain ⟨a, gs, k, b, dv, rfl, rfl, hr, hb, q⟩ := h
 cases rx
 cases rv with
 | cons r1 rv =>
   cases r1
   cases rv with
   | cons r2 rv =>
     cases rv
     obtain ⟨z, hd, xs, rel, dd⟩ := sH I.dg hr
     exact call_meetsIn PySem.F.slot_dict_get dd.typeIs PySem.F.entry_dict_get (PySem.F.args_dict_get_3 _ _ _) (meetsH_dict_get_default _ a b hd _) ⟨air hu, k, xs, Iv I hb, dd, _, H, I.tok _, (rel.val k).getD r2, q⟩
noncomputable def aaH (X : Cx) (to : TE) (t : TA) : TE := fun σ H Q => to σ H fun x H1 => ∃ a gs, x = .ref a /\ Rd H1 a (.dT gs) /\ t σ H1 fun xs H2 => Vv X x xs H2 Q
theorem Sg (hu : X.A.units + 1 < cLine) (ho : PE X o to) (ha : PA X (e :: es) t)
   (iz : attributeBase o "get" X.env (eval o X.env) = eval o X.env := by rfl)
   (oW : ((backTo sX (starEach (e :: es) X.env)).all (fun x => !x.1) && (backToKw sX (keywordEach [] X.env)).all (fun x => x.1.isSome) && decide ((e :: es).length + ([] : List Keyword).length + (if ([] : List Keyword).isEmpty then 0 else 1) < 30)) = true := by rfl)
   (hline : (apos.endLine == sX.line) = true := by rfl) (hs : starEach (e :: es) X.env = (false, eval e X.env) :: starEach es X.env := by rfl) (yq : (backTo sX (starEach es X.env)).any (·.1) = false := by rfl) :
   PE X (.Call (.Attribute o "get" apos) (e :: es) [] sX) (aaH X to t) := by
 intro pins s σ H Q I h
 refine wpAny_Call_method_late iz oW hline rfl (dF (ho pins s σ H _ I h) fun v s1 zz => ?_)
 obtain ⟨x, H1, I1, r1, a, gs, rfl, hr, q1⟩ := zz
 have WC := r1
 cases r1
 obtain ⟨z, hd, xs, rel, dd⟩ := sH I1.dg hr
 have YL := dd
 obtain ⟨ob, QI, ep, h1, h2, h3, h4, h5⟩ := YL
 refine ⟨"dict", "dict.get", PySem.F.plainAttrs_dict, PySem.F.slot_dict_get, PySem.F.type_dict_get, dd.typeIs, fun a' e' => ⟨ob, by cases e'; exact h1, ?_⟩, ?_⟩
 . exact h2.2.1
 have hA := ha sX pins s1 σ H1 _ I1 q1
 rw [hs] at hA ⊢
 refine Calls.callWith_builtin (by show (false || (backTo sX (starEach es X.env)).any (·.1)) = false; rw [yq] <;> rfl) (Calls.evalArgs_plain ?_)
 exact dF hA fun us s2 ⟨vs, H2, I2, r2, q2⟩ => Sf hu pins s2 σ H2 _ vs _ us Q I2 WC r2 q2
end
end L2
namespace L3
open PySem PySem.Spec PyProof.Rows L2
section
variable {X : Cx} {CL : Str -> Addr} {b : Bx} {δ δ1 δ2 δ3 : List (Option T)} {e1 e2 e3 : Expr} {kvs : List (List Key × L3.D)} {d0 : L3.D} {pos pa : Pos}
theorem Oc (k : List Key) (hu : X.A.units + 64 < cLine) (h1 : bV X CL b e1 δ (.sh (.dct kvs)) δ1) (h2 : bV X CL b e2 δ1 (jT k) δ2) (h3 : bV X CL b e3 δ2 (.sh d0) δ3)
   (iz : attributeBase e1 "get" X.env (eval e1 X.env) = eval e1 X.env := by rfl)
   (oW : ((backTo pos (starEach [e2, e3] X.env)).all (fun x => !x.1) && (backToKw pos (keywordEach [] X.env)).all (fun x => x.1.isSome) && decide ([e2, e3].length + ([] : List Keyword).length + (if ([] : List Keyword).isEmpty then 0 else 1) < 30)) = true := by rfl)
   (hline : (pa.endLine == pos.line) = true := by rfl) (hs : starEach [e2, e3] X.env = (false, eval e2 X.env) :: starEach [e3] X.env := by exact aP rfl) (hs2 : starEach [e3] X.env = (false, eval e3 X.env) :: starEach [] X.env := by exact aP rfl) (yq : (backTo pos (starEach [e3] X.env)).any (·.1) = false := by rfl) :
   bV X CL b (.Call (.Attribute e1 "get" pa) [e2, e3] [] pos) δ (.sh ((fj kvs k).getD d0)) δ3 := fun H Z σ ts vs Q S kk =>
 bU (Sg (by omega) cI (bD cI (bD cI c6 hs2) hs) iz oW hline hs yq) (h1 H Z σ ts vs _ S fun v H1 Z1 z1 k1 S1 => by
   have r := S1.F9
   cases r with
   | @dct a gs _ ha rr =>
     refine ⟨a, gs, rfl, Rd.mono S1.zh ha, h2 H1 Z1 σ _ _ _ S1 fun v2 H2 Z2 z2 k2 S2 => h3 H2 Z2 σ _ _ _ S2 fun v3 H3 Z3 z3 k3 S3 => ?_⟩
     obtain ⟨kb, rfl, hb⟩ := S3.pop.yK
     have r := S3.pop.pop.F9
     have rd0 := S3.F9
     cases r with
     | @dct _ LW _ Nq Rz =>
       refine ⟨a, LW, k, kb, v3, rfl, rfl, Rd.mono S3.zh Nq, sF.of hb, ?_⟩
       rcases Rz.val (k := k) with ⟨h0, h0'⟩ | ⟨d', v', h0, hv, rd⟩
       . rw [h0']
         rw [h0] at kk
         exact kk v3 H3 Z3 (z1.trans (z2.trans z3)) (k1.trans (k2.trans k3)) (S3.pop.pop.pop.push rd0)
       . rw [hv]
         rw [h0] at kk
         exact kk v' H3 Z3 (z1.trans (z2.trans z3)) (k1.trans (k2.trans k3)) (S3.pop.pop.pop.push rd))
end
end L3
namespace L2
open PySem PySem.Spec PyProof.Rows
section
variable {prog : Program} {w : World} {K : Type} [DecidableEq K] {knd : HeapKind prog w K} {A : Around} {E : Value -> Shared -> Prop} {s : Shared}
theorem Xv {nm : String} {a b : Addr} {xa xb : List (K × Addr × Value)} {Q : Bool -> Shared -> Prop} (ha : (a == sysModules) = false) (hb : (b == sysModules) = false) (da : s.heap.DictOfH knd a xa) (db : s.heap.DictOfH knd b xb) (hu : knd.room A) (hlen : xa.length = xb.length)
   (hits : ∀ x ∈ xa, ∃ (j : Nat) (q : Addr × Value), xb[j]? = some (x.1, q) /\ SeqAt.EqAt A s x.2.2 q.2 true) (h : Q true s) : wpAny (model prog w) A (Builtin.Dict.samePairs nm a b) Q E s := by
 obtain ⟨oa, es, ep, hoa, _, hda, hea, adx, _⟩ := da
 obtain ⟨ob, QI, YG, hob, _, nI, heb, adA, hnb⟩ := db
 have hsa : es.size = xa.length := size_of_entries hea
 have hsb : QI.size = xb.length := size_of_entries heb
 unfold Builtin.Dict.samePairs Builtin.Dict.showsAll
 rw [ag2 (show ¬ (a == sysModules) = true by rw [ha]; exact ag5), ag2 (show ¬ (b == sysModules) = true by rw [hb]; exact ag5)]
 refine agW (ahe (agW (ahe ?_)))
 refine agW (aih hoa hda ?_)
 dsimp only
 refine agW (aih hob nI ?_)
 rw [ag2 (by rw [hsa, hsb, hlen]; simp)]
 refine agW (wpAny_dictEpoch hoa hda ?_)
 refine agW ?_
 rw [Std.Legacy.Range.forIn_eq_forIn_range']
 simp only [Std.Legacy.Range.size, Nat.sub_zero, Nat.add_sub_cancel, Nat.div_one]
 refine wpAny_forIn_list _ (fun rest q s' => s' = s /\ q = (none, ()) /\ ∃ i, rest = List.range' i (es.size - i) /\ i <= es.size) _ ?_ ?_ _ _ ⟨rfl, rfl, 0, by simp, ahs _⟩
 . rintro x rest q s' ⟨rfl, rfl, i, hr, hi⟩
   have qi : i < es.size := by
     rcases Nat.lt_or_ge i es.size with h | h
     . exact h
     . rw [Nat.sub_eq_zero_of_le h] at hr; simp at hr
   obtain ⟨rfl, aaJ⟩ : x = i /\ rest = List.range' (i + 1) (es.size - (i + 1)) := by
     have e : es.size - i = (es.size - (i + 1)) + 1 := by omega
     rw [e, List.range'_succ] at hr
     injection hr with h1 h2
     exact ⟨h1, h2⟩
   refine agW (aih hoa hda ?_)
   obtain ⟨⟨k, c, v⟩, hkv⟩ : ∃ y, xa[x]? = some y := ⟨_, ag7 (by omega)⟩
   have hex : es[x]? = some ⟨knd.hash k, .ref c, v⟩ := by rw [entry_at hea x, hkv]; rfl
   rw [hex]
   obtain ⟨j, ⟨c', v'⟩, hj, he⟩ := hits _ (ahk hkv)
   have hey : QI[j]? = some ⟨knd.hash k, .ref c', v'⟩ := by rw [entry_at heb j, hj]; rfl
   show wpAny _ _ (holding [Value.ref c, v] _ >>= _) _ _ _
   refine agW (aiD (agW (wpAny_dictFind_heap hu (adx _ (ahk hkv)) hob nI heb adA hnb (fun EA => absurd hj (EA j _)) (fun j' p' hj' => ?_))))
   have ej := idxH_unique hnb hj' hj
   subst ej
   refine agW (aih hob nI ?_)
   rw [hey]
   refine aiD (he prog w _ _ ?_)
   show wpAny _ _ (if (!true) = true then _ else _) _ _ _
   rw [ag2 (by decide)]
   refine agW (wpAny_dictEpoch hoa hda ?_)
   rw [ag2 (by simp)]
   exact ahe ⟨rfl, rfl, x + 1, aaJ, qi⟩
 . rintro q s' ⟨rfl, rfl, i, hr, hi⟩
   exact ahe h
theorem eqH {a b : Addr} {xa xb : List (K × Addr × Value)} {Q : Value -> Shared -> Prop} (ha : (a == sysModules) = false) (hb : (b == sysModules) = false) (da : s.heap.DictOfH knd a xa) (db : s.heap.DictOfH knd b xb) (hr : knd.room A.in1) (hu : A.units < cLine) (hlen : xa.length = xb.length)
   (hits : ∀ x ∈ xa, ∃ (j : Nat) (q : Addr × Value), xb[j]? = some (x.1, q) /\ SeqAt.EqAt A.in1 s x.2.2 q.2 true) (h : Q (.bool true) s) : wpAny (model prog w) A (compareOp .Eq (.ref a) (.ref b)) Q E s := by
 refine wpAny_richCompare_same_room (op := .Eq) da.typeIs db.typeIs PySem.F.slot_dict_eq (ail PySem.F.slot_dict_eq da.typeIs PySem.F.entry_dict_eq ?_ (PySem.F.args_dict_eq_2 _ _)) hu
 show wpAny _ _ (Builtin.Dict.dictSlotArgs "__eq__" ⟨[.ref a, .ref b], []⟩ >>= _) _ _ s
 refine agW ?_
 unfold Builtin.Dict.dictSlotArgs
 refine agW (wpAny_notOrdered_dict da.typeIs ?_)
 show wpAny _ _ (pure (Value.ref a, Value.ref b)) _ _ s
 refine ahe ?_
 refine agW (wpAny_isInstance (T := "dict") db.typeIs PySem.F.sub_dict_dict ?_)
 simp only [Bool.not_true, ais, aiJ]
 refine agW (ahe (agW (ahe ?_)))
 refine agW (Xv ha hb da db hr hlen hits ?_)
 refine ahe ⟨_, rfl, ?_, ?_⟩
 . exact fun x => nomatch x
 . simpa using h
end
end L2
namespace L3
open PySem PySem.Spec PyProof.Rows L2
section
variable {X : Cx} {CL : Str -> Addr}
theorem Gj {H : Hp} {gs : List (List Key × V)} {xs : List (List Key × Addr × Value)} (rel : Paired (fun p q => p.1 = q.1 /\ H q.2.1 = some (.tup (p.1.map kV)) /\ RelV p.2 q.2.2) gs xs) {j : Nat} {y : List Key × Addr × Value} (h : xs[j]? = some y) : ∃ p, gs[j]? = some p /\ p.1 = y.1 /\ RelV p.2 y.2.2 := by
 have hl := aid rel
 have hj : j < gs.length := by rw [hl]; exact (ahp.mp h).1
 obtain ⟨y', h1, h2, _, h3⟩ := Paired.YY rel (ag7 hj)
 rw [h] at h1
 cases h1
 exact ⟨_, ag7 hj, h2, h3⟩
theorem Iw (hu : X.A.units + 64 < cLine) : u6 X (compareOp .Eq) (fun x y H Q => ∃ a c ga gc, x = .ref a /\ y = .ref c /\ Rd H a (.dT ga) /\ Rd H c (.dT gc) /\ ga.length = gc.length /\ (∀ (j : Nat) (p : List Key × V), ga[j]? = some p -> ∃ (v' : V) (d : D), gc[j]? = some (p.1, v') /\ gX 60 d /\ bq X.K CL H d p.2 /\ bq X.K CL H d v') /\ Q (.bl true) H) := by
 intro pins s σ H x y v u Q I rx ry h
 obtain ⟨a, c, ga, gc, rfl, rfl, ra, rc, hl, hits, q⟩ := h
 cases rx
 cases ry
 obtain ⟨_, hd, xs, rel, dd⟩ := sH I.dg ra
 obtain ⟨_, hd2, ys, aaK, dd2⟩ := sH I.dg rc
 refine eqH hd hd2 dd dd2 (air (by omega)) (by omega) (by rw [← aid rel, ← aid aaK, hl]) (fun x hx => ?_) ⟨.bl true, H, I, rfl, q⟩
 obtain ⟨j, hj, e⟩ := aiG hx
 obtain ⟨p, hp, p1, p2⟩ := Gj rel (j := j) (y := x) (by rw [ag7 hj, e])
 obtain ⟨v', d, hv, YZ, r1, r2⟩ := hits j p hp
 obtain ⟨y, hy, q1, _, q2⟩ := Paired.YY aaK hv
 obtain ⟨as, s1⟩ := vz I YZ r1 p2
 obtain ⟨bs, s2⟩ := vz I YZ r2 q2
 refine ⟨j, y.2, by rw [hy, ← p1]; exact congrArg some (Prod.ext q1.symm rfl), ?_⟩
 have := SeqAt.eqAt_reads d.toPy d.toPy X.A.in1 s _ _ as bs s1 s2 YZ.lay.1 YZ.lay.1 (by have := YZ.lay.2; have e : X.A.in1.units = X.A.units + 1 := rfl; omega)
 rwa [show PyData.eqv d.toPy d.toPy = true from eU YZ] at this
end
section
variable {X : Cx} {CL : Str -> Addr} {b : Bx} {δ δ1 δ2 : List (Option T)} {e e1 e2 : Expr} {t u : T} {p : List BE} {pos : Pos} {i : Nat} {q : Bool} {kvs : List (List Key × L3.D)}
theorem cZ.YY {K : PySem.W.Frag} {Z : Hp} : ∀ {kvs : List (List Key × D)} {gs : List (List Key × V)}, cZ K CL Z kvs gs -> ∀ {j : Nat} {x : List Key × V}, gs[j]? = some x -> ∃ d, kvs[j]? = some (x.1, d) /\ bq K CL Z d x.2 := fun {kvs gs} h => cZ.ind (P := fun kvs gs => ∀ {j : Nat} {x : List Key × V}, gs[j]? = some x -> ∃ d, kvs[j]? = some (x.1, d) /\ bq K CL Z d x.2) (fun {j x} e => by simp at e) (fun {k d v _ _} r _ i {j x} e => by
   cases j with
   | zero =>
     simp at e
     subst e
     exact ⟨d, rfl, r⟩
   | succ j =>
     rw [aiP] at e ⊢
     exact i e) h
theorem cZ.pair {K : PySem.W.Frag} {Z : Hp} {gs LW : List (List Key × V)} (r : cZ K CL Z kvs gs) (r2 : cZ K CL Z kvs LW) (hd : ∀ q ∈ kvs, gX 60 q.2) : gs.length = LW.length /\ ∀ (j : Nat) (p : List Key × V), gs[j]? = some p -> ∃ (v' : V) (d : D), LW[j]? = some (p.1, v') /\ gX 60 d /\ bq K CL Z d p.2 /\ bq K CL Z d v' := by
 have hl : gs.length = LW.length := by rw [← r.length, ← r2.length]
 refine ⟨hl, fun j p hp => ?_⟩
 obtain ⟨d, h1, h2⟩ := r.YY hp
 have hj : j < LW.length := by rw [← hl]; exact (ahp.mp hp).1
 obtain ⟨d', h3, h4⟩ := r2.YY (ag7 hj)
 rw [h1] at h3
 injection h3 with h3
 injection h3 with h5 h6
 subst h6
 exact ⟨LW[j].2, d, by rw [ag7 hj, h5], hd _ (ahk h1), h2, h4⟩
theorem Sh (hu : X.A.units + 64 < cLine) (h1 : dH X CL b e1 δ (.dct kvs) δ1) (h2 : dH X CL b e2 δ1 (.dct kvs) δ2) (hd : ∀ q ∈ kvs, gX 60 q.2) : vo X CL b (.Compare e1 [.Eq] [e2] pos) δ true δ2 /\ bV X CL b (.Compare e1 [.Eq] [e2] pos) δ (.sh (.bl true)) δ2 := by
 constructor
 . intro H Z σ ts vs Q S k
   refine Ay (tZ (Iw (CL := CL) hu) cI cI (k7 _)) (h1 H Z σ ts vs _ S fun v1 H1 Z1 z1 WZ S1 r1 => h2 H1 Z1 σ ts vs _ S1 fun v2 H2 Z2 z2 Nb S2 r2 => ?_)
   have r1 := r1.mono Nb
   cases r1 with
   | @dct a gs _ ha rr =>
     cases r2 with
     | @dct c LW _ hc Rz =>
       obtain ⟨q1, q2⟩ := rr.pair Rz hd
       exact ⟨a, c, gs, LW, rfl, rfl, ha, hc, q1, q2, _, rfl, k H2 Z2 (z1.trans z2) (WZ.trans Nb) S2⟩
 . intro H Z σ ts vs Q S k
   refine bU (xq (Iw (CL := CL) hu) cI cI (k7 _)) (h1 H Z σ ts vs _ S fun v1 H1 Z1 z1 WZ S1 r1 => h2 H1 Z1 σ ts vs _ S1 fun v2 H2 Z2 z2 Nb S2 r2 => ?_)
   have r1 := r1.mono Nb
   cases r1 with
   | @dct a gs _ ha rr =>
     cases r2 with
     | @dct c LW _ hc Rz =>
       obtain ⟨q1, q2⟩ := rr.pair Rz hd
       exact ⟨a, c, gs, LW, rfl, rfl, ha, hc, q1, q2, k _ H2 Z2 (z1.trans z2) (WZ.trans Nb) (S2.push (.bl _))⟩
theorem Xw {kvs : List (List Key × T)} (k : List Key) (hu : X.A.units + 64 < cLine) (h : Io X CL b e δ i p) (hi : δ[i]? = some (some t)) (hg : T.jx p t = some (.dct kvs)) (h2 : dH X CL b e2 δ (Im k) δ) (hk : fj kvs k = some u) (hs : J7 e2 := by exact fun _ _ => rfl) : Io X CL b (.Subscript e e2 pos) δ i (p ++ [.key k]) := fun H Z σ ts vs Q S kk =>
 bU (Se (by omega) cI cI hs) (h H Z σ ts vs _ S fun v0 v H' Z' z1 s1 S' ev rH => h2 H' Z' σ ts vs _ S' fun v2 H2 Z2 z2 s2 S2 r2 => by
   have at2 := rH.mono s2
   obtain ⟨w, f2, at', r⟩ := S2.Ge ev hi hg
   have := at'.inj at2
   subst this
   unfold Im at r2
   cases r2 with
   | tup hq rk =>
     rw [Gi rk] at hq
     cases r with
     | @dct a gs _ g ha rs =>
       obtain ⟨w, _, _, _, hw, _, _, _⟩ := rs.LV hk
       exact ⟨a, w, gs, k, _, rfl, rfl, .inl ha, hq, hw, kk v0 w H2 Z2 (z1.trans z2) (s1.trans s2) S2 ev (at2.snoc ⟨a, gs, rfl, ha, hw⟩)⟩)
theorem Si (h : YX X CL b e δ q δ1) : YX X CL b (.UnaryOp .Not e pos) δ (!q) δ1 := fun H Z σ ts vs Q S k => Ay (L4 Rc) (h H Z σ ts vs _ S fun H1 Z1 z1 S1 => k H1 Z1 z1 S1)
end
section
variable {X : Cx} {CL : Str -> Addr} {b : Bx} {δ δ1 : List (Option T)} {e : Expr} {ds : List L3.D} {pos : Pos} {i : Nat} {x : Str} {D : dP} {ez : List Stmt}
theorem Xx {body : List Stmt} {pos' : Pos} (J : List (Option T) -> Prop) (g : Gx X) (n : Ln X i x) (P : Nat -> List (Option T) -> Prop) (h : LQ X CL b (.Name x pos') e δ ds δ1) (h0 : P 0 δ1) (hl : ∀ j δ, P j δ -> i < δ.length)
   (hs : ∀ j d δ, ds[j]? = some d -> P j δ -> cU X CL b body (δ.set i (some (.sh d))) { nx := P (j + 1), rt := D.rt, bk := J, ct := P (j + 1) }) (hd : ∀ δ, P ds.length δ -> J δ) (k : ∀ δ, J δ -> cU X CL b ez δ D) (hq : ∀ x, foldedSetIterable e X.env x = pure x := by intro _; rfl) :
   cU X CL b (.For (.Name x pos') e body [] pos :: ez) δ D :=
 qj g n P h h0 hl (fun j d δ hj hp => cU.to (hs j d δ hj hp) (fun _ q => q) (fun _ _ q => q) k (fun _ q => q)) (fun δ hp => k δ (hd δ hp)) hq
theorem CF {o1 o2 o3 : Option T} {d1 d2 d3 : L3.D} {p q : T} {ρ : List (Option T)} : Keeps (o1 :: o2 :: o3 :: some p :: some q :: ρ) [.sh d1, .sh d2, .sh d3, p, q] := fun j y t h => by
 match j, h with
 | 0, h => cases h
 | 1, h => cases h
 | 2, h => cases h
 | 3, h => cases h; rfl
 | 4, h => cases h; rfl
 | j + 5, h => cases h
theorem Sj {o1 o2 : Option T} {d1 d2 : L3.D} {p : T} {ρ : List (Option T)} : Keeps (o1 :: o2 :: some p :: ρ) [.sh d1, .sh d2, p] := fun j y t h => by
 match j, h with
 | 0, h => cases h
 | 1, h => cases h
 | 2, h => cases h; rfl
 | j + 3, h => cases h
end
end L3
namespace Law
open PySem L2 L3
noncomputable def top (i : Nat) : Stmt := PySem.Challenge.pw_moodtree_k53_a_run_of_rows.main.body.getD i (.Pass ⟨0, 0, 0, 0⟩)
noncomputable def chF : Nat -> List Int -> Int -> List Int
 | 0, _, _ => []
 | n + 1, es, k => if k = -1 then [] else k :: chF n es (es.getD k.toNat 0)
noncomputable def Xy (es : List Int) (m : Int) : List Int := chF (es.length + 1) es (es.getD m.toNat 0)
theorem c5 (ds : List L3.D) : T.bS (.lst (ds.map T.sh)) = .lst ds := by rw [T.bS, iB]
theorem pG (l : List Int) : (T.lst ((l.map L3.D.int).map T.sh)).clean = true := by rw [jr]; exact qF _
noncomputable def Od (BH : Int -> Bool) (es : List Int) (a b t : Int) : Prop :=
 (t = -1 /\ ∀ x ∈ Xy es a, x ∈ Xy es b -> BH x = false) \/ (t ∈ Xy es a /\ t ∈ Xy es b /\ BH t = true /\ ∀ x ∈ Xy es a, x ∈ Xy es b -> BH x = true -> x = t \/ x ∈ Xy es t)
theorem Od.symm {BH : Int -> Bool} {es : List Int} {a b t : Int} (h : Od BH es a b t) : Od BH es b a t := by
 rcases h with ⟨e, h⟩ | ⟨h1, h2, h3, h4⟩
 . exact .inl ⟨e, fun x hx hy => h x hy hx⟩
 . exact .inr ⟨h2, h1, h3, fun x hx hy => h4 x hy hx⟩
theorem dM {ds : List L3.D} (h : D.bQ ds = true) : (T.lst (ds.map T.sh)).clean = true := by
 rw [jr]
 induction ds with
 | nil => rfl
 | cons d ds ih =>
   rw [D.bQ, ahz] at h
   rw [ahd, T.cK, ih h.2, T.clean, h.1]; rfl
noncomputable def jl (ns : List Int) (k : Int) : Int := if k < ns.length then ns.getD k.toNat 0 else 0
noncomputable def adC : List Nat := (List.range 26).map (· + 97) ++ (List.range 10).map (· + 48)
noncomputable def adD (k : Int) : Str := ⟨#[adC.getD k.toNat 0]⟩
noncomputable def aaL (m : Int) : Int := (m * 48271 + 11) % 2147483647
noncomputable def Gk (p : Int × Str) : Nat -> Int × Str
 | 0 => p
 | n + 1 => (aaL (Gk p n).1, (Gk p n).2 ++ adD (aaL (Gk p n).1 % 36))
theorem nR (l : List Int) : gX 60 (.lst (l.map .int)) := .lst fun d hd => by
 obtain ⟨i, _, rfl⟩ := ahm.mp hd
 exact .int _ _
noncomputable abbrev Y0 := List Int × List Int × List Int
inductive J where
 | out (m : Int) | Ep (m : Int) | keep (m p q : Int) | put (x p q : Int) | Oe (w : Str) (ds : List L3.D)
noncomputable def J.w : J -> Str
 | .out _ => "out"
 | .Ep _ => "in"
 | .keep _ _ _ => "keep"
 | .put _ _ _ => "put"
 | .Oe w _ => w
noncomputable def J.ds : J -> List L3.D
 | .out m => [.int m]
 | .Ep m => [.int m]
 | .keep m p q => [.int m, .int p, .int q]
 | .put x p q => [.int x, .int p, .int q]
 | .Oe _ ds => ds
noncomputable def J.d (r : J) : L3.D := .tup (.str r.w :: r.ds)
noncomputable def Sl : List Str := ["sign", "way", "call", "say", "rest"]
noncomputable def Og (d : L3.D) : Prop := (∃ i, d = .int i) \/ ∃ x, d = .str x
noncomputable def J.ok (s : Y0) : J -> Prop
 | .keep m _ _ => 0 <= m /\ m < s.2.1.length
 | .put x _ _ => 0 <= x /\ x < s.2.2.length
 | .Oe w ds => w ∈ Sl /\ ds.length <= 3 /\ ∀ d ∈ ds, Og d
 | _ => True
noncomputable def yO (back : Bool) (r : J) (bs : List Int) : List Int := match r with
 | .put x p q => bs.set x.toNat (if back then p else q)
 | _ => bs
theorem J.ab4 {s : Y0} {r : J} (h : r.ok s) : r.ds.length <= 3 /\ ∀ d ∈ r.ds, Og d := by
 cases r with
 | Oe w ds => exact h.2
 | out m => exact ⟨agZ rfl, fun d hd => by simp only [J.ds, ag4, ahb, aiv] at hd; exact .inl ⟨_, hd⟩⟩
 | Ep m => exact ⟨agZ rfl, fun d hd => by simp only [J.ds, ag4, ahb, aiv] at hd; exact .inl ⟨_, hd⟩⟩
 | keep m p q => exact ⟨agZ rfl, fun d hd => by
     simp only [J.ds, ag4, ahb, aiv] at hd
     rcases hd with h | h | h <;> exact .inl ⟨_, h⟩⟩
 | put m p q => exact ⟨agZ rfl, fun d hd => by
     simp only [J.ds, ag4, ahb, aiv] at hd
     rcases hd with h | h | h <;> exact .inl ⟨_, h⟩⟩
noncomputable def Right (n : Nat) (s : Y0) : J -> Prop
 | .out m => m ∈ s.1
 | .Ep m => m ∉ s.1 /\ 0 <= m /\ m < n
 | .keep m p _ => 0 <= m /\ m < s.2.1.length /\ s.2.1.getD m.toNat 0 = p
 | .put x p _ => 0 <= x /\ x < s.2.2.length /\ s.2.2.getD x.toNat 0 = p
 | .Oe w ds => w ∈ Sl /\ ds.length <= 3 /\ ∀ d ∈ ds, Og d
theorem Right.ok {n : Nat} {s : Y0} {r : J} (h : Right n s r) : r.ok s := by
 cases r with
 | out m => trivial
 | Ep m => trivial
 | keep m p q => exact ⟨h.1, h.2.1⟩
 | put m p q => exact ⟨h.1, h.2.1⟩
 | Oe w ds => exact h
noncomputable def J.Oh : J -> Bool
 | .put _ _ _ => true
 | _ => false
theorem Xz {w : Str} (h : w ∈ Sl) : ¬ w = "put" /\ ¬ w = "keep" /\ ¬ w = "in" /\ ¬ w = "out" := by
 have : ∀ w ∈ Sl, ¬ w = "put" /\ ¬ w = "keep" /\ ¬ w = "in" /\ ¬ w = "out" := by decide +kernel
 exact this w h
theorem aaM {s : Y0} {r : J} (h : r.ok s) : decide (r.w = "put") = r.Oh := by
 cases r with
 | Oe w ds => exact ah2 (Xz h.1).1
 | _ => first | exact decide_eq_true rfl | (refine decide_eq_false ?_; dsimp only [J.w]; decide +kernel)
theorem adE (r : J) : An (L3.D.str r.w :: r.ds) 0 = some (.str r.w) := aL (j := 0) rfl
theorem Oi (back : Bool) (r : J) (l : List Int) : (yO back r l).length = l.length := by
 cases r <;> first | rfl | exact List.length_set
noncomputable def bI (bx mo : Int) (bs : List Int) : Int := if bx = -1 then mo else bs.getD bx.toNat 0 + mo
inductive eF where
 | put (x b m : Int)
 | call (s : Str)
 | say (s : Str) (b m : Int)
noncomputable def eF.w : eF -> Str
 | .put _ _ _ => "put"
 | .call _ => "call"
 | .say _ _ _ => "say"
noncomputable def eF.ds : eF -> List L3.D
 | .put x b m => [.int x, .tup [.int b, .int m]]
 | .call s => [.str s]
 | .say s b m => [.str s, .tup [.int b, .int m]]
noncomputable def eF.d (q : eF) : L3.D := .tup (.str q.w :: q.ds)
noncomputable def Oj (bs : List Int) (b : Int) : Prop := b = -1 \/ (0 <= b /\ b < bs.length)
noncomputable def eF.ok (bs : List Int) : eF -> Prop
 | .put x b _ => (0 <= x /\ x < bs.length) /\ Oj bs b
 | .call _ => True
 | .say _ b _ => Oj bs b
noncomputable def eF.row (bs : List Int) : eF -> J
 | .put x b m => .put x (bs.getD x.toNat 0) (bI b m bs)
 | .call s => .Oe "call" [.str s]
 | .say s b m => .Oe "say" [.str s, .int (bI b m bs)]
theorem KP {n : Nat} {s : Y0} {q : eF} (h : q.ok s.2.2) : Right n s (q.row s.2.2) := by
 cases q with
 | put x b m => exact ⟨h.1.1, h.1.2, rfl⟩
 | call s => exact ⟨by decide +kernel, by show 1 <= 3; decide, fun d hd => by simp only [ag4, ahb, aiv] at hd; exact .inr ⟨_, hd⟩⟩
 | say s b m => exact ⟨by decide +kernel, by show 2 <= 3; decide, fun d hd => by
     simp only [ag4, ahb, aiv] at hd
     rcases hd with e | e
     . exact .inr ⟨_, e⟩
     . exact .inl ⟨_, e⟩⟩
theorem XA {bs : List Int} {q : eF} (h : q.ok bs) : ∃ o m, (q.row bs).ok (o, m, bs) := ⟨[], [], (KP (n := 0) (s := ([], [], bs)) h).ok⟩
theorem xG (bs : List Int) (q : eF) : (q.row bs).d.mw = true := by cases q <;> rfl
theorem Ol (q : eF) : q.d.mw = true := by cases q <;> rfl
noncomputable def Qv (bs : List Int) (q : eF) : List Int := yO false (q.row bs) bs
theorem Iz (bs : List Int) (q : eF) : (Qv bs q).length = bs.length := Oi ..
theorem Om (qs : List eF) : ∀ bs : List Int, (qs.foldl Qv bs).length = bs.length := by
 induction qs with
 | nil => intro bs; rfl
 | cons q qs ih => intro bs; rw [List.foldl_cons, ih, Iz]
noncomputable def nS : List eF -> List Int -> List J
 | [], _ => []
 | q :: qs, bs => q.row bs :: nS qs (Qv bs q)
noncomputable def BI : eF -> Option Str
 | .call s => some s
 | _ => none
noncomputable def mX (qs : List eF) : List Str := qs.filterMap BI
theorem Oo (qs : List eF) (q : eF) : ∀ bs : List Int, nS (qs ++ [q]) bs = nS qs bs ++ [q.row (qs.foldl Qv bs)] := by
 induction qs with
 | nil => intro bs; rfl
 | cons p qs ih => intro bs; rw [ahi, nS, ih, nS, List.foldl_cons, ahi]
theorem Oq (qs : List eF) : ∀ bs : List Int, (nS qs bs).length = qs.length := by
 induction qs with
 | nil => intro bs; rfl
 | cons p qs ih => intro bs; rw [nS, ahu, ih, ahu]
theorem IA {bs b2 : List Int} (h : b2.length = bs.length) (q : eF) (hq : q.ok bs) : q.ok b2 := by
 cases q with
 | put x b m =>
   have hq : (0 <= x /\ x < bs.length) /\ Oj bs b := hq
   show (0 <= x /\ x < b2.length) /\ Oj b2 b
   unfold Oj at hq ⊢
   rw [h]; exact hq
 | call s => trivial
 | say s b m =>
   have hq : Oj bs b := hq
   show Oj b2 b
   unfold Oj at hq ⊢
   rw [h]; exact hq
theorem eZ {α : Type} {l : List α} {j : Nat} {x : α} (h : l[j]? = some x) : l.take (j + 1) = l.take j ++ [x] := by rw [ahU, h]; rfl
inductive It where
 | out (m : Int) | keep (m p q : Int) | way (i : Int) | Ep (m : Int) | fU (q : eF)
noncomputable def It.sj : It -> J
 | .out m => .out m
 | .keep m p q => .keep m p q
 | .way i => .Oe "way" [.int i]
 | .Ep m => .Ep m
 | .fU q => .Oe q.w q.ds
noncomputable def It.d (x : It) : L3.D := x.sj.d
noncomputable def It.j (bs : List Int) : It -> J
 | .fU q => q.row bs
 | x => x.sj
noncomputable def It.ok (bs : List Int) : It -> Prop
 | .fU q => q.ok bs
 | _ => True
noncomputable def It.af (bs : List Int) : It -> List Int
 | .fU q => Qv bs q
 | _ => bs
noncomputable def It.call : It -> Option Str
 | .fU q => BI q
 | _ => none
noncomputable def It.told : It -> Bool
 | .fU _ => true
 | _ => false
noncomputable def j9 : List Str := ["out", "keep", "way", "in"]
theorem Sn (x : It) : decide (x.sj.w ∈ j9) = !x.told := by
 cases x with
 | fU q =>
   cases q with
   | put x b m => show decide (("put" : Str) ∈ j9) = false; decide +kernel
   | call s => show decide (("call" : Str) ∈ j9) = false; decide +kernel
   | say s b m => show decide (("say" : Str) ∈ j9) = false; decide +kernel
 | out m => show decide (("out" : Str) ∈ j9) = true; decide +kernel
 | keep m p q => show decide (("keep" : Str) ∈ j9) = true; decide +kernel
 | way i => show decide (("way" : Str) ∈ j9) = true; decide +kernel
 | Ep m => show decide (("in" : Str) ∈ j9) = true; decide +kernel
theorem pH (x : It) : x.d.mw = true := by
 cases x with
 | fU q => exact Ol q
 | _ => rfl
theorem Ot (bs : List Int) (x : It) : (x.j bs).d.mw = true := by
 cases x with
 | fU q => exact xG bs q
 | _ => rfl
theorem KQ (bs : List Int) (x : It) : (x.af bs).length = bs.length := by
 cases x with
 | fU q => exact Iz bs q
 | _ => rfl
theorem lF (xs : List It) : ∀ bs : List Int, (xs.foldl It.af bs).length = bs.length := by
 induction xs with
 | nil => intro bs; rfl
 | cons x xs ih => intro bs; rw [List.foldl_cons, ih, KQ]
noncomputable def j6 : List It -> List Int -> List J
 | [], _ => []
 | x :: xs, bs => x.j bs :: j6 xs (x.af bs)
noncomputable def aD (xs : List It) : List Str := xs.filterMap It.call
theorem IB (xs : List It) (ys : List It) : ∀ bs : List Int, j6 (xs ++ ys) bs = j6 xs bs ++ j6 ys (xs.foldl It.af bs) := by
 induction xs with
 | nil => intro bs; rfl
 | cons p xs ih => intro bs; rw [ahi, j6, ih, j6, List.foldl_cons, ahi]
theorem rJ (xs : List It) : ∀ bs : List Int, (j6 xs bs).length = xs.length := by
 induction xs with
 | nil => intro bs; rfl
 | cons p xs ih => intro bs; rw [j6, ahu, ih, ahu]
theorem xH (xs : List It) : ∀ bs : List Int, D.bQ ((j6 xs bs).map J.d) = true := by
 induction xs with
 | nil => intro bs; rfl
 | cons x xs ih => intro bs; rw [j6, ahd, D.bQ, Ot, ih]; rfl
theorem KR (qs : List eF) : ∀ bs : List Int, D.bQ ((nS qs bs).map J.d) = true := by
 induction qs with
 | nil => intro bs; rfl
 | cons q qs ih => intro bs; rw [nS, ahd, D.bQ, xG, ih]; rfl
theorem wF (xs : List It) (x : It) : aD (xs ++ [x]) = aD xs ++ x.call.toList := by
 unfold aD
 rw [List.filterMap_append]
 congr 1
theorem IC {bs b2 : List Int} (h : b2.length = bs.length) (x : It) (hx : x.ok bs) : x.ok b2 := by
 cases x with
 | fU q => exact IA h q hx
 | _ => trivial
theorem pI : ∀ {ds : List L3.D}, D.bQ ds = true -> T.cK (ds.map T.sh) = true
 | [], _ => rfl
 | d :: ds, h => by
   rw [D.bQ, ahz] at h
   rw [ahd, T.cK, pI h.2, T.clean, h.1]
   rfl
theorem Gm {l1 l2 l3 : List L3.D} (h1 : D.bQ l1 = true) (h2 : D.bQ l2 = true) (h3 : D.bQ l3 = true) : (T.tup [.lst (l1.map T.sh), .lst (l2.map T.sh), .lst (l3.map T.sh)]).clean = true := by
 rw [T.clean, T.cK, T.cK, T.cK, T.cK, jr, jr, jr, pI h1, pI h2, pI h3]
 rfl
theorem Gn (bs bs2 : List Int) (q : eF) : (T.tup [.lst ((bs2.map L3.D.int).map T.sh), .sh (q.row bs).d]).clean = true := by
 rw [T.clean, T.cK, T.cK, T.cK, T.clean, T.clean, qF, xG]
 rfl
theorem EB {d : L3.D} {ds : List L3.D} : An (d :: ds) 0 = some d := aL (j := 0) rfl
noncomputable def Sq : List Str := ["out", "keep", "way", "in"]
noncomputable def J.told (r : J) : Bool := !decide (r.w ∈ Sq)
noncomputable def BJ (m : Nat) (p : Int) : Int := p % ((m : Int) + 1) - 1
noncomputable def LX (m : Nat) (p : Int) : Int := p / ((m : Int) + 1) / 3
noncomputable def As (m : Nat) (p : Int) : Int := if p / ((m : Int) + 1) % 3 = 0 then LX m p % (2 * 10 ^ (9 : Int).toNat + 1) - 10 ^ (9 : Int).toNat else LX m p % 7 - 3
noncomputable def yP (m : Nat) (p : Int) : Int := if p / ((m : Int) + 1) % 3 = 0 then LX m p / (2 * 10 ^ (9 : Int).toNat + 1) else LX m p / 7
noncomputable def wN (k : Int) : Str := ("w" : Str) ++ (toString k : Str)
noncomputable def IE (m : Nat) (hs : List Str) (p : Int) : It :=
 if p % 9 < 4 then ([.out 1, .keep 0 (-1) 2, .way (p / 9 % 5), .Ep 2] : List It).getD (p % 9).toNat (.out 1)
 else if p % 9 < 6 /\ 0 < m then .fU (.put (p / 9 % (m : Int)) (BJ m (p / 9 / (m : Int))) (As m (p / 9 / (m : Int))))
 else if p % 9 < 8 then .fU (.say (wN (p / 9 % 3)) (BJ m (p / 9 / 3)) (As m (p / 9 / 3)))
 else .fU (.call (hs.getD (p / 9 % (hs.length : Int)).toNat Str.empty))
noncomputable def Qw (m : Nat) (hs : List Str) (p : Int) : Int :=
 if p % 9 < 4 then p / 9 / 5
 else if p % 9 < 6 /\ 0 < m then yP m (p / 9 / (m : Int))
 else if p % 9 < 8 then yP m (p / 9 / 3)
 else p / 9 / (hs.length : Int)
noncomputable def Vw (m : Nat) (hs : List Str) (p : Int) : Nat -> Int
 | 0 => p
 | j + 1 => Qw m hs (Vw m hs p j)
noncomputable def Fo (m : Nat) (hs : List Str) (p : Int) : List It := (List.range (p % 4).toNat).map fun j => IE m hs (Vw m hs (p / 4) j)
noncomputable def EC (m : Nat) (hs : List Str) (p : Int) : Int := Vw m hs (p / 4) (p % 4).toNat
noncomputable abbrev KS := Str × Int × Int × Int × Int
noncomputable def KW (q : KS) : L3.D := .tup [.str q.1, .tup [.int q.2.1, .int q.2.2.1], .tup [.int q.2.2.2.1, .int q.2.2.2.2]]
noncomputable def Cu : List Str := ["<", "<=", "=", "!="]
noncomputable def akO (m : Nat) (p : Int) : KS := (Cu.getD (p % 4).toNat Str.empty, BJ m (p / 4), As m (p / 4), BJ m (yP m (p / 4)), As m (yP m (p / 4)))
noncomputable def akP (m : Nat) (p : Int) : Int := yP m (yP m (p / 4))
noncomputable def Ou (m : Nat) (p : Int) : Nat -> Int
 | 0 => p
 | j + 1 => akP m (Ou m p j)
noncomputable def Ov (m : Nat) (p : Int) (n : Nat) : List KS := (List.range n).map fun j => akO m (Ou m p j)
noncomputable abbrev b9 := List KS × List It × Int
noncomputable def tF (r : b9) : L3.D := .tup [.tup (r.1.map KW), .tup (r.2.1.map It.d), .int r.2.2]
noncomputable def XC (p : Int) : Nat := (1 + p % 2).toNat
noncomputable def rwQ (m : Nat) (p : Int) : Int := Ou m (p / 2) (XC p)
noncomputable def rwO (m : Nat) (hs : List Str) (f : Nat) (p : Int) : b9 := (Ov m (p / 2) (XC p), Fo m hs (rwQ m p), EC m hs (rwQ m p) % (f : Int))
noncomputable def rwP (m : Nat) (hs : List Str) (f : Nat) (p : Int) : Int := EC m hs (rwQ m p) / (f : Int)
noncomputable def XD (m : Nat) (hs : List Str) (f : Nat) (p : Int) : Nat -> Int
 | 0 => p
 | j + 1 => rwP m hs f (XD m hs f p j)
noncomputable def Ow (m : Nat) (hs : List Str) (f : Nat) (p : Int) (n : Nat) : List b9 := (List.range n).map fun j => rwO m hs f (XD m hs f p j)
noncomputable def rwE (m : Nat) (hs : List Str) (f : Nat) (p : Int) : b9 := ([], Fo m hs p, EC m hs p % (f : Int))
noncomputable def XE (m : Nat) (hs : List Str) (f : Nat) (c : Int) : List b9 :=
 Ow m hs f (c % 10 ^ (64 : Int).toNat / 3) (c % 10 ^ (64 : Int).toNat % 3).toNat ++ [rwE m hs f (XD m hs f (c % 10 ^ (64 : Int).toNat / 3) (c % 10 ^ (64 : Int).toNat % 3).toNat)]
theorem Gp (r : b9) : (tF r).mw = true := by
 show (D.bQ (r.1.map KW) && (D.bQ (r.2.1.map It.d) && (true && true))) = true
 rw [bW (fun _ => rfl), bW pH]
 rfl
theorem CG (m : Nat) (hs : List Str) (p : Int) : (Fo m hs p).length <= 3 := by
 unfold Fo
 rw [agU, ahP]
 omega
theorem qt {n : Int} (a : 0 < n) (c : n < 4294967296) : 0 < n /\ n.natAbs.log2 < 9000 := ⟨a, by
 have : n.natAbs ≠ 0 := by omega
 rw [Nat.log2_lt this]
 exact ahx (show n.natAbs < 2 ^ 32 by omega) (Nat.pow_le_pow_right (by decide) (by decide))⟩
noncomputable def Ss (q : Str × Int) : L3.D := .tup [.str q.1, .int q.2]
noncomputable def yQ (s : List Int) : Int := jl s 0 % 10 ^ (12 : Int).toNat
noncomputable def Gq (s : List Int) : Nat := (yQ s % 4).toNat
noncomputable def sL (s : List Int) : Nat := (1 + yQ s / 4 % 13).toNat
noncomputable def goL : List Str := ["go", "go2"]
noncomputable def LY (s : List Int) : Nat := (1 + yQ s / 4 / 13 % 2).toNat
noncomputable def sy (s : List Int) : List Str := goL.take (LY s)
noncomputable def Qx : List Int := [5, 10 ^ (30 : Int).toNat]
noncomputable def Sv (s : List Int) (k : Nat) : Str × Int := (("b" : Str) ++ (toString (k : Int) : Str), jl s (1 + (k : Int)) % 10 ^ (30 : Int).toNat % Qx.getD (k % 2) 0 - 2)
noncomputable def wG (s : List Int) : List (Str × Int) := (List.range (Gq s)).map (Sv s)
noncomputable def xJ (s : List Int) : List It := Fo (Gq s) (sy s) (jl s 3 % 10 ^ (60 : Int).toNat / 7)
noncomputable def ji (k : Nat) : L3.D := .tup [.tup [.int 0, .int (1 + (k : Int))], .tup [.int (-1), .int ((k : Int) - 1)]]
noncomputable abbrev bH := List Key
noncomputable def IG (hs : List Str) (a k : Nat) : bH := [.inl (a : Int), .inr (hs.getD k Str.empty)]
noncomputable def dcR (s : List Int) (m : Nat) (hs : List Str) (f a k : Nat) : List b9 := XE m hs f (jl s (4 + 2 * (a : Int) + (k : Int)))
noncomputable def Gr (s : List Int) (m : Nat) (hs : List Str) (f a n : Nat) : List (bH × List b9) := (List.range n).map fun k => (IG hs a k, dcR s m hs f a k)
noncomputable def II (s : List Int) (m : Nat) (hs : List Str) (f n : Nat) : List (bH × List b9) := (List.range n).flatMap fun a => Gr s m hs f a hs.length
noncomputable def vF (s : List Int) : List (bH × List b9) := II s (Gq s) (sy s) (sL s) (sL s)
noncomputable def sA (l : List (bH × List b9)) : List (bH × T) := l.map fun q => (q.1, T.lst ((q.2.map tF).map T.sh))
noncomputable def dcD (l : List (bH × List b9)) : List (bH × L3.D) := l.map fun q => (q.1, L3.D.lst (q.2.map tF))
theorem Ox (s : List Int) : Gq s <= 3 /\ 1 <= sL s /\ sL s <= 13 /\ (sy s).length = LY s /\ 1 <= LY s /\ LY s <= 2 := by
 have h : LY s <= 2 /\ 1 <= LY s := by unfold LY; omega
 refine ⟨by unfold Gq; omega, by unfold sL; omega, by unfold sL; omega, ?_, h.2, h.1⟩
 unfold sy
 rw [ahG]
 show min (LY s) 2 = LY s
 omega
theorem Oz (s : List Int) : (sy s).Nodup := by
 unfold sy
 exact List.Nodup.sublist (List.take_sublist _ _) (by decide +kernel)
theorem IJ {hs : List Str} (nd : hs.Nodup) {a k a2 k2 : Nat} (h1 : k < hs.length) (h2 : k2 < hs.length) (e : IG hs a k = IG hs a2 k2) : a = a2 /\ k = k2 := by
 unfold IG at e
 injection e with e1 e2
 injection e2 with e2 _
 have e1 := Sum.inl.inj e1
 have e2 := Sum.inr.inj e2
 refine ⟨by omega, ?_⟩
 refine (List.getElem?_inj h1 nd).mp ?_
 rw [ahT, ag7 h1, ahT, ag7 h2] at e2
 rw [ag7 h1, ag7 h2]
 exact congrArg some e2
theorem IK {s : List Int} {m : Nat} {hs : List Str} {f a n : Nat} (nd : hs.Nodup) (hn : n < hs.length) : IG hs a n ∉ (sA (II s m hs f a ++ Gr s m hs f a n)).map (·.1) := fun h => by
 unfold sA at h
 rw [ahv, ag1, ag0] at h
 rcases h with h | h
 . obtain ⟨q, hq, e⟩ := ahm.mp h
   obtain ⟨a2, ha, hq⟩ := aiC.mp hq
   obtain ⟨k, hk, rfl⟩ := ahm.mp hq
   have := (IJ nd (aik.mp hk) hn e).1
   have := aik.mp ha
   omega
 . obtain ⟨q, hq, e⟩ := ahm.mp h
   obtain ⟨k, hk, rfl⟩ := ahm.mp hq
   have h3 := aik.mp hk
   have := (IJ nd (by omega) hn e).2
   omega
theorem IL {s : List Int} {m : Nat} {hs : List Str} {f a n : Nat} : (Gr s m hs f a n).length = n := by unfold Gr; rw [agU, ahP]
theorem yR {s : List Int} {m : Nat} {hs : List Str} {f n : Nat} : II s m hs f (n + 1) = II s m hs f n ++ Gr s m hs f n hs.length := by
 unfold II
 rw [ait, List.flatMap_append]
 simp
theorem CH {s : List Int} {m : Nat} {hs : List Str} {f : Nat} : ∀ n, (II s m hs f n).length = n * hs.length
 | 0 => by simp [II]
 | n + 1 => by rw [yR, ahc, IL, CH n, Nat.succ_mul]
noncomputable def ED (s : List Int) : T := .lst [.lst (((wG s).map Ss).map T.sh), .lst (((sy s).map .str).map T.sh), .sh (.tup ((xJ s).map It.d)), .lst (((List.range (sL s)).map ji).map T.sh), .dct (sA (vF s))]
noncomputable def Sw : List Str := ["all", "and", "box", "call", "do", "far", "if", "in", "leaf", "near", "on", "one", "open", "out", "put", "say", "shut", "then", "to"]
noncomputable def isLt (c : Nat) : Bool := decide (97 <= c) && decide (c <= 122)
noncomputable def aaQ (c : Nat) : Bool := decide (48 <= c) && decide (c <= 57)
noncomputable def tG (x : Str) : Bool := decide (1 <= x.length) && (decide (x.length <= 12) && (!decide (x ∈ Sw) && (isLt (x.cps.toList.getD 0 0) && x.cps.toList.all (fun c => isLt c || aaQ c))))
noncomputable def Y3 (i : Int) (n : Nat) : Bool := decide (0 <= i) && decide (i < (n : Int))
noncomputable def Y4 (i : Int) : Bool := decide (-(10 ^ (30 : Int).toNat) < i) && decide (i < 10 ^ (30 : Int).toNat)
noncomputable def Qy (n : Nat) (a c : Int) : Bool := (decide (a = -1) || Y3 a n) && Y4 c
inductive LkA
 | adH (x : Str) (m : Int)
 | num (mk : Str) (a1 c1 a2 c2 : Int)
noncomputable def adI : LkA -> Prop
 | .adH x _ => x ∈ (["open", "shut"] : List Str)
 | .num mk _ _ _ _ => ¬ mk ∈ (["open", "shut"] : List Str)
noncomputable def jW (q : Str × Int) : L3.D := .tup [.str q.1, .int q.2]
inductive DdG
 | put (i a c : Int)
 | say (w x : Str) (a c : Int)
 | call (x : Str)
structure LgW where
 src : Int
 sign : Str
 al : List LkA
 dl : List DdG
 tgt : Int
 mode : Str
noncomputable def LgW.ok (w : LgW) : Prop := w.sign.length <= 1000 /\ ∀ q ∈ w.al, adI q
noncomputable def Sx (l : List Str) : Bool := l.all tG && decide l.Nodup
noncomputable def OB (l : List (Str × Int)) : Bool := l.all (fun q => Y4 q.2) && Sx (l.map (·.1))
section
variable {bs hs bg pr : List L3.D} {R : L3.D} {TR : T}
noncomputable def wR (bs hs bg pr : List L3.D) (R : L3.D) : List (Str × L3.D) := [("boxes", .lst bs), ("signs", .lst hs), ("begin", .tup bg), ("flats", .lst pr), ("rows", R)]
noncomputable def sC (bs hs bg pr : List L3.D) (t : T) : List (Str × T) := [("boxes", .lst (bs.map T.sh)), ("signs", .lst (hs.map T.sh)), ("begin", .sh (.tup bg)), ("flats", .lst (pr.map T.sh)), ("rows", t)]
theorem mF : List.lookup ("boxes" : Str) (wR bs hs bg pr R) = some (.lst bs) := by
 unfold wR
 rw [fM]
theorem qJ : List.lookup ("signs" : Str) (wR bs hs bg pr R) = some (.lst hs) := by
 unfold wR
 rw [aW (by decide +kernel), fM]
theorem qK : List.lookup ("begin" : Str) (wR bs hs bg pr R) = some (.tup bg) := by
 unfold wR
 rw [aW (by decide +kernel), aW (by decide +kernel), fM]
theorem qL : List.lookup ("flats" : Str) (wR bs hs bg pr R) = some (.lst pr) := by
 unfold wR
 rw [aW (by decide +kernel), aW (by decide +kernel), aW (by decide +kernel), fM]
theorem tH : List.lookup ("rows" : Str) (wR bs hs bg pr R) = some R := by
 unfold wR
 rw [aW (by decide +kernel), aW (by decide +kernel), aW (by decide +kernel), aW (by decide +kernel), fM]
theorem vG : List.lookup ("rows" : Str) (sC bs hs bg pr TR) = some TR := by
 unfold sC
 rw [aW (by decide +kernel), aW (by decide +kernel), aW (by decide +kernel), aW (by decide +kernel), fM]
theorem OD {t2 : T} : jv "rows" t2 (sC bs hs bg pr TR) = sC bs hs bg pr t2 := by
 unfold sC
 rw [aQ (by decide +kernel), aQ (by decide +kernel), aQ (by decide +kernel), aQ (by decide +kernel), rG]
theorem KY {y : Addr} {l : List (bH × T)} {t2 : T} : T.jV [.fld "rows"] t2 (.pin y (.ins "Table" (sC bs hs bg pr (.dct l)))) = .pin y (.ins "Table" (sC bs hs bg pr t2)) := by
 have hk : (T.core (.pin y (.ins "Table" (sC bs hs bg pr (.dct l))))).LV (.fld "rows") = some (.dct l) := vG (bs := bs) (hs := hs) (bg := bg) (pr := pr)
 rw [T.jV, hk]
 show T.pin y (.ins "Table" (jv "rows" t2 (sC bs hs bg pr (.dct l)))) = _
 rw [OD]
end
noncomputable def jm (kvs : List (bH × List L3.D)) : List (bH × T) := kvs.map fun q => (q.1, T.lst (q.2.map T.sh))
noncomputable def fk (kvs : List (bH × List L3.D)) : List (bH × L3.D) := kvs.map fun q => (q.1, L3.D.lst q.2)
noncomputable def Gs (bs hs bg pr : List L3.D) (kvs : List (bH × List L3.D)) : List (Str × T) := sC bs hs bg pr (.dct (jm kvs))
noncomputable def cD (bs hs bg pr : List L3.D) (kvs : List (bH × List L3.D)) : L3.D := .ins "Table" (wR bs hs bg pr (.dct (fk kvs)))
theorem KZ (kvs : List (bH × List L3.D)) : T.uc (jm kvs) = fk kvs := by
 induction kvs with
 | nil => show T.uc [] = []; rw [T.uc]
 | cons q r ih =>
   show T.uc ((q.1, T.lst (q.2.map T.sh)) :: jm r) = (q.1, L3.D.lst q.2) :: fk r
   rw [T.uc, c5, ih]
theorem OG (bs hs bg pr : List L3.D) (kvs : List (bH × List L3.D)) : T.bS (.ins "Table" (Gs bs hs bg pr kvs)) = cD bs hs bg pr kvs := by
 unfold Gs sC cD wR
 rw [T.bS, T.mz, T.mz, T.mz, T.mz, T.mz, T.mz, c5, c5, c5, T.bS, T.bS, KZ]
theorem EE {kvs : List (bH × List L3.D)} (h : ∀ q ∈ kvs, D.bQ q.2 = true) : T.iA (jm kvs) = true := by
 induction kvs with
 | nil => show T.iA [] = true; rw [T.iA]
 | cons q r ih =>
   show T.iA ((q.1, T.lst (q.2.map T.sh)) :: jm r) = true
   rw [T.iA, dM (h q agV), ih fun p hp => h p (agY _ hp)]
   rfl
theorem Gu {bs hs bg pr : List L3.D} {kvs : List (bH × List L3.D)} (h1 : D.bQ bs = true) (h2 : D.bQ hs = true) (h3 : D.bQ bg = true) (h4 : D.bQ pr = true) (h5 : ∀ q ∈ kvs, D.bQ q.2 = true) : T.jq (Gs bs hs bg pr kvs) = true := by
 unfold Gs sC
 rw [T.jq, T.jq, T.jq, T.jq, T.jq, T.jq, dM h1, dM h2, dM h4, T.clean, T.clean, D.mw, h3, EE h5]
 rfl
theorem Sy {α : Type} {l : List (bH × α)} (nd : (l.map (·.1)).Nodup) {j : Nat} {k : bH} {x : α} (h : l[j]? = some (k, x)) : fj l k = some x := by
 induction l generalizing j with
 | nil => simp at h
 | cons p l ih =>
   rw [ahd, ahE] at nd
   cases j with
   | zero =>
     simp at h
     subst h
     exact jU rfl
   | succ j =>
     have h : l[j]? = some (k, x) := h
     rw [gR (p := p) fun e => nd.1 (by rw [e]; exact ahm.mpr ⟨(k, x), ahk h, rfl⟩)]
     exact ih nd.2 h
theorem Gv (kvs : List (bH × List L3.D)) : (fk kvs).map (·.1) = kvs.map (·.1) := by
 unfold fk
 rw [ahv]
 rfl
theorem Gw (kvs : List (bH × List L3.D)) : (jm kvs).map (·.1) = kvs.map (·.1) := by
 unfold jm
 rw [ahv]
 rfl
noncomputable def itG : It -> DdG
 | .fU (.put x b m) => .put x b m
 | .fU (.say s b m) => .say "say" s b m
 | .fU (.call s) => .call s
 | _ => .call Str.empty
noncomputable def adK (q : KS) : LkA := .num q.1 q.2.1 q.2.2.1 q.2.2.2.1 q.2.2.2.2
noncomputable def aaR (xs : List It) : List DdG := (xs.filter It.told).map itG
noncomputable def adL (a : Nat) (h : Str) (r : b9) : LgW := ⟨(a : Int) + 1, h, r.1.map adK, aaR r.2.1, r.2.2 + 1, "new"⟩
noncomputable def aaS (a : Nat) (r : b9) : Bool := decide (r.1 = []) && (decide (r.2.1.filter It.told = []) && decide (r.2.2 = (a : Int)))
noncomputable def aeG (a : Nat) (h : Str) (l : List b9) : List LgW := ((match l.getLast? with | some r => if aaS a r = true then l.dropLast else l | none => l) : List b9).map (adL a h)
structure XF (r : b9) : Prop where
 a : ∀ q ∈ r.1, PyData.strOk q.1 = true
 b : ∀ x ∈ r.2.1, ∀ k, gX (k + 2) x.d
 c : r.2.1.length <= 100
 d : r.1.length <= 100
theorem tK {x y : L3.D} {n : Nat} (h1 : gX n x) (h2 : gX n y) : gX (n + 1) (.tup [x, y]) := .tup fun d hd => by
 simp only [ag4, ahb, aiv] at hd
 rcases hd with rfl | rfl
 . exact h1
 . exact h2
theorem OI {x y z : L3.D} {n : Nat} (h1 : gX n x) (h2 : gX n y) (h3 : gX n z) : gX (n + 1) (.tup [x, y, z]) := .tup fun d hd => by
 simp only [ag4, ahb, aiv] at hd
 rcases hd with rfl | rfl | rfl
 . exact h1
 . exact h2
 . exact h3
theorem IQ {l : List It} (h : ∀ x ∈ l, ∀ k, gX (k + 2) x.d) (k : Nat) : gX (k + 3) (.tup (l.map It.d)) := .tup fun d hd => by
 obtain ⟨q, hq, rfl⟩ := ahm.mp hd
 exact h q hq _
noncomputable def fV (R : List (bH × List b9)) : List (bH × List L3.D) := R.map fun q => (q.1, q.2.map tF)
theorem IU {R : List (bH × List b9)} {k : bH} {l : List b9} (h : fj R k = some l) : fj (fk (fV R)) k = some (.lst (l.map tF)) := by
 unfold fk fV
 rw [ahv]
 induction R with
 | nil => cases h
 | cons p R ih =>
   by_cases e : p.1 = k
   . rw [jU e] at h
     cases h
     rw [ahd]
     exact jU (p := (p.1, L3.D.lst (p.2.map tF))) e
   . rw [gR e] at h
     rw [ahd]
     exact (gR (p := (p.1, L3.D.lst (p.2.map tF))) e).trans (ih h)
noncomputable def Fp (a : Nat) (h : Str) : bH := [.inl (a : Int), .inr h]
structure aaT (R : List (bH × List b9)) (n : Nat) (hs : List Str) : Prop where
 nn : n <= 13
 hh : hs.length <= 2
 v : ∀ a, a < n -> ∀ x ∈ hs, ∃ l, fj R (Fp a x) = some l /\ l.length <= 3 /\ ∀ r ∈ l, XF r
noncomputable def AH (R : List (bH × List b9)) (a : Nat) (x : Str) : List b9 := (fj R (Fp a x)).getD []
theorem wH {x : Str} (h : tG x = true) : PyData.strOk x = true := by
 unfold tG at h
 simp only [ahz] at h
 have h := ahY.mp h.2.2.2.2
 unfold PyData.strOk
 rw [← Array.all_toList, ahY]
 intro c hc
 have := h c hc
 unfold isLt aaQ at this
 simp only [Bool.or_eq_true, ahz, aiR] at this
 refine ahK ?_
 omega
theorem IV (m : Nat) (p : Int) : Qy m (BJ m p) (As m p) = true := by
 have a := ahB p (b := (m : Int) + 1) (by omega)
 have b := ahn p (b := (m : Int) + 1) (by omega)
 have Y5 : (10 : Int) ^ (30 : Int).toNat = 1000000000000000000000000000000 := by decide +kernel
 have p9 : (10 : Int) ^ (9 : Int).toNat = 1000000000 := by decide +kernel
 have hb : Y4 (As m p) = true := by
   have h : -(10 ^ (30 : Int).toNat) < As m p /\ As m p < 10 ^ (30 : Int).toNat := by
     unfold As
     rw [Y5, p9]
     split <;> omega
   unfold Y4
   rw [ahK h.1, ahK h.2]
   rfl
 unfold Qy
 rw [hb]
 unfold BJ
 by_cases e : p % ((m : Int) + 1) - 1 = -1
 . rw [ahK e]; rfl
 . unfold Y3
   rw [ahK (show 0 <= p % ((m : Int) + 1) - 1 by omega), ahK (show p % ((m : Int) + 1) - 1 < (m : Int) by omega)]
   simp
theorem aaU : ∀ k : Nat, k < 3 -> tG (wN (k : Int)) = true := by decide +kernel
theorem XG : ∀ x ∈ goL, tG x = true := by decide +kernel
noncomputable def IW (m : Nat) : It -> Prop
 | .fU (.put i a c) => Y3 i m = true /\ Qy m a c = true
 | .fU (.say s a c) => tG s = true /\ Qy m a c = true
 | .fU (.call s) => tG s = true
 | _ => True
theorem aaV {m : Nat} {hs : List Str} (h0 : 0 < hs.length) (hn : ∀ x ∈ hs, tG x = true) (p : Int) : IW m (IE m hs p) := by
 unfold IE
 split
 . rename_i e
   have a := ahB p (b := 9) (by decide)
   have : p % 9 = 0 \/ p % 9 = 1 \/ p % 9 = 2 \/ p % 9 = 3 := by omega
   rcases this with z | z | z | z <;> rw [z] <;> exact trivial
 split
 . rename_i e
   refine ⟨?_, IV m _⟩
   unfold Y3
   rw [ahK (ahB _ (by omega)), ahK (ahn _ (by omega))]
   rfl
 split
 . refine ⟨?_, IV m _⟩
   have a := ahB (p / 9) (b := 3) (by decide)
   have b := ahn (p / 9) (b := 3) (by decide)
   have := aaU (p / 9 % 3).toNat (by omega)
   rwa [show (((p / 9 % 3).toNat : Nat) : Int) = p / 9 % 3 by omega] at this
 . have a := ahB (p / 9) (b := (hs.length : Int)) (by omega)
   have b := ahn (p / 9) (b := (hs.length : Int)) (by omega)
   refine hn _ ?_
   have hl : (p / 9 % (hs.length : Int)).toNat < hs.length := by omega
   rw [ahT, ag7 hl]
   exact List.getElem_mem hl
theorem IX {m : Nat} {hs : List Str} (h0 : 0 < hs.length) (hn : ∀ x ∈ hs, tG x = true) (p : Int) : ∀ x ∈ Fo m hs p, IW m x := fun x hx => by
 obtain ⟨j, _, rfl⟩ := ahm.mp hx
 exact aaV h0 hn _
structure CJ (m f : Nat) (r : b9) : Prop where
 a : ∀ q ∈ r.1, q.1 ∈ Cu /\ Qy m q.2.1 q.2.2.1 = true /\ Qy m q.2.2.2.1 q.2.2.2.2 = true
 b : ∀ x ∈ r.2.1, IW m x
 c : 0 <= r.2.2 /\ r.2.2 < (f : Int)
 d : r.1.length <= 2
 e : r.2.1.length <= 3
theorem aaW (m : Nat) (p : Int) (n : Nat) : ∀ q ∈ Ov m p n, q.1 ∈ Cu /\ Qy m q.2.1 q.2.2.1 = true /\ Qy m q.2.2.2.1 q.2.2.2.2 = true := fun q hq => by
 obtain ⟨j, _, rfl⟩ := ahm.mp hq
 refine ⟨?_, IV m _, IV m _⟩
 have a := ahB (Ou m p j) (b := 4) (by decide)
 have b := ahn (Ou m p j) (b := 4) (by decide)
 have hl : (Ou m p j % 4).toNat < Cu.length := by show _ < 4; omega
 show Cu.getD (Ou m p j % 4).toNat Str.empty ∈ Cu
 rw [ahT, ag7 hl]
 exact List.getElem_mem hl
theorem aaX {m f : Nat} {hs : List Str} (h0 : 0 < hs.length) (hn : ∀ x ∈ hs, tG x = true) (hf : 1 <= f) (p : Int) : CJ m f (rwO m hs f p) := by
 refine ⟨aaW m _ _, IX h0 hn _, ⟨ahB _ (by omega), ahn _ (by omega)⟩, ?_, CG _ _ _⟩
 show (Ov m (p / 2) (XC p)).length <= 2
 unfold Ov
 rw [agU, ahP]
 unfold XC
 omega
theorem aaY {m f : Nat} {hs : List Str} (h0 : 0 < hs.length) (hn : ∀ x ∈ hs, tG x = true) (hf : 1 <= f) (c : Int) : (XE m hs f c).length <= 3 /\ ∀ r ∈ XE m hs f c, CJ m f r := by
 unfold XE
 constructor
 . rw [ahc]
   unfold Ow
   rw [agU, ahP]
   show _ + 1 <= 3
   omega
 . intro r hr
   rcases ag0.mp hr with h | h
   . obtain ⟨j, _, rfl⟩ := ahm.mp h
     exact aaX h0 hn hf _
   . rw [ahN.mp h]
     exact ⟨fun q hq => absurd hq ahb, IX h0 hn _, ⟨ahB _ (by omega), ahn _ (by omega)⟩, ahs _, CG _ _ _⟩
structure mY (m f : Nat) (hs : List Str) (R : List (bH × List b9)) : Prop where
 a : ∀ a, a < f -> ∀ x ∈ hs, Fp a x ∈ R.map (·.1)
 b : ∀ q ∈ R, q.2.length <= 3 /\ ∀ r ∈ q.2, CJ m f r
 c : (R.map (·.1)).Nodup
 d : R.length <= 26
theorem yN {α : Type} {l : List (bH × α)} {k : bH} (h : k ∈ l.map (·.1)) : ∃ x, fj l k = some x /\ (k, x) ∈ l := by
 induction l with
 | nil => cases h
 | cons p l ih =>
   by_cases e : p.1 = k
   . subst e
     exact ⟨p.2, jU rfl, agV⟩
   . obtain ⟨x, h1, h2⟩ := ih ((ag4.mp h).resolve_left fun z => e z.symm)
     exact ⟨x, (gR e).trans h1, agY _ h2⟩
theorem Gy (s : List Int) : ∀ x ∈ sy s, tG x = true := fun x hx => XG x (List.mem_of_mem_take hx)
theorem OJ {s : List Int} {m : Nat} {hs : List Str} {f : Nat} (nd : hs.Nodup) : ∀ n, ((II s m hs f n).map (·.1)).Nodup
 | 0 => aiy
 | n + 1 => by
   have gen : ∀ k, k <= hs.length -> ((II s m hs f n ++ Gr s m hs f n k).map (·.1)).Nodup := fun k => by
     induction k with
     | zero => exact fun _ => by rw [show Gr s m hs f n 0 = [] from rfl, ag3]; exact OJ nd n
     | succ k ih =>
       intro hk
       have e : Gr s m hs f n (k + 1) = Gr s m hs f n k ++ [(IG hs n k, dcR s m hs f n k)] := by
         unfold Gr
         rw [ait, ag1]
         rfl
       rw [e, ← agT, ag1, aht]
       refine ⟨ih (by omega), List.pairwise_singleton _ _, fun x hx y hy e => ?_⟩
       rw [ahN.mp hy] at e
       subst e
       refine IK (s := s) (m := m) (f := f) nd (show k < hs.length by omega) (a := n) ?_
       unfold sA
       rw [ahv]
       exact hx
   rw [yR]
   exact gen _ (ag6 _)
theorem OL (s : List Int) : mY (Gq s) (sL s) (sy s) (vF s) := by
 obtain ⟨b1, b2, b3, b4, b5, b6⟩ := Ox s
 refine ⟨fun a ha x hx => ?_, fun q hq => ?_, OJ (Oz s) _, ?_⟩
 . obtain ⟨k, hk, e⟩ := aiG hx
   refine ahm.mpr ⟨(IG (sy s) a k, dcR s (Gq s) (sy s) (sL s) a k), aiC.mpr ⟨a, aik.mpr ha, ahm.mpr ⟨k, aik.mpr hk, rfl⟩⟩, ?_⟩
   show IG (sy s) a k = Fp a x
   unfold IG Fp
   rw [ahT, ag7 hk, ← e]
   rfl
 . obtain ⟨a, _, h⟩ := aiC.mp hq
   obtain ⟨k, _, rfl⟩ := ahm.mp h
   exact aaY (by omega) (Gy s) b2 _
 . unfold vF
   rw [CH, b4]
   have : sL s * LY s <= 13 * 2 := Nat.mul_le_mul b3 b6
   omega
theorem vH {m : Nat} {x : It} (h : IW m x) (k : Nat) : gX (k + 2) x.d := by
 cases x with
 | fU q =>
   cases q with
   | put i a c => exact OI (.str _ "put" (by decide +kernel)) (.int _ _) (tK (.int _ _) (.int _ _))
   | say s a c => exact OI (.str _ "say" (by decide +kernel)) (.str _ _ (wH h.1)) (tK (.int _ _) (.int _ _))
   | call s => exact tK (.str _ "call" (by decide +kernel)) (.str _ _ (wH h))
 | out i => exact tK (.str _ "out" (by decide +kernel)) (.int _ _)
 | keep i p q =>
   refine .tup (ds := [.str "keep", .int i, .int p, .int q]) fun d hd => ?_
   . simp only [ag4, ahb, aiv] at hd
     rcases hd with rfl | rfl | rfl | rfl
     . exact .str _ _ (by decide +kernel)
     . exact .int _ _
     . exact .int _ _
     . exact .int _ _
 | way i => exact tK (.str _ "way" (by decide +kernel)) (.int _ _)
 | Ep i => exact tK (.str _ "in" (by decide +kernel)) (.int _ _)
theorem XH {x : Str} (h : x ∈ Cu) : PyData.strOk x = true /\ ¬ x ∈ (["open", "shut"] : List Str) := by
 have : ∀ x ∈ Cu, PyData.strOk x = true /\ ¬ x ∈ (["open", "shut"] : List Str) := by decide +kernel
 exact this x h
theorem CJ.s {m f : Nat} {r : b9} (h : CJ m f r) : XF r := ⟨fun q hq => (XH (h.a q hq).1).1, fun x hx k => vH (h.b x hx) k, by have := h.e; omega, by have := h.d; omega⟩
theorem mY.ok {m f : Nat} {hs : List Str} {R : List (bH × List b9)} (h : mY m f hs R) (hf : f <= 13) (hh : hs.length <= 2) : aaT R f hs := ⟨hf, hh, fun a ha x hx => by
 obtain ⟨l, h1, h2⟩ := yN (h.a a ha x hx)
 obtain ⟨q1, q2⟩ := h.b _ h2
 exact ⟨l, h1, q1, fun r hr => (q2 r hr).s⟩⟩
noncomputable def bN (k : Nat) : Str := ("b" : Str) ++ (toString (k : Int) : Str)
theorem aaZ : ∀ m : Nat, m < 4 -> Sx ((List.range m).map bN) = true := by decide +kernel
theorem XI (s : List Int) : OB (wG s) = true := by
 obtain ⟨b1, _⟩ := Ox s
 unfold OB
 have e : (wG s).map (·.1) = (List.range (Gq s)).map bN := by
   unfold wG
   rw [ahv]
   rfl
 rw [e, aaZ _ (by omega), ahY.mpr fun q hq => ?_]
 . rfl
 . obtain ⟨k, _, rfl⟩ := ahm.mp hq
   have Y5 : (10 : Int) ^ (30 : Int).toNat = 1000000000000000000000000000000 := by decide +kernel
   have hf : ∀ j : Nat, j < 2 -> 0 < Qx.getD j 0 /\ Qx.getD j 0 <= 1000000000000000000000000000000 := by decide +kernel
   obtain ⟨f0, f1⟩ := hf (k % 2) (by omega)
   have g0 := ahB (jl s (1 + (k : Int)) % 10 ^ (30 : Int).toNat) (b := Qx.getD (k % 2) 0) (by omega)
   have g1 := ahn (jl s (1 + (k : Int)) % 10 ^ (30 : Int).toNat) (b := Qx.getD (k % 2) 0) f0
   show Y4 (jl s (1 + (k : Int)) % 10 ^ (30 : Int).toNat % Qx.getD (k % 2) 0 - 2) = true
   unfold Y4
   rw [ahK (by rw [Y5]; rw [Y5] at g0; omega), ahK (by rw [Y5]; rw [Y5] at g1; omega)]
   rfl
theorem XJ {l : List Str} (h : Sx l = true) : (∀ x ∈ l, tG x = true) /\ l.Nodup := by
 unfold Sx at h
 rw [ahz] at h
 exact ⟨ahY.mp h.1, aha h.2⟩
theorem XM {l : List (Str × Int)} (h : OB l = true) : ∀ q ∈ l, tG q.1 = true := fun q hq => by
 unfold OB at h
 rw [ahz] at h
 exact (XJ h.2).1 _ (ahm.mpr ⟨q, hq, rfl⟩)
theorem XO {bs : List (Str × Int)} (h : OB bs = true) (k : Nat) : gX (k + 2) (.lst (bs.map jW)) := .lst fun d hd => by
 obtain ⟨q, hq, rfl⟩ := ahm.mp hd
 exact tK (.str _ _ (wH (XM h q hq))) (.int _ _)
noncomputable def Qz (s : List Int) (R : List (bH × List b9)) : T := .lst [.lst (((wG s).map jW).map T.sh), .lst (((sy s).map .str).map T.sh), .sh (.tup ((xJ s).map It.d)), .lst (((List.range (sL s)).map ji).map T.sh), .dct (sA R)]
theorem CK (s : List Int) : ED s = Qz s (vF s) := rfl
theorem K0 (R : List (bH × List b9)) : T.iA (sA R) = true := by
 induction R with
 | nil => show T.iA [] = true; rw [T.iA]
 | cons q r ih =>
   show T.iA ((q.1, T.lst ((q.2.map tF).map T.sh)) :: sA r) = true
   rw [T.iA, dM (bW Gp _), ih]
   rfl
theorem IY (R : List (bH × List b9)) : T.bS (.dct (sA R)) = .dct (dcD R) := by
 rw [T.bS]
 congr 1
 induction R with
 | nil => show T.uc [] = []; rw [T.uc]
 | cons q r ih =>
   show T.uc ((q.1, T.lst ((q.2.map tF).map T.sh)) :: sA r) = (q.1, L3.D.lst (q.2.map tF)) :: dcD r
   rw [T.uc, c5, ih]
theorem BK (s : List Int) (R : List (bH × List b9)) : (Qz s R).clean = true := by
 unfold Qz
 rw [T.clean, T.cK, T.cK, T.cK, T.cK, T.cK, T.cK, dM (bW (fun _ => rfl) _), dM (lA _), dM (bW (fun _ => rfl) _), T.clean, T.clean, K0, D.mw, bW pH]
 rfl
theorem OO (R : List (bH × List b9)) : (sA R).map (·.1) = R.map (·.1) := by
 unfold sA
 rw [ahv]
 rfl
theorem uo (R : List (bH × List b9)) : dcD R = fk (fV R) := by
 unfold fk fV
 rw [ahv]
 rfl
theorem Sz {α : Type} (l : List α) {k : Nat} {z : Int} (hz : z = (k : Int)) : cutD l (some z) none = l.drop k := by
 subst hz
 unfold cutD
 have e1 : HT.xu l.length 0 (some (k : Int)) = min k l.length := by
   unfold HT.xu
   simp
   intro hk
   omega
 have e2 : HT.xu l.length l.length none = l.length := rfl
 rw [e1, e2]
 by_cases h : k <= l.length
 . rw [Nat.min_eq_left h]
   exact List.take_of_length_le (by rw [List.length_drop]; omega)
 . rw [Nat.min_eq_right (by omega), List.drop_eq_nil_of_le (ag6 _), List.drop_eq_nil_of_le (by omega)]
   exact List.take_nil
theorem IZ {R : List (bH × List b9)} : ∀ q ∈ fV R, D.bQ q.2 = true := fun q hq => by
 obtain ⟨p, _, rfl⟩ := ahm.mp hq
 exact bW Gp _
theorem OQ (R : List (bH × List b9)) : (fV R).map (·.1) = R.map (·.1) := by
 unfold fV
 rw [ahv]
 rfl
theorem OS {l : List Str} (h : ∀ x ∈ l, tG x = true) (k : Nat) : gX (k + 1) (.lst (l.map .str)) := .lst fun d hd => by
 obtain ⟨x, hx, rfl⟩ := ahm.mp hd
 exact .str _ _ (wH (h x hx))
theorem SD (n k : Nat) : gX (k + 3) (.lst ((List.range n).map ji)) := .lst fun d hd => by
 obtain ⟨i, _, rfl⟩ := ahm.mp hd
 exact tK (tK (.int _ _) (.int _ _)) (tK (.int _ _) (.int _ _))
noncomputable def cX (cd pl : L3.D) (pa : List L3.D) (bs : List Int) (ex : List (Str × T)) : List (Str × T) := ("table", .sh cd) :: ("place", .sh pl) :: ("past", .lst (pa.map T.sh)) :: ("boxes", .sh (.lst (bs.map .int))) :: ex
noncomputable def kg (cd pl : L3.D) (pa : List L3.D) (bs : List Int) (ex : List (Str × L3.D)) : List (Str × L3.D) := ("table", cd) :: ("place", pl) :: ("past", .lst pa) :: ("boxes", .lst (bs.map .int)) :: ex
noncomputable def u9 : Option (List L3.D) -> List (Str × T)
 | none => []
 | some r => [("first_rows", .lst (r.map T.sh))]
noncomputable def EF : Option (List L3.D) -> List (Str × L3.D)
 | none => []
 | some r => [("first_rows", .lst r)]
section
variable {cd pl p : L3.D} {pa : List L3.D} {bs : List Int} {ex : List (Str × L3.D)} {et : List (Str × T)} {eo : Option (List L3.D)} {y : Addr} {m : Str}
theorem pJ : T.bS (.ins "FlatRun" (cX cd pl pa bs (u9 eo))) = .ins "FlatRun" (kg cd pl pa bs (EF eo)) := by
 cases eo with
 | none =>
   unfold cX kg u9 EF
   rw [T.bS, T.mz, T.mz, T.mz, T.mz, T.mz, T.bS, T.bS, T.bS, c5]
 | some r =>
   unfold cX kg u9 EF
   rw [T.bS, T.mz, T.mz, T.mz, T.mz, T.mz, T.mz, T.bS, T.bS, T.bS, c5, c5]
theorem EG : T.bS (.pin y (.ins "FlatRun" (cX cd pl pa bs (u9 eo)))) = .ins "FlatRun" (kg cd pl pa bs (EF eo)) := by
 rw [T.bS, pJ]
theorem vI : List.lookup ("table" : Str) (kg cd pl pa bs ex) = some cd := fM
theorem nT : List.lookup ("place" : Str) (kg cd pl pa bs ex) = some pl := by
 unfold kg
 rw [aW (by decide +kernel), fM]
theorem EH : List.lookup ("past" : Str) (kg cd pl pa bs ex) = some (.lst pa) := by
 unfold kg
 rw [aW (by decide +kernel), aW (by decide +kernel), fM]
theorem vJ : List.lookup ("boxes" : Str) (kg cd pl pa bs ex) = some (.lst (bs.map .int)) := by
 unfold kg
 rw [aW (by decide +kernel), aW (by decide +kernel), aW (by decide +kernel), fM]
theorem K1 {r : List L3.D} : List.lookup ("first_rows" : Str) (kg cd pl pa bs (EF (some r))) = some (.lst r) := by
 unfold kg EF
 rw [aW (by decide +kernel), aW (by decide +kernel), aW (by decide +kernel), aW (by decide +kernel), fM]
theorem yS (h1 : (m == ("table" : Str)) = false) (h2 : (m == ("place" : Str)) = false) (h3 : (m == ("past" : Str)) = false) (h4 : (m == ("boxes" : Str)) = false) (h5 : (m == ("first_rows" : Str)) = false) : (kg cd pl pa bs (EF eo)).lookup m = none := by
 unfold kg
 rw [aW h1, aW h2, aW h3, aW h4]
 cases eo with
 | none => rfl
 | some r =>
   unfold EF
   rw [aW h5]
   rfl
theorem CM (h1 : (m == ("table" : Str)) = false) (h2 : (m == ("place" : Str)) = false) (h3 : (m == ("past" : Str)) = false) (h4 : (m == ("boxes" : Str)) = false) (h5 : (m == ("first_rows" : Str)) = false) : (cX cd pl pa bs (u9 eo)).lookup m = none := by
 unfold cX
 rw [aW h1, aW h2, aW h3, aW h4]
 cases eo with
 | none => rfl
 | some r =>
   unfold u9
   rw [aW h5]
   rfl
theorem yT : List.lookup ("place" : Str) (cX cd pl pa bs et) = some (.sh pl) := by
 unfold cX
 rw [aW (by decide +kernel), fM]
theorem vK : List.lookup ("past" : Str) (cX cd pl pa bs et) = some (.lst (pa.map T.sh)) := by
 unfold cX
 rw [aW (by decide +kernel), aW (by decide +kernel), fM]
theorem yU : List.lookup ("boxes" : Str) (cX cd pl pa bs et) = some (.sh (.lst (bs.map .int))) := by
 unfold cX
 rw [aW (by decide +kernel), aW (by decide +kernel), aW (by decide +kernel), fM]
theorem K2 : jv "place" (.sh p) (cX cd pl pa bs et) = cX cd p pa bs et := by
 unfold cX
 rw [aQ (by decide +kernel), rG]
theorem OU {t2 : List L3.D} : jv "past" (.lst (t2.map T.sh)) (cX cd pl pa bs et) = cX cd pl t2 bs et := by
 unfold cX
 rw [aQ (by decide +kernel), aQ (by decide +kernel), rG]
theorem K3 {b2 : List Int} : jv "boxes" (.sh (.lst (b2.map .int))) (cX cd pl pa bs et) = cX cd pl pa b2 et := by
 unfold cX
 rw [aQ (by decide +kernel), aQ (by decide +kernel), aQ (by decide +kernel), rG]
theorem K4 : T.jx [.fld "place"] (.pin y (.ins "FlatRun" (cX cd pl pa bs et))) = some (.sh pl) := by
 show (List.lookup _ _).bind _ = _
 rw [yT]
 rfl
theorem K5 : T.jx [.fld "boxes"] (.pin y (.ins "FlatRun" (cX cd pl pa bs et))) = some (.sh (.lst (bs.map .int))) := by
 show (List.lookup _ _).bind _ = _
 rw [yU]
 rfl
theorem EI : T.jx [.fld "past"] (.pin y (.ins "FlatRun" (cX cd pl pa bs et))) = some (.lst (pa.map T.sh)) := by
 show (List.lookup _ _).bind _ = _
 rw [vK]
 rfl
theorem K6 {t2 : List L3.D} : T.jV [.fld "past"] (.lst (t2.map T.sh)) (.pin y (.ins "FlatRun" (cX cd pl pa bs et))) = .pin y (.ins "FlatRun" (cX cd pl t2 bs et)) := by
 have e : T.LV (.fld "past") (.ins "FlatRun" (cX cd pl pa bs et)) = some (.lst (pa.map T.sh)) := vK (cd := cd) (pl := pl) (pa := pa) (bs := bs) (et := et)
 rw [T.jV, show T.core (.pin y (.ins "FlatRun" (cX cd pl pa bs et))) = .ins "FlatRun" (cX cd pl pa bs et) from rfl, e]
 show T.pin y (.ins "FlatRun" (jv "past" (.lst (t2.map T.sh)) (cX cd pl pa bs et))) = _
 rw [OU]
end
theorem yV (cd pl : L3.D) (pa : List L3.D) (bs : List Int) (eo : Option (List L3.D)) : (cX cd pl pa bs (u9 eo)).length < 1000 := by
 cases eo with
 | none => exact agZ rfl
 | some r => exact agZ rfl
noncomputable def pK (mk : Str) (i j : Int) : Bool := if mk = "<" then decide (i < j) else if mk = "<=" then decide (i <= j) else if mk = "=" then decide (i = j) else !decide (i = j)
noncomputable abbrev Ask := Str × Int × Int × Int × Int
noncomputable def OV (q : Ask) : L3.D := .tup [.str q.1, .tup [.int q.2.1, .int q.2.2.1], .tup [.int q.2.2.2.1, .int q.2.2.2.2]]
noncomputable def okQ (bs : List Int) (q : Ask) : Prop := (q.2.1 = -1 \/ (0 <= q.2.1 /\ q.2.1 < bs.length)) /\ (q.2.2.2.1 = -1 \/ (0 <= q.2.2.2.1 /\ q.2.2.2.1 < bs.length))
noncomputable def hQ (bs : List Int) (q : Ask) : Bool := pK q.1 (bI q.2.1 q.2.2.1 bs) (bI q.2.2.2.1 q.2.2.2.2 bs)
theorem I0 {m : Nat} {a c : Int} (h : Qy m a c = true) : a = -1 \/ (0 <= a /\ a < (m : Int)) := by
 unfold Qy Y3 at h
 simp only [ahz, Bool.or_eq_true, aiR] at h
 exact h.1
theorem CJ.asks {m f : Nat} {r : b9} (h : CJ m f r) {bs : List Int} (hb : bs.length = m) : ∀ q ∈ r.1, okQ bs q := fun q hq => by
 obtain ⟨_, h2, h3⟩ := h.a q hq
 unfold okQ
 rw [hb]
 exact ⟨I0 h2, I0 h3⟩
theorem CN {m : Nat} {x : It} (h : IW m x) {bs : List Int} (hb : bs.length = m) : x.ok bs := by
 subst hb
 cases x with
 | fU q =>
   cases q with
   | put i a c =>
     have h1 := h.1
     unfold Y3 at h1
     simp only [ahz, aiR] at h1
     exact ⟨h1, I0 h.2⟩
   | say s a c => exact I0 h.2
   | call s => trivial
 | _ => trivial
noncomputable def mD (R : List (bH × List b9)) (hs : List Str) (a : Nat) (sg : Str) (bs : List Int) : List It × Nat :=
 if sg ∈ hs then (match (AH R a sg).find? (fun r => r.1.all (hQ bs)) with | some r => (r.2.1, r.2.2.toNat) | none => ([], a)) else ([], a)
theorem mY.row {m f : Nat} {hs : List Str} {R : List (bH × List b9)} (h : mY m f hs R) {a : Nat} (ha : a < f) {x : Str} (hx : x ∈ hs) : fj R (Fp a x) = some (AH R a x) /\ (AH R a x).length <= 3 /\ ∀ r ∈ AH R a x, CJ m f r := by
 obtain ⟨l, h1, h2⟩ := yN (h.a a ha x hx)
 unfold AH
 rw [h1]
 exact ⟨rfl, h.b _ h2⟩
theorem yW {m f : Nat} {hs : List Str} {R : List (bH × List b9)} (h : mY m f hs R) {a : Nat} (ha : a < f) (sg : Str) (bs : List Int) : (mD R hs a sg bs).1.length <= 3 /\ (∀ x ∈ (mD R hs a sg bs).1, IW m x) /\ (mD R hs a sg bs).2 < f := by
 unfold mD
 split
 . rename_i hx
   obtain ⟨_, _, hr⟩ := h.row ha hx
   split
   . rename_i r e
     have hm := hr r (aij e)
     obtain ⟨c1, c2⟩ := hm.c
     exact ⟨hm.e, hm.b, by show r.2.2.toNat < f; omega⟩
   . exact ⟨ahs _, fun x hx => absurd hx ahb, ha⟩
 . exact ⟨ahs _, fun x hx => absurd hx ahb, ha⟩
noncomputable abbrev XQ := List Str × Nat × List Int
noncomputable def jX (R : List (bH × List b9)) (hs : List Str) : Nat -> XQ -> List L3.D × XQ
 | 0, s => ([], s)
 | j + 1, s => match jX R hs j s with
   | (rs, [], p) => (rs, [], p)
   | (rs, sg :: w, a, bs) => (rs ++ (L3.D.tup [.str "sign", .str sg] :: (j6 (mD R hs a sg bs).1 bs).map J.d), w ++ aD (mD R hs a sg bs).1, (mD R hs a sg bs).2, (mD R hs a sg bs).1.foldl It.af bs)
noncomputable def nU (R : List (bH × List b9)) (hs : List Str) (s : XQ) : List L3.D := (jX R hs 8 s).1 ++ (if (jX R hs 8 s).2.1 = [] then [] else [.tup [.str "rest", .int (((jX R hs 8 s).2.1.length : Nat) : Int)]])
noncomputable def xK (R : List (bH × List b9)) (hs : List Str) (s : XQ) : Nat := (jX R hs 8 s).2.2.1
noncomputable def xM (R : List (bH × List b9)) (hs : List Str) (s : XQ) : List Int := (jX R hs 8 s).2.2.2
section
variable {R : List (bH × List b9)} {hs : List Str} {m f : Nat}
theorem yX {s : XQ} {j : Nat} (h : (jX R hs j s).2.1 = []) : ∀ k, jX R hs (j + k) s = jX R hs j s
 | 0 => rfl
 | k + 1 => by
   rw [← Nat.add_assoc, jX, yX h k]
   generalize jX R hs j s = r at h ⊢
   obtain ⟨rs, w, p⟩ := r
   have h : w = [] := h
   subst h
   rfl
theorem qN {s : XQ} {j : Nat} {rs : List L3.D} {sg : Str} {w : List Str} {a : Nat} {bs : List Int} (h : jX R hs j s = (rs, sg :: w, a, bs)) :
   jX R hs (j + 1) s = (rs ++ (L3.D.tup [.str "sign", .str sg] :: (j6 (mD R hs a sg bs).1 bs).map J.d), w ++ aD (mD R hs a sg bs).1, (mD R hs a sg bs).2, (mD R hs a sg bs).1.foldl It.af bs) := by
 rw [jX, h]
theorem pL (h : mY m f hs R) {cs : List Str} {a : Nat} {bs : List Int} (ha : a < f) (hb : bs.length = m) : ∀ j, (jX R hs j (cs, a, bs)).1.length <= 4 * j /\ (jX R hs j (cs, a, bs)).2.1.length <= cs.length + 3 * j /\ (jX R hs j (cs, a, bs)).2.2.1 < f /\ (jX R hs j (cs, a, bs)).2.2.2.length = m /\ D.bQ (jX R hs j (cs, a, bs)).1 = true
 | 0 => ⟨ahs _, ag6 _, ha, hb, rfl⟩
 | j + 1 => by
   obtain ⟨h1, h2, h5, h3, h4⟩ := pL h (cs := cs) ha hb j
   cases e : jX R hs j (cs, a, bs) with
   | mk rs r =>
     obtain ⟨w, a2, b2⟩ := r
     rw [e] at h1 h2 h3 h4 h5
     dsimp only at h1 h2 h3 h4 h5
     cases w with
     | nil =>
       rw [jX, e]
       exact ⟨by dsimp only; omega, by simp, h5, h3, h4⟩
     | cons sg w =>
       rw [qN e]
       obtain ⟨s1, s2, s4⟩ := yW h h5 sg b2
       have s3 : (aD (mD R hs a2 sg b2).1).length <= (mD R hs a2 sg b2).1.length := ahJ _ _
       rw [ahu] at h2
       refine ⟨?_, ?_, s4, ?_, ?_⟩
       . dsimp only
         rw [ahc, ahu, agU, rJ]
         omega
       . dsimp only
         rw [ahc]
         omega
       . exact (lF _ _).trans h3
       . refine pB fun d hd => ?_
         rcases ag0.mp hd with z | z
         . exact gP h4 d z
         . rcases ag4.mp z with rfl | z
           . rfl
           . exact gP (xH _ _) d z
theorem Gz (h : mY m f hs R) {cs : List Str} {a : Nat} {bs : List Int} (ha : a < f) (hb : bs.length = m) : (nU R hs (cs, a, bs)).length <= 33 /\ D.bQ (nU R hs (cs, a, bs)) = true := by
 obtain ⟨h1, h2, h5, h3, h4⟩ := pL h (cs := cs) ha hb 8
 unfold nU
 refine ⟨?_, pB fun d hd => ?_⟩
 . rw [ahc]
   split <;> simp <;> omega
 . rcases ag0.mp hd with z | z
   . exact gP h4 d z
   . split at z
     . cases z
     . rw [ahN.mp z]; rfl
end
seal L3.cU L3.Kc L3.bV L3.dH L3.vo L3.Ec L3.Ka
noncomputable abbrev rK : Stmt := top 22
noncomputable abbrev rL : Type := List Int × Int
noncomputable def mG : rL -> List L3.D := fun (ns, j) => [.lst (ns.map .int), .int j]
noncomputable def mH : rL -> Prop := fun (ns, j) => 0 <= j
noncomputable def mJ : rL -> T := fun (ns, j) => (.sh (.int (jl ns j)) : T)
structure K7 (X : Cx) (CL : Str -> Addr) : Prop extends cW X where
 bK : Ln X 0 "script"
 Vx : Ln X 1 "k"
 nV : Gl X "len"
 nW : X.mg "len" = none
theorem K8 {X : Cx} {CL : Str -> Addr} {b : Bx} (E : K7 X CL) {dh : rL} (h : mH dh) :
   aO X CL b rK ["script", "k"] (mG dh) (mJ dh) := by
 obtain ⟨ns, j⟩ := dh
 dsimp only [aO, mH, mG, mJ] at h ⊢
 refine dJ (wu (bE E.Vx) (ai (xA E.nW (bE E.bK) E.nV))).1 (fun hp => ?_) (fun hp => ?_)
 . have e : j < ns.length := by simpa using of_decide_eq_true hp
   refine ck (cE (eY (bE E.bK) (bE E.Vx) (vv h e)) rfl) ?_
   show T.sh _ = T.sh (.int (jl ns j))
   rw [jl, ag9 e]
 . have e : ¬ j < ns.length := by simpa using of_decide_eq_false hp
   refine az (ck aj ?_)
   show T.sh _ = T.sh (.int (jl ns j))
   rw [jl, ag2 e]
theorem tL : pA (ao rK) ([("script", av), ("k", av), ("len", aG)]) = true := by decide +kernel
theorem GA : aS ["script", "k"] ["script", "k"] (ao rK) := bz
noncomputable abbrev CP : Stmt := top 23
noncomputable abbrev CQ : Type := Addr × Int × Int
noncomputable def iG : CQ -> List T := fun (y, p, m) => [.pin y (.lst [.sh (.int p)]), .sh (.int m)]
noncomputable def gS : CQ -> List T := fun (y, p, m) => [.pin y (.lst [.sh (.int (p / m))]), .sh (.int m)]
noncomputable def pre_take : CQ -> Prop := fun (y, p, m) => 0 < m /\ m.natAbs.log2 < 9000
noncomputable def iH : CQ -> T := fun (y, p, m) => (.sh (.int (p % m)) : T)
structure XR (X : Cx) (CL : Str -> Addr) : Prop extends cW X where
 cY : Ln X 0 "pot"
 bX : Ln X 1 "many"
 Ja : Ln X 2 "digit"
theorem XS {X : Cx} {CL : Str -> Addr} {b : Bx} (E : XR X CL) (y p m) (h : pre_take (y, p, m)) :
   cU X CL b (cB CP) (j7 ["pot", "many", "digit"] (iG (y, p, m))) { nx := fun δ => iH (y, p, m) = .sh .non /\ Keeps δ (gS (y, p, m)), rt := fun AF δ => AF = iH (y, p, m) /\ Keeps δ (gS (y, p, m)) } := by
 dsimp only [pre_take, iG, iH, gS] at h ⊢
 refine aX E.g E.Ja (oY (ai (uh (p := [.ix 0]) (lC (b8 E.cY.1 rfl) rfl rfl (ai aj) rfl) rfl rfl)) (bE E.bX) h.1) ?_
 refine NT (NF (ai (uh (p := [.ix 0]) (lC (b8 E.cY.1 rfl) rfl rfl (ai aj) rfl) rfl rfl)) (bE E.bX) h) (b8 E.cY.1 rfl) (ai aj) rfl rfl rfl ?_
 exact ck (v_ E.Ja.1) ⟨rfl, j8 (ds := [_])⟩
theorem CT : pA (ao CP) ([("pot", av), ("many", av), ("digit", av)]) = true := by decide +kernel
theorem Jb : aS ["pot", "many", "digit"] ["pot", "many"] (ao CP) := bz
noncomputable abbrev CV : Stmt := top 24
noncomputable abbrev CW : Type := Addr × Int × Nat
noncomputable def nX : CW -> List T := fun (y, p, m) => [.pin y (.lst [.sh (.int p)]), .sh (.int m)]
noncomputable def lG : CW -> List T := fun (y, p, m) => [.pin y (.lst [.sh (.int (yP m p))]), .sh (.int m)]
noncomputable def qO : CW -> Prop := fun (y, p, m) => m <= 10
noncomputable def nY : CW -> T := fun (y, p, m) => (.sh (.tup [.int (BJ m p), .int (As m p)]) : T)
structure XT (X : Cx) (CL : Str -> Addr) : Prop extends cW X where
 cY : Ln X 0 "pot"
 bX : Ln X 1 "many"
 sM : Ln X 2 "box"
 aV : Gl X "_law_take"
 dQ : BD X CL "_law_take" 1 2 iG pre_take iH gS
theorem XU {X : Cx} {CL : Str -> Addr} {b : Bx} (E : XT X CL) (y p m) (h : qO (y, p, m)) :
   cU X CL b (cB CV) (j7 ["pot", "many", "box"] (nX (y, p, m))) { nx := fun δ => nY (y, p, m) = .sh .non /\ Keeps δ (lG (y, p, m)), rt := fun AF δ => AF = nY (y, p, m) /\ Keeps δ (lG (y, p, m)) } := by
 dsimp only [qO, nX, nY, lG] at h ⊢
 have h : m <= 10 := h
 refine fJ E.g E.sM (lE (CB (KC (t := .sh (.int (p % ((m : Int) + 1)))) (y, p, ((m : Int) + 1)) (.pin y (.lst [.sh (.int (p / ((m : Int) + 1)))])) E.dQ E.aV (kF E.cY.1 rfl (cu (k9 (bE E.bX) (ai aj)) cj)) (qt (by omega) (by omega)) rfl ⟨rfl, .inr rfl, trivial⟩) aj.m) (t2 := .sh (.int (BJ m p))) rfl) ?_
 refine Vt (R9 (KC (t := .sh (.int ((p / ((m : Int) + 1)) % 3))) (y, (p / ((m : Int) + 1)), 3) (.pin y (.lst [.sh (.int ((p / ((m : Int) + 1)) / 3))])) E.dQ E.aV (kF E.cY.1 rfl (cu aj cj)) (qt (by decide) (by decide)) rfl ⟨rfl, .inr rfl, trivial⟩) (ai aj)) (fun hp => ?_) (fun hp => az ?_)
 . have hp := aha hp
   refine tE (iF (ds := [.int (BJ m p), .int (LX m p % (2 * 10 ^ (9 : Int).toNat + 1) - 10 ^ (9 : Int).toNat)]) (bC (v_ E.sM.1).m (bC (CB (KC (t := .sh (.int ((LX m p) % (2 * 10 ^ (9 : Int).toNat + 1)))) (y, (LX m p), (2 * 10 ^ (9 : Int).toNat + 1)) (.pin y (.lst [.sh (.int ((LX m p) / (2 * 10 ^ (9 : Int).toNat + 1)))])) E.dQ E.aV (kF E.cY.1 rfl (cu (k9 (ai (MV (ai aj) (ai (sY (ai aj) (ai aj) ⟨by decide, by decide, by decide⟩)) (.inl ⟨by decide, by decide⟩))) (ai aj)) cj)) (qt (by decide) (by decide)) rfl ⟨rfl, .inr rfl, trivial⟩) ((sY (ai aj) (ai aj) ⟨by decide, by decide, by decide⟩)).m) jH)) (ay rfl)) ⟨?_, ?_⟩
   . show _ = T.sh (.tup [.int (BJ m p), .int (As m p)])
     unfold As
     rw [ag9 hp]
   . show Keeps _ [.pin y (.lst [.sh (.int (yP m p))]), .sh (.int m)]
     unfold yP
     rw [ag9 hp]
     exact j8 (ds := [_])
 . have hp := ahr hp
   refine tE (iF (ds := [.int (BJ m p), .int (LX m p % 7 - 3)]) (bC (v_ E.sM.1).m (bC (CB (KC (t := .sh (.int ((LX m p) % 7))) (y, (LX m p), 7) (.pin y (.lst [.sh (.int ((LX m p) / 7))])) E.dQ E.aV (kF E.cY.1 rfl (cu aj cj)) (qt (by decide) (by decide)) rfl ⟨rfl, .inr rfl, trivial⟩) aj.m) jH)) (ay rfl)) ⟨?_, ?_⟩
   . show _ = T.sh (.tup [.int (BJ m p), .int (As m p)])
     unfold As
     rw [ag2 hp]
   . show Keeps _ [.pin y (.lst [.sh (.int (yP m p))]), .sh (.int m)]
     unfold yP
     rw [ag2 hp]
     exact j8 (ds := [_])
theorem xN : pA (ao CV) ([("pot", av), ("many", av), ("box", av), ("_law_take", aG)]) = true := by decide +kernel
theorem Jc : aS ["pot", "many", "box"] ["pot", "many"] (ao CV) := bz
noncomputable abbrev xO : Stmt := top 25
noncomputable abbrev xP : Type := Addr × Int × Nat × List Str
noncomputable def n5 : xP -> List T := fun (y, p, m, hs) => [.pin y (.lst [.sh (.int p)]), .sh (.int m), .sh (.lst (hs.map .str))]
noncomputable def kX : xP -> List T := fun (y, p, m, hs) => [.pin y (.lst [.sh (.int (Qw m hs p))]), .sh (.int m), .sh (.lst (hs.map .str))]
noncomputable def rM : xP -> Prop := fun (y, p, m, hs) => m <= 10 /\ 0 < hs.length /\ hs.length <= 10
noncomputable def n9 : xP -> T := fun (y, p, m, hs) => (.sh (IE m hs p).d : T)
structure SG (X : Cx) (CL : Str -> Addr) : Prop extends cW X where
 cY : Ln X 0 "pot"
 bX : Ln X 1 "many"
 dO : Ln X 2 "heard"
 EJ : Ln X 3 "way"
 sM : Ln X 4 "box"
 aV : Gl X "_law_take"
 jY : Gl X "_law_term"
 aa1 : Gl X "str"
 nV : Gl X "len"
 dQ : BD X CL "_law_take" 1 2 iG pre_take iH gS
 yZ : BD X CL "_law_term" 2 2 nX qO nY lG
 OW : X.mg "str" = none
 nW : X.mg "len" = none
theorem SJ {X : Cx} {CL : Str -> Addr} {b : Bx} (E : SG X CL) (y p m hs) (h : rM (y, p, m, hs)) :
   cU X CL b (cB xO) (j7 ["pot", "many", "heard", "way", "box"] (n5 (y, p, m, hs))) { nx := fun δ => n9 (y, p, m, hs) = .sh .non /\ Keeps δ (kX (y, p, m, hs)), rt := fun AF δ => AF = n9 (y, p, m, hs) /\ Keeps δ (kX (y, p, m, hs)) } := by
 dsimp only [rM, n5, n9, kX] at h ⊢
 obtain ⟨hm, h0, h1⟩ := h
 have w0 := ahB p (b := 9) (by decide)
 have w1 := ahn p (b := 9) (by decide)
 refine fJ E.g E.EJ (KC (t := .sh (.int (p % 9))) (y, p, 9) (.pin y (.lst [.sh (.int (p / 9))])) E.dQ E.aV (kF E.cY.1 rfl (cu aj cj)) (qt (by decide) (by decide)) rfl ⟨rfl, .inr rfl, trivial⟩) ?_
 refine dJ (wu (bE E.EJ) (ai aj)).1 (fun hp => ?_) (fun hp => az ?_)
 . have hp := aha hp
   refine tE (CD (N4 (R7 (tl := (([.out 1, .keep 0 (-1) 2, .way (p / 9 % 5), .Ep 2] : List It).map It.d).map T.sh) (bC ((bL (aJ aY (aJ aj cF)) (ay rfl))).m (bC ((bL (aJ aY (aJ aj (aJ (yC (ai aj)) (aJ aj cF)))) (ay rfl))).m (bC (iF (ds := [.str "way", .int (p / 9 % 5)]) (bC aY.m (bC (KC (t := .sh (.int ((p / 9) % 5))) (y, (p / 9), 5) (.pin y (.lst [.sh (.int ((p / 9) / 5))])) E.dQ E.aV (kF E.cY.1 rfl (cu aj cj)) (qt (by decide) (by decide)) rfl ⟨rfl, .inr rfl, trivial⟩) jH)) (ay rfl)) (bC ((bL (aJ aY (aJ aj cF)) (ay rfl))).m jH)))) (ay rfl)) (c5 _)) (v_ E.EJ.1).m (yG (.out 1) w0 (show p % 9 < 4 by omega))) ⟨?_, ?_⟩
   . show T.sh _ = T.sh (IE m hs p).d
     unfold IE
     rw [ag9 hp]
     try rfl
   . show Keeps _ [.pin y (.lst [.sh (.int (Qw m hs p))]), .sh (.int m), .sh (.lst (hs.map .str))]
     unfold Qw
     rw [ag9 hp]
     exact j8 (ds := [_, _])
 have n4 := ahr hp
 refine dJ (Kd (MX (wu (bE E.EJ) (ai aj)).1 (fun hb => (HX (ZZ (bE E.bX) (ai aj)).1)))) (fun hp => ?_) (fun hp => az ?_)
 . rw [ahz] at hp
   have p1 := aha hp.1
   have p2 := aha hp.2
   have hq : p % 9 < 6 /\ 0 < m := ⟨p1, by omega⟩
   refine fJ E.g E.sM (KC (t := .sh (.int ((p / 9) % (m : Int)))) (y, (p / 9), (m : Int)) (.pin y (.lst [.sh (.int ((p / 9) / (m : Int)))])) E.dQ E.aV (kF E.cY.1 rfl (cu (v_ E.bX.1) cj)) (qt (by omega) (by omega)) rfl ⟨rfl, .inr rfl, trivial⟩) ?_
   refine tE (iF (ds := [.str "put", .int (p / 9 % (m : Int)), .tup [.int (BJ m (p / 9 / (m : Int))), .int (As m (p / 9 / (m : Int)))]]) (bC aY.m (bC (v_ E.sM.1).m (bC (KC (t := .sh (.tup [.int (BJ m (p / 9 / (m : Int))), .int (As m (p / 9 / (m : Int)))])) (y, (p / 9 / (m : Int)), m) (.pin y (.lst [.sh (.int (yP m (p / 9 / (m : Int))))])) E.yZ E.jY (kF E.cY.1 rfl (cu (v_ E.bX.1) cj)) (show m <= 10 by omega) rfl ⟨rfl, .inr rfl, trivial⟩) jH))) (ay rfl)) ⟨?_, ?_⟩
   . show T.sh _ = T.sh (IE m hs p).d
     unfold IE
     rw [ag2 n4, ag9 hq]
     try rfl
   . show Keeps _ [.pin y (.lst [.sh (.int (Qw m hs p))]), .sh (.int m), .sh (.lst (hs.map .str))]
     unfold Qw
     rw [ag2 n4, ag9 hq]
     exact j8 (ds := [_, _])
 have n6 : ¬ (p % 9 < 6 /\ 0 < m) := fun ⟨z1, z2⟩ => by
   rw [ahK z1, ahK (show (0 : Int) < (m : Int) by omega)] at hp
   exact absurd hp (by decide)
 refine dJ (wu (bE E.EJ) (ai aj)).1 (fun hp => ?_) (fun hp => az ?_)
 . have hp := aha hp
   have s0 := ahB (p / 9) (b := 3) (by decide)
   have s1 := ahn (p / 9) (b := 3) (by decide)
   have cl : ∀ k : Nat, k < 3 -> (toString (k : Int) : Str).length <= 2 /\ (k : Int).natAbs.log2 < 1920 := by decide +kernel
   obtain ⟨sl, sg⟩ := cl (p / 9 % 3).toNat (by omega)
   rw [show (((p / 9 % 3).toNat : Nat) : Int) = p / 9 % 3 by omega] at sl sg
   refine tE (iF (ds := [.str "say", .str (wN (p / 9 % 3)), .tup [.int (BJ m (p / 9 / 3)), .int (As m (p / 9 / 3))]]) (bC aY.m (bC (N3 aY.m (N5 E.OW E.aa1 (KC (t := .sh (.int ((p / 9) % 3))) (y, (p / 9), 3) (.pin y (.lst [.sh (.int ((p / 9) / 3))])) E.dQ E.aV (kF E.cY.1 rfl (cu aj cj)) (qt (by decide) (by decide)) rfl ⟨rfl, .inr rfl, trivial⟩) sg) (by rw [ahS]; have h1 : ("w" : Str).length = 1 := (by decide +kernel); show ("w" : Str).length + (toString (p / 9 % 3) : Str).length <= _; omega)) (bC (KC (t := .sh (.tup [.int (BJ m (p / 9 / 3)), .int (As m (p / 9 / 3))])) (y, (p / 9 / 3), m) (.pin y (.lst [.sh (.int (yP m (p / 9 / 3)))])) E.yZ E.jY (kF E.cY.1 rfl (cu (v_ E.bX.1) cj)) (show m <= 10 by omega) rfl ⟨rfl, .inr rfl, trivial⟩) jH))) (ay rfl)) ⟨?_, ?_⟩
   . show T.sh _ = T.sh (IE m hs p).d
     unfold IE
     rw [ag2 n4, ag2 n6, ag9 hp]
     try rfl
   . show Keeps _ [.pin y (.lst [.sh (.int (Qw m hs p))]), .sh (.int m), .sh (.lst (hs.map .str))]
     unfold Qw
     rw [ag2 n4, ag2 n6, ag9 hp]
     exact j8 (ds := [_, _])
 have n8 := ahr hp
 have g0 := ahB (p / 9) (b := (hs.length : Int)) (by omega)
 have g1 := ahn (p / 9) (b := (hs.length : Int)) (by omega)
 . refine tE (iF (ds := [.str "call", .str (hs.getD (p / 9 % (hs.length : Int)).toNat Str.empty)]) (bC aY.m (bC (CD (v_ E.dO.1).m (KC (t := .sh (.int ((p / 9) % (hs.length : Int)))) (y, (p / 9), (hs.length : Int)) (.pin y (.lst [.sh (.int ((p / 9) / (hs.length : Int)))])) E.dQ E.aV (kF E.cY.1 rfl (cu (xC (agU ..) E.nW (bE E.dO) E.nV) cj)) (qt (by omega) (by omega)) rfl ⟨rfl, .inr rfl, trivial⟩) (yG Str.empty g0 g1)) jH)) (ay rfl)) ⟨?_, ?_⟩
   . show T.sh _ = T.sh (IE m hs p).d
     unfold IE
     rw [ag2 n4, ag2 n6, ag2 n8]
     try rfl
   . show Keeps _ [.pin y (.lst [.sh (.int (Qw m hs p))]), .sh (.int m), .sh (.lst (hs.map .str))]
     unfold Qw
     rw [ag2 n4, ag2 n6, ag2 n8]
     exact j8 (ds := [_, _])
theorem iI : pA (ao xO) ([("pot", av), ("many", av), ("heard", av), ("way", av), ("box", av), ("_law_take", aG), ("_law_term", aG), ("str", aG), ("len", aG)]) = true := by decide +kernel
theorem EK : aS ["pot", "many", "heard", "way", "box"] ["pot", "many", "heard"] (ao xO) := bz
noncomputable abbrev uq : Stmt := top 26
noncomputable abbrev ur : Type := Addr × Int × Nat × List Str
noncomputable def jy : ur -> List T := fun (y, p, m, hs) => [.pin y (.lst [.sh (.int p)]), .sh (.int m), .sh (.lst (hs.map .str))]
noncomputable def ic : ur -> List T := fun (y, p, m, hs) => [.pin y (.lst [.sh (.int (EC m hs p))]), .sh (.int m), .sh (.lst (hs.map .str))]
noncomputable def lH : ur -> Prop := fun (y, p, m, hs) => m <= 10 /\ 0 < hs.length /\ hs.length <= 10
noncomputable def jz : ur -> T := fun (y, p, m, hs) => (.sh (.tup ((Fo m hs p).map It.d)) : T)
structure OX (X : Cx) (CL : Str -> Addr) : Prop extends cW X where
 cY : Ln X 0 "pot"
 aa2 : X.env.kindOf "pot" = some .cell
 bX : Ln X 1 "many"
 XW : X.env.kindOf "many" = some .cell
 dO : Ln X 2 "heard"
 SK : X.env.kindOf "heard" = some .cell
 uv : Gl X "tuple"
 gk : Gl X "range"
 aV : Gl X "_law_take"
 uw : X.mg "tuple" = none
 gn : X.mg "range" = none
 dQ : BD X CL "_law_take" 1 2 iG pre_take iH gS
 SM : BD X CL "_law_piece" 3 3 n5 rM n9 kX
theorem OY {X : Cx} {CL : Str -> Addr} {b : Bx} (E : OX X CL) (y p m hs) (h : lH (y, p, m, hs)) :
   cU X CL b (cB uq) (j7 ["pot", "many", "heard"] (jy (y, p, m, hs))) { nx := fun δ => jz (y, p, m, hs) = .sh .non /\ Keeps δ (ic (y, p, m, hs)), rt := fun AF δ => AF = jz (y, p, m, hs) /\ Keeps δ (ic (y, p, m, hs)) } := by
 dsimp only [lH, jy, jz, ic] at h ⊢
 have hh := h
 obtain ⟨hm, h0, h1⟩ := h
 have w0 := ahB p (b := 4) (by decide)
 have w1 := ahn p (b := 4) (by decide)
 obtain ⟨n, hn⟩ : ∃ n : Nat, n = (p % 4).toNat := ⟨_, rfl⟩
 have YJ : p % 4 = (n : Int) := by omega
 refine tE (N8 (ds := (Fo m hs p).map It.d) E.uw (lE (KD (n := n) (i := 0) (y := y) (fun j => .lst [.sh (.int (Vw m hs (p / 4) j))]) (fun j => (IE m hs (Vw m hs (p / 4) j)).d) (jt (.cons E.dO.1 (.inl E.SK) (.cons E.bX.1 (.inl E.XW) (.cons E.cY.1 (.inl E.aa2) .nil))) (by decide +kernel)) E.g.calm E.gn E.gk (lE (KC (t := .sh (.int (p % 4))) (y, p, 4) (.pin y (.lst [.sh (.int (p / 4))])) E.dQ E.aV (kF E.cY.1 rfl (cu aj cj)) (qt (by decide) (by decide)) rfl ⟨rfl, .inr rfl, trivial⟩) (t2 := .sh (.int (n : Nat))) (by rw [YJ])) (by omega) rfl (by decide) (by decide) (fun C s0 H0 f0 b' j hj => ?SN)) (t2 := .lst (((Fo m hs p).map It.d).map T.sh)) ?ceq) (bW pH _) E.uv) ⟨rfl, ?_⟩
 case SN =>
   exact KC (t := .sh (IE m hs (Vw m hs (p / 4) j)).d) (y, Vw m hs (p / 4) j, m, hs) (.pin y (.lst [.sh (.int (Vw m hs (p / 4) (j + 1)))])) (N7 E.SM) (xB (by decide +kernel)) (kF (tu (i := 3) rfl (by decide +kernel)) rfl (cu (v_ (tu (i := 2) rfl (by decide +kernel))) (cu (v_ (tu (i := 1) rfl (by decide +kernel))) cj))) hh rfl ⟨rfl, .inr rfl, trivial⟩
 case ceq =>
   unfold Fo
   rw [← hn, ahv, ahv]
   rfl
 show Keeps _ [.pin y (.lst [.sh (.int (EC m hs p))]), .sh (.int m), .sh (.lst (hs.map .str))]
 unfold EC
 rw [← hn]
 exact j8 (ds := [_, _])
theorem gu : pA (ao uq) ([("pot", .cell), ("many", .cell), ("heard", .cell), ("tuple", aG), ("range", aG), ("_law_take", aG)]) = true := by decide +kernel
theorem BL : aS ["pot", "many", "heard"] ["pot", "many", "heard"] (ao uq) := bz
noncomputable abbrev CY : Stmt := top 27
noncomputable abbrev CZ : Type := Int × Nat × List Str × Nat
noncomputable def ux : CZ -> List L3.D := fun (c, m, hs, f) => [.int c, .int m, .lst (hs.map .str), .int f]
noncomputable def qP : CZ -> Prop := fun (c, m, hs, f) => (m <= 10 /\ 0 < hs.length /\ hs.length <= 10) /\ 1 <= f /\ f <= 100
noncomputable def uy : CZ -> T := fun (c, m, hs, f) => (.lst (((XE m hs f c).map tF).map T.sh) : T)
structure XY (X : Cx) (CL : Str -> Addr) : Prop extends cW X where
 C1 : Ln X 0 "cell"
 bX : Ln X 1 "many"
 dO : Ln X 2 "heard"
 kI : Ln X 3 "flats"
 cY : Ln X 4 "pot"
 aR : Ln X 5 "rows"
 Vx : Ln X 6 "k"
 qQ : Ln X 7 "asks"
 l_j : Ln X 8 "j"
 tM : Ln X 9 "mark"
 qR : Ln X 10 "one"
 bY : Ln X 11 "piece"
 gk : Gl X "range"
 aV : Gl X "_law_take"
 jY : Gl X "_law_term"
 jI : Gl X "_law_script"
 uv : Gl X "tuple"
 gn : X.mg "range" = none
 dQ : BD X CL "_law_take" 1 2 iG pre_take iH gS
 yZ : BD X CL "_law_term" 2 2 nX qO nY lG
 uz : BD X CL "_law_script" 4 3 jy lH jz ic
 uw : X.mg "tuple" = none
theorem XZ {X : Cx} {CL : Str -> Addr} {b : Bx} (E : XY X CL) {dh : CZ} (h : qP dh) :
   aO X CL b CY ["cell", "many", "heard", "flats", "pot", "rows", "k", "asks", "j", "mark", "one", "piece"] (ux dh) (uy dh) := by
 obtain ⟨c, m, hs, f⟩ := dh
 dsimp only [aO, qP, ux, uy] at h ⊢
 obtain ⟨hh, f0, f1⟩ := h
 have hh2 := hh
 obtain ⟨hm, h0, h1⟩ := hh2
 refine aX E.g E.cY (c7 (aT (oY (bE E.C1) (ai (sY (ai aj) (ai aj) ⟨by decide, by decide, by decide⟩)) (by decide)) bF) (ay rfl)) ?_
 obtain ⟨p, hp⟩ : ∃ p : Int, p = c % 10 ^ (64 : Int).toNat := ⟨_, rfl⟩
 rw [← hp]
 refine aX E.g E.aR (c7 bF (ahs _)) ?_
 have w0 := ahB p (b := 3) (by decide)
 have w1 := ahn p (b := 3) (by decide)
 have mk4 : Cu.length = 4 := rfl
 refine Iq E.g E.Vx (fun j δ => ∃ o6 o7 o8 o9 OZ Vy, δ = [some (.sh (.int c)), some (.sh (.int m)), some (.sh (.lst (hs.map .str))), some (.sh (.int f)), some (.lst [.sh (.int (XD m hs f (p / 3) j))]), some (.lst (((Ow m hs f (p / 3) j).map tF).map T.sh)), o6, o7, o8, o9, OZ, Vy]) E.gn E.gk (Il (t := .sh (.int (p % 3))) (fun z => (z, p, 3)) (.lst [.sh (.int (p / 3))]) E.dQ E.aV (iE E.cY.1 rfl rfl (cu aj cj)) (fun _ _ => (qt (by decide) (by decide))) (fun _ _ => rfl) (fun _ _ => ⟨rfl, .inl rfl, trivial⟩)) (by omega) ⟨_, _, _, _, _, _, rfl⟩ (fun j δ ⟨_, _, _, _, _, _, e⟩ => by subst e; exact agZ rfl) ?turn ?fin
 case turn =>
   rintro j δ hj ⟨o6, o7, o8, o9, OZ, Vy, rfl⟩
   obtain ⟨q, hq⟩ : ∃ q, q = XD m hs f (p / 3) j := ⟨_, rfl⟩
   rw [← hq]
   have LZ : (Ow m hs f (p / 3) j).length = j := by unfold Ow; rw [agU, ahP]
   refine aX E.g E.qQ (c7 bF (ahs _)) ?_
   have q0 := ahB q (b := 2) (by decide)
   have q1 := ahn q (b := 2) (by decide)
   refine Iq E.g E.l_j (fun i δ => ∃ o8 o9 OZ, δ = [some (.sh (.int c)), some (.sh (.int m)), some (.sh (.lst (hs.map .str))), some (.sh (.int f)), some (.lst [.sh (.int (Ou m (q / 2) i))]), some (.lst (((Ow m hs f (p / 3) j).map tF).map T.sh)), some (.sh (.int (j : Nat))), some (.lst (((Ov m (q / 2) i).map KW).map T.sh)), o8, o9, OZ, Vy]) E.gn E.gk (Cz aj.m (Il (t := .sh (.int (q % 2))) (fun z => (z, q, 2)) (.lst [.sh (.int (q / 2))]) E.dQ E.aV (iE E.cY.1 rfl rfl (cu aj cj)) (fun _ _ => (qt (by decide) (by decide))) (fun _ _ => rfl) (fun _ _ => ⟨rfl, .inl rfl, trivial⟩))) (by omega) ⟨_, _, _, rfl⟩ (fun j δ ⟨_, _, _, e⟩ => by subst e; exact agZ rfl) ?O1 ?fin2
   case O1 =>
     rintro i δ hi ⟨o8, o9, OZ, rfl⟩
     obtain ⟨r, hr⟩ : ∃ r, r = Ou m (q / 2) i := ⟨_, rfl⟩
     rw [← hr]
     have hAl : (Ov m (q / 2) i).length = i := by unfold Ov; rw [agU, ahP]
     have r0 := ahB r (b := 4) (by decide)
     have r1 := ahn r (b := 4) (by decide)
     refine fJ E.g E.tM (lE (CD (iD (xE (xD (l := Cu) rfl) (ay rfl))).m (Il (t := .sh (.int (r % 4))) (fun z => (z, r, 4)) (.lst [.sh (.int (r / 4))]) E.dQ E.aV (iE E.cY.1 rfl rfl (cu aj cj)) (fun _ _ => (qt (by decide) (by decide))) (fun _ _ => rfl) (fun _ _ => ⟨rfl, .inl rfl, trivial⟩)) (yG Str.empty (l := Cu) r0 (by rw [mk4]; exact r1))) (t2 := .sh (.str (Cu.getD (r % 4).toNat Str.empty))) rfl) ?_
     refine fJ E.g E.qR (Il (t := .sh (.tup [.int (BJ m (r / 4)), .int (As m (r / 4))])) (fun z => (z, (r / 4), m)) (.lst [.sh (.int (yP m (r / 4)))]) E.yZ E.jY (iE E.cY.1 rfl rfl (cu (v_ E.bX.1) cj)) (fun _ _ => show m <= 10 by omega) (fun _ _ => rfl) (fun _ _ => ⟨rfl, .inl rfl, trivial⟩)) ?_
     refine Gg E.qQ.1 rfl (lE (iF (ds := [.str (Cu.getD (r % 4).toNat Str.empty), .tup [.int (BJ m (r / 4)), .int (As m (r / 4))], .tup [.int (BJ m (yP m (r / 4))), .int (As m (yP m (r / 4)))]]) (bC (v_ E.tM.1).m (bC (v_ E.qR.1).m (bC (Il (t := .sh (.tup [.int (BJ m (yP m (r / 4))), .int (As m (yP m (r / 4)))])) (fun z => (z, (yP m (r / 4)), m)) (.lst [.sh (.int (yP m (yP m (r / 4))))]) E.yZ E.jY (iE E.cY.1 rfl rfl (cu (v_ E.bX.1) cj)) (fun _ _ => show m <= 10 by omega) (fun _ _ => rfl) (fun _ _ => ⟨rfl, .inl rfl, trivial⟩)) jH))) (ay rfl)) (t2 := .sh (KW (akO m r))) rfl) rfl (by rw [agU, agU, hAl]; omega) (az ?_)
     have e : ((Ov m (q / 2) i).map KW).map T.sh ++ [T.sh (KW (akO m r))] = ((Ov m (q / 2) (i + 1)).map KW).map T.sh := by
       unfold Ov
       rw [ait, ag1, ag1, ag1, hr]
       rfl
     rw [e]
     have e2 : Ou m (q / 2) (i + 1) = yP m (yP m (r / 4)) := by rw [hr]; rfl
     rw [e2]
     exact ⟨_, _, _, rfl⟩
   case fin2 =>
     rintro δ ⟨o8, o9, OZ, rfl⟩
     rw [show (1 + q % 2).toNat = XC q from rfl]
     obtain ⟨u, hu⟩ : ∃ u, u = rwQ m q := ⟨_, rfl⟩
     rw [show Ou m (q / 2) (XC q) = u by rw [hu]; rfl]
     refine fJ E.g E.bY (Il (t := .sh (.tup ((Fo m hs u).map It.d))) (fun z => (z, u, m, hs)) (.lst [.sh (.int (EC m hs u))]) E.uz E.jI (iE E.cY.1 rfl rfl (cu (v_ E.bX.1) (cu (v_ E.dO.1) cj))) (fun _ _ => hh) (fun _ _ => rfl) (fun _ _ => ⟨rfl, .inl rfl, trivial⟩)) ?_
     refine Gg E.aR.1 rfl (lE (iF (ds := [.tup ((Ov m (q / 2) (XC q)).map KW), .tup ((Fo m hs u).map It.d), .int (EC m hs u % (f : Int))]) (bC (Kl E.uw (vL E.qQ.1) (bW (fun _ => rfl) _) E.uv).m (bC (v_ E.bY.1).m (bC (Il (t := .sh (.int ((EC m hs u) % (f : Int)))) (fun z => (z, (EC m hs u), (f : Int))) (.lst [.sh (.int ((EC m hs u) / (f : Int)))]) E.dQ E.aV (iE E.cY.1 rfl rfl (cu (v_ E.kI.1) cj)) (fun _ _ => (qt (by omega) (by omega))) (fun _ _ => rfl) (fun _ _ => ⟨rfl, .inl rfl, trivial⟩)) jH))) (ay rfl)) (t2 := .sh (tF (rwO m hs f q))) (by rw [hu]; rfl)) rfl (by rw [agU, agU, LZ]; omega) (az ?_)
     have e : ((Ow m hs f (p / 3) j).map tF).map T.sh ++ [T.sh (tF (rwO m hs f q))] = ((Ow m hs f (p / 3) (j + 1)).map tF).map T.sh := by
       unfold Ow
       rw [ait, ag1, ag1, ag1, hq]
       rfl
     rw [e]
     have e2 : XD m hs f (p / 3) (j + 1) = EC m hs u / (f : Int) := by rw [hu, hq]; rfl
     rw [e2]
     exact ⟨_, _, _, _, _, _, rfl⟩
 case fin =>
   rintro δ ⟨o6, o7, o8, o9, OZ, Vy, rfl⟩
   obtain ⟨q, hq⟩ : ∃ q, q = XD m hs f (p / 3) (p % 3).toNat := ⟨_, rfl⟩
   rw [← hq]
   have LZ : (Ow m hs f (p / 3) (p % 3).toNat).length = (p % 3).toNat := by unfold Ow; rw [agU, ahP]
   refine fJ E.g E.bY (Il (t := .sh (.tup ((Fo m hs q).map It.d))) (fun z => (z, q, m, hs)) (.lst [.sh (.int (EC m hs q))]) E.uz E.jI (iE E.cY.1 rfl rfl (cu (v_ E.bX.1) (cu (v_ E.dO.1) cj))) (fun _ _ => hh) (fun _ _ => rfl) (fun _ _ => ⟨rfl, .inl rfl, trivial⟩)) ?_
   refine Gg E.aR.1 rfl (lE (iF (ds := [.tup [], .tup ((Fo m hs q).map It.d), .int (EC m hs q % (f : Int))]) (bC (bL (ds := []) cF (ay rfl)).m (bC (v_ E.bY.1).m (bC (Il (t := .sh (.int ((EC m hs q) % (f : Int)))) (fun z => (z, (EC m hs q), (f : Int))) (.lst [.sh (.int ((EC m hs q) / (f : Int)))]) E.dQ E.aV (iE E.cY.1 rfl rfl (cu (v_ E.kI.1) cj)) (fun _ _ => (qt (by omega) (by omega))) (fun _ _ => rfl) (fun _ _ => ⟨rfl, .inl rfl, trivial⟩)) jH))) (ay rfl)) (t2 := .sh (tF (rwE m hs f q))) rfl) rfl (by rw [agU, agU, LZ]; omega) ?_
   refine ck (vM E.aR.1) ?_
   show T.lst _ = T.lst (((XE m hs f c).map tF).map T.sh)
   unfold XE
   rw [← hp, ← hq, ag1, ag1]
   rfl
theorem d9 : pA (ao CY) ([("cell", av), ("many", av), ("heard", av), ("flats", av), ("pot", av), ("rows", av), ("k", av), ("asks", av), ("j", av), ("mark", av), ("one", av), ("piece", av), ("range", aG), ("_law_take", aG), ("_law_term", aG), ("_law_script", aG), ("tuple", aG)]) = true := by decide +kernel
theorem SQ : aS ["cell", "many", "heard", "flats", "pot", "rows", "k", "asks", "j", "mark", "one", "piece"] ["cell", "many", "heard", "flats"] (ao CY) := bz
theorem adN {α : Type} {l : List α} {k : Nat} {z : Int} (hz : z = (k : Int)) : cutD l none (some z) = l.take k := by
 subst hz
 unfold cutD
 have e1 : HT.xu l.length 0 none = 0 := rfl
 have e2 : HT.xu l.length l.length (some (k : Int)) = min k l.length := by
   unfold HT.xu
   simp
   intro hk
   omega
 rw [e1, e2]
 simp [List.take_eq_take_iff]
noncomputable abbrev uA : Stmt := top 28
noncomputable abbrev y9 : Type := List Int
noncomputable def lI : y9 -> List L3.D := fun s => [.lst (s.map .int)]
noncomputable def lJ : y9 -> Prop := fun s => s.length <= 1000
noncomputable def lK : y9 -> T := fun s => (ED s : T)
structure O2 (X : Cx) (CL : Str -> Addr) : Prop extends cW X where
 bK : Ln X 0 "script"
 qS : X.env.kindOf "script" = some .cell
 cY : Ln X 1 "pot"
 bX : Ln X 2 "many"
 kI : Ln X 3 "flats"
 dO : Ln X 4 "heard"
 Vx : Ln X 5 "k"
 aK : Ln X 6 "boxes"
 aR : Ln X 7 "rows"
 fK : Ln X 8 "flat"
 xQ : Ln X 9 "begin"
 Jd : Ln X 10 "pairs"
 lM : Gl X "_law_cell_at"
 aV : Gl X "_law_take"
 gk : Gl X "range"
 nV : Gl X "len"
 EL : Gl X "_law_rows"
 jI : Gl X "_law_script"
 rN : Fc X CL "_law_cell_at" 1 2 mG mH mJ
 dQ : BD X CL "_law_take" 1 2 iG pre_take iH gS
 gn : X.mg "range" = none
 nW : X.mg "len" = none
 X3 : Fc X CL "_law_rows" 5 4 ux qP uy
 uz : BD X CL "_law_script" 4 3 jy lH jz ic
 OW : X.mg "str" = none
theorem O4 {X : Cx} {CL : Str -> Addr} {b : Bx} (E : O2 X CL) {s} (h : lJ s) :
   aO X CL b uA ["script", "pot", "many", "flats", "heard", "k", "boxes", "rows", "flat", "begin", "pairs"] (lI s) (lK s) := by
 dsimp only [aO, lJ, lI, lK] at h ⊢
 have hs0 : s.length <= 1000 := h
 obtain ⟨b1, b2, b3, b4, b5, b6⟩ := Ox s
 have M7 := Oz s
 have c0 := ahB (yQ s) (b := 4) (by decide)
 have c1 := ahn (yQ s) (b := 4) (by decide)
 have d0 := ahB (yQ s / 4) (b := 13) (by decide)
 have d1 := ahn (yQ s / 4) (b := 13) (by decide)
 have e0 := ahB (yQ s / 4 / 13) (b := 2) (by decide)
 have e1 := ahn (yQ s / 4 / 13) (b := 2) (by decide)
 have z0 : (0 : Int) <= 0 := by decide
 have z3 : (0 : Int) <= 3 := by decide
 refine aX E.g E.cY (bR (c7 (aT (oY (ai (c_ ((s, 0)) E.rN E.lM (aA (bE E.bK) (aA (ai aj) b7)) (z0) rfl)) (ai (sY (ai aj) (ai aj) ⟨by decide, by decide, by decide⟩)) (by decide)) bF) (ay rfl)) (t2 := .lst [.sh (.int (yQ s))]) rfl) ?_
 refine fJ E.g E.bX (lE (Il (t := .sh (.int ((yQ s) % 4))) (fun z => (z, (yQ s), 4)) (.lst [.sh (.int ((yQ s) / 4))]) E.dQ E.aV (iE E.cY.1 rfl rfl (cu aj cj)) (fun _ _ => (qt (by decide) (by decide))) (fun _ _ => rfl) (fun _ _ => ⟨rfl, .inl rfl, trivial⟩)) (t2 := .sh (.int (Gq s : Nat))) (by rw [show ((Gq s : Nat) : Int) = yQ s % 4 by unfold Gq; omega])) ?_
 refine fJ E.g E.kI (lE (Cz aj.m (Il (t := .sh (.int ((yQ s / 4) % 13))) (fun z => (z, (yQ s / 4), 13)) (.lst [.sh (.int ((yQ s / 4) / 13))]) E.dQ E.aV (iE E.cY.1 rfl rfl (cu aj cj)) (fun _ _ => (qt (by decide) (by decide))) (fun _ _ => rfl) (fun _ _ => ⟨rfl, .inl rfl, trivial⟩))) (t2 := .sh (.int (sL s : Nat))) (by rw [show ((sL s : Nat) : Int) = 1 + yQ s / 4 % 13 by unfold sL; omega])) ?_
 have aa3 : cutD (goL.map L3.D.str) none (some (1 + yQ s / 4 / 13 % 2)) = (sy s).map L3.D.str := by
   rw [adN (k := LY s) (by unfold LY; omega), ← List.map_take]
   rfl
 refine fJ E.g E.dO (lE (KG (ds := goL.map .str) (iD (xE (xD (l := goL) rfl) (ay rfl))) (lA _) (Cz aj.m (Il (t := .sh (.int ((yQ s / 4 / 13) % 2))) (fun z => (z, (yQ s / 4 / 13), 2)) (.lst [.sh (.int ((yQ s / 4 / 13) / 2))]) E.dQ E.aV (iE E.cY.1 rfl rfl (cu aj cj)) (fun _ _ => (qt (by decide) (by decide))) (fun _ _ => rfl) (fun _ _ => ⟨rfl, .inl rfl, trivial⟩)))) (t2 := .lst (((sy s).map .str).map T.sh)) (by rw [aa3])) ?_
 obtain ⟨q, hq⟩ : ∃ q, q = yQ s / 4 / 13 / 2 := ⟨_, rfl⟩
 rw [← hq]
 obtain ⟨m, hm⟩ : ∃ m, m = Gq s := ⟨_, rfl⟩
 obtain ⟨f, hf⟩ : ∃ f, f = sL s := ⟨_, rfl⟩
 obtain ⟨hs, hhs⟩ : ∃ hs, hs = sy s := ⟨_, rfl⟩
 have eP : ED s = .lst [.lst ((((List.range m).map (Sv s)).map Ss).map T.sh), .lst ((hs.map .str).map T.sh), .sh (.tup ((Fo m hs (jl s 3 % 10 ^ (60 : Int).toNat / 7)).map It.d)), .lst (((List.range f).map ji).map T.sh), .dct (sA (II s m hs f f))] := by rw [hm, hf, hhs]; rfl
 rw [eP, ← hm, ← hf, ← hhs]
 rw [← hm] at b1
 rw [← hf] at b2 b3
 rw [← hhs] at b4 M7
 clear eP aa3
 have hl0 : 0 < hs.length := by omega
 have hl2 : hs.length <= 2 := by omega
 have pre : m <= 10 /\ 0 < hs.length /\ hs.length <= 10 := ⟨by omega, hl0, by omega⟩
 refine Ga (p := fun _ => true) (gg := fun d => T.sh (Ss (Sv s d.M9.toNat))) E.g E.aK (jt (.cons E.bK.1 (.inl E.qS) .nil) (by decide +kernel)) (nM E.gn (bE E.bX) (by omega) E.gk) (.inr rfl) (fun C s0 H0 f0 b' d hd => ?SN) (ah3 (kW (by simp [fX]; omega))) ?rest (by exact agZ rfl) (yE ⟨_, rfl⟩)
 case SN =>
   obtain ⟨i, hi, rfl⟩ := ahm.mp hd
   have Vu : i < m := by simpa using hi
   have cl : ∀ k : Nat, k < 10 -> (toString (k : Int) : Str).length <= 2 /\ (k : Int).natAbs.log2 < 1920 := by decide +kernel
   obtain ⟨sl, sg⟩ := cl i (by omega)
   have ei : (0 + (i : Int)) = (i : Int) := aiz _
   have et : (L3.D.int (0 + (i : Int))).M9.toNat = i := by show (0 + (i : Int)).toNat = i; omega
   have fv : ∀ j : Nat, j < 2 -> 0 < Qx.getD j 0 := by decide +kernel
   have i0 := ahB (0 + (i : Int)) (b := 2) (by decide)
   have i1 := ahn (0 + (i : Int)) (b := 2) (by decide)
   have hfv := fv ((0 + (i : Int)) % 2).toNat (by omega)
   refine ⟨rfl, fun _ => bR (bL (ds := [.str (("b" : Str) ++ (toString (0 + (i : Int)) : Str)), .int (jl s (1 + (0 + (i : Int))) % 10 ^ (30 : Int).toNat % Qx.getD ((0 + (i : Int)) % 2).toNat 0 - 2)]) (aJ (Wy (ai aY) (ai (RC E.OW (xB (by decide +kernel)) (ai (v_ (pe (i := 0) rfl (by decide +kernel)))) (by rw [ei]; exact sg))) ((by rw [ei, ahS]; have h1 : ("b" : Str).length = 1 := (by decide +kernel); show ("b" : Str).length + (toString (i : Int) : Str).length <= _; omega))) (aJ (Ce (ai (oY (ai (oY (ai (c_ ((s, 1 + (0 + (i : Int)))) (Rp E.rN) (xB (by decide +kernel)) (aA (ai (v_ (tu (i := 1) rfl (by decide +kernel)))) (aA (ai (k9 (ai aj) (ai (v_ (pe (i := 0) rfl (by decide +kernel)))))) b7)) (show (0 : Int) <= 1 + (0 + (i : Int)) by omega) rfl)) (ai (sY (ai aj) (ai aj) ⟨by decide, by decide, by decide⟩)) (by decide))) (eY (ju (bR (c7 (aT aj (aT (sY (ai aj) (ai aj) ⟨by decide, by decide, by decide⟩) bF)) (ay rfl)) (t2 := .lst ((Qx.map L3.D.int).map T.sh)) rfl)) (ai (oY (ai (v_ (pe (i := 0) rfl (by decide +kernel)))) (ai aj) (by decide))) (vv (bs := Qx) i0 (show (0 + (i : Int)) % 2 < 2 by omega))) hfv)) (ai aj)) cF)) (ay rfl)) ?_⟩
   show T.sh _ = T.sh (Ss (Sv s (L3.D.int (0 + (i : Int))).M9.toNat))
   rw [et, ei, show ((i : Int) % 2).toNat = i % 2 by omega]
   rfl
 case rest =>
 have em : ((fX 0 (m : Int).toNat).filter fun _ => true).map (fun d => T.sh (Ss (Sv s d.M9.toNat))) = (((List.range m).map (Sv s)).map Ss).map T.sh := by
   rw [jS]
   unfold fX
   rw [ahv, ahv, ahv, ah6]
   refine ain fun k _ => ?_
   show T.sh (Ss (Sv s (0 + (k : Int)).toNat)) = _
   rw [show (0 + (k : Int)).toNat = k by omega]
   rfl
 rw [em]
 refine aX E.g E.aR Ey ?_
 have hrl : ∀ l : List b9, (T.lst ((l.map tF).map T.sh)).clean = true := fun l => dM (bW Gp _)
 refine qj E.g E.fK (fun j δ => ∃ o5 o8, δ = [some (.sh (.lst (s.map .int))), some (.lst [.sh (.int q)]), some (.sh (.int m)), some (.sh (.int f)), some (.lst ((hs.map .str).map T.sh)), o5, some (.lst ((((List.range m).map (Sv s)).map Ss).map T.sh)), some (.dct (sA (II s m hs f j))), o8, none, none]) (nM E.gn (bE E.kI) (by omega) E.gk) ⟨_, _, rfl⟩ (fun j δ ⟨_, _, e⟩ => by subst e; exact agZ rfl) ?turn ?fin
 case turn =>
   rintro j d δ hj ⟨o5, o8, rfl⟩
   obtain ⟨rfl, Fl⟩ := yF hj
   have Fl : j < f := by simpa using Fl
   rw [aiz]
   refine qj E.g E.Vx (fun i δ => ∃ o5, δ = [some (.sh (.lst (s.map .int))), some (.lst [.sh (.int q)]), some (.sh (.int m)), some (.sh (.int f)), some (.lst ((hs.map .str).map T.sh)), o5, some (.lst ((((List.range m).map (Sv s)).map Ss).map T.sh)), some (.dct (sA (II s m hs f j ++ Gr s m hs f j i))), some (.sh (.int (j : Nat))), none, none]) (nM E.gn (ai (xC (agU ..) E.nW (vL E.dO.1) E.nV)) (by omega) E.gk) ⟨_, by rw [show Gr s m hs f j 0 = [] from rfl, ag3]; rfl⟩ (fun j δ ⟨_, e⟩ => by subst e; exact agZ rfl) ?O1 ?fin2
   case O1 =>
     rintro i d δ hi ⟨o5, rfl⟩
     obtain ⟨rfl, Ao⟩ := yF hi
     have Ao : i < hs.length := by simpa using Ao
     rw [aiz]
     have Gb : An (hs.map L3.D.str) (i : Int) = some (.str (hs.getD i Str.empty)) := (yG Str.empty (by omega) (by omega)).trans (by rw [ah6])
     refine RX (IG hs j i) E.u E.aR.1 (bR (c_ (jl s (4 + 2 * (j : Int) + (i : Int)), m, hs, f) E.X3 E.EL (aA (ai (c_ ((s, 4 + 2 * (j : Int) + (i : Int))) E.rN E.lM (aA (bE E.bK) (aA (ai (k9 (ai (k9 (ai aj) (ai (MV (ai aj) (bE E.fK) (.inl ⟨by decide, by decide⟩))))) (bE E.Vx))) b7)) (show (0 : Int) <= 4 + 2 * (j : Int) + (i : Int) by omega) rfl)) (aA (bE E.bX) (aA (vL E.dO.1) (aA (bE E.kI) b7)))) (by dsimp only [qP]; exact ⟨pre, b2, by omega⟩) (hrl _)) (t2 := .lst (((dcR s m hs f j i).map tF).map T.sh)) rfl) (bR (sZ (aT (v_ E.fK.1) (aT (cE (eY (vL E.dO.1) (bE E.Vx) Gb) rfl) bF)) (ay rfl)) (t2 := jT (IG hs j i)) rfl) rfl (IK M7 Ao) ?_ (az ?_)
     . unfold sA
       rw [agU, ahc, CH, IL]
       have : j * hs.length <= 13 * 2 := Nat.mul_le_mul (by omega) hl2
       omega
     have e : sA (II s m hs f j ++ Gr s m hs f j i) ++ [(IG hs j i, T.lst (((dcR s m hs f j i).map tF).map T.sh))] = sA (II s m hs f j ++ Gr s m hs f j (i + 1)) := by
       unfold sA Gr
       rw [ait, ag1, ag1, ag1, ag1, agT]
       rfl
     rw [e]
     exact ⟨_, rfl⟩
   case fin2 =>
     rintro δ ⟨o5, rfl⟩
     rw [show (fX 0 (hs.length : Int).toNat).length = hs.length by simp [fX], ← yR]
     exact az ⟨_, _, rfl⟩
 case fin =>
   rintro δ ⟨o5, o8, rfl⟩
   rw [show (fX 0 (f : Int).toNat).length = f by simp [fX]]
   refine fJ E.g E.xQ (adu (d := .tup ((Fo m hs (jl s 3 % 10 ^ (60 : Int).toNat / 7)).map It.d)) (fun y => (y, jl s 3 % 10 ^ (60 : Int).toNat / 7, m, hs)) E.uz E.jI (t0 := .lst [.sh (.int (jl s 3 % 10 ^ (60 : Int).toNat / 7))]) (c7 (aT (Rh (ai (oY (ai (c_ ((s, 3)) E.rN E.lM (aA (bE E.bK) (aA (ai aj) b7)) (z3) rfl)) (ai (sY (ai aj) (ai aj) ⟨by decide, by decide, by decide⟩)) (by decide))) (ai aj) ⟨by decide, by decide⟩) bF) (ay rfl)) rfl (v_ E.bX.1) E.dO.1 rfl (fun _ => pre) (fun _ => rfl) (bW pH _) (fun y => by rw [c5]; rfl)) ?_
   refine Ga (p := fun _ => true) (gg := fun d => T.sh (ji d.M9.toNat)) E.g E.Jd (jt .nil (by decide +kernel)) (nM E.gn (bE E.kI) (by omega) E.gk) (.inr rfl) (fun C s0 H0 f0 b' d hd => ?adP) (ah3 (kW (by simp [fX]; omega))) ?aa5 (by exact agZ rfl) (yE ⟨_, rfl⟩)
   case adP =>
     obtain ⟨i, hi, rfl⟩ := ahm.mp hd
     refine ⟨rfl, fun _ => bR (bL (aJ (bL (aJ aj (aJ (k9 (ai aj) (ai (v_ (pe (i := 0) rfl (by decide +kernel))))) cF)) (ay rfl)) (aJ (bL (aJ (yC (ai aj)) (aJ (Ce (ai (v_ (pe (i := 0) rfl (by decide +kernel)))) (ai aj)) cF)) (ay rfl)) cF)) (ay rfl)) ?_⟩
     show T.sh _ = T.sh (ji (L3.D.int (0 + (i : Int))).M9.toNat)
     rw [show (L3.D.int (0 + (i : Int))).M9.toNat = i from (by show (0 + (i : Int)).toNat = i; omega), aiz]
     rfl
   case aa5 =>
   have em3 : ((fX 0 (f : Int).toNat).filter fun _ => true).map (fun d => T.sh (ji d.M9.toNat)) = ((List.range f).map ji).map T.sh := by
     rw [jS]
     unfold fX
     rw [ahv, ahv, ah6]
     refine ain fun k _ => ?_
     show T.sh (ji (0 + (k : Int)).toNat) = _
     rw [show (0 + (k : Int)).toNat = k by omega]
     rfl
   rw [em3]
   exact ck (c7 (aT (vM E.aK.1) (aT (vM E.dO.1) (aT (v_ E.xQ.1) (aT (vM E.Jd.1) (aT (vM E.aR.1) bF))))) (ay rfl)) rfl
theorem bZ : pA (ao uA) ([("script", .cell), ("pot", av), ("many", av), ("flats", av), ("heard", av), ("k", av), ("boxes", av), ("rows", av), ("flat", av), ("begin", av), ("pairs", av), ("_law_cell_at", aG), ("_law_take", aG), ("range", aG), ("len", aG), ("_law_rows", aG), ("_law_script", aG)]) = true := by decide +kernel
theorem K9 : aS ["script", "pot", "many", "flats", "heard", "k", "boxes", "rows", "flat", "begin", "pairs"] ["script"] (ao uA) := bz
noncomputable def Je (q : bH × List b9) : bH × List b9 := (q.1, q.2 ++ [([], [], 0)])
noncomputable def O5 (s : List Int) : L3.D := .lst [.lst ((wG s).map jW), .lst ((sy s).map .str), .tup ((xJ s).map It.d), .lst ((List.range (sL s)).map ji), .dct (fk (fV (vF s)))]
noncomputable def ptW (s : List Int) : T := .lst [.lst (((wG s).map jW).map T.sh ++ [.sh (.tup [.str "more", .int 1])]), .lst (((sy s).map .str).map T.sh ++ [.sh (.str "more")]), .sh (.tup ((xJ s).map It.d)), .lst (((List.range (sL s)).map ji).map T.sh ++ [.sh (.tup [.tup [.int 0, .int 1], .tup [.int (-1), .int (-1)]])]), .dct (sA ((vF s).map Je))]
theorem SR (s : List Int) : T.bS (Qz s (vF s)) = O5 s := by
 unfold Qz O5
 rw [T.bS, T.jn, T.jn, T.jn, T.jn, T.jn, T.jn, c5, c5, c5, T.bS, IY, uo]
theorem Jf {α : Type} {k : bH} {x : α} {l2 : List (bH × α)} : ∀ {l1 : List (bH × α)}, k ∉ l1.map (·.1) -> fj (l1 ++ (k, x) :: l2) k = some x
 | [], _ => jU rfl
 | p :: l1, h => by
   rw [ahd, ag4, not_or] at h
   rw [ahi, gR fun e => h.1 e.symm, Jf h.2]
theorem Jg {α : Type} {k : bH} {x y : α} {l2 : List (bH × α)} : ∀ {l1 : List (bH × α)}, k ∉ l1.map (·.1) -> wQ k y (l1 ++ (k, x) :: l2) = l1 ++ (k, y) :: l2
 | [], _ => by rw [aic, wQ, ag9 rfl]; rfl
 | p :: l1, h => by
   rw [ahd, ag4, not_or] at h
   obtain ⟨a, u⟩ := p
   rw [ahi, wQ, ag2 fun e => h.1 e.symm, Jg h.2]
   rfl
section
variable {y : Addr} {t0 t1 t2 t3 u : T} {kv : List (bH × T)} {k : bH} {l : List T}
theorem Jh (h : fj kv k = some (.lst l)) : T.jx [.ix 4, .key k] (.pin y (.lst [t0, t1, t2, t3, .dct kv])) = some (.lst l) := by
 show (fj kv k).bind (T.jx []) = _
 rw [h]
 rfl
theorem SV (h : fj kv k = some (.lst l)) : T.jV [.ix 4, .key k] u (.pin y (.lst [t0, t1, t2, t3, .dct kv])) = .pin y (.lst [t0, t1, t2, t3, .dct (wQ k u kv)]) := by
 have e : T.jV [.key k] u (.dct kv) = .dct (wQ k u kv) := by
   rw [T.jV, show (T.core (.dct kv)).LV (.key k) = some (.lst l) from h]
   rfl
 show T.pin y (.lst [t0, t1, t2, t3, T.jV [.key k] u (.dct kv)]) = _
 rw [e]
end
theorem X4 {r : b9} (h : XF r) (k : Nat) : gX (k + 4) (tF r) := OI (.tup fun d hd => by
 obtain ⟨q, hq, rfl⟩ := ahm.mp hd
 exact OI (.str _ _ (h.a q hq)) (tK (.int _ _) (.int _ _)) (tK (.int _ _) (.int _ _))) (IQ h.b k) (.int _ _)
theorem mY.dps {m f : Nat} {hs : List Str} {R : List (bH × List b9)} (h : mY m f hs R) : ∀ q ∈ fk (fV R), gX 60 q.2 := fun q hq => by
 rw [← uo] at hq
 obtain ⟨p, hp, rfl⟩ := ahm.mp hq
 refine .lst fun d hd => ?_
 obtain ⟨r, hr, rfl⟩ := ahm.mp hd
 exact X4 ((h.b p hp).2 r hr).s 55
noncomputable abbrev xR : Stmt := top 34
noncomputable abbrev xS : Type := Addr × List Int
noncomputable def oh : xS -> List T := fun (z, s) => [.sh (.lst (s.map .int)), .sh (cD ((wG s).map jW) ((sy s).map .str) ((xJ s).map It.d) ((List.range (sL s)).map ji) (fV (vF s))), .pin z (Qz s (vF s))]
noncomputable def kY : xS -> List T := fun (z, s) => [.sh (.lst (s.map .int)), .sh (cD ((wG s).map jW) ((sy s).map .str) ((xJ s).map It.d) ((List.range (sL s)).map ji) (fV (vF s))), .pin z (ptW s)]
noncomputable def rO : xS -> Prop := fun (z, s) => s.length <= 1000
noncomputable def oi : xS -> T := fun (z, s) => (.sh (.bl true) : T)
structure SW (X : Cx) (CL : Str -> Addr) : Prop extends cW X where
 bK : Ln X 0 "script"
 cG : Ln X 1 "table"
 fL : Ln X 2 "part"
 sN : Ln X 3 "due"
 O6 : Ln X 4 "spot"
 mZ : Gl X "_law_pieces"
 zb : Fc X CL "_law_pieces" 6 1 lI lJ lK
 aB : j5 X.K (CL "FlatRun")
 bA : j5 X.K (CL "Table")
 aZ : aF X.K (CL "FlatRun") "boxes"
 bM : aF X.K (CL "Table") "boxes"
 fF : aF X.K (CL "Table") "signs"
 eG : aF X.K (CL "Table") "begin"
 fG : aF X.K (CL "Table") "flats"
 ek : aF X.K (CL "Table") "rows"
theorem SX {X : Cx} {CL : Str -> Addr} {b : Bx} (E : SW X CL) (z s) (h : rO (z, s)) :
   cU X CL b (cB xR) (j7 ["script", "table", "part", "due", "spot"] (oh (z, s))) { nx := fun δ => oi (z, s) = .sh .non /\ Keeps δ (kY (z, s)), rt := fun AF δ => AF = oi (z, s) /\ Keeps δ (kY (z, s)) } := by
 dsimp only [rO, oh, oi, kY] at h ⊢
 have hs0 : s.length <= 1000 := h
 obtain ⟨b1, b2, b3, b4, b5, b6⟩ := Ox s
 have Y6 := Gy s
 have O7 := OL s
 have hx : ∀ x ∈ xJ s, IW (Gq s) x := IX (by omega) Y6 _
 have QB : (wG s).length = Gq s := by unfold wG; rw [agU, ahP]
 refine aX E.g E.sN (Ih (d := O5 s) (bR (c_ s E.zb E.mZ (aA (bE E.bK) b7) hs0 (by show (ED s).clean = true; rw [CK]; exact BK _ _)) (t2 := Qz s (vF s)) (CK s)) (SR s)) ?_
 have d0 := XO (XI s) 58
 have d1 := OS Y6 59
 have d2 : gX 60 (.tup ((xJ s).map It.d)) := IQ (fun x h k => vH (hx x h) k) 57
 have d3 := SD (sL s) 57
 have d4 := O7.dps
 have M7 := O7.c
 have LZ := O7.d
 have hR3 := O7.b
 have hul : Qz s (vF s) = .lst [.lst (((wG s).map jW).map T.sh), .lst (((sy s).map .str).map T.sh), .sh (.tup ((xJ s).map It.d)), .lst (((List.range (sL s)).map ji).map T.sh), .dct (sA (vF s))] := rfl
 have hdu : O5 s = .lst [.lst ((wG s).map jW), .lst ((sy s).map .str), .tup ((xJ s).map It.d), .lst ((List.range (sL s)).map ji), .dct (fk (fV (vF s)))] := rfl
 have hwd : ptW s = .lst [.lst (((wG s).map jW).map T.sh ++ [.sh (.tup [.str "more", .int 1])]), .lst (((sy s).map .str).map T.sh ++ [.sh (.str "more")]), .sh (.tup ((xJ s).map It.d)), .lst (((List.range (sL s)).map ji).map T.sh ++ [.sh (.tup [.tup [.int 0, .int 1], .tup [.int (-1), .int (-1)]])]), .dct (sA ((vF s).map Je))] := rfl
 show cU X CL b _ [some (.sh (.lst (s.map .int))), some (.sh (cD ((wG s).map jW) ((sy s).map .str) ((xJ s).map It.d) ((List.range (sL s)).map ji) (fV (vF s)))), some (.pin z (Qz s (vF s))), some (.sh (O5 s)), none] { nx := _, rt := fun t δ => t = .sh (.bl true) /\ Keeps δ [.sh (.lst (s.map .int)), .sh (cD ((wG s).map jW) ((sy s).map .str) ((xJ s).map It.d) ((List.range (sL s)).map ji) (fV (vF s))), .pin z (ptW s)], bk := _, ct := _ }
 rw [hul, hdu, hwd]
 clear hul hdu hwd O7
 generalize wG s = bs at d0 QB ⊢
 generalize sy s = hh at d1 Y6 b4 ⊢
 generalize xJ s = xs at d2 hx ⊢
 generalize sL s = n at d3 b2 b3 ⊢
 generalize vF s = R at d4 M7 LZ hR3 ⊢
 refine dJ (Kd (sI (tD E.u (d1 := .lst (bs.map jW)) (d2 := .lst (bs.map jW)) (gJ E.bA E.bM (bE E.cG) mF) (eY (bE E.sN) (ai aj) (aL (j := 0) rfl)) d0 d0).1
   (fun _ => sI (tD E.u (d1 := .lst (hh.map .str)) (d2 := .lst (hh.map .str)) (gJ E.bA E.fF (bE E.cG) qJ) (eY (bE E.sN) (ai aj) (aL (j := 1) rfl)) d1 d1).1
   (fun _ => sI (tD E.u (d1 := .tup (xs.map It.d)) (d2 := .tup (xs.map It.d)) (gJ E.bA E.eG (bE E.cG) qK) (eY (bE E.sN) (ai aj) (aL (j := 2) rfl)) d2 d2).1
   (fun _ => Cj (tD E.u (d1 := .lst ((List.range n).map ji)) (d2 := .lst ((List.range n).map ji)) (gJ E.bA E.fG (bE E.cG) qL) (eY (bE E.sN) (ai aj) (aL (j := 3) rfl)) d3 d3).1))))) (fun hp => absurd hp (by rw [eU d0, eU d1, eU d2, eU d3]; decide)) (fun _ => az ?_)
 refine Ir E.g E.O6 (fun j δ => ∃ o, δ = [some (.sh (.lst (s.map .int))), some (.sh (cD (bs.map jW) (hh.map .str) (xs.map It.d) ((List.range n).map ji) (fV R))), some (.pin z (.lst [.lst ((bs.map jW).map T.sh), .lst ((hh.map .str).map T.sh), .sh (.tup (xs.map It.d)), .lst (((List.range n).map ji).map T.sh), .dct (sA ((R.take j).map Je ++ R.drop j))])), some (.sh (.lst [.lst (bs.map jW), .lst (hh.map .str), .tup (xs.map It.d), .lst ((List.range n).map ji), .dct (fk (fV R))])), o]) (WD (v_ E.sN.1) (ai aj) (aL (j := 4) rfl)) ⟨_, rfl⟩ (fun j δ ⟨_, e⟩ => by subst e; exact agZ rfl) ?turn ?fin
 case turn =>
   rintro b' j k d δ hj ⟨o, rfl⟩
   rw [← uo] at hj
   unfold dcD at hj
   rw [ahh] at hj
   obtain ⟨q, hq, e⟩ := ahw.mp hj
   cases e
   have Fl : j < R.length := (ahp.mp hq).1
   have hq0 : R[j] = q := (ahp.mp hq).2
   have hdr : R.drop j = q :: R.drop (j + 1) := by rw [List.drop_eq_getElem_cons Fl, hq0]
   have Vo : (R.take (j + 1)).map Je = (R.take j).map Je ++ [Je q] := by rw [ahU, hq, ag1]; rfl
   have hn : q.1 ∉ (sA ((R.take j).map Je)).map (·.1) := fun hm => by
     rw [OO, ahv] at hm
     obtain ⟨i, hi, e⟩ := aiG hm
     rw [agU, ahG] at hi
     rw [List.getElem_map, aiS] at e
     have Vu : i < (R.map (·.1)).length := by rw [agU]; omega
     have := (List.getElem?_inj Vu M7).mp (show (R.map (·.1))[i]? = (R.map (·.1))[j]? by
       rw [ahh, ahh, ag7 (by omega), hq]
       exact congrArg some e)
     omega
   have edc : sA ((R.take j).map Je ++ R.drop j) = sA ((R.take j).map Je) ++ (q.1, T.lst ((q.2.map tF).map T.sh)) :: sA (R.drop (j + 1)) := by
     rw [hdr]
     unfold sA
     rw [ag1]
     rfl
   have hv : fj (sA ((R.take j).map Je ++ R.drop j)) q.1 = some (.lst ((q.2.map tF).map T.sh)) := by rw [edc]; exact Jf hn
   have hr : wQ q.1 (.lst ((q.2.map tF).map T.sh ++ [.sh (.tup [.tup [], .tup [], .int 0])])) (sA ((R.take j).map Je ++ R.drop j)) = sA ((R.take (j + 1)).map Je ++ R.drop (j + 1)) := by
     rw [edc, Jg hn, Vo, agT]
     unfold sA
     rw [ag1, ag1 (l₁ := [Je q])]
     congr 1
     show _ :: _ = [(q.1, T.lst (((q.2 ++ [([], [], 0)]).map tF).map T.sh))] ++ _
     rw [ag1, ag1]
     rfl
   generalize sA ((R.take j).map Je ++ R.drop j) = kv at hv hr ⊢
   refine lD (p := [.ix 4, .key q.1]) (Xw q.1 E.u (lC (j := 4) (b8 E.fL.1 rfl) rfl rfl (ai aj) rfl) rfl rfl (vE E.O6.1 rfl (Ny _)) hv) rfl (Jh hv) (bL (ds := [.tup [], .tup [], .int 0]) (aJ (bL (ds := []) cF (ay rfl)) (aJ (bL (ds := []) cF (ay rfl)) (aJ aj cF))) (ay rfl)) rfl (Jh hv) (by rw [agU, agU]; have := (hR3 q (ahk hq)).1; omega) (az ⟨some (jT q.1), ?_⟩)
   show [_, _, some (T.jV [.ix 4, .key q.1] _ _), _, _] = _
   rw [SV hv, hr]
 case fin =>
   rintro δ ⟨o, rfl⟩
   have hlen : (fk (fV R)).length = R.length := by rw [← uo]; unfold dcD; rw [agU]
   rw [hlen, ahQ, List.drop_length, ag3]
   have hb3 : ((bs.map jW).map T.sh).length <= 1000000 := by rw [agU, agU]; omega
   have M3 : ((hh.map L3.D.str).map T.sh).length <= 1000000 := by rw [agU, agU]; omega
   have hn3 : (((List.range n).map ji).map T.sh).length <= 1000000 := by rw [agU, agU, ahP]; omega
   refine lD (p := [.ix 0]) (lC (j := 0) (b8 E.fL.1 rfl) rfl rfl (ai aj) rfl) rfl rfl (bL (ds := [.str "more", .int 1]) (aJ aY (aJ aj cF)) (ay rfl)) rfl rfl hb3 ?_
   refine lD (p := [.ix 1]) (lC (j := 1) (b8 E.fL.1 rfl) rfl rfl (ai aj) rfl) rfl rfl aY rfl rfl M3 ?_
   refine lD (p := [.ix 3]) (lC (j := 3) (b8 E.fL.1 rfl) rfl rfl (ai aj) rfl) rfl rfl (bL (ds := [.tup [.int 0, .int 1], .tup [.int (-1), .int (-1)]]) (aJ (bL (ds := [.int 0, .int 1]) (aJ aj (aJ aj cF)) (ay rfl)) (aJ (bL (ds := [.int (-1), .int (-1)]) (aJ (yC (ai aj)) (aJ (yC (ai aj)) cF)) (ay rfl)) cF)) (ay rfl)) rfl rfl hn3 ?_
   refine ck (bR (qA (Sh E.u (gJ E.bA E.ek (bE E.cG) tH) (eY (bE E.sN) (ai aj) (aL (j := 4) rfl)) d4).2
     (fun _ => qA (qE E.u (d1 := .lst (bs.map jW)) (d2 := .lst (bs.map jW)) (gJ E.bA E.bM (bE E.cG) mF) (eY (bE E.sN) (ai aj) (aL (j := 0) rfl)) d0 d0).2
     (fun _ => qA (qE E.u (d1 := .lst (hh.map .str)) (d2 := .lst (hh.map .str)) (gJ E.bA E.fF (bE E.cG) qJ) (eY (bE E.sN) (ai aj) (aL (j := 1) rfl)) d1 d1).2
     (fun _ => vq (qE E.u (d1 := .lst ((List.range n).map ji)) (d2 := .lst ((List.range n).map ji)) (gJ E.bA E.fG (bE E.cG) qL) (eY (bE E.sN) (ai aj) (aL (j := 3) rfl)) d3 d3).2)))) (t2 := .sh (.bl true)) (by rw [eU d0, eU d1, eU d3]; rfl)) ⟨rfl, ?_⟩
   exact Sj
theorem oj : pA (ao xR) ([("script", av), ("table", av), ("part", av), ("due", av), ("spot", av), ("_law_pieces", aG)]) = true := by decide +kernel
theorem ER : aS ["script", "table", "part", "due", "spot"] ["script", "table", "part"] (ao xR) := bz
noncomputable abbrev xT : Stmt := top 29
noncomputable abbrev xU : Type := Int × Int × List Int
noncomputable def om : xU -> List L3.D := fun (bx, mo, bs) => [.tup [.int bx, .int mo], .lst (bs.map .int)]
noncomputable def oq : xU -> Prop := fun (bx, mo, bs) => bx = -1 \/ (0 <= bx /\ bx < bs.length)
noncomputable def ou : xU -> T := fun (bx, mo, bs) => (.sh (.int (bI bx mo bs)) : T)
structure SY (X : Cx) (CL : Str -> Addr) : Prop extends cW X where
 pM : Ln X 0 "term"
 aK : Ln X 1 "boxes"
theorem S9 {X : Cx} {CL : Str -> Addr} {b : Bx} (E : SY X CL) {dh : xU} (h : oq dh) :
   aO X CL b xT ["term", "boxes"] (om dh) (ou dh) := by
 obtain ⟨bx, mo, bs⟩ := dh
 dsimp only [aO, oq, om, ou] at h ⊢
 have h : bx = -1 \/ (0 <= bx /\ bx < bs.length) := h
 refine dJ (wu (aM (bE E.pM) (ai aj) rfl) (ai aj)).1 (fun hp => ?_) (fun hp => az ?_)
 . have e : bx < 0 := aha hp
   refine ck (cE (aM (bE E.pM) (ai aj) rfl) rfl) ?_
   show T.sh (.int mo) = T.sh (.int (bI bx mo bs))
   rw [bI, ag9 (by omega)]
 . have e : ¬ bx < 0 := ahr hp
   refine ck (k9 (aM (bE E.pM) (ai aj) rfl) (eY (bE E.aK) (aM (bE E.pM) (ai aj) rfl) (vv (by omega) (by omega)))) ?_
   show T.sh _ = T.sh (.int (bI bx mo bs))
   rw [bI, ag2 (by omega), Int.add_comm]
theorem EV : pA (ao xT) ([("term", av), ("boxes", av)]) = true := by decide +kernel
theorem O8 : aS ["term", "boxes"] ["term", "boxes"] (ao xT) := bz
noncomputable def uB : List Str := ["put", "call", "say"]
theorem Tc (x : It) : decide (x.sj.w ∈ uB) = x.told := by
 cases x with
 | fU q =>
   cases q with
   | put x b m => show decide (("put" : Str) ∈ uB) = true; decide +kernel
   | call s => show decide (("call" : Str) ∈ uB) = true; decide +kernel
   | say s b m => show decide (("say" : Str) ∈ uB) = true; decide +kernel
 | out m => show decide (("out" : Str) ∈ uB) = false; decide +kernel
 | keep m p q => show decide (("keep" : Str) ∈ uB) = false; decide +kernel
 | way i => show decide (("way" : Str) ∈ uB) = false; decide +kernel
 | Ep m => show decide (("in" : Str) ∈ uB) = false; decide +kernel
theorem aa7 {bs : List Int} {i : Int} (h0 : 0 <= i) (h1 : i < bs.length) : FL ((bs.map L3.D.int).map T.sh).length i = some i.toNat := by
 unfold FL
 rw [agU, agU, ag9 h0, ag9 h1]
noncomputable abbrev rP : Stmt := top 31
noncomputable abbrev rQ : Type := Addr × Addr × List It × List Int × List L3.D
noncomputable def iw : rQ -> List T := fun (y, z, xs, bs, rs) => [.sh (.tup (xs.map It.d)), .pin y (.lst ((bs.map .int).map T.sh)), .pin z (.lst (rs.map T.sh))]
noncomputable def fZ : rQ -> List T := fun (y, z, xs, bs, rs) => [.sh (.tup (xs.map It.d)), .pin y (.lst (((xs.foldl It.af bs).map .int).map T.sh)), .pin z (.lst ((rs ++ (j6 xs bs).map J.d).map T.sh))]
noncomputable def f6 : rQ -> Prop := fun (y, z, xs, bs, rs) => xs.length <= 1000 /\ rs.length <= 100000 /\ ∀ x ∈ xs, x.ok bs
noncomputable def iy : rQ -> T := fun (y, z, xs, bs, rs) => (.lst (((aD xs).map .str).map T.sh) : T)
structure La (X : Cx) (CL : Str -> Addr) : Prop extends cW X where
 bK : Ln X 0 "script"
 aK : Ln X 1 "boxes"
 aR : Ln X 2 "rows"
 cy : Ln X 3 "called"
 bY : Ln X 4 "piece"
 cJ : Ln X 5 "behind"
 iJ : Gl X "_law_worth"
 uC : Fc X CL "_law_worth" 1 2 om oq ou
theorem Lb {X : Cx} {CL : Str -> Addr} {b : Bx} (E : La X CL) (y z xs bs rs) (h : f6 (y, z, xs, bs, rs)) :
   cU X CL b (cB rP) (j7 ["script", "boxes", "rows", "called", "piece", "behind"] (iw (y, z, xs, bs, rs))) { nx := fun δ => iy (y, z, xs, bs, rs) = .sh .non /\ Keeps δ (fZ (y, z, xs, bs, rs)), rt := fun AF δ => AF = iy (y, z, xs, bs, rs) /\ Keeps δ (fZ (y, z, xs, bs, rs)) } := by
 dsimp only [f6, iw, iy, fZ] at h ⊢
 obtain ⟨hx, hr, dg⟩ := h
 refine aX E.g E.cy (c7 bF (ahs _)) ?_
 refine qj E.g E.bY (fun j δ => ∃ o4 o5, δ = [some (.sh (.tup (xs.map It.d))), some (.pin y (.lst ((((xs.take j).foldl It.af bs).map .int).map T.sh))), some (.pin z (.lst ((rs ++ (j6 (xs.take j) bs).map J.d).map T.sh))), some (.lst (((aD (xs.take j)).map .str).map T.sh)), o4, o5]) (yz (v_ E.bK.1)) ⟨_, _, by rw [List.take_zero, show (j6 [] bs).map J.d = [] from rfl, ag3]; rfl⟩ (fun j δ ⟨_, _, e⟩ => by subst e; exact agZ rfl) ?turn ?fin
 case turn =>
   rintro j d δ hj ⟨o4, o5, rfl⟩
   rw [ahh] at hj
   obtain ⟨x, hq, rfl⟩ := ahw.mp hj
   have hm : x ∈ xs := ahk hq
   have hl : (j6 (xs.take j) bs).length <= 1000 := by rw [rJ, ahG]; omega
   have Vk : (aD (xs.take j)).length <= 1000 := ahM (ahJ _ _) (by rw [ahG]; omega)
   have EW := lF (xs.take j) bs
   have O9 := IC EW x (dg x hm)
   have e1 : (xs.take (j + 1)).foldl It.af bs = x.af ((xs.take j).foldl It.af bs) := by rw [eZ hq, List.foldl_append]; rfl
   have e2 : j6 (xs.take (j + 1)) bs = j6 (xs.take j) bs ++ [x.j ((xs.take j).foldl It.af bs)] := by rw [eZ hq, IB]; rfl
   have e3 : aD (xs.take (j + 1)) = aD (xs.take j) ++ x.call.toList := by rw [eZ hq, wF]
   rw [e1, e2, e3]
   clear e1 e2 e3
   generalize (xs.take j).foldl It.af bs = cur at EW O9 ⊢
   generalize j6 (xs.take j) bs = js at hl ⊢
   generalize aD (xs.take j) = cs at Vk ⊢
   have hfz : T.bS (.pin y (.lst ((cur.map L3.D.int).map T.sh))) = .lst (cur.map .int) := by rw [T.bS, c5]
   have LZ : ((rs ++ js.map J.d).map T.sh).length <= 1000000 := by rw [agU, ahc, agU]; omega
   have Lc : ∀ e : L3.D, (rs ++ js.map J.d).map T.sh ++ [T.sh e] = ((rs ++ js.map J.d) ++ [e]).map T.sh := fun e => by rw [ag1 (l₁ := rs ++ js.map J.d)]; rfl
   have Td : ∀ e : J, (rs ++ js.map J.d) ++ [e.d] = rs ++ (js ++ [e]).map J.d := fun e => by rw [ag1, agT]; rfl
   by_cases ht : x.told = true
   . obtain ⟨q, rfl⟩ : ∃ q, x = .fU q := by cases x <;> first | exact ⟨_, rfl⟩ | cases ht
     cases q with
     | put i c m =>
       have O9 : (0 <= i /\ i < cur.length) /\ Oj cur c := O9
       refine dJ (cL (aM (ai (v_ (d := .tup [.str "put", .int i, .tup [.int c, .int m]]) E.bY.1)) (ai aj) (aL (j := 0) rfl)) (ai aY)).1 (fun _ => ?_) (fun hp => absurd hp (by decide +kernel))
       refine aX E.g E.cJ (bR (c_ (c, m, cur) E.uC E.iJ (aA (aM (ai (v_ (d := .tup [.str "put", .int i, .tup [.int c, .int m]]) E.bY.1)) (ai aj) (aL (j := 2) rfl)) (aA (vE E.aK.1 rfl hfz) b7)) O9.2 rfl) (t2 := .sh (.int (bI c m cur))) rfl) ?_
       refine lD (p := []) (b8 E.aR.1 rfl) rfl rfl (bL (ds := [.str "put", .int i, .int (cur.getD i.toNat 0), .int (bI c m cur)]) (aJ aY (aJ (cE (aM (ai (v_ (d := .tup [.str "put", .int i, .tup [.int c, .int m]]) E.bY.1)) (ai aj) (aL (j := 1) rfl)) rfl) (aJ (cE (eY (vE E.aK.1 rfl hfz) (aM (ai (v_ (d := .tup [.str "put", .int i, .tup [.int c, .int m]]) E.bY.1)) (ai aj) (aL (j := 1) rfl)) (vv O9.1.1 O9.1.2)) rfl) (aJ (v_ E.cJ.1) cF)))) (ay rfl)) rfl rfl LZ ?_
       refine NT (bR (v_ E.cJ.1) rfl) (b8 E.aK.1 rfl) (aM (ai (v_ (d := .tup [.str "put", .int i, .tup [.int c, .int m]]) E.bY.1)) (ai aj) (aL (j := 1) rfl)) rfl rfl (aa7 O9.1.1 O9.1.2) (az (az ⟨some (.sh (It.fU (.put i c m)).d), some (.sh (.int (bI c m cur))), ?_⟩))
       rw [Lc, ← Td]
       have es : ((cur.map L3.D.int).map T.sh).set i.toNat (.sh (.int (bI c m cur))) = (((It.fU (.put i c m)).af cur).map L3.D.int).map T.sh := by
         show _ = ((cur.set i.toNat (bI c m cur)).map L3.D.int).map T.sh
         rw [List.map_set, List.map_set]
       rw [es, show (It.fU (.put i c m)).call.toList = [] from rfl, ag3]
       rfl
     | say s c m =>
       have O9 : Oj cur c := O9
       refine dJ (cL (aM (ai (v_ (d := .tup [.str "say", .str s, .tup [.int c, .int m]]) E.bY.1)) (ai aj) (aL (j := 0) rfl)) (ai aY)).1 (fun hp => absurd hp (by decide +kernel)) (fun _ => ?_)
       refine dJ (cL (aM (ai (v_ (d := .tup [.str "say", .str s, .tup [.int c, .int m]]) E.bY.1)) (ai aj) (aL (j := 0) rfl)) (ai aY)).1 (fun _ => ?_) (fun hp => absurd hp (by decide +kernel))
       refine lD (p := []) (b8 E.aR.1 rfl) rfl rfl (bL (ds := [.str "say", .str s, .int (bI c m cur)]) (aJ aY (aJ (cE (aM (ai (v_ (d := .tup [.str "say", .str s, .tup [.int c, .int m]]) E.bY.1)) (ai aj) (aL (j := 1) rfl)) rfl) (aJ (bR (c_ (c, m, cur) E.uC E.iJ (aA (aM (ai (v_ (d := .tup [.str "say", .str s, .tup [.int c, .int m]]) E.bY.1)) (ai aj) (aL (j := 2) rfl)) (aA (vE E.aK.1 rfl hfz) b7)) O9 rfl) (t2 := .sh (.int (bI c m cur))) rfl) cF))) (ay rfl)) rfl rfl LZ (az (az (az ⟨some (.sh (It.fU (.say s c m)).d), o5, ?_⟩)))
       rw [Lc, ← Td, show (It.fU (.say s c m)).call.toList = [] from rfl, ag3]
       rfl
     | call s =>
       refine dJ (cL (aM (ai (v_ (d := .tup [.str "call", .str s]) E.bY.1)) (ai aj) (aL (j := 0) rfl)) (ai aY)).1 (fun hp => absurd hp (by decide +kernel)) (fun _ => ?_)
       refine dJ (cL (aM (ai (v_ (d := .tup [.str "call", .str s]) E.bY.1)) (ai aj) (aL (j := 0) rfl)) (ai aY)).1 (fun hp => absurd hp (by decide +kernel)) (fun _ => ?_)
       refine lD (p := []) (b8 E.aR.1 rfl) rfl rfl (v_ (d := .tup [.str "call", .str s]) E.bY.1) rfl rfl LZ ?_
       refine dJ (cL (aM (ai (v_ (d := .tup [.str "call", .str s]) E.bY.1)) (ai aj) (aL (j := 0) rfl)) (ai aY)).1 (fun _ => ?_) (fun hp => absurd hp (by decide +kernel))
       refine Bv E.cy.1 rfl (cE (aM (ai (v_ (d := .tup [.str "call", .str s]) E.bY.1)) (ai aj) (aL (j := 1) rfl)) rfl) rfl (by simp; omega) (az (az (az (az ⟨some (.sh (It.fU (.call s)).d), o5, ?_⟩))))
       rw [Lc, ← Td, show ((cs ++ (It.fU (.call s)).call.toList).map L3.D.str).map T.sh = (cs.map L3.D.str).map T.sh ++ [T.sh (.str s)] by rw [ag1, ag1]; rfl]
       rfl
   . have ht : x.told = false := by simpa using ht
     have hj : x.j cur = x.sj := by cases x <;> first | rfl | cases ht
     have ha : x.af cur = cur := by cases x <;> first | rfl | cases ht
     have hc : x.call = none := by cases x <;> first | rfl | cases ht
     have hw : ∀ w : Str, w ∈ uB -> ¬ x.sj.w = w := fun w hw e => by
       have := Tc x
       rw [ht, e, ahK hw] at this
       cases this
     refine dJ (cL (aM (ai (v_ (d := .tup (.str x.sj.w :: x.sj.ds)) E.bY.1)) (ai aj) EB) (ai aY)).1 (fun hp => absurd (aha hp) (hw _ (by decide +kernel))) (fun _ => ?_)
     refine dJ (cL (aM (ai (v_ (d := .tup (.str x.sj.w :: x.sj.ds)) E.bY.1)) (ai aj) EB) (ai aY)).1 (fun hp => absurd (aha hp) (hw _ (by decide +kernel))) (fun _ => ?_)
     refine lD (p := []) (b8 E.aR.1 rfl) rfl rfl (v_ (d := x.sj.d) E.bY.1) rfl rfl LZ ?_
     refine dJ (cL (aM (ai (v_ (d := .tup (.str x.sj.w :: x.sj.ds)) E.bY.1)) (ai aj) EB) (ai aY)).1 (fun hp => absurd (aha hp) (hw _ (by decide +kernel))) (fun _ => az (az (az (az ⟨some (.sh x.d), o5, ?_⟩))))
     rw [Lc, hj, ← Td, hc, ha, show (none : Option Str).toList = [] from rfl, ag3]
     rfl
 case fin =>
   rintro δ ⟨o4, o5, rfl⟩
   rw [agU, ahQ]
   exact ck (vM E.cy.1) ⟨rfl, Xu⟩
theorem ig : pA (ao rP) ([("script", av), ("boxes", av), ("rows", av), ("called", av), ("piece", av), ("behind", av), ("_law_worth", aG)]) = true := by decide +kernel
theorem zc : aS ["script", "boxes", "rows", "called", "piece", "behind"] ["script", "boxes", "rows"] (ao rP) := bz
theorem X5 {mk : Str} {i j : Int} (h : mk = "<") : pK mk i j = decide (i - j < 0) := by
 unfold pK
 rw [ag9 h]
 exact decide_eq_decide.mpr (by omega)
theorem X6 {mk : Str} {i j : Int} (h : mk = "<=") : pK mk i j = decide (i - j <= 0) := by
 subst h
 unfold pK
 rw [ag2 (by decide +kernel), ag9 rfl]
 exact decide_eq_decide.mpr (by omega)
theorem X7 {mk : Str} {i j : Int} (h : mk = "!=") : pK mk i j = !decide (i - j = 0) := by
 subst h
 unfold pK
 rw [ag2 (by decide +kernel), ag2 (by decide +kernel), ag2 (by decide +kernel)]
 exact congrArg (! ·) (decide_eq_decide.mpr (by omega))
theorem X8 {mk : Str} {i j : Int} (h : mk ∈ Cu) (h1 : ¬ mk = "<") (h2 : ¬ mk = "<=") (h3 : ¬ mk = "!=") : pK mk i j = decide (i - j = 0) := by
 have : mk = "=" := by
   unfold Cu at h
   simp only [ag4, ahb, aiv] at h
   rcases h with h | h | h | h
   . exact absurd h h1
   . exact absurd h h2
   . exact h
   . exact absurd h h3
 subst this
 unfold pK
 rw [ag2 (by decide +kernel), ag2 (by decide +kernel), ag9 rfl]
 exact decide_eq_decide.mpr (by omega)
noncomputable abbrev xV : Stmt := top 30
noncomputable abbrev xW : Type := List KS × List Int
noncomputable def rR : xW -> List L3.D := fun (qs, bs) => [.tup (qs.map KW), .lst (bs.map .int)]
noncomputable def oz : xW -> Prop := fun (qs, bs) => ∀ q ∈ qs, q.1 ∈ Cu /\ okQ bs q
noncomputable def rS : xW -> T := fun (qs, bs) => (.sh (.bl (qs.all (hQ bs))) : T)
structure Te (X : Cx) (CL : Str -> Addr) : Prop extends cW X where
 qQ : Ln X 0 "asks"
 aK : Ln X 1 "boxes"
 m5 : Ln X 2 "good"
 kG : Ln X 3 "ask"
 qR : Ln X 4 "one"
 mK : Ln X 5 "other"
 pN : Ln X 6 "more"
 f7 : Ln X 7 "good_one"
 iJ : Gl X "_law_worth"
 uC : Fc X CL "_law_worth" 1 2 om oq ou
theorem Tf {X : Cx} {CL : Str -> Addr} {b : Bx} (E : Te X CL) {dh : xW} (h : oz dh) :
   aO X CL b xV ["asks", "boxes", "good", "ask", "one", "other", "more", "good_one"] (rR dh) (rS dh) := by
 obtain ⟨qs, bs⟩ := dh
 dsimp only [aO, oz, rR, rS] at h ⊢
 have h : ∀ q ∈ qs, q.1 ∈ Cu /\ okQ bs q := h
 refine aX E.g E.m5 MT ?_
 refine qj E.g E.kG (fun j δ => ∃ o3 o4 o5 o6 o7, δ = [some (.sh (.tup (qs.map KW))), some (.sh (.lst (bs.map .int))), some (.sh (.bl ((qs.take j).all (hQ bs)))), o3, o4, o5, o6, o7]) (yz (v_ E.qQ.1)) ⟨_, _, _, _, _, rfl⟩ (fun j δ ⟨_, _, _, _, _, e⟩ => by subst e; exact agZ rfl) ?turn ?fin
 case turn =>
   rintro j d δ hj ⟨o3, o4, o5, o6, o7, rfl⟩
   rw [ahh] at hj
   obtain ⟨q, hq, rfl⟩ := ahw.mp hj
   obtain ⟨hk, dg⟩ := h q (ahk hq)
   refine aX E.g E.qR (bR (c_ (q.2.1, q.2.2.1, bs) E.uC E.iJ (aA (aM (bE E.kG) (ai aj) (aL (j := 1) rfl)) (aA (bE E.aK) b7)) dg.1 rfl) (t2 := .sh (.int (bI q.2.1 q.2.2.1 bs))) rfl) ?_
   refine aX E.g E.mK (bR (c_ (q.2.2.2.1, q.2.2.2.2, bs) E.uC E.iJ (aA (aM (bE E.kG) (ai aj) (aL (j := 2) rfl)) (aA (bE E.aK) b7)) dg.2 rfl) (t2 := .sh (.int (bI q.2.2.2.1 q.2.2.2.2 bs))) rfl) ?_
   have eh : hQ bs q = pK q.1 (bI q.2.1 q.2.2.1 bs) (bI q.2.2.2.1 q.2.2.2.2 bs) := rfl
   have Vo : (qs.take (j + 1)).all (hQ bs) = ((qs.take j).all (hQ bs) && hQ bs q) := by
     rw [ahU, hq, List.all_append]
     simp
   generalize bI q.2.1 q.2.2.1 bs = v1 at eh ⊢
   generalize bI q.2.2.2.1 q.2.2.2.2 bs = v2 at eh ⊢
   refine aX E.g E.pN (Ce (bE E.qR) (bE E.mK)) ?_
   refine aX E.g E.f7 (FZ (bE E.pN) (ai aj)).2 ?_
   have Tg : ∀ p : Bool, p = hQ bs q -> ∃ o3 o4 o5 o6 o7, [some (T.sh (.tup (qs.map KW))), some (.sh (.lst (bs.map .int))), some (.sh (.bl ((qs.take j).all (hQ bs) && p))), some (.sh (KW q)), some (.sh (.int v1)), some (.sh (.int v2)), some (.sh (.int (v1 - v2))), some (.sh (.bl p))] = [some (.sh (.tup (qs.map KW))), some (.sh (.lst (bs.map .int))), some (.sh (.bl ((qs.take (j + 1)).all (hQ bs)))), o3, o4, o5, o6, o7] := fun p hp => by
     rw [Vo, ← hp]
     exact ⟨_, _, _, _, _, rfl⟩
   refine dJ (cL (aM (bE E.kG) (ai aj) (aL (j := 0) rfl)) (ai aY)).1 (fun hp => ?_) (fun hp => az ?_)
   . have e1 : q.1 = "<" := aha hp
     refine aX E.g E.f7 (wu (bE E.pN) (ai aj)).2 (az ?_)
     refine dJ (cL (aM (bE E.kG) (ai aj) (aL (j := 0) rfl)) (ai aY)).1 (fun hp => absurd (e1.symm.trans (aha hp)) (by decide +kernel)) (fun hp => az ?_)
     refine dJ (cL (aM (bE E.kG) (ai aj) (aL (j := 0) rfl)) (ai aY)).1 (fun hp => absurd (e1.symm.trans (aha hp)) (by decide +kernel)) (fun hp => az ?_)
     exact aX E.g E.m5 (qA (v_ E.m5.1) (fun _ => vq (v_ E.f7.1))) (az (Tg _ (by rw [eh, X5 e1])))
   have n1 : ¬ q.1 = "<" := ahr hp
   refine dJ (cL (aM (bE E.kG) (ai aj) (aL (j := 0) rfl)) (ai aY)).1 (fun hp => ?_) (fun hp => az ?_)
   . have e1 : q.1 = "<=" := aha hp
     refine aX E.g E.f7 (Vh (bE E.pN) (ai aj)).2 (az ?_)
     refine dJ (cL (aM (bE E.kG) (ai aj) (aL (j := 0) rfl)) (ai aY)).1 (fun hp => absurd (e1.symm.trans (aha hp)) (by decide +kernel)) (fun hp => az ?_)
     exact aX E.g E.m5 (qA (v_ E.m5.1) (fun _ => vq (v_ E.f7.1))) (az (Tg _ (by rw [eh, X6 e1])))
   have n2 : ¬ q.1 = "<=" := ahr hp
   refine dJ (cL (aM (bE E.kG) (ai aj) (aL (j := 0) rfl)) (ai aY)).1 (fun hp => ?_) (fun hp => az ?_)
   . have e1 : q.1 = "!=" := aha hp
     refine aX E.g E.f7 (Cg (bE E.pN) (ai aj)).2 (az ?_)
     exact aX E.g E.m5 (qA (v_ E.m5.1) (fun _ => vq (v_ E.f7.1))) (az (Tg _ (by rw [eh, X7 e1])))
   have n3 : ¬ q.1 = "!=" := ahr hp
   exact aX E.g E.m5 (qA (v_ E.m5.1) (fun _ => vq (v_ E.f7.1))) (az (Tg _ (by rw [eh, X8 hk n1 n2 n3])))
 case fin =>
   rintro δ ⟨o3, o4, o5, o6, o7, rfl⟩
   rw [agU, ahQ]
   exact ck (v_ E.m5.1) rfl
theorem iK : pA (ao xV) ([("asks", av), ("boxes", av), ("good", av), ("ask", av), ("one", av), ("other", av), ("more", av), ("good_one", av), ("_law_worth", aG)]) = true := by decide +kernel
theorem Pa : aS ["asks", "boxes", "good", "ask", "one", "other", "more", "good_one"] ["asks", "boxes"] (ao xV) := bz
theorem C2 (ds : List L3.D) : LR (.lst ds) (.lst []) = decide (ds = []) := by
 unfold LR
 cases ds with
 | nil => decide +kernel
 | cons d ds =>
   rw [D.toPy, D.toPy, PyData.eqv, D.nQ, D.nQ, PyData.eqvAll]
   exact (ah2 (fun z => by cases z)).symm
theorem Pb {R : List (bH × List b9)} {k : bH} (h : fj R k = none) : fj (fk (fV R)) k = none := by
 unfold fk fV
 rw [ahv]
 induction R with
 | nil => rfl
 | cons p R ih =>
   by_cases e : p.1 = k
   . rw [jU e] at h; cases h
   . rw [gR e] at h
     rw [ahd]
     exact (gR (p := (p.1, L3.D.lst (p.2.map tF))) e).trans (ih h)
theorem C3 {R : List (bH × List b9)} {hs : List Str} {m f : Nat} (h : mY m f hs R) {cs : List Str} {a : Nat} {bs : List Int} (ha : a < f) (hb : bs.length = m) (hc : ∀ x ∈ cs, PyData.strOk x = true) : ∀ j, ∀ x ∈ (jX R hs j (cs, a, bs)).2.1, PyData.strOk x = true
 | 0 => hc
 | j + 1 => by
   have ih := C3 h ha hb hc j
   obtain ⟨_, _, h5, _, _⟩ := pL h (cs := cs) ha hb j
   cases e : jX R hs j (cs, a, bs) with
   | mk rs r =>
     obtain ⟨w, a2, b2⟩ := r
     rw [e] at ih h5
     cases w with
     | nil =>
       rw [jX, e]
       exact ih
     | cons sg w =>
       rw [qN e]
       intro x hx
       rcases ag0.mp hx with z | z
       . exact ih x (agY _ z)
       . obtain ⟨i, hi, he⟩ := aiH.mp z
         have hg := (yW h h5 sg b2).2.1 i hi
         cases i with
         | fU q =>
           cases q with
           | call s => cases he; exact wH hg
           | put i a c => cases he
           | say s a c => cases he
         | _ => cases he
noncomputable def Ld (R : List (bH × List b9)) (hs : List Str) (a : Nat) (sg : Str) : List b9 := if sg ∈ hs then AH R a sg else []
theorem aa9 {R : List (bH × List b9)} {hs : List Str} {a : Nat} {sg : Str} {bs : List Int} : mD R hs a sg bs = (match (Ld R hs a sg).find? (fun r => r.1.all (hQ bs)) with | some r => (r.2.1, r.2.2.toNat) | none => ([], a)) := by
 unfold mD Ld
 split
 . rfl
 . rfl
theorem Ti {R : List (bH × List b9)} {hs : List Str} {m f : Nat} (h : mY m f hs R) (hN : ∀ (a : Nat) (x : Str), ¬ x ∈ hs -> fj R (Fp a x) = none) {a : Nat} (ha : a < f) (sg : Str) : (fj (fk (fV R)) (Fp a sg)).getD (.lst []) = .lst ((Ld R hs a sg).map tF) /\ ∀ r ∈ Ld R hs a sg, CJ m f r := by
 unfold Ld
 split
 . rename_i hx
   obtain ⟨q1, _, q3⟩ := h.row ha hx
   rw [IU q1]
   exact ⟨rfl, q3⟩
 . rename_i hx
   rw [Pb (hN a sg hx)]
   exact ⟨rfl, fun r hr => absurd hr ahb⟩
noncomputable abbrev xX : Stmt := top 32
noncomputable abbrev xY : Type := Addr × Addr × Nat × Nat × List L3.D × List L3.D × List L3.D × List Str × (List (bH × List b9)) × Nat × List Str × List Int × List L3.D
noncomputable def oA : xY -> List T := fun (y, z, m, f, bx, bg, pr, hs, R, a, cs, bs, rs) => [.sh (cD bx (hs.map .str) bg pr (fV R)), .sh (.int a), .sh (.lst (cs.map .str)), .pin y (.lst ((bs.map .int).map T.sh)), .pin z (.lst (rs.map T.sh))]
noncomputable def kZ : xY -> List T := fun (y, z, m, f, bx, bg, pr, hs, R, a, cs, bs, rs) => [.sh (cD bx (hs.map .str) bg pr (fV R)), .sh (.int a), .sh (.lst (cs.map .str)), .pin y (.lst (((xM R hs (cs, a, bs)).map .int).map T.sh)), .pin z (.lst ((rs ++ nU R hs (cs, a, bs)).map T.sh))]
noncomputable def k6 : xY -> Prop := fun (y, z, m, f, bx, bg, pr, hs, R, a, cs, bs, rs) => mY m f hs R /\ (∀ (a : Nat) (x : Str), ¬ x ∈ hs -> fj R (Fp a x) = none) /\ a < f /\ bs.length = m /\ cs.length <= 1000 /\ (∀ x ∈ cs, PyData.strOk x = true) /\ rs.length <= 50000
noncomputable def oB : xY -> T := fun (y, z, m, f, bx, bg, pr, hs, R, a, cs, bs, rs) => (.sh (.int (xK R hs (cs, a, bs))) : T)
structure Tj (X : Cx) (CL : Str -> Addr) : Prop extends cW X where
 cG : Ln X 0 "table"
 fK : Ln X 1 "flat"
 cN : Ln X 2 "waiting"
 aK : Ln X 3 "boxes"
 aR : Ln X 4 "rows"
 X9 : Ln X 5 "turn"
 cy : Ln X 6 "called"
 gT : Ln X 7 "row"
 gk : Gl X "range"
 C4 : Gl X "_law_asked"
 qT : Gl X "_law_done"
 nV : Gl X "len"
 gn : X.mg "range" = none
 Tp : Fc X CL "_law_asked" 2 2 rR oz rS
 vN : BD X CL "_law_done" 2 3 iw f6 iy fZ
 nW : X.mg "len" = none
 bA : j5 X.K (CL "Table")
 ek : aF X.K (CL "Table") "rows"
theorem Tq {X : Cx} {CL : Str -> Addr} {b : Bx} (E : Tj X CL) (y z m f bx bg pr hs R a cs bs rs) (h : k6 (y, z, m, f, bx, bg, pr, hs, R, a, cs, bs, rs)) :
   cU X CL b (cB xX) (j7 ["table", "flat", "waiting", "boxes", "rows", "turn", "called", "row"] (oA (y, z, m, f, bx, bg, pr, hs, R, a, cs, bs, rs))) { nx := fun δ => oB (y, z, m, f, bx, bg, pr, hs, R, a, cs, bs, rs) = .sh .non /\ Keeps δ (kZ (y, z, m, f, bx, bg, pr, hs, R, a, cs, bs, rs)), rt := fun AF δ => AF = oB (y, z, m, f, bx, bg, pr, hs, R, a, cs, bs, rs) /\ Keeps δ (kZ (y, z, m, f, bx, bg, pr, hs, R, a, cs, bs, rs)) } := by
 dsimp only [k6, oA, oB, kZ] at h ⊢
 obtain ⟨hG, hN, ha, hb, hc, hcs, hrl⟩ := h
 refine qj E.g E.X9 (fun j δ => ∃ o5 o6 o7, δ = [some (.sh (cD bx (hs.map .str) bg pr (fV R))), some (.sh (.int (jX R hs j (cs, a, bs)).2.2.1)), some (.sh (.lst ((jX R hs j (cs, a, bs)).2.1.map .str))), some (.pin y (.lst (((jX R hs j (cs, a, bs)).2.2.2.map .int).map T.sh))), some (.pin z (.lst ((rs ++ (jX R hs j (cs, a, bs)).1).map T.sh))), o5, o6, o7]) (nM E.gn (ai aj) (by omega) E.gk) ⟨_, _, _, by rw [show (jX R hs 0 (cs, a, bs)).1 = [] from rfl, ag3]; rfl⟩ (fun j δ ⟨_, _, _, e⟩ => by subst e; exact agZ rfl) ?turn ?fin
 case turn =>
   rintro j d δ hj ⟨o5, o6, o7, rfl⟩
   obtain ⟨rfl, hj8⟩ := yF hj
   obtain ⟨k1, k2, k5, k3, k4⟩ := pL hG (cs := cs) ha hb j
   have Yb := C3 hG (cs := cs) ha hb hcs j
   have Ji := @yX R hs (cs, a, bs) j
   have BO := @qN R hs (cs, a, bs) j
   have hE : (jX R hs j (cs, a, bs)).2.1 = [] -> jX R hs 8 (cs, a, bs) = jX R hs j (cs, a, bs) := fun z => by
     have hj8 : j < 8 := hj8
     have := Ji z (8 - j)
     rwa [show j + (8 - j) = 8 by omega] at this
   have Fl : j < 8 := hj8
   unfold xM xK nU
   show cU X CL b _ _ { nx := fun δ => ∃ o5 o6 o7, δ = [_, some (.sh (.int (jX R hs (j + 1) (cs, a, bs)).2.2.1)), some (.sh (.lst ((jX R hs (j + 1) (cs, a, bs)).2.1.map .str))), some (.pin y (.lst (((jX R hs (j + 1) (cs, a, bs)).2.2.2.map .int).map T.sh))), some (.pin z (.lst ((rs ++ (jX R hs (j + 1) (cs, a, bs)).1).map T.sh))), o5, o6, o7], rt := _, bk := _, ct := _ }
   generalize hs8 : jX R hs j (cs, a, bs) = st at k1 k2 k3 k4 k5 Yb hE BO ⊢
   obtain ⟨acc, w, ca, cur⟩ := st
   dsimp only at k1 k2 k3 k4 k5 Yb hE ⊢
   cases w with
   | nil =>
     refine dJ (qE E.u (d1 := .lst []) (d2 := .lst []) (bE E.cN) (ju (ds := []) (c7 bF (ahs _))) (nR []) (nR [])).1 (fun _ => ?_) (fun hp => absurd hp (by rw [C2]; decide))
     rw [hE rfl]
     dsimp only
     rw [ag9 rfl, ag3]
     exact ck (v_ E.fK.1) ⟨rfl, CF⟩
   | cons sg w =>
     have Bh := BO (rs := acc) (sg := sg) (w := w) (a := ca) (bs := cur) rfl
     obtain ⟨s1, s2, s5⟩ := yW hG k5 sg cur
     have s3 : (aD (mD R hs ca sg cur).1).length <= (mD R hs ca sg cur).1.length := ahJ _ _
     rw [ahu] at k2
     rw [Bh]
     dsimp only
     clear Bh BO Ji hE hs8
     have hdw : gX 60 (.lst ((sg :: w).map .str)) := .lst fun d hd => by
       obtain ⟨x, hx, rfl⟩ := ahm.mp hd
       exact .str _ _ (Yb x hx)
     refine dJ (qE E.u (d1 := .lst ((sg :: w).map .str)) (d2 := .lst []) (bE E.cN) (ju (ds := []) (c7 bF (ahs _))) hdw (nR [])).1 (fun hp => absurd hp (by rw [C2]; simp)) (fun _ => az ?_)
     have LZ : ((rs ++ acc).map T.sh).length <= 1000000 := by rw [agU, ahc]; omega
     have Lc : ∀ e : L3.D, (rs ++ acc).map T.sh ++ [T.sh e] = ((rs ++ acc) ++ [e]).map T.sh := fun e => by rw [ag1 (l₁ := rs ++ acc)]; rfl
     refine lD (p := []) (b8 E.aR.1 rfl) rfl rfl (bL (ds := [.str "sign", .str sg]) (aJ aY (aJ (cE (eY (bE E.cN) (ai aj) (aL (j := 0) rfl)) rfl) cF)) (ay rfl)) rfl rfl LZ ?_
     rw [Lc]
     obtain ⟨e1, hrg⟩ := Ti hG hN k5 sg
     have W7 := aa9 (R := R) (hs := hs) (a := ca) (sg := sg) (bs := cur)
     generalize Ld R hs ca sg = rx at e1 hrg W7
     obtain ⟨Ii, Tr⟩ : ∃ Ii, Ii = (rs ++ acc) ++ [L3.D.tup [.str "sign", .str sg]] := ⟨_, rfl⟩
     have abd : Ii.length <= 100000 := by rw [Tr, ahc, ahc]; simp; omega
     have abe : rs ++ (acc ++ (L3.D.tup [.str "sign", .str sg] :: (j6 (mD R hs ca sg cur).1 cur).map J.d)) = Ii ++ (j6 (mD R hs ca sg cur).1 cur).map J.d := by
       rw [Tr, agT, agT]
       rfl
     rw [abe, ← Tr]
     clear abe Tr
     refine aX E.g E.cy (c7 bF (ahs _)) ?_
     have hfz : T.bS (.pin y (.lst ((cur.map L3.D.int).map T.sh))) = .lst (cur.map .int) := by rw [T.bS, c5]
     refine Xx (fun δ => ∃ o7, δ = [some (.sh (cD bx (hs.map .str) bg pr (fV R))), some (.sh (.int (mD R hs ca sg cur).2)), some (.sh (.lst ((sg :: w).map .str))), some (.pin y (.lst ((((mD R hs ca sg cur).1.foldl It.af cur).map .int).map T.sh))), some (.pin z (.lst ((Ii ++ (j6 (mD R hs ca sg cur).1 cur).map J.d).map T.sh))), some (.sh (.int (0 + (j : Int)))), some (.lst (((aD (mD R hs ca sg cur).1).map .str).map T.sh)), o7]) E.g E.gT
       (fun i δ => (∃ o7, δ = [some (.sh (cD bx (hs.map .str) bg pr (fV R))), some (.sh (.int (ca : Nat))), some (.sh (.lst ((sg :: w).map .str))), some (.pin y (.lst ((cur.map .int).map T.sh))), some (.pin z (.lst (Ii.map T.sh))), some (.sh (.int (0 + (j : Int)))), some (.lst []), o7]) /\ ∀ r ∈ rx.take i, r.1.all (hQ cur) = false)
       (oZ (bR (Oc (Fp ca sg) E.u (iC E.bA E.ek (v_ E.cG.1) tH) (bR (sZ (aT (v_ E.fK.1) (aT (cE (eY (bE E.cN) (ai aj) (aL (j := 0) rfl)) rfl) bF)) (ay rfl)) (t2 := jT (Fp ca sg)) rfl) (iD (ds := []) (c7 bF (ahs _)))) (t2 := .sh (.lst (rx.map tF))) (by rw [e1]))) ⟨⟨_, rfl⟩, fun r hr => absurd hr ahb⟩ (fun j δ ⟨⟨_, e⟩, _⟩ => by subst e; exact agZ rfl) ?adR ?adS ?rest
     case adR =>
       rintro i d δ hi ⟨⟨o7, rfl⟩, EA⟩
       rw [ahh] at hi
       obtain ⟨r, hr, rfl⟩ := ahw.mp hi
       have hg := hrg r (ahk hr)
       refine dJ (ud (bR (c_ (r.1, cur) E.Tp E.C4 (aA (aM (bE E.gT) (ai aj) (aL (j := 0) rfl)) (aA (vE E.aK.1 rfl hfz) b7)) (by dsimp only [oz]; exact fun q hq => ⟨(hg.a q hq).1, hg.asks k3 q hq⟩) rfl) (t2 := .sh (.bl (r.1.all (hQ cur)))) rfl)) (fun hh => ?_) (fun hh => az (az ⟨⟨_, rfl⟩, fun r' hr' => ?_⟩))
       . have ef : rx.find? (fun r => r.1.all (hQ cur)) = some r := by
           obtain ⟨Fl, e⟩ := ahp.mp hr
           refine List.find?_eq_some_iff_getElem.mpr ⟨hh, i, Fl, e, fun i' YQ => ?_⟩
           have := EA (rx[i']'(by omega)) (List.mem_iff_getElem.mpr ⟨i', by rw [ahG]; omega, by rw [aiS]⟩)
           rw [this]
           rfl
         rw [ef] at W7
         rw [W7]
         dsimp only
         obtain ⟨c1, _⟩ := hg.c
         refine fJ E.g E.cy (cM2 (fun y' z' => (y', z', r.2.1, cur, Ii)) (.pin y (.lst (((r.2.1.foldl It.af cur).map .int).map T.sh))) (.pin z (.lst ((Ii ++ (j6 r.2.1 cur).map J.d).map T.sh))) E.vN E.qT (cu (cE (d := .tup (r.2.1.map It.d)) (aM (bE E.gT) (ai aj) (aL (j := 1) rfl)) (bW pH _)) (kF E.aK.1 rfl (kF E.aR.1 rfl cj))) (fun y' z' _ => by dsimp only [f6]; exact ⟨by have := hg.e; omega, abd, fun x hx => CN (hg.b x hx) k3⟩) (t := .lst (((aD r.2.1).map .str).map T.sh)) (fun _ _ _ => rfl) (fun y' z' hf => by
           have h1 : y' = y := hf.1
           have h2 : z' = z := hf.2.1
           subst h1 h2
           exact ⟨rfl, .inr rfl, rfl, .inr rfl, trivial⟩) (fun y' z' hf => by
           have h1 : y' = y := hf.1
           have h2 : z' = z := hf.2.1
           subst h1 h2
           rfl)) ?_
         refine aX E.g E.fK (cE (aM (bE E.gT) (ai aj) (aL (j := 2) rfl)) rfl) (RD ⟨some (.sh (tF r)), ?_⟩)
         rw [Int.toNat_of_nonneg c1]
         rfl
       . rw [ahU, hr] at hr'
         rcases ag0.mp hr' with z | z
         . exact EA r' z
         . have : r' = r := by simpa using z
           rw [this]
           exact hh
     case adS =>
       rintro δ ⟨⟨o7, rfl⟩, EA⟩
       rw [agU, ahQ] at EA
       have ef : rx.find? (fun r => r.1.all (hQ cur)) = none := List.find?_eq_none.mpr fun r hr => by rw [EA r hr]; decide
       rw [ef] at W7
       rw [W7]
       refine ⟨o7, ?_⟩
       show _ = [_, _, _, _, some (T.pin z (.lst ((Ii ++ []).map T.sh))), _, _, _]
       rw [ag3]
       rfl
     case rest =>
       rintro δ ⟨o7, rfl⟩
       refine aX E.g E.cN (iD (ds := (w ++ aD (mD R hs ca sg cur).1).map .str) (bR (Ry (ds := w.map .str) (Km := (aD (mD R hs ca sg cur).1).map .str) (ju (bR (Nf (bE E.cN) (lA _) (Cm (ai aj)) Ic) (t2 := .lst ((w.map .str).map T.sh)) (by rw [Sz (k := 1) (z := (1 : Int)) _ rfl]; rfl))) (vL E.cy.1) (lA _) (lA _) (by rw [agU, agU, ahS]; omega)) (t2 := .lst (((w ++ aD (mD R hs ca sg cur).1).map .str).map T.sh)) (by rw [← ag1]))) (az ⟨_, _, _, rfl⟩)
 case fin =>
   rintro δ ⟨o5, o6, o7, rfl⟩
   obtain ⟨k1, k2, k5, k3, k4⟩ := pL hG (cs := cs) ha hb 8
   have Yb := C3 hG (cs := cs) ha hb hcs 8
   unfold xM xK nU
   show cU X CL b _ [_, some (.sh (.int (jX R hs 8 (cs, a, bs)).2.2.1)), some (.sh (.lst ((jX R hs 8 (cs, a, bs)).2.1.map .str))), some (.pin y (.lst (((jX R hs 8 (cs, a, bs)).2.2.2.map .int).map T.sh))), some (.pin z (.lst ((rs ++ (jX R hs 8 (cs, a, bs)).1).map T.sh))), _, _, _] _
   generalize jX R hs 8 (cs, a, bs) = st at k1 k2 k3 k4 k5 Yb ⊢
   obtain ⟨acc, w, ca, cur⟩ := st
   dsimp only at k1 k2 k3 k4 k5 Yb ⊢
   have hdw : gX 60 (.lst (w.map .str)) := .lst fun d hd => by
     obtain ⟨x, hx, rfl⟩ := ahm.mp hd
     exact .str _ _ (Yb x hx)
   refine dJ (tD E.u (d1 := .lst (w.map .str)) (d2 := .lst []) (bE E.cN) (ju (ds := []) (c7 bF (ahs _))) hdw (nR [])).1 (fun hq => ?_) (fun hq => az ?_)
   . have hw : w ≠ [] := by
       rintro rfl
       rw [C2] at hq
       cases hq
     rw [ag2 hw]
     refine lD (p := []) (b8 E.aR.1 rfl) rfl rfl (bL (ds := [.str "rest", .int ((w.length : Nat) : Int)]) (aJ aY (aJ (xC (agU ..) E.nW (bE E.cN) E.nV) cF)) (ay rfl)) rfl rfl (by rw [agU, ahc]; omega) (az (ck (v_ E.fK.1) ⟨rfl, ?_⟩))
     rw [← agT, ag1 (l₁ := rs ++ acc)]
     exact CF
   . have hw : w = [] := by
       rw [C2] at hq
       simpa using hq
     subst hw
     rw [ag9 rfl, ag3]
     exact ck (v_ E.fK.1) ⟨rfl, CF⟩
theorem fq : pA (ao xX) ([("table", av), ("flat", av), ("waiting", av), ("boxes", av), ("rows", av), ("turn", av), ("called", av), ("row", av), ("range", aG), ("_law_asked", aG), ("_law_done", aG), ("len", aG)]) = true := by decide +kernel
theorem EX : aS ["table", "flat", "waiting", "boxes", "rows", "turn", "called", "row"] ["table", "flat", "waiting", "boxes", "rows"] (ao xX) := bz
noncomputable abbrev iL : Stmt := inClass (top 18) 3
noncomputable abbrev iM : Type := L3.D × Nat × List L3.D × List Int × (List (Str × L3.D))
noncomputable def gw : iM -> List L3.D := fun (cd, a, pa, bs, ex) => [.ins "FlatRun" (kg cd (.int a) pa bs ex)]
noncomputable def gy : iM -> Prop := fun (cd, a, pa, bs, ex) => True
noncomputable def gA : iM -> T := fun (cd, a, pa, bs, ex) => (.sh (.int a) : T)
structure zf (X : Cx) (CL : Str -> Addr) : Prop extends cW X where
 bw : Ln X 0 "self"
 aB : j5 X.K (CL "FlatRun")
 bf : aF X.K (CL "FlatRun") "place"
theorem zg {X : Cx} {CL : Str -> Addr} {b : Bx} (E : zf X CL) {dh : iM} (h : gy dh) :
   aO X CL b iL ["self"] (gw dh) (gA dh) := by
 obtain ⟨cd, a, pa, bs, ex⟩ := dh
 dsimp only [aO, gy, gw, gA] at h ⊢
 exact ck (iC E.aB E.bf (v_ E.bw.1) nT) rfl
theorem wU : pA (ao iL) ([("self", av)]) = true := by decide +kernel
theorem qk : aS ["self"] ["self"] (ao iL) := bz
noncomputable abbrev gY : Stmt := inClass (top 18) 2
noncomputable abbrev gZ : Type := List L3.D × List L3.D × List L3.D × Nat × (List (bH × List L3.D)) × Nat × List L3.D × List Int × (List (Str × L3.D))
noncomputable def fN : gZ -> List L3.D := fun (bx, hs, bg, n, kv, a, pa, bs, ex) => [.ins "FlatRun" (kg (cD bx hs bg ((List.range n).map ji) kv) (.int a) pa bs ex)]
noncomputable def fO : gZ -> Prop := fun (bx, hs, bg, n, kv, a, pa, bs, ex) => a < n
noncomputable def fP : gZ -> T := fun (bx, hs, bg, n, kv, a, pa, bs, ex) => (.lst (([0, 1 + (a : Int)].map L3.D.int).map T.sh) : T)
structure wV (X : Cx) (CL : Str -> Addr) : Prop extends cW X where
 bw : Ln X 0 "self"
 dR : Gl X "list"
 dS : X.mg "list" = none
 aB : j5 X.K (CL "FlatRun")
 bA : j5 X.K (CL "Table")
 fG : aF X.K (CL "Table") "flats"
 bf : aF X.K (CL "FlatRun") "place"
 dW : aF X.K (CL "FlatRun") "table"
theorem wW {X : Cx} {CL : Str -> Addr} {b : Bx} (E : wV X CL) {dh : gZ} (h : fO dh) :
   aO X CL b gY ["self"] (fN dh) (fP dh) := by
 obtain ⟨bx, hs, bg, n, kv, a, pa, bs, ex⟩ := dh
 dsimp only [aO, fO, fN, fP] at h ⊢
 have h : a < n := h
 have Gb : An ((List.range n).map ji) (a : Int) = some (ji a) := aL (by rw [ahh, List.getElem?_range h]; rfl)
 exact ck (bR (Ke E.dS (yr (cE (eY (gJ E.bA E.fG (gJ E.aB E.dW (bE E.bw) vI) qL) (gJ E.aB E.bf (bE E.bw) nT) Gb) rfl) (ai aj) (aL (j := 0) rfl)) E.dR cM) (t2 := .lst (([0, 1 + (a : Int)].map L3.D.int).map T.sh)) rfl) rfl
theorem oE : pA (ao gY) ([("self", av), ("list", aG)]) = true := by decide +kernel
theorem oF : aS ["self"] ["self"] (ao gY) := bz
noncomputable abbrev gB : Stmt := inClass (top 16) 7
noncomputable abbrev gC : Type := L3.D × L3.D × List L3.D × List Int × (List (Str × L3.D))
noncomputable def e7 : gC -> List L3.D := fun (cd, pl, pa, bs, ex) => [.ins "FlatRun" (kg cd pl pa bs ex)]
noncomputable def e9 : gC -> Prop := fun (cd, pl, pa, bs, ex) => True
noncomputable def fc : gC -> T := fun (cd, pl, pa, bs, ex) => (.lst ((bs.map .int).map T.sh) : T)
structure vO (X : Cx) (CL : Str -> Addr) : Prop extends cW X where
 bw : Ln X 0 "self"
 dR : Gl X "list"
 dS : X.mg "list" = none
 aB : j5 X.K (CL "FlatRun")
 bA : j5 X.K (CL "Table")
 aZ : aF X.K (CL "FlatRun") "boxes"
 bM : aF X.K (CL "Table") "boxes"
theorem vP {X : Cx} {CL : Str -> Addr} {b : Bx} (E : vO X CL) {dh : gC} (h : e9 dh) :
   aO X CL b gB ["self"] (e7 dh) (fc dh) := by
 obtain ⟨cd, pl, pa, bs, ex⟩ := dh
 dsimp only [aO, e9, e7, fc] at h ⊢
 exact ck (nL E.dS (iC E.aB E.aZ (v_ E.bw.1) vJ) E.dR cM) rfl
theorem mL : pA (ao gB) ([("self", av), ("list", aG)]) = true := by decide +kernel
theorem mO : aS ["self"] ["self"] (ao gB) := bz
noncomputable abbrev uD : Stmt := top 33
noncomputable abbrev uE : Type := List L3.D × List L3.D × List L3.D × Nat × (List (bH × List L3.D)) × Nat × List L3.D × List Int × Option (List L3.D)
noncomputable def pO : uE -> List L3.D := fun (bx, hs, bg, n, kv, a, pa, bs, eo) => [.ins "FlatRun" (kg (cD bx hs bg ((List.range n).map ji) kv) (.int a) pa bs (EF eo)), .int a, .lst (bs.map .int)]
noncomputable def pP : uE -> Prop := fun (bx, hs, bg, n, kv, a, pa, bs, eo) => a < n
noncomputable def pQ : uE -> T := fun (bx, hs, bg, n, kv, a, pa, bs, eo) => (.sh (.bl true) : T)
structure Pg (X : Cx) (CL : Str -> Addr) : Prop extends cW X where
 ql : Ln X 0 "run"
 fK : Ln X 1 "flat"
 aK : Ln X 2 "boxes"
 xZ : Ln X 3 "found"
 iN : Gl X "isinstance"
 abg : Gl X "int"
 g_bool : Gl X "bool"
 iO : X.mg "isinstance" = none
 abh : X.mg "int" = none
 Yc : X.mg "bool" = none
 zj : Fq X CL "FlatRun" "flat" 1 1 gw gy gA
 wX : Fq X CL "FlatRun" "moods" 1 1 fN fO fP
 vQ : Fq X CL "FlatRun" "numbers" 1 1 e7 e9 fc
theorem Ph {X : Cx} {CL : Str -> Addr} {b : Bx} (E : Pg X CL) {dh : uE} (h : pP dh) :
   aO X CL b uD ["run", "flat", "boxes", "found"] (pO dh) (pQ dh) := by
 obtain ⟨bx, hs, bg, n, kv, a, pa, bs, eo⟩ := dh
 dsimp only [aO, pP, pO, pQ] at h ⊢
 have h : a < n := h
 refine aX E.g E.xZ (bR (YW (cD bx hs bg ((List.range n).map ji) kv, a, pa, bs, EF eo) E.zj (bE E.ql) (yS (by decide +kernel) (by decide +kernel) (by decide +kernel) (by decide +kernel) (by decide +kernel)) rfl trivial rfl) (t2 := .sh (.int a)) rfl) ?_
 refine dJ (Kd (sI (vp (ud (isI E.iO E.abh E.iN E.abg (bE E.xZ)))) (fun _ => sI (ud (isB E.iO E.Yc E.iN E.g_bool (bE E.xZ))) (fun _ => Cj (Cg (bE E.xZ) (bE E.fK)).1)))) (fun hp => by simp at hp) (fun _ => az ?_)
 have d1 := nR [0, 1 + (a : Int)]
 have d2 := nR bs
 refine ck (bR (qA (qE E.u (d1 := .lst ([0, 1 + (a : Int)].map .int)) (d2 := .lst ([0, 1 + (a : Int)].map .int)) (ju (bR (YW (bx, hs, bg, n, kv, a, pa, bs, EF eo) E.wX (bE E.ql) (yS (by decide +kernel) (by decide +kernel) (by decide +kernel) (by decide +kernel) (by decide +kernel)) rfl h (pG _)) (t2 := .lst (([0, 1 + (a : Int)].map L3.D.int).map T.sh)) rfl)) (ju (bR (xE (aJ aj (aJ (k9 (ai aj) (bE E.fK)) cF)) (ay rfl)) rfl)) d1 d1).2 (fun _ => vq (qE E.u (ju (bR (YW (cD bx hs bg ((List.range n).map ji) kv, .int a, pa, bs, EF eo) E.vQ (bE E.ql) (yS (by decide +kernel) (by decide +kernel) (by decide +kernel) (by decide +kernel) (by decide +kernel)) rfl trivial (pG _)) (t2 := .lst ((bs.map L3.D.int).map T.sh)) rfl)) (bE E.aK) d2 d2).2)) (t2 := .sh (.bl true)) (by rw [eU d1, eU d2]; rfl)) rfl
theorem jA : pA (ao uD) ([("run", av), ("flat", av), ("boxes", av), ("found", av), ("isinstance", aG), ("int", aG), ("bool", aG)]) = true := by decide +kernel
theorem Le : aS ["run", "flat", "boxes", "found"] ["run", "flat", "boxes"] (ao uD) := bz
noncomputable def Y7 (s : List Int) (st mo : Nat) : List Int := (List.range (min mo (s.length - st))).map fun (k : Nat) => (jk s (some ((st : Int) + (k : Int))) none (some (mo : Int))).sum
theorem Tt (s : List Int) (st mo : Nat) : (Y7 s st mo).length <= s.length := by unfold Y7; simp; omega
noncomputable abbrev x6 : Stmt := top 35
noncomputable abbrev x8 : Type := List Int × Nat × Nat
noncomputable def rT : x8 -> List L3.D := fun (s, st, mo) => [.lst (s.map .int), .int st, .int mo]
noncomputable def oG : x8 -> Prop := fun (s, st, mo) => s.length <= 63 /\ 0 < mo /\ mo <= 100 /\ st <= 100
noncomputable def rV : x8 -> T := fun (s, st, mo) => (.lst (((Y7 s st mo).map .int).map T.sh) : T)
structure Tv (X : Cx) (CL : Str -> Addr) : Prop extends cW X where
 bK : Ln X 0 "script"
 qS : X.env.kindOf "script" = some .cell
 Jj : Ln X 1 "start"
 Tw : X.env.kindOf "start" = some .cell
 Pj : Ln X 2 "most"
 Yd : X.env.kindOf "most" = some .cell
 bX : Ln X 3 "many"
 abi : Gl X "min"
 abj : Gl X "max"
 nV : Gl X "len"
 gk : Gl X "range"
 abk : X.mg "min" = none
 abl : X.mg "max" = none
 nW : X.mg "len" = none
 gn : X.mg "range" = none
 abm : X.mg "sum" = none
theorem Tz {X : Cx} {CL : Str -> Addr} {b : Bx} (E : Tv X CL) {dh : x8} (h : oG dh) :
   aO X CL b x6 ["script", "start", "most", "many"] (rT dh) (rV dh) := by
 obtain ⟨s, st, mo⟩ := dh
 dsimp only [aO, oG, rT, rV] at h ⊢
 obtain ⟨hs, hm0, hm1, Bh⟩ := h
 refine aX E.g E.bX (bR (RA E.g E.abk E.abi (aA (bE E.Pj) (aA (ai (RB E.g E.abl E.abj (aA (ai aj) (aA (ai (Ce (ai (xC (agU ..) E.nW (bE E.bK) E.nV)) (bE E.Jj))) b7)))) b7))) (t2 := .sh (.int ((min mo (s.length - st) : Nat) : Int))) (by
   refine congrArg (fun z : Int => T.sh (.int z)) ?_
   repeat split
   all_goals omega)) ?_
 refine ck (bR (Ij (p := fun _ => true) (g := fun d => T.sh (.int (jk s (some ((st : Int) + (d.M9.toNat : Int))) none (some (mo : Int))).sum)) (jt (.cons E.Pj.1 (.inl E.Yd) (.cons E.bK.1 (.inl E.qS) (.cons E.Jj.1 (.inl E.Tw) .nil))) (by decide +kernel)) E.g.calm (nM E.gn (bE E.bX) (by omega) E.gk) (.inr rfl) (fun C s0 H0 f0 b' d hd => ?SN) (ah3 (kW (by simp [fX]; omega)))) (t2 := .lst (((Y7 s st mo).map .int).map T.sh)) ?eq) rfl
 case SN =>
   obtain ⟨i, hi, rfl⟩ := ahm.mp hd
   have et : (L3.D.int (0 + (i : Int))).M9.toNat = i := by show (0 + (i : Int)).toNat = i; omega
   refine ⟨rfl, fun _ => bR (RL (l := jk s (some ((st : Int) + (0 + (i : Int)))) none (some (mo : Int))) (Ro E.g (by decide +kernel)) (by exact E.abm) (ju (bR (Kz (ai (v_ (tu (i := 2) rfl (by decide +kernel)))) (nP _) (Cm (ai (k9 (ai (v_ (tu (i := 3) rfl (by decide +kernel)))) (ai (v_ (pe (i := 0) rfl (by decide +kernel))))))) Ic (Cm (ai (v_ (tu (i := 1) rfl (by decide +kernel))))) (fun z => by have := ahg z; omega)) (t2 := .lst (((jk s (some ((st : Int) + (0 + (i : Int)))) none (some (mo : Int))).map .int).map T.sh)) (by rw [N2]))) (xB (by decide +kernel))) ?_⟩
   show T.sh _ = T.sh (.int (jk s (some ((st : Int) + ((L3.D.int (0 + (i : Int))).M9.toNat : Int))) none (some (mo : Int))).sum)
   rw [et, aiz]
 case eq =>
   rw [jS]
   unfold fX Y7
   rw [ahv, ahv, ahv, ah6]
   congr 1
   refine ain fun k _ => ?_
   show T.sh (.int (jk s (some ((st : Int) + ((0 + (k : Int)).toNat : Int))) none (some (mo : Int))).sum) = _
   rw [show (0 + (k : Int)).toNat = k by omega]
   rfl
theorem f9 : pA (ao x6) ([("script", .cell), ("start", .cell), ("most", .cell), ("many", av), ("min", aG), ("max", aG), ("len", aG), ("range", aG)]) = true := by decide +kernel
theorem Pk : aS ["script", "start", "most", "many"] ["script", "start", "most"] (ao x6) := bz
noncomputable abbrev kJ : Stmt := inClass (top 20) 0
noncomputable abbrev pR : Type := List L3.D × List L3.D × List L3.D × List L3.D × (List (bH × List L3.D))
noncomputable def qU : pR -> List L3.D := fun (bs, hs, bg, pr, kvs) => [.lst bs, .lst hs, .tup bg, .lst pr, .dct (fk kvs)]
noncomputable def qV : pR -> Prop := fun (bs, hs, bg, pr, kvs) => D.bQ bs = true /\ D.bQ hs = true /\ D.bQ pr = true /\ (∀ q ∈ kvs, D.bQ q.2 = true) /\ (kvs.map (·.1)).Nodup /\ kvs.length <= 1000
noncomputable def qW : pR -> List (Str × T) := fun (bs, hs, bg, pr, kvs) => (Gs bs hs bg pr kvs : List (Str × T))
structure C5 (X : Cx) (CL : Str -> Addr) : Prop extends cW X where
 bw : Ln X 0 "self"
 aK : Ln X 1 "boxes"
 TF : Ln X 2 "signs"
 xQ : Ln X 3 "begin"
 kI : Ln X 4 "flats"
 aR : Ln X 5 "rows"
 Pn : Ln X 6 "key"
 dR : Gl X "list"
 uv : Gl X "tuple"
 dS : X.mg "list" = none
 uw : X.mg "tuple" = none
 aB : j5 X.K (CL "FlatRun")
 bA : j5 X.K (CL "Table")
 aZ : aF X.K (CL "FlatRun") "boxes"
 bM : aF X.K (CL "Table") "boxes"
 fF : aF X.K (CL "Table") "signs"
 eG : aF X.K (CL "Table") "begin"
 fG : aF X.K (CL "Table") "flats"
 ek : aF X.K (CL "Table") "rows"
theorem C6 {X : Cx} {CL : Str -> Addr} {b : Bx} (E : C5 X CL) (bs hs bg pr : List L3.D) (kvs : List (bH × List L3.D)) (y : Addr) (h : D.bQ bs = true /\ D.bQ hs = true /\ D.bQ pr = true /\ (∀ q ∈ kvs, D.bQ q.2 = true) /\ (kvs.map (·.1)).Nodup /\ kvs.length <= 1000) :
   cU X CL b (cB kJ) (Ni ["self", "boxes", "signs", "begin", "flats", "rows", "key"] y "Table" [.lst bs, .lst hs, .tup bg, .lst pr, .dct (fk kvs)]) { nx := fun δ => δ[0]? = some (some (.pin y (.ins "Table" (Gs bs hs bg pr kvs)))), rt := fun _ _ => False } := by
 obtain ⟨h1, h2, h3, h4, h5, h6⟩ := h
 refine qG E.bA E.bM E.bw.1 (qC E.dS (bE E.aK) h1 E.dR cM) rfl (agZ rfl) ?_
 rw [qH]
 refine qG E.bA E.fF E.bw.1 (qC E.dS (bE E.TF) h2 E.dR cM) rfl (agZ rfl) ?_
 rw [aQ (by decide +kernel), qH]
 refine qG E.bA E.eG E.bw.1 (KN E.uw (v_ E.xQ.1) E.uv) rfl (agZ rfl) ?_
 rw [aQ (by decide +kernel), aQ (by decide +kernel), qH]
 refine qG E.bA E.fG E.bw.1 (qC E.dS (bE E.kI) h3 E.dR cM) rfl (agZ rfl) ?_
 rw [aQ (by decide +kernel), aQ (by decide +kernel), aQ (by decide +kernel), qH]
 refine qG E.bA E.ek E.bw.1 Ey rfl (agZ rfl) ?_
 rw [aQ (by decide +kernel), aQ (by decide +kernel), aQ (by decide +kernel), aQ (by decide +kernel), qH]
 refine Ir E.g E.Pn (fun j δ => ∃ o, δ = [some (.pin y (.ins "Table" (sC bs hs bg pr (.dct (jm (kvs.take j)))))), some (.sh (.lst bs)), some (.sh (.lst hs)), some (.sh (.tup bg)), some (.sh (.lst pr)), some (.sh (.dct (fk kvs))), o]) (v_ E.aR.1) ⟨_, rfl⟩ (fun j δ ⟨_, e⟩ => by subst e; exact agZ rfl) ?turn ?fin
 case turn =>
   rintro b' j k d δ hj ⟨o, rfl⟩
   have hj0 := hj
   unfold fk at hj
   rw [ahh] at hj
   obtain ⟨q, hq, e⟩ := ahw.mp hj
   cases e
   have hqm := ahk hq
   have Fl : j < kvs.length := (ahp.mp hq).1
   have hv : fj (fk kvs) q.1 = some (.lst q.2) := Sy (by rw [Gv]; exact h5) hj0
   have hn : q.1 ∉ (jm (kvs.take j)).map (·.1) := fun hm => by
     rw [Gw, List.map_take] at hm
     obtain ⟨i, hi, e⟩ := aiG hm
     rw [ahG] at hi
     rw [aiS] at e
     have Vu : i < (kvs.map (·.1)).length := by omega
     have := (List.getElem?_inj Vu h5).mp (show (kvs.map (·.1))[i]? = (kvs.map (·.1))[j]? by
       rw [ag7 Vu, e, ahh, hq]
       rfl)
     omega
   refine Sd q.1 E.u (qC E.dS (Nz q.1 E.u (bE E.aR) (Iu E.Pn.1 rfl) hv) (h4 q hqm) E.dR cM) (Cw E.bA E.ek (b8 E.bw.1 rfl) rfl rfl vG) (Iu E.Pn.1 rfl) rfl (kvs := jm (kvs.take j)) (by show (List.lookup ("rows" : Str) (sC bs hs bg pr (.dct (jm (kvs.take j))))).bind _ = _; rw [vG]; rfl) hn (by unfold jm; rw [agU, ahG]; omega) (az ⟨some (jT q.1), ?_⟩)
   have e : T.jV [.fld "rows"] (.dct (jm (kvs.take j) ++ [(q.1, .lst (q.2.map T.sh))])) (.pin y (.ins "Table" (sC bs hs bg pr (.dct (jm (kvs.take j)))))) = .pin y (.ins "Table" (sC bs hs bg pr (.dct (jm (kvs.take (j + 1)))))) := by
     have et : jm (kvs.take j) ++ [(q.1, T.lst (q.2.map T.sh))] = jm (kvs.take (j + 1)) := by
       unfold jm
       rw [ahU, hq, ag1]
       rfl
     rw [et]
     exact KY
   show [some (T.jV [.fld "rows"] _ _), _, _, _, _, _, _] = _
   rw [e]
 case fin =>
   rintro δ ⟨o, rfl⟩
   rw [show (fk kvs).length = kvs.length by unfold fk; rw [agU], ahQ]
   exact az rfl
theorem cR : pA (ao kJ) ([("self", av), ("boxes", av), ("signs", av), ("begin", av), ("flats", av), ("rows", av), ("key", av), ("list", aG), ("tuple", aG)]) = true := by decide +kernel
theorem sO : aS ["self", "boxes", "signs", "begin", "flats", "rows", "key"] ["self", "boxes", "signs", "begin", "flats", "rows"] (ao kJ) := bz
noncomputable abbrev x9 : Stmt := top 2
noncomputable abbrev yb : Type := Int × Int × List Int
noncomputable def oH : yb -> List L3.D := fun (bx, mo, bs) => [.tup [.int bx, .int mo], .lst (bs.map .int)]
noncomputable def oJ : yb -> Prop := fun (bx, mo, bs) => bx = -1 \/ (0 <= bx /\ bx < bs.length)
noncomputable def oK : yb -> T := fun (bx, mo, bs) => (.sh (.int (bI bx mo bs)) : T)
structure TH (X : Cx) (CL : Str -> Addr) : Prop extends cW X where
 pM : Ln X 0 "term"
 aK : Ln X 1 "boxes"
 sM : Ln X 2 "box"
 pN : Ln X 3 "more"
theorem TJ {X : Cx} {CL : Str -> Addr} {b : Bx} (E : TH X CL) {dh : yb} (h : oJ dh) :
   aO X CL b x9 ["term", "boxes", "box", "more"] (oH dh) (oK dh) := by
 obtain ⟨bx, mo, bs⟩ := dh
 dsimp only [aO, oJ, oH, oK] at h ⊢
 refine aX E.g E.sM (cE (aM (bE E.pM) (ai aj) rfl) rfl) ?_
 refine aX E.g E.pN (cE (aM (bE E.pM) (ai aj) rfl) rfl) ?_
 refine dJ (FZ (bE E.sM) (ai (yC (ai aj)))).1 (fun hp => ?_) (fun hp => ?_)
 . refine ck (v_ E.pN.1) ?_
   have e : bx = -1 := aha hp
   show T.sh _ = T.sh (.int (bI bx mo bs))
   rw [bI, ag9 e]
 . refine az ?_
   have e : ¬ bx = -1 := ahr hp
   refine ck (k9 (eY (bE E.aK) (bE E.sM) (vv (by omega) (by omega))) (bE E.pN)) ?_
   show T.sh _ = T.sh (.int (bI bx mo bs))
   rw [bI, ag2 e]
theorem uF : pA (ao x9) ([("term", av), ("boxes", av), ("box", av), ("more", av)]) = true := by decide +kernel
theorem Pp : aS ["term", "boxes", "box", "more"] ["term", "boxes"] (ao x9) := bz
noncomputable abbrev jJ : Stmt := top 9
noncomputable abbrev jK : Type := J × Bool × List Int
noncomputable def g4 : jK -> List L3.D := fun (r, back, bs) => [r.d, .int (if back then 2 else 3), .lst (bs.map .int)]
noncomputable def g6 : jK -> Prop := fun (r, back, bs) => ∃ o m, r.ok (o, m, bs)
noncomputable def g7 : jK -> T := fun (r, back, bs) => (.lst (((yO back r bs).map .int).map T.sh) : T)
structure AI (X : Cx) (CL : Str -> Addr) : Prop extends cW X where
 gT : Ln X 0 "row"
 rW : Ln X 1 "place"
 aK : Ln X 2 "boxes"
 cJ : Ln X 3 "behind"
 dR : Gl X "list"
 dS : X.mg "list" = none
theorem AJ {X : Cx} {CL : Str -> Addr} {b : Bx} (E : AI X CL) {dh : jK} (h : g6 dh) :
   aO X CL b jJ ["row", "place", "boxes", "behind"] (g4 dh) (g7 dh) := by
 obtain ⟨r, back, bs⟩ := dh
 dsimp only [aO, g6, g4, g7] at h ⊢
 obtain ⟨o, m, h⟩ := h
 refine aX E.g E.cJ (nL E.dS (v_ E.aK.1) E.dR cM) ?_
 refine dJ (cL (aM (bE E.gT) (ai aj) (adE r)) (ai aY)).1 (fun hp => ?_) (fun hp => az ?_)
 . rw [show decide (r.w = Str.ofString "put") = r.Oh from aaM h] at hp
   cases r with
   | put x p q =>
     have h : 0 <= x /\ x < bs.length := h
     have hlen : ((bs.map L3.D.int).map T.sh).length = bs.length := by simp
     have Gb : An [L3.D.str "put", .int x, .int p, .int q] (if back then 2 else 3) = some (.int (if back then p else q)) := by cases back <;> rfl
     refine aam E.cJ.1 (cE (aM (bE E.gT) (bE E.rW) Gb) rfl) (aM (bE E.gT) (ai aj) rfl) rfl (W2 h.1 (by rw [hlen]; exact h.2)) (az ?_)
     refine ck (vM E.cJ.1) ?_
     show T.lst _ = T.lst _
     rw [yO, List.map_set, List.map_set]
   | _ => cases hp
 . rw [show decide (r.w = Str.ofString "put") = r.Oh from aaM h] at hp
   have e : yO back r bs = bs := by cases r <;> first | rfl | cases hp
   refine ck (vM E.cJ.1) ?_
   show T.lst _ = T.lst (((yO back r bs).map .int).map T.sh)
   rw [e]
theorem gb : pA (ao jJ) ([("row", av), ("place", av), ("boxes", av), ("behind", av), ("list", aG)]) = true := by decide +kernel
theorem zk : aS ["row", "place", "boxes", "behind"] ["row", "place", "boxes"] (ao jJ) := bz
noncomputable abbrev uG : Stmt := top 8
noncomputable abbrev uH : Type := J × List Int
noncomputable def pS : uH -> List L3.D := fun (r, bs) => [r.d, .lst (bs.map .int)]
noncomputable def pT : uH -> Prop := fun (r, bs) => ∃ o m, r.ok (o, m, bs)
noncomputable def pU : uH -> T := fun (r, bs) => (.lst (((yO false r bs).map .int).map T.sh) : T)
structure Pq (X : Cx) (CL : Str -> Addr) : Prop extends cW X where
 gT : Ln X 0 "row"
 aK : Ln X 1 "boxes"
 m7 : Gl X "with_number"
 TL : Gl X "AFTER"
 AK : Fc X CL "with_number" 1 3 g4 g6 g7
 TN : ∃ u, X.mg "AFTER" = some (.int 3 u)
theorem Pr {X : Cx} {CL : Str -> Addr} {b : Bx} (E : Pq X CL) {dh : uH} (h : pT dh) :
   aO X CL b uG ["row", "boxes"] (pS dh) (pU dh) := by
 obtain ⟨r, bs⟩ := dh
 dsimp only [aO, pT, pS, pU] at h ⊢
 exact ck (c_ (r, false, bs) E.AK E.m7 (aA (bE E.gT) (aA (ai (El E.TN E.TL)) (aA (bE E.aK) b7))) h (pG _)) rfl
theorem rX : pA (ao uG) ([("row", av), ("boxes", av), ("with_number", aG), ("AFTER", aG)]) = true := by decide +kernel
theorem Lf : aS ["row", "boxes"] ["row", "boxes"] (ao uG) := bz
noncomputable abbrev C7 : Stmt := top 7
noncomputable abbrev C8 : Type := eF × List Int
noncomputable def uI : C8 -> List L3.D := fun (q, bs) => [q.d, .lst (bs.map .int)]
noncomputable def uJ : C8 -> Prop := fun (q, bs) => q.ok bs
noncomputable def uK : C8 -> T := fun (q, bs) => (.tup [.lst (((yO false (q.row bs) bs).map .int).map T.sh), .sh (q.row bs).d] : T)
structure Ye (X : Cx) (CL : Str -> Addr) : Prop extends cW X where
 gK : Ln X 0 "deed"
 aK : Ln X 1 "boxes"
 qX : Ln X 2 "word"
 gT : Ln X 3 "row"
 pV : Gl X "value"
 zl : Gl X "redone"
 uL : Fc X CL "value" 1 2 oH oJ oK
 Pu : Fc X CL "redone" 2 2 pS pT pU
theorem Yg {X : Cx} {CL : Str -> Addr} {b : Bx} (E : Ye X CL) {dh : C8} (h : uJ dh) :
   aO X CL b C7 ["deed", "boxes", "word", "row"] (uI dh) (uK dh) := by
 obtain ⟨q, bs⟩ := dh
 dsimp only [aO, uJ, uI, uK] at h ⊢
 have EW : (T.lst (((yO false (q.row bs) bs).map L3.D.int).map T.sh)).clean = true := by
   rw [jr]
   exact qF _
 have fin : ∀ (w1 : Str) (p1 p2 p3 p4 p5 p6 p7 p8 : Pos) (n1 : Nat), cU X CL b [.Return (some (.Tuple [.Call (.Name "redone" p1) [.Name "row" p2, .Name "boxes" p3] [] p4, .Name "row" p5] n1 p6)) p7] [some (.sh q.d), some (.sh (.lst (bs.map .int))), some (.sh (.str w1)), some (.sh (q.row bs).d)] { nx := fun _ => (T.tup [.lst (((yO false (q.row bs) bs).map .int).map T.sh), .sh (q.row bs).d]) = .sh .non, rt := fun t _ => t = .tup [.lst (((yO false (q.row bs) bs).map .int).map T.sh), .sh (q.row bs).d] } := by
   intro w1 p1 p2 p3 p4 p5 p6 p7 p8 n1
   exact ck (sZ (aT (c_ (q.row bs, bs) E.Pu E.zl (aA (bE E.gT) (aA (bE E.aK) b7)) (XA h) EW) (aT (v_ E.gT.1) bF)) (ay rfl)) rfl
 cases q with
 | put x bb m =>
   have h : (0 <= x /\ x < bs.length) /\ Oj bs bb := h
   refine aX E.g E.qX (cE (aM (bE E.gK) (ai aj) rfl) rfl) ?_
   refine dJ (cL (bE E.qX) (ai aY)).1 (fun hp => ?_) (fun hp => absurd rfl (ahr hp))
   refine aX E.g E.gT (bL (ds := [.str "put", .int x, .int (bs.getD x.toNat 0), .int (bI bb m bs)]) (aT aY (aT (yr (v_ E.gK.1) (ai aj) rfl) (aT (cE (eY (bE E.aK) (aM (bE E.gK) (ai aj) rfl) (vv h.1.1 h.1.2)) rfl) (aT (c_ (bb, m, bs) E.uL E.pV (aA (aM (bE E.gK) (ai aj) rfl) (aA (bE E.aK) b7)) h.2 rfl) bF)))) (ay rfl)) (az ?_)
   exact fin _ _ _ _ _ _ _ _ ⟨0, 0, 0, 0⟩ _
 | call s =>
   refine aX E.g E.qX (cE (aM (bE E.gK) (ai aj) rfl) rfl) ?_
   refine dJ (cL (bE E.qX) (ai aY)).1 (fun hp => absurd (show ("call" : Str) = "put" from aha hp) (by decide +kernel)) (fun hp => ?_)
   refine dJ (cL (bE E.qX) (ai aY)).1 (fun hp => absurd (show ("call" : Str) = "say" from aha hp) (by decide +kernel)) (fun hp => ?_)
   refine aX E.g E.gT (bL (ds := [.str "call", .str s]) (aT aY (aT (yr (v_ E.gK.1) (ai aj) rfl) bF)) (ay rfl)) (az (az ?_))
   exact fin _ _ _ _ _ _ _ _ ⟨0, 0, 0, 0⟩ _
 | say s bb m =>
   refine aX E.g E.qX (cE (aM (bE E.gK) (ai aj) rfl) rfl) ?_
   refine dJ (cL (bE E.qX) (ai aY)).1 (fun hp => absurd (show ("say" : Str) = "put" from aha hp) (by decide +kernel)) (fun hp => ?_)
   refine dJ (cL (bE E.qX) (ai aY)).1 (fun hp => ?_) (fun hp => absurd rfl (ahr hp))
   refine aX E.g E.gT (bL (ds := [.str "say", .str s, .int (bI bb m bs)]) (aT aY (aT (yr (v_ E.gK.1) (ai aj) rfl) (aT (c_ (bb, m, bs) E.uL E.pV (aA (aM (bE E.gK) (ai aj) rfl) (aA (bE E.aK) b7)) h rfl) bF))) (ay rfl)) (az (az ?_))
   exact fin _ _ _ _ _ _ _ _ ⟨0, 0, 0, 0⟩ _
theorem rY : pA (ao C7) ([("deed", av), ("boxes", av), ("word", av), ("row", av), ("value", aG), ("redone", aG)]) = true := by decide +kernel
theorem TQ : aS ["deed", "boxes", "word", "row"] ["deed", "boxes"] (ao C7) := bz
noncomputable abbrev pW : Stmt := top 10
noncomputable abbrev pX : Type := Bool × List eF × List Int
noncomputable def kK : pX -> List L3.D := fun (l, qs, bs) => [wM l (qs.map eF.d), .lst (bs.map .int)]
noncomputable def iP : pX -> Prop := fun (l, qs, bs) => qs.length <= 1000 /\ ∀ q ∈ qs, q.ok bs
noncomputable def iQ : pX -> T := fun (l, qs, bs) => (.tup [.lst (((qs.foldl Qv bs).map .int).map T.sh), .lst (((nS qs bs).map J.d).map T.sh), .lst (((mX qs).map .str).map T.sh)] : T)
structure GB (X : Cx) (CL : Str -> Addr) : Prop extends cW X where
 Jk : Ln X 0 "deeds"
 aK : Ln X 1 "boxes"
 cJ : Ln X 2 "behind"
 aR : Ln X 3 "rows"
 cy : Ln X 4 "called"
 gK : Ln X 5 "deed"
 eK : Ln X 6 "step"
 dR : Gl X "list"
 GC : Gl X "done"
 dS : X.mg "list" = none
 Yh : Fc X CL "done" 3 2 uI uJ uK
theorem GD {X : Cx} {CL : Str -> Addr} {b : Bx} (E : GB X CL) {dh : pX} (h : iP dh) :
   aO X CL b pW ["deeds", "boxes", "behind", "rows", "called", "deed", "step"] (kK dh) (iQ dh) := by
 obtain ⟨l, qs, bs⟩ := dh
 dsimp only [aO, iP, kK, iQ] at h ⊢
 refine aX E.g E.cJ (nL E.dS (v_ E.aK.1) E.dR cM) ?_
 refine aX E.g E.aR (c7 (tl := []) bF (ay rfl)) ?_
 refine aX E.g E.cy (c7 (tl := []) bF (ay rfl)) ?_
 have hti : ∀ (p p' : Pos) (o2 o3 o4 o5 o6 : Option T), LQ X CL b (.Name "deed" p) (.Name "deeds" p') [some (.sh (wM l (qs.map eF.d))), some (.sh (.lst (bs.map .int))), o2, o3, o4, o5, o6] (qs.map eF.d) [some (.sh (wM l (qs.map eF.d))), some (.sh (.lst (bs.map .int))), o2, o3, o4, o5, o6] := by
   intro p p' o2 o3 o4 o5 o6
   cases l
   . exact yz (v_ E.Jk.1)
   . exact oZ (v_ E.Jk.1)
 refine qj E.g E.gK (fun j δ => ∃ o5 o6, δ = [some (.sh (wM l (qs.map eF.d))), some (.sh (.lst (bs.map .int))), some (.lst ((((qs.take j).foldl Qv bs).map .int).map T.sh)), some (.lst (((nS (qs.take j) bs).map J.d).map T.sh)), some (.lst (((mX (qs.take j)).map .str).map T.sh)), o5, o6]) (hti _ _ _ _ _ _ _) ⟨_, _, rfl⟩ (fun j δ ⟨_, _, e⟩ => by subst e; exact agZ rfl) ?turn ?fin
 case turn =>
   rintro j d δ hj ⟨o5, o6, rfl⟩
   rw [ahh] at hj
   obtain ⟨q, hq, rfl⟩ := ahw.mp hj
   have hm : q ∈ qs := ahk hq
   have hl : (nS (qs.take j) bs).length <= 1000 := by rw [Oq, ahG]; omega
   have Vk : (mX (qs.take j)).length <= 1000 := ahM (ahJ _ _) (by rw [ahG]; omega)
   have ec : mX (qs.take (j + 1)) = mX (qs.take j) ++ (BI q).toList := by
     rw [eZ hq]; unfold mX; rw [List.filterMap_append]; cases q <;> rfl
   rw [eZ hq, Oo, List.foldl_append, ← eZ hq, ec]
   have EW := Om (qs.take j) bs
   have dg := IA EW q (h.2 q hm)
   generalize (qs.take j).foldl Qv bs = cur at EW dg ⊢
   generalize nS (qs.take j) bs = rs at hl ⊢
   generalize mX (qs.take j) = cs at Vk ⊢
   refine aX E.g E.eK (c_ (q, cur) E.Yh E.GC (aA (bE E.gK) (aA (vL E.cJ.1) b7)) dg (Gn _ _ _)) ?_
   refine aX E.g E.cJ (jG (tt := [.lst (((Qv cur q).map .int).map T.sh), .sh (q.row cur).d]) 0 E.eK.1 rfl rfl) ?_
   refine Bv E.aR.1 rfl (cE (d := (q.row cur).d) (aM (vE (t := .tup [.sh .any, .sh (q.row cur).d]) E.eK.1 rfl rfl) (ai aj) rfl) (xG cur q)) rfl (by simp; omega) ?_
   have er : (rs.map J.d).map T.sh ++ [T.sh (q.row cur).d] = ((rs ++ [q.row cur]).map J.d).map T.sh := by rw [ag1, ag1]; rfl
   rw [er]
   cases q with
   | put x bb m =>
     refine dJ (cL (aM (bE E.gK) (ai aj) rfl) (ai aY)).1 (fun hp => absurd (show ("put" : Str) = "call" from aha hp) (by decide +kernel)) (fun hp => az (az ⟨some (.sh (eF.put x bb m).d), some (.tup [.sh .any, .sh ((eF.put x bb m).row cur).d]), ?_⟩))
     rw [show (BI (eF.put x bb m)).toList = [] from rfl, ag3]
     rfl
   | say s bb m =>
     refine dJ (cL (aM (bE E.gK) (ai aj) rfl) (ai aY)).1 (fun hp => absurd (show ("say" : Str) = "call" from aha hp) (by decide +kernel)) (fun hp => az (az ⟨some (.sh (eF.say s bb m).d), some (.tup [.sh .any, .sh ((eF.say s bb m).row cur).d]), ?_⟩))
     rw [show (BI (eF.say s bb m)).toList = [] from rfl, ag3]
     rfl
   | call s =>
     refine dJ (cL (aM (bE E.gK) (ai aj) rfl) (ai aY)).1 (fun hp => ?_) (fun hp => absurd rfl (ahr hp))
     refine Bv E.cy.1 rfl (cE (aM (bE E.gK) (ai aj) rfl) rfl) rfl (by simp; omega) (az (az ⟨some (.sh (eF.call s).d), some (.tup [.sh .any, .sh ((eF.call s).row cur).d]), ?_⟩))
     have es : (cs.map L3.D.str).map T.sh ++ [T.sh (.str s)] = ((cs ++ (BI (eF.call s)).toList).map L3.D.str).map T.sh := by rw [ag1, ag1]; rfl
     rw [← es]
     rfl
 case fin =>
   rintro δ ⟨o5, o6, rfl⟩
   rw [agU, ahQ]
   exact ck (sZ (aT (vM E.cJ.1) (aT (vM E.aR.1) (aT (vM E.cy.1) bF))) (ay rfl)) rfl
theorem eu : pA (ao pW) ([("deeds", av), ("boxes", av), ("behind", av), ("rows", av), ("called", av), ("deed", av), ("step", av), ("list", aG), ("done", aG)]) = true := by decide +kernel
theorem EY : aS ["deeds", "boxes", "behind", "rows", "called", "deed", "step"] ["deeds", "boxes"] (ao pW) := bz
noncomputable abbrev mP : Stmt := top 13
noncomputable abbrev mQ : Type := Bool × List It × List Int
noncomputable def gU : mQ -> List L3.D := fun (l, xs, bs) => [wM l (xs.map It.d), .lst (bs.map .int)]
noncomputable def eL : mQ -> Prop := fun (l, xs, bs) => xs.length <= 1000 /\ ∀ x ∈ xs, x.ok bs
noncomputable def gV : mQ -> T := fun (l, xs, bs) => (.tup [.lst (((xs.foldl It.af bs).map .int).map T.sh), .lst (((j6 xs bs).map J.d).map T.sh), .lst (((aD xs).map .str).map T.sh)] : T)
structure EZ (X : Cx) (CL : Str -> Addr) : Prop extends cW X where
 bK : Ln X 0 "script"
 aK : Ln X 1 "boxes"
 cJ : Ln X 2 "behind"
 aR : Ln X 3 "rows"
 cy : Ln X 4 "called"
 fL : Ln X 5 "part"
 eK : Ln X 6 "step"
 dR : Gl X "list"
 Jl : Gl X "MARKS"
 tN : Gl X "all_done"
 dS : X.mg "list" = none
 yc : GT X "MARKS" ["out", "keep", "way", "in"]
 GF : Fc X CL "all_done" 4 2 kK iP iQ
theorem E1 {X : Cx} {CL : Str -> Addr} {b : Bx} (E : EZ X CL) {dh : mQ} (h : eL dh) :
   aO X CL b mP ["script", "boxes", "behind", "rows", "called", "part", "step"] (gU dh) (gV dh) := by
 obtain ⟨l, xs, bs⟩ := dh
 dsimp only [aO, eL, gU, gV] at h ⊢
 refine aX E.g E.cJ (qC E.dS (bE E.aK) (nP _) E.dR cM) ?_
 refine aX E.g E.aR (c7 (tl := []) bF (ay rfl)) ?_
 refine aX E.g E.cy (c7 (tl := []) bF (ay rfl)) ?_
 have hti : ∀ (p p' : Pos) (o2 o3 o4 o5 o6 : Option T), LQ X CL b (.Name "part" p) (.Name "script" p') [some (.sh (wM l (xs.map It.d))), some (.sh (.lst (bs.map .int))), o2, o3, o4, o5, o6] (xs.map It.d) [some (.sh (wM l (xs.map It.d))), some (.sh (.lst (bs.map .int))), o2, o3, o4, o5, o6] := by
   intro p p' o2 o3 o4 o5 o6
   cases l
   . exact yz (v_ E.bK.1)
   . exact oZ (v_ E.bK.1)
 refine qj E.g E.fL (fun j δ => ∃ o5 o6, δ = [some (.sh (wM l (xs.map It.d))), some (.sh (.lst (bs.map .int))), some (.lst ((((xs.take j).foldl It.af bs).map .int).map T.sh)), some (.lst (((j6 (xs.take j) bs).map J.d).map T.sh)), some (.lst (((aD (xs.take j)).map .str).map T.sh)), o5, o6]) (hti _ _ _ _ _ _ _) ⟨_, _, rfl⟩ (fun j δ ⟨_, _, e⟩ => by subst e; exact agZ rfl) ?turn ?fin
 case turn =>
   rintro j d δ hj ⟨o5, o6, rfl⟩
   rw [ahh] at hj
   obtain ⟨x, hq, rfl⟩ := ahw.mp hj
   have hm : x ∈ xs := ahk hq
   have hl : (j6 (xs.take j) bs).length <= 1000 := by rw [rJ, ahG]; omega
   have Vk : (aD (xs.take j)).length <= 1000 := ahM (ahJ _ _) (by rw [ahG]; omega)
   have EW := lF (xs.take j) bs
   have dg := IC EW x (h.2 x hm)
   have e1 : (xs.take (j + 1)).foldl It.af bs = ((xs.take j).foldl It.af bs |> fun c => x.af c) := by rw [eZ hq, List.foldl_append]; rfl
   have e2 : j6 (xs.take (j + 1)) bs = j6 (xs.take j) bs ++ [x.j ((xs.take j).foldl It.af bs)] := by rw [eZ hq, IB]; rfl
   have e3 : aD (xs.take (j + 1)) = aD (xs.take j) ++ x.call.toList := by rw [eZ hq, wF]
   rw [e1, e2, e3]
   clear e1 e2 e3
   generalize (xs.take j).foldl It.af bs = cur at EW dg ⊢
   generalize j6 (xs.take j) bs = rs at hl ⊢
   generalize aD (xs.take j) = cs at Vk ⊢
   have hmk := Sn x
   by_cases ht : x.told = true
   . obtain ⟨q, rfl⟩ : ∃ q, x = .fU q := by cases x <;> first | exact ⟨_, rfl⟩ | cases ht
     have dg : q.ok cur := dg
     refine dJ (Cr (l := j9) (aM (ai (v_ (d := .tup (.str q.w :: q.ds)) E.fL.1)) (ai aj) EB) (ai (Et E.yc E.Jl)) rfl rfl).1 (fun hp => by rw [show decide (q.w ∈ j9) = false from hmk] at hp; cases hp) (fun hp => ?_)
     refine aX E.g E.eK (c_ (true, [q], cur) E.GF E.tN (aA (ju (ds := [q.d]) (c7 (aT (v_ (d := q.d) E.fL.1) bF) (ay rfl))) (aA (vL E.cJ.1) b7)) (by dsimp only [iP]; exact ⟨by simp, fun y hy => by rw [List.mem_singleton.mp hy]; exact dg⟩) (Gm (nP _) (KR _ _) (bW (fun _ => rfl) _))) ?_
     rw [show iQ (true, [q], cur) = T.tup [.lst (((Qv cur q).map .int).map T.sh), .lst ([(q.row cur).d].map T.sh), .lst (((mX [q]).map .str).map T.sh)] from rfl]
     refine aX E.g E.cJ (jG 0 E.eK.1 rfl rfl) ?_
     have hcq : (mX [q]).length <= 1 := ahJ _ _
     refine Es E.aR.1 rfl (jG 1 E.eK.1 rfl rfl) rfl (by simp; omega) ?_
     refine Es E.cy.1 rfl (jG 2 E.eK.1 rfl rfl) rfl (by simp; omega) (az (az ⟨some (.sh q.d), some (.tup [.sh .any, .sh .any, .sh .any]), ?_⟩))
     have ec : mX [q] = (It.fU q).call.toList := by cases q <;> rfl
     rw [← ec, ag1, ag1, ag1, ag1]
     rfl
   . have ht : x.told = false := by simpa using ht
     have hj : x.j cur = x.sj := by cases x <;> first | rfl | cases ht
     have ha : x.af cur = cur := by cases x <;> first | rfl | cases ht
     have hc : x.call = none := by cases x <;> first | rfl | cases ht
     rw [ht] at hmk
     refine dJ (Cr (l := j9) (aM (ai (v_ (d := .tup (.str x.sj.w :: x.sj.ds)) E.fL.1)) (ai aj) EB) (ai (Et E.yc E.Jl)) rfl rfl).1 (fun hp => ?_) (fun hp => by rw [show decide (x.sj.w ∈ j9) = true from hmk] at hp; cases hp)
     refine Bv E.aR.1 rfl (cE (d := x.d) (bE E.fL) (pH x)) rfl (by simp; omega) (az (az ⟨some (.sh x.d), o6, ?_⟩))
     rw [hj, hc, show (fun c => x.af c) cur = cur from ha, show (none : Option Str).toList = [] from rfl, ag3, ag1, ag1]
     rfl
 case fin =>
   rintro δ ⟨o5, o6, rfl⟩
   rw [agU, ahQ]
   exact ck (sZ (aT (vM E.cJ.1) (aT (vM E.aR.1) (aT (vM E.cy.1) bF))) (ay rfl)) rfl
theorem cS : pA (ao mP) ([("script", av), ("boxes", av), ("behind", av), ("rows", av), ("called", av), ("part", av), ("step", av), ("list", aG), ("MARKS", aG), ("all_done", aG)]) = true := by decide +kernel
theorem C9 : aS ["script", "boxes", "behind", "rows", "called", "part", "step"] ["script", "boxes"] (ao mP) := bz
noncomputable abbrev yd : Stmt := top 3
noncomputable abbrev ye : Type := Str × Int × Int × Int × Int × List Int
noncomputable def rZ : ye -> List L3.D := fun (mk, b1, m1, b2, m2, bs) => [.tup [.str mk, .tup [.int b1, .int m1], .tup [.int b2, .int m2]], .lst (bs.map .int)]
noncomputable def r6 : ye -> Prop := fun (mk, b1, m1, b2, m2, bs) => (b1 = -1 \/ (0 <= b1 /\ b1 < bs.length)) /\ (b2 = -1 \/ (0 <= b2 /\ b2 < bs.length))
noncomputable def r9 : ye -> T := fun (mk, b1, m1, b2, m2, bs) => (.sh (.bl (pK mk (bI b1 m1 bs) (bI b2 m2 bs))) : T)
structure TV (X : Cx) (CL : Str -> Addr) : Prop extends cW X where
 kG : Ln X 0 "ask"
 aK : Ln X 1 "boxes"
 tM : Ln X 2 "mark"
 qR : Ln X 3 "one"
 mK : Ln X 4 "other"
 pV : Gl X "value"
 uL : Fc X CL "value" 1 2 oH oJ oK
theorem TX {X : Cx} {CL : Str -> Addr} {b : Bx} (E : TV X CL) {dh : ye} (h : r6 dh) :
   aO X CL b yd ["ask", "boxes", "mark", "one", "other"] (rZ dh) (r9 dh) := by
 obtain ⟨mk, b1, m1, b2, m2, bs⟩ := dh
 dsimp only [aO, r6, rZ, r9] at h ⊢
 refine aX E.g E.tM (cE (aM (bE E.kG) (ai aj) rfl) rfl) ?_
 refine aX E.g E.qR (c_ (b1, m1, bs) E.uL E.pV (aA (aM (bE E.kG) (ai aj) rfl) (aA (bE E.aK) b7)) h.1 rfl) ?_
 refine aX E.g E.mK (c_ (b2, m2, bs) E.uL E.pV (aA (aM (bE E.kG) (ai aj) rfl) (aA (bE E.aK) b7)) h.2 rfl) ?_
 refine dJ (cL (bE E.tM) (ai aY)).1 (fun hp => ?_) (fun hp => az ?_)
 . refine ck (wu (bE E.qR) (bE E.mK)).2 ?_
   show T.sh _ = T.sh (.bl (pK mk (bI b1 m1 bs) (bI b2 m2 bs)))
   rw [pK, ag9 (aha hp)]
 refine dJ (cL (bE E.tM) (ai aY)).1 (fun hq => ?_) (fun hq => az ?_)
 . refine ck (Vh (bE E.qR) (bE E.mK)).2 ?_
   show T.sh _ = T.sh (.bl (pK mk (bI b1 m1 bs) (bI b2 m2 bs)))
   rw [pK, ag2 (ahr hp), ag9 (aha hq)]
 refine dJ (cL (bE E.tM) (ai aY)).1 (fun hr => ?_) (fun hr => az ?_)
 . refine ck (FZ (bE E.qR) (bE E.mK)).2 ?_
   show T.sh _ = T.sh (.bl (pK mk (bI b1 m1 bs) (bI b2 m2 bs)))
   rw [pK, ag2 (ahr hp), ag2 (ahr hq), ag9 (aha hr)]
 . refine ck (Cg (bE E.qR) (bE E.mK)).2 ?_
   show T.sh _ = T.sh (.bl (pK mk (bI b1 m1 bs) (bI b2 m2 bs)))
   rw [pK, ag2 (ahr hp), ag2 (ahr hq), ag2 (ahr hr)]
theorem oM : pA (ao yd) ([("ask", av), ("boxes", av), ("mark", av), ("one", av), ("other", av), ("value", aG)]) = true := by decide +kernel
theorem Pw : aS ["ask", "boxes", "mark", "one", "other"] ["ask", "boxes"] (ao yd) := bz
noncomputable abbrev pY : Stmt := top 4
noncomputable abbrev pZ : Type := Bool × List Ask × List Int
noncomputable def kL : pZ -> List L3.D := fun (l, qs, bs) => [wM l (qs.map OV), .lst (bs.map .int)]
noncomputable def kM : pZ -> Prop := fun (l, qs, bs) => ∀ q ∈ qs, okQ bs q
noncomputable def kN : pZ -> T := fun (l, qs, bs) => (.sh (.bl (qs.all (hQ bs))) : T)
structure GH (X : Cx) (CL : Str -> Addr) : Prop extends cW X where
 qQ : Ln X 0 "asks"
 aK : Ln X 1 "boxes"
 kG : Ln X 2 "ask"
 Dc : Gl X "holds"
 TY : Fc X CL "holds" 2 2 rZ r6 r9
theorem GJ {X : Cx} {CL : Str -> Addr} {b : Bx} (E : GH X CL) {dh : pZ} (h : kM dh) :
   aO X CL b pY ["asks", "boxes", "ask"] (kL dh) (kN dh) := by
 obtain ⟨l, qs, bs⟩ := dh
 dsimp only [aO, kM, kL, kN] at h ⊢
 have hti : ∀ (p p' : Pos) (o : Option T), LQ X CL b (.Name "ask" p) (.Name "asks" p') [some (.sh (wM l (qs.map OV))), some (.sh (.lst (bs.map .int))), o] (qs.map OV) [some (.sh (wM l (qs.map OV))), some (.sh (.lst (bs.map .int))), o] := by
   intro p p' o
   cases l
   . exact yz (v_ E.qQ.1)
   . exact oZ (v_ E.qQ.1)
 refine qj E.g E.kG (fun j δ => (∃ o, δ = [some (.sh (wM l (qs.map OV))), some (.sh (.lst (bs.map .int))), o]) /\ ∀ q ∈ qs.take j, hQ bs q = true) (hti _ _ none) ⟨⟨_, rfl⟩, by simp⟩ (fun j δ ⟨⟨o, e⟩, _⟩ => by subst e; exact agZ rfl) ?_ ?_
 . rintro j d δ hj ⟨⟨o, rfl⟩, hp⟩
   rw [ahh] at hj
   obtain ⟨q, hq, rfl⟩ := ahw.mp hj
   have hm : q ∈ qs := ahk hq
   refine dJ (vp (ud (c_ (q.1, q.2.1, q.2.2.1, q.2.2.2.1, q.2.2.2.2, bs) E.TY E.Dc (aA (bE E.kG) (aA (bE E.aK) b7)) (h q hm) rfl))) (fun hc => ?_) (fun hc => ?_)
   . refine ck MT ?_
     show T.sh _ = T.sh (.bl (qs.all (hQ bs)))
     have hf : hQ bs q = false := by simpa [hQ] using hc
     rw [List.all_eq_false.mpr ⟨q, hm, by simp [hf]⟩]
   . refine az (az ⟨⟨_, rfl⟩, ?_⟩)
     have hf : hQ bs q = true := by simpa [hQ] using hc
     intro q' Vd
     rw [ahU, hq] at Vd
     rcases ag0.mp Vd with h' | h'
     . exact hp q' h'
     . have : q' = q := by simpa using h'
       rw [this]; exact hf
 . rintro δ ⟨⟨o, rfl⟩, hp⟩
   refine ck MT ?_
   show T.sh _ = T.sh (.bl (qs.all (hQ bs)))
   rw [agU, ahQ] at hp
   rw [ahY.mpr hp]
theorem mR : pA (ao pY) ([("asks", av), ("boxes", av), ("ask", av), ("holds", aG)]) = true := by decide +kernel
theorem E2 : aS ["asks", "boxes", "ask"] ["asks", "boxes"] (ao pY) := bz
noncomputable abbrev fQ : Stmt := inClass (top 18) 1
noncomputable abbrev fS : Type := Nat × Nat × List L3.D × List L3.D × List L3.D × List Str × (List (bH × List b9)) × Nat × List L3.D × List Int × (List (Str × L3.D)) × Str
noncomputable def eS : fS -> List L3.D := fun (m, f, bx, bg, pr, hs, R, a, pa, bs, ex, sg) => [.ins "FlatRun" (kg (cD bx (hs.map .str) bg pr (fV R)) (.int a) pa bs ex), .str sg]
noncomputable def c9 : fS -> Prop := fun (m, f, bx, bg, pr, hs, R, a, pa, bs, ex, sg) => mY m f hs R /\ a < f /\ bs.length = m
noncomputable def eT : fS -> T := fun (m, f, bx, bg, pr, hs, R, a, pa, bs, ex, sg) => (.sh (.tup [.tup ((mD R hs a sg bs).1.map It.d), .int (mD R hs a sg bs).2]) : T)
structure uM (X : Cx) (CL : Str -> Addr) : Prop extends cW X where
 bw : Ln X 0 "self"
 kh : Ln X 1 "sign"
 gT : Ln X 2 "row"
 tO : Gl X "all_hold"
 GK : Fc X CL "all_hold" 3 2 kL kM kN
 aB : j5 X.K (CL "FlatRun")
 bA : j5 X.K (CL "Table")
 fF : aF X.K (CL "Table") "signs"
 bf : aF X.K (CL "FlatRun") "place"
 dW : aF X.K (CL "FlatRun") "table"
 ek : aF X.K (CL "Table") "rows"
 aZ : aF X.K (CL "FlatRun") "boxes"
 bM : aF X.K (CL "Table") "boxes"
theorem uN {X : Cx} {CL : Str -> Addr} {b : Bx} (E : uM X CL) {dh : fS} (h : c9 dh) :
   aO X CL b fQ ["self", "sign", "row"] (eS dh) (eT dh) := by
 obtain ⟨m, f, bx, bg, pr, hs, R, a, pa, bs, ex, sg⟩ := dh
 dsimp only [aO, c9, eS, eT] at h ⊢
 obtain ⟨hG, ha, hb⟩ := h
 refine dJ (Cr (l := hs) (bE E.kh) (gJ E.bA E.fF (gJ E.aB E.dW (bE E.bw) vI) qJ) rfl rfl).1 (fun hp => ?_) (fun hp => az ?_)
 . have hx : sg ∈ hs := aha hp
   obtain ⟨q1, q2, q3⟩ := hG.row ha hx
   refine qj E.g E.gT (fun j δ => (∃ o, δ = [some (.sh (.ins "FlatRun" (kg (cD bx (hs.map .str) bg pr (fV R)) (.int a) pa bs ex))), some (.sh (.str sg)), o]) /\ ∀ r ∈ (AH R a sg).take j, r.1.all (hQ bs) = false) (oZ (NB (Fp a sg) E.u (iC E.bA E.ek (iC E.aB E.dW (v_ E.bw.1) vI) tH) (bR (sZ (aT (iC E.aB E.bf (v_ E.bw.1) nT) (aT (v_ E.kh.1) bF)) (ay rfl)) (t2 := jT (Fp a sg)) rfl) (IU q1))) ⟨⟨_, rfl⟩, fun r hr => absurd hr ahb⟩ (fun j δ ⟨⟨_, e⟩, _⟩ => by subst e; exact agZ rfl) ?turn ?fin
   case turn =>
     rintro j d δ hj ⟨⟨o, rfl⟩, EA⟩
     rw [ahh] at hj
     obtain ⟨r, hr, rfl⟩ := ahw.mp hj
     have hrm := ahk hr
     have hrg := q3 r hrm
     refine dJ (ud (bR (c_ (false, r.1, bs) E.GK E.tO (aA (aM (bE E.gT) (ai aj) (aL (j := 0) rfl)) (aA (gJ E.aB E.aZ (bE E.bw) vJ) b7)) (hrg.asks hb) rfl) (t2 := .sh (.bl (r.1.all (hQ bs)))) rfl)) (fun hh => ?_) (fun hh => az (az ⟨⟨_, rfl⟩, fun r' hr' => ?_⟩))
     . refine ck (bL (ds := [.tup (r.2.1.map It.d), .int r.2.2]) (aJ (cE (aM (bE E.gT) (ai aj) (aL (j := 1) rfl)) (bW pH _)) (aJ (cE (aM (bE E.gT) (ai aj) (aL (j := 2) rfl)) rfl) cF)) (ay rfl)) ?_
       have ef : (AH R a sg).find? (fun r => r.1.all (hQ bs)) = some r := by
         obtain ⟨Fl, e⟩ := ahp.mp hr
         refine List.find?_eq_some_iff_getElem.mpr ⟨hh, j, Fl, e, fun i hi => ?_⟩
         have := EA ((AH R a sg)[i]'(by omega)) (List.mem_iff_getElem.mpr ⟨i, by rw [ahG]; omega, by rw [aiS]⟩)
         rw [this]
         rfl
       have es : mD R hs a sg bs = (r.2.1, r.2.2.toNat) := by
         unfold mD
         rw [ag9 hx, ef]
       obtain ⟨c1, _⟩ := hrg.c
       rw [es]
       show T.sh (.tup [.tup (r.2.1.map It.d), .int r.2.2]) = T.sh (.tup [.tup (r.2.1.map It.d), .int (r.2.2.toNat : Int)])
       rw [Int.toNat_of_nonneg c1]
     . rw [ahU, hr] at hr'
       rcases ag0.mp hr' with z | z
       . exact EA r' z
       . have : r' = r := by simpa using z
         rw [this]
         exact hh
   case fin =>
     rintro δ ⟨⟨o, rfl⟩, EA⟩
     rw [agU, ahQ] at EA
     have ef : (AH R a sg).find? (fun r => r.1.all (hQ bs)) = none := List.find?_eq_none.mpr fun r hr => by rw [EA r hr]; decide
     have es : mD R hs a sg bs = ([], a) := by
       unfold mD
       rw [ag9 hx, ef]
     refine az ?_
     refine ck (bL (ds := [.tup [], .int a]) (aJ (bL (ds := []) cF (ay rfl)) (aJ (iC E.aB E.bf (v_ E.bw.1) nT) cF)) (ay rfl)) ?_
     rw [es]
     rfl
 . have es : mD R hs a sg bs = ([], a) := by
     unfold mD
     rw [ag2 (ahr hp)]
   refine ck (bL (ds := [.tup [], .int a]) (aJ (bL (ds := []) cF (ay rfl)) (aJ (iC E.aB E.bf (v_ E.bw.1) nT) cF)) (ay rfl)) ?_
   rw [es]
   rfl
theorem fh : pA (ao fQ) ([("self", av), ("sign", av), ("row", av), ("all_hold", aG)]) = true := by decide +kernel
theorem lN : aS ["self", "sign", "row"] ["self", "sign"] (ao fQ) := bz
noncomputable abbrev iR : Stmt := inClass (top 16) 2
noncomputable abbrev iS : Type := Addr × Nat × Nat × List L3.D × List L3.D × List L3.D × List Str × (List (bH × List b9)) × Nat × List L3.D × List Int × Option (List L3.D) × List Str
noncomputable def dw : iS -> List T := fun (y, m, f, bx, bg, pr, hs, R, a, pa, bs, eo, cs) => [.pin y (.ins "FlatRun" (cX (cD bx (hs.map .str) bg pr (fV R)) (.int a) pa bs (u9 eo))), .sh (.lst (cs.map .str))]
noncomputable def cO : iS -> List T := fun (y, m, f, bx, bg, pr, hs, R, a, pa, bs, eo, cs) => [.pin y (.ins "FlatRun" (cX (cD bx (hs.map .str) bg pr (fV R)) (.int (xK R hs (cs, a, bs))) pa (xM R hs (cs, a, bs)) (u9 eo))), .sh (.lst (cs.map .str))]
noncomputable def cP : iS -> Prop := fun (y, m, f, bx, bg, pr, hs, R, a, pa, bs, eo, cs) => mY m f hs R /\ a < f /\ bs.length = m /\ cs.length <= 1000
noncomputable def dz : iS -> T := fun (y, m, f, bx, bg, pr, hs, R, a, pa, bs, eo, cs) => (.lst ((nU R hs (cs, a, bs)).map T.sh) : T)
structure zm (X : Cx) (CL : Str -> Addr) : Prop extends cW X where
 bw : Ln X 0 "self"
 cy : Ln X 1 "called"
 cN : Ln X 2 "waiting"
 aR : Ln X 3 "rows"
 bX : Ln X 4 "many"
 kh : Ln X 5 "sign"
 Dd : Ln X 6 "going"
 eK : Ln X 7 "step"
 dR : Gl X "list"
 De : Gl X "MOST_SIGNS"
 jZ : Gl X "performed"
 nV : Gl X "len"
 dS : X.mg "list" = none
 Df : ∃ u, X.mg "MOST_SIGNS" = some (.int 8 u)
 qY : Fc X CL "performed" 5 2 gU eL gV
 nW : X.mg "len" = none
 uO : Fq X CL "FlatRun" "step_at" 4 2 eS c9 eT
 aB : j5 X.K (CL "FlatRun")
 bA : j5 X.K (CL "Table")
 bf : aF X.K (CL "FlatRun") "place"
 aZ : aF X.K (CL "FlatRun") "boxes"
 bM : aF X.K (CL "Table") "boxes"
theorem zo {X : Cx} {CL : Str -> Addr} {b : Bx} (E : zm X CL) (y m f bx bg pr hs R a pa bs eo cs) (h : cP (y, m, f, bx, bg, pr, hs, R, a, pa, bs, eo, cs)) :
   cU X CL b (cB iR) (j7 ["self", "called", "waiting", "rows", "many", "sign", "going", "step"] (dw (y, m, f, bx, bg, pr, hs, R, a, pa, bs, eo, cs))) { nx := fun δ => dz (y, m, f, bx, bg, pr, hs, R, a, pa, bs, eo, cs) = .sh .non /\ Keeps δ (cO (y, m, f, bx, bg, pr, hs, R, a, pa, bs, eo, cs)), rt := fun AF δ => AF = dz (y, m, f, bx, bg, pr, hs, R, a, pa, bs, eo, cs) /\ Keeps δ (cO (y, m, f, bx, bg, pr, hs, R, a, pa, bs, eo, cs)) } := by
 dsimp only [cP, dw, dz, cO] at h ⊢
 obtain ⟨hG, ha, hb, hc⟩ := h
 refine aX E.g E.cN (nL E.dS (v_ E.cy.1) E.dR cM) ?_
 refine aX E.g E.aR (c7 (tl := []) bF (ay rfl)) ?_
 refine aX E.g E.bX aj ?_
 refine Rx E.g (fun k δ => ∃ (j : Nat) (o5 o6 o7 : Option T), k + j = 8 /\ δ = [some (.pin y (.ins "FlatRun" (cX (cD bx (hs.map .str) bg pr (fV R)) (.int (jX R hs j (cs, a, bs)).2.2.1) pa (jX R hs j (cs, a, bs)).2.2.2 (u9 eo)))), some (.sh (.lst (cs.map .str))), some (.lst (((jX R hs j (cs, a, bs)).2.1.map .str).map T.sh)), some (.lst ((jX R hs j (cs, a, bs)).1.map T.sh)), some (.sh (.int j)), o5, o6, o7]) 8 ⟨0, _, _, _, rfl, rfl⟩ ?loop
 case loop =>
   rintro k δ ⟨j, o5, o6, o7, hm, rfl⟩
   obtain ⟨k1, k2, k5, k3, k4⟩ := pL hG (cs := cs) ha hb j
   have Ji := @yX R hs (cs, a, bs) j
   have BO := @qN R hs (cs, a, bs) j
   have hE : (jX R hs j (cs, a, bs)).2.1 = [] \/ j = 8 -> jX R hs 8 (cs, a, bs) = jX R hs j (cs, a, bs) := fun z => by
     rcases z with z | z
     . have := Ji z (8 - j)
       rwa [show j + (8 - j) = 8 by omega] at this
     . rw [z]
   unfold xM xK nU
   generalize hs8 : jX R hs j (cs, a, bs) = s at k1 k2 k3 k4 k5 hE BO ⊢
   obtain ⟨rs, w, cp, cur⟩ := s
   dsimp only at k1 k2 k3 k4 k5 hE ⊢
   refine ⟨_, _, Kd (MX (Nv (vL E.cN.1)) (fun _ => HX (wu (bE E.bX) (ai (El E.Df E.De))).1)), fun hp => ?_, fun hp => ?_⟩
   . rw [ahz] at hp
     obtain ⟨R3, ZT⟩ := hp
     have hj8 : (j : Int) < 8 := aha ZT
     cases w with
     | nil => cases R3
     | cons sg w =>
       have Bh := BO (rs := rs) (sg := sg) (w := w) (a := cp) (bs := cur) rfl
       obtain ⟨s1, s2, s5⟩ := yW hG k5 sg cur
       have s3 : (aD (mD R hs cp sg cur).1).length <= (mD R hs cp sg cur).1.length := ahJ _ _
       rw [ahu] at k2
       refine Xi E.g E.bX rfl (ai aj) ?_
       refine fJ E.g E.kh (NV (t := .sh (.str sg)) (tl := (w.map L3.D.str).map T.sh) (b8 E.cN.1 rfl) rfl rfl) ?_
       refine aX E.g E.Dd (bR (q_ (m, f, bx, bg, pr, hs, R, cp, pa, cur, EF eo, sg) E.uO (vE E.bw.1 rfl EG) (yS (by decide +kernel) (by decide +kernel) (by decide +kernel) (by decide +kernel) (by decide +kernel)) (aA (bE E.kh) b7) rfl (by dsimp only [c9]; exact ⟨hG, k5, k3⟩) (by show D.bQ [L3.D.tup _, _] = true; rw [D.bQ, D.mw, bW pH]; rfl)) (t2 := .sh (.tup [.tup ((mD R hs cp sg cur).1.map It.d), .int (mD R hs cp sg cur).2])) rfl) ?_
       refine aX E.g E.eK (bR (c_ (false, (mD R hs cp sg cur).1, cur) E.qY E.jZ (aA (aM (bE E.Dd) (ai aj) (aL (j := 0) rfl)) (aA (gJ E.aB E.aZ (vE E.bw.1 rfl EG) vJ) b7)) (by dsimp only [eL]; exact ⟨by omega, fun x hx => CN (s2 x hx) k3⟩) (Gm (nP _) (xH _ _) (bW (fun _ => rfl) _))) (t2 := .tup [.lst ((((mD R hs cp sg cur).1.foldl It.af cur).map .int).map T.sh), .lst (((j6 (mD R hs cp sg cur).1 cur).map J.d).map T.sh), .lst (((aD (mD R hs cp sg cur).1).map .str).map T.sh)]) rfl) ?_
       refine qG E.aB E.bf E.bw.1 (yr (v_ E.Dd.1) (ai aj) (aL (j := 1) rfl)) rfl (yV _ _ _ _ _) ?_
       rw [K2]
       refine qG E.aB E.aZ E.bw.1 (iD (jG 0 E.eK.1 rfl rfl)) rfl (yV _ _ _ _ _) ?_
       rw [K3]
       refine Bv E.aR.1 rfl (bL (aJ aY (aJ (v_ E.kh.1) cF)) (ay rfl)) rfl (by rw [agU]; omega) ?_
       refine Es E.aR.1 rfl (jG 1 E.eK.1 rfl rfl) rfl (by simp [rJ]; omega) ?_
       refine Es E.cN.1 rfl (jG 2 E.eK.1 rfl rfl) rfl (by simp; omega) (az ⟨k - 1, by omega, j + 1, some (.sh (.str sg)), some (.sh (.tup [.tup ((mD R hs cp sg cur).1.map It.d), .int (mD R hs cp sg cur).2])), some (.tup [.sh .any, .sh .any, .sh .any]), by omega, ?_⟩)
       rw [Bh]
       dsimp only
       rw [ag1, ag1, ag1, ahd, agT]
       rfl
   . have hz : w = [] \/ j = 8 := by
       cases w with
       | nil => exact .inl rfl
       | cons sg w =>
         right
         have hp : (true && decide ((j : Int) < 8)) = false := hp
         have := ahr ((Bool.true_and _).symm.trans hp)
         omega
     rw [hE hz]
     dsimp only
     refine dJ (Nv (vL E.cN.1)) (fun hq => ?_) (fun hq => az ?_)
     . have hw : w ≠ [] := by
         rintro rfl
         cases hq
       rw [ag2 hw]
       refine Bv E.aR.1 rfl (bL (aJ aY (aJ (bR (xA E.nW (vL E.cN.1) E.nV) (t2 := .sh (.int ((w.length : Nat) : Int))) (by rw [agU])) cF)) (ay rfl)) rfl (by rw [agU]; omega) (az (ck (vM E.aR.1) ⟨?_, j8 (ds := [_])⟩))
       rw [ag1]
       rfl
     . have hw : w = [] := by
         cases w with
         | nil => rfl
         | cons sg w => cases hq
       subst hw
       rw [ag9 rfl, ag3]
       exact ck (vM E.aR.1) ⟨rfl, j8 (ds := [_])⟩
theorem bB : pA (ao iR) ([("self", av), ("called", av), ("waiting", av), ("rows", av), ("many", av), ("sign", av), ("going", av), ("step", av), ("list", aG), ("MOST_SIGNS", aG), ("performed", aG), ("len", aG)]) = true := by decide +kernel
theorem qm : aS ["self", "called", "waiting", "rows", "many", "sign", "going", "step"] ["self", "called"] (ao iR) := bz
noncomputable abbrev jL : Stmt := inClass (top 16) 0
noncomputable abbrev jM : Type := Addr × Nat × Nat × List L3.D × List L3.D × List L3.D × List Str × (List (bH × List b9)) × List Int × List It
noncomputable def fu : jM -> List T := fun (y, m, f, bx, bg, pr, hs, R, bs, xs) => [.pin y (.ins "FlatRun" [("table", .sh (cD bx (hs.map .str) bg pr (fV R)))]), .sh (.lst (bs.map .int)), .sh (.int 0), .sh (.tup (xs.map It.d))]
noncomputable def dX : jM -> List T := fun (y, m, f, bx, bg, pr, hs, R, bs, xs) => [.pin y (.ins "FlatRun" (cX (cD bx (hs.map .str) bg pr (fV R)) (.int (xK R hs (aD xs, 0, xs.foldl It.af bs))) [] (xM R hs (aD xs, 0, xs.foldl It.af bs)) (u9 (some ((j6 xs bs).map J.d ++ nU R hs (aD xs, 0, xs.foldl It.af bs)))))), .sh (.lst (bs.map .int)), .sh (.int 0), .sh (.tup (xs.map It.d))]
noncomputable def fz : jM -> Prop := fun (y, m, f, bx, bg, pr, hs, R, bs, xs) => mY m f hs R /\ 0 < f /\ bs.length = m /\ xs.length <= 200 /\ (∀ x ∈ xs, IW m x)
noncomputable def fB : jM -> T := fun (y, m, f, bx, bg, pr, hs, R, bs, xs) => (.sh .non : T)
structure AO (X : Cx) (CL : Str -> Addr) : Prop extends cW X where
 bw : Ln X 0 "self"
 aK : Ln X 1 "boxes"
 rW : Ln X 2 "place"
 bK : Ln X 3 "script"
 eK : Ln X 4 "step"
 jZ : Gl X "performed"
 qY : Fc X CL "performed" 5 2 gU eL gV
 lO : FqM X CL "FlatRun" "dealt" 6 2 dw cP dz cO
 aB : j5 X.K (CL "FlatRun")
 bA : j5 X.K (CL "Table")
 bf : aF X.K (CL "FlatRun") "place"
 dN : aF X.K (CL "FlatRun") "past"
 aZ : aF X.K (CL "FlatRun") "boxes"
 bM : aF X.K (CL "Table") "boxes"
 gf : aF X.K (CL "FlatRun") "first_rows"
theorem AQ {X : Cx} {CL : Str -> Addr} {b : Bx} (E : AO X CL) (y m f bx bg pr hs R bs xs) (h : fz (y, m, f, bx, bg, pr, hs, R, bs, xs)) :
   cU X CL b (cB jL) (j7 ["self", "boxes", "place", "script", "step"] (fu (y, m, f, bx, bg, pr, hs, R, bs, xs))) { nx := fun δ => fB (y, m, f, bx, bg, pr, hs, R, bs, xs) = .sh .non /\ Keeps δ (dX (y, m, f, bx, bg, pr, hs, R, bs, xs)), rt := fun AF δ => AF = fB (y, m, f, bx, bg, pr, hs, R, bs, xs) /\ Keeps δ (dX (y, m, f, bx, bg, pr, hs, R, bs, xs)) } := by
 dsimp only [fz, fu, fB, dX] at h ⊢
 obtain ⟨hG, hf, hb, hx, hxo⟩ := h
 have EW : (aD xs).length <= xs.length := ahJ _ _
 have QB := lF xs bs
 have hb2 : (xs.foldl It.af bs).length = m := QB.trans hb
 obtain ⟨d1, d2⟩ := Gz hG (cs := aD xs) hf hb2
 refine qG E.aB E.bf E.bw.1 (v_ E.rW.1) rfl (agZ rfl) ?_
 rw [show jv "place" (.sh (.int 0)) [(("table" : Str), T.sh (cD bx (hs.map .str) bg pr (fV R)))] = [(("table" : Str), T.sh (cD bx (hs.map .str) bg pr (fV R))), (("place" : Str), T.sh (.int 0))] by rw [aQ (by decide +kernel)]; rfl]
 refine qG E.aB E.dN E.bw.1 (c7 (tl := []) bF (ay rfl)) rfl (agZ rfl) ?_
 rw [show jv "past" (.lst []) [(("table" : Str), T.sh (cD bx (hs.map .str) bg pr (fV R))), (("place" : Str), T.sh (.int 0))] = [(("table" : Str), T.sh (cD bx (hs.map .str) bg pr (fV R))), (("place" : Str), T.sh (.int 0)), (("past" : Str), T.lst [])] by rw [aQ (by decide +kernel), aQ (by decide +kernel)]; rfl]
 refine aX E.g E.eK (bR (c_ (false, xs, bs) E.qY E.jZ (aA (bE E.bK) (aA (bE E.aK) b7)) (by dsimp only [eL]; exact ⟨by omega, fun x hm => CN (hxo x hm) hb⟩) (Gm (nP _) (xH _ _) (bW (fun _ => rfl) _))) (t2 := .tup [.lst (((xs.foldl It.af bs).map .int).map T.sh), .lst (((j6 xs bs).map J.d).map T.sh), .lst (((aD xs).map .str).map T.sh)]) rfl) ?_
 refine qG E.aB E.aZ E.bw.1 (iD (jG 0 E.eK.1 rfl rfl)) rfl (agZ rfl) ?_
 rw [show jv "boxes" (.sh (.lst ((xs.foldl It.af bs).map .int))) [(("table" : Str), T.sh (cD bx (hs.map .str) bg pr (fV R))), (("place" : Str), T.sh (.int 0)), (("past" : Str), T.lst [])] = cX (cD bx (hs.map .str) bg pr (fV R)) (.int ((0 : Nat) : Int)) [] (xs.foldl It.af bs) (u9 none) by rw [aQ (by decide +kernel), aQ (by decide +kernel), aQ (by decide +kernel)]; rfl]
 generalize xs.foldl It.af bs = cur at QB hb2 d1 d2 ⊢
 refine Xj E.aB E.gf E.bw.1 (R5 (jG 1 E.eK.1 rfl rfl) (qM (dl := [.lst ((aD xs).map .str)]) (fun z => (z, m, f, bx, bg, pr, hs, R, 0, [], cur, none, aD xs)) (.pin y (.ins "FlatRun" (cX (cD bx (hs.map .str) bg pr (fV R)) (.int (xK R hs (aD xs, 0, cur))) [] (xM R hs (aD xs, 0, cur)) (u9 none)))) E.lO E.bw.1 (.pin rfl) (aT (iD (jG 2 E.eK.1 rfl rfl)) bF) (fun z _ => by dsimp only [cP]; exact ⟨hG, hf, hb2, by omega⟩) (fun z _ => rfl) (fun z hz => by subst hz; exact ⟨rfl, .inr rfl, trivial⟩) (CM (by decide +kernel) (by decide +kernel) (by decide +kernel) (by decide +kernel) (by decide +kernel)) (fun z hz => by subst hz; rfl)) (by rw [sizeLine_eq, List.length_map, rJ]; omega)) rfl (yV _ _ _ _ _) (az ⟨rfl, ?_⟩)
 rw [show jv "first_rows" (.lst (((j6 xs bs).map J.d ++ nU R hs (aD xs, 0, cur)).map T.sh)) (cX (cD bx (hs.map .str) bg pr (fV R)) (.int (xK R hs (aD xs, 0, cur))) [] (xM R hs (aD xs, 0, cur)) (u9 none)) = cX (cD bx (hs.map .str) bg pr (fV R)) (.int (xK R hs (aD xs, 0, cur))) [] (xM R hs (aD xs, 0, cur)) (u9 (some ((j6 xs bs).map J.d ++ nU R hs (aD xs, 0, cur)))) by
   unfold cX
   rw [aQ (by decide +kernel), aQ (by decide +kernel), aQ (by decide +kernel), aQ (by decide +kernel)]
   rfl]
 exact j8 (ds := [_, _, _])
theorem eW : pA (ao jL) ([("self", av), ("boxes", av), ("place", av), ("script", av), ("step", av), ("performed", aG)]) = true := by decide +kernel
theorem qZ : aS ["self", "boxes", "place", "script", "step"] ["self", "boxes", "place", "script"] (ao jL) := bz
noncomputable abbrev iT : Stmt := inClass (top 18) 0
noncomputable abbrev lP : Type := Nat × (List (Str × Int)) × List It × List L3.D × List Str × (List (bH × List b9))
noncomputable def oN : lP -> List L3.D := fun (f, bx, xs, pr, hs, R) => [(cD (bx.map jW) (hs.map .str) (xs.map It.d) pr (fV R))]
noncomputable def jB : lP -> Prop := fun (f, bx, xs, pr, hs, R) => mY bx.length f hs R /\ 0 < f /\ bx.length <= 1000 /\ xs.length <= 200 /\ (∀ x ∈ xs, IW bx.length x)
noncomputable def oO : lP -> List (Str × T) := fun (f, bx, xs, pr, hs, R) => (cX (cD (bx.map jW) (hs.map .str) (xs.map It.d) pr (fV R)) (.int (xK R hs (aD xs, 0, xs.foldl It.af (bx.map (·.2))))) [] (xM R hs (aD xs, 0, xs.foldl It.af (bx.map (·.2)))) (u9 (some ((j6 xs (bx.map (·.2))).map J.d ++ nU R hs (aD xs, 0, xs.foldl It.af (bx.map (·.2)))))) : List (Str × T))
structure zq (X : Cx) (CL : Str -> Addr) : Prop extends cW X where
 bw : Ln X 0 "self"
 cG : Ln X 1 "table"
 zu : Gl X "Runner"
 m8 : FkM X CL "Runner" "__init__" 7 4 fu fz fB dX
 aB : j5 X.K (CL "FlatRun")
 bA : j5 X.K (CL "Table")
 dW : aF X.K (CL "FlatRun") "table"
 eG : aF X.K (CL "Table") "begin"
 aZ : aF X.K (CL "FlatRun") "boxes"
 bM : aF X.K (CL "Table") "boxes"
theorem zx {X : Cx} {CL : Str -> Addr} {b : Bx} (E : zq X CL) (f : Nat) (bx : List (Str × Int)) (xs : List It) (pr : List L3.D) (hs : List Str) (R : List (bH × List b9)) (y : Addr) (h : mY bx.length f hs R /\ 0 < f /\ bx.length <= 1000 /\ xs.length <= 200 /\ (∀ x ∈ xs, IW bx.length x)) :
   cU X CL b (cB iT) (Ni ["self", "table"] y "FlatRun" [(cD (bx.map jW) (hs.map .str) (xs.map It.d) pr (fV R))]) { nx := fun δ => δ[0]? = some (some (.pin y (.ins "FlatRun" (cX (cD (bx.map jW) (hs.map .str) (xs.map It.d) pr (fV R)) (.int (xK R hs (aD xs, 0, xs.foldl It.af (bx.map (·.2))))) [] (xM R hs (aD xs, 0, xs.foldl It.af (bx.map (·.2)))) (u9 (some ((j6 xs (bx.map (·.2))).map J.d ++ nU R hs (aD xs, 0, xs.foldl It.af (bx.map (·.2)))))))))), rt := fun _ _ => False } := by
 obtain ⟨hG, hf, hb, hx, hxo⟩ := h
 refine qG E.aB E.dW E.bw.1 (v_ E.cG.1) rfl (agZ rfl) ?_
 have QB : (bx.map (·.2)).length = bx.length := agU ..
 refine RW (kM1 (fun z => (z, bx.length, f, bx.map jW, xs.map It.d, pr, hs, R, bx.map (·.2), xs)) (.pin y (.ins "FlatRun" (cX (cD (bx.map jW) (hs.map .str) (xs.map It.d) pr (fV R)) (.int (xK R hs (aD xs, 0, xs.foldl It.af (bx.map (·.2))))) [] (xM R hs (aD xs, 0, xs.foldl It.af (bx.map (·.2)))) (u9 (some ((j6 xs (bx.map (·.2))).map J.d ++ nU R hs (aD xs, 0, xs.foldl It.af (bx.map (·.2)))))))))
   E.m8 E.zu (kF E.bw.1 rfl (cu (iD (bR (Ij (p := fun _ => true) (g := fun d => T.sh d.at2) (jt .nil (by decide +kernel)) E.g.calm (oZ (iC E.bA E.bM (v_ E.cG.1) mF)) (.inr rfl) (fun C s0 H0 f0 b' d hd => ?SN) (ah3 (kW (by simp; omega)))) (t2 := .lst (((bx.map (·.2)).map .int).map T.sh)) ?ceq)) (cu aj (cu (iC E.bA E.eG (v_ E.cG.1) qK) cj))))
   (fun z _ => by dsimp only [fz]; exact ⟨hG, hf, QB, hx, hxo⟩) (fun z _ => rfl) (fun z hz => by cases hz.1; exact ⟨rfl, .inr rfl, trivial⟩) (fun z hz => by cases hz.1; rfl)) (az rfl)
 case ceq =>
   refine congrArg T.lst ?_
   rw [jS, ahv, ahv, ahv]
   rfl
 case SN =>
   obtain ⟨q, _, rfl⟩ := ahm.mp hd
   exact ⟨rfl, fun _ => cE (aM (ai (v_ (pe (i := 0) rfl (by decide +kernel)))) (ai aj) (aL (j := 1) rfl)) rfl⟩
theorem ki : pA (ao iT) ([("self", av), ("table", av), ("Runner", aG)]) = true := by decide +kernel
theorem qo : aS ["self", "table"] ["self", "table"] (ao iT) := bz
noncomputable abbrev jN : Stmt := inClass (top 16) 3
noncomputable abbrev jO : Type := Addr × Nat × Nat × List L3.D × List L3.D × List L3.D × List Str × (List (bH × List b9)) × Nat × List L3.D × List Int × Option (List L3.D) × Str
noncomputable def fC : jO -> List T := fun (y, m, f, bx, bg, pr, hs, R, a, pa, bs, eo, sg) => [.pin y (.ins "FlatRun" (cX (cD bx (hs.map .str) bg pr (fV R)) (.int a) pa bs (u9 eo))), .sh (.str sg)]
noncomputable def dY : jO -> List T := fun (y, m, f, bx, bg, pr, hs, R, a, pa, bs, eo, sg) => [.pin y (.ins "FlatRun" (cX (cD bx (hs.map .str) bg pr (fV R)) (.int (xK R hs ([sg], a, bs))) (pa ++ [.tup [.int a, .lst (bs.map .int), .lst (nU R hs ([sg], a, bs))]]) (xM R hs ([sg], a, bs)) (u9 eo))), .sh (.str sg)]
noncomputable def fD : jO -> Prop := fun (y, m, f, bx, bg, pr, hs, R, a, pa, bs, eo, sg) => mY m f hs R /\ a < f /\ bs.length = m /\ pa.length <= 1000
noncomputable def fE : jO -> T := fun (y, m, f, bx, bg, pr, hs, R, a, pa, bs, eo, sg) => (.lst ((nU R hs ([sg], a, bs)).map T.sh) : T)
structure AU (X : Cx) (CL : Str -> Addr) : Prop extends cW X where
 bw : Ln X 0 "self"
 kh : Ln X 1 "sign"
 rW : Ln X 2 "place"
 aK : Ln X 3 "boxes"
 aR : Ln X 4 "rows"
 dR : Gl X "list"
 dS : X.mg "list" = none
 lO : FqM X CL "FlatRun" "dealt" 6 2 dw cP dz cO
 aB : j5 X.K (CL "FlatRun")
 bA : j5 X.K (CL "Table")
 bf : aF X.K (CL "FlatRun") "place"
 aZ : aF X.K (CL "FlatRun") "boxes"
 bM : aF X.K (CL "Table") "boxes"
 dN : aF X.K (CL "FlatRun") "past"
theorem AV {X : Cx} {CL : Str -> Addr} {b : Bx} (E : AU X CL) (y m f bx bg pr hs R a pa bs eo sg) (h : fD (y, m, f, bx, bg, pr, hs, R, a, pa, bs, eo, sg)) :
   cU X CL b (cB jN) (j7 ["self", "sign", "place", "boxes", "rows"] (fC (y, m, f, bx, bg, pr, hs, R, a, pa, bs, eo, sg))) { nx := fun δ => fE (y, m, f, bx, bg, pr, hs, R, a, pa, bs, eo, sg) = .sh .non /\ Keeps δ (dY (y, m, f, bx, bg, pr, hs, R, a, pa, bs, eo, sg)), rt := fun AF δ => AF = fE (y, m, f, bx, bg, pr, hs, R, a, pa, bs, eo, sg) /\ Keeps δ (dY (y, m, f, bx, bg, pr, hs, R, a, pa, bs, eo, sg)) } := by
 dsimp only [fD, fC, fE, dY] at h ⊢
 obtain ⟨hG, ha, hb, hpa⟩ := h
 refine aX E.g E.rW (uh (p := [.fld "place"]) (Cw E.aB E.bf (b8 E.bw.1 rfl) rfl rfl yT) rfl K4) ?_
 refine aX E.g E.aK (uh (p := [.fld "boxes"]) (Cw E.aB E.aZ (b8 E.bw.1 rfl) rfl rfl yU) rfl K5) ?_
 refine fJ E.g E.aR (qM (dl := [.lst [.str sg]]) (fun z => (z, m, f, bx, bg, pr, hs, R, a, pa, bs, eo, [sg])) (.pin y (.ins "FlatRun" (cX (cD bx (hs.map .str) bg pr (fV R)) (.int (xK R hs ([sg], a, bs))) pa (xM R hs ([sg], a, bs)) (u9 eo)))) E.lO E.bw.1 (.pin rfl) (aT (iD (ds := [.str sg]) (c7 (aT (v_ E.kh.1) bF) (ay rfl))) bF) (fun z _ => by dsimp only [cP]; exact ⟨hG, ha, hb, by simp⟩) (t := .lst ((nU R hs ([sg], a, bs)).map T.sh)) (fun z _ => rfl) (fun z hz => by subst hz; exact ⟨rfl, .inr rfl, trivial⟩) (CM (by decide +kernel) (by decide +kernel) (by decide +kernel) (by decide +kernel) (by decide +kernel)) (fun z hz => by subst hz; rfl)) ?_
 refine Vr (i := 4) (d := .lst (nU R hs ([sg], a, bs))) rfl (c5 _) ?_
 refine lD (p := [.fld "past"]) (Cw E.aB E.dN (b8 E.bw.1 rfl) rfl rfl vK) rfl EI (bL (aJ (v_ E.rW.1) (aJ (v_ E.aK.1) (aJ (v_ E.aR.1) cF))) (ay rfl)) rfl EI (by rw [agU]; omega) ?_
 rw [show (pa.map T.sh ++ [T.sh (.tup [.int a, .lst (bs.map .int), .lst (nU R hs ([sg], a, bs))])]) = (pa ++ [L3.D.tup [.int a, .lst (bs.map .int), .lst (nU R hs ([sg], a, bs))]]).map T.sh by rw [ag1]; rfl, K6]
 exact ck (nL E.dS (v_ E.aR.1) E.dR cM) ⟨rfl, j8 (ds := [_])⟩
theorem eX : pA (ao jN) ([("self", av), ("sign", av), ("place", av), ("boxes", av), ("rows", av), ("list", aG)]) = true := by decide +kernel
theorem q8 : aS ["self", "sign", "place", "boxes", "rows"] ["self", "sign"] (ao jN) := bz
noncomputable def j0 (l : List (Nat × List Int × List L3.D)) : List L3.D := l.map fun q => .tup [.int (q.1 : Nat), .lst (q.2.1.map .int), .lst q.2.2]
noncomputable def di (r : List L3.D) (l : List (Nat × List Int × List L3.D)) : List L3.D := r ++ l.flatMap (·.2.2)
noncomputable abbrev iU : Stmt := inClass (top 16) 6
noncomputable abbrev iV : Type := L3.D × L3.D × (List (Nat × List Int × List L3.D)) × List Int × List L3.D
noncomputable def gD : iV -> List L3.D := fun (cd, pl, l, bs, r) => [.ins "FlatRun" (kg cd pl (j0 l) bs (EF (some r)))]
noncomputable def dB : iV -> Prop := fun (cd, pl, l, bs, r) => D.bQ r = true /\ r.length <= 1000 /\ l.length <= 1000 /\ ∀ q ∈ l, q.2.2.length <= 200 /\ D.bQ q.2.2 = true
noncomputable def gE : iV -> T := fun (cd, pl, l, bs, r) => (.lst ((di r l).map T.sh) : T)
structure zy (X : Cx) (CL : Str -> Addr) : Prop extends cW X where
 bw : Ln X 0 "self"
 aR : Ln X 1 "rows"
 eK : Ln X 2 "step"
 dR : Gl X "list"
 dS : X.mg "list" = none
 aB : j5 X.K (CL "FlatRun")
 dN : aF X.K (CL "FlatRun") "past"
 gf : aF X.K (CL "FlatRun") "first_rows"
theorem zA {X : Cx} {CL : Str -> Addr} {b : Bx} (E : zy X CL) {dh : iV} (h : dB dh) :
   aO X CL b iU ["self", "rows", "step"] (gD dh) (gE dh) := by
 obtain ⟨cd, pl, l, bs, r⟩ := dh
 dsimp only [aO, dB, gD, gE] at h ⊢
 obtain ⟨hr, hrl, hl, hq⟩ := h
 refine aX E.g E.aR (nL E.dS (iC E.aB E.gf (v_ E.bw.1) K1) E.dR cM) ?_
 have hlen : ∀ j, (di r (l.take j)).length <= r.length + 200 * j := fun j => by
   unfold di
   rw [ahc]
   have : ∀ l : List (Nat × List Int × List L3.D), (∀ q ∈ l, q.2.2.length <= 200) -> (l.flatMap (·.2.2)).length <= 200 * l.length := by
     intro l
     induction l with
     | nil => intro _; exact ahs _
     | cons q l ih =>
       intro h
       rw [List.flatMap_cons, ahc, ahu]
       have h1 := h q agV
       have h2 := ih fun p hp => h p (agY _ hp)
       omega
   have h1 := this (l.take j) fun q hm => (hq q (List.mem_of_mem_take hm)).1
   have h2 : (l.take j).length <= j := by rw [ahG]; omega
   omega
 refine qj E.g E.eK (fun j δ => ∃ o, δ = [some (.sh (.ins "FlatRun" (kg cd pl (j0 l) bs (EF (some r))))), some (.lst ((di r (l.take j)).map T.sh)), o])
   (oZ (iC E.aB E.dN (v_ E.bw.1) EH)) ⟨none, by rw [List.take_zero]; unfold di; rw [List.flatMap_nil, ag3]; rfl⟩ (fun j δ ⟨_, e⟩ => by subst e; exact agZ rfl) ?turn ?fin
 case turn =>
   rintro j d δ hj ⟨o, rfl⟩
   unfold j0 at hj
   obtain ⟨q, rfl, _, hqm, Fl, _, Vo⟩ := Np hj
   obtain ⟨q1, q2⟩ := hq q hqm
   have hjn := hlen j
   refine R4 (b8 E.aR.1 rfl) rfl rfl (aM (bE E.eK) (ai aj) (aL (j := 2) rfl)) q2 rfl rfl (by rw [agU]; omega) (az ⟨some (.sh (.tup [.int (q.1 : Nat), .lst (q.2.1.map .int), .lst q.2.2])), ?_⟩)
   rw [Vo]
   unfold di
   rw [List.flatMap_append, List.flatMap_cons, List.flatMap_nil, ag3, ← agT, ag1 (l₂ := q.2.2)]
   rfl
 case fin =>
   rintro δ ⟨o, rfl⟩
   have e : (j0 l).length = l.length := agU ..
   rw [e, ahQ]
   exact ck (vM E.aR.1) rfl
theorem g8 : pA (ao iU) ([("self", av), ("rows", av), ("step", av), ("list", aG)]) = true := by decide +kernel
theorem qp : aS ["self", "rows", "step"] ["self"] (ao iU) := bz
noncomputable abbrev kO : Stmt := inClass (top 16) 5
noncomputable abbrev kP : Type := L3.D × L3.D × List L3.D × List Int × (List (Str × L3.D))
noncomputable def iW : kP -> List L3.D := fun (cd, pl, pa, bs, ex) => [.ins "FlatRun" (kg cd pl pa bs ex)]
noncomputable def iX : kP -> Prop := fun (cd, pl, pa, bs, ex) => True
noncomputable def iY : kP -> T := fun (cd, pl, pa, bs, ex) => (.sh (.int ((pa.length : Nat) : Int)) : T)
structure Dg (X : Cx) (CL : Str -> Addr) : Prop extends cW X where
 bw : Ln X 0 "self"
 nV : Gl X "len"
 nW : X.mg "len" = none
 aB : j5 X.K (CL "FlatRun")
 dN : aF X.K (CL "FlatRun") "past"
theorem Dh {X : Cx} {CL : Str -> Addr} {b : Bx} (E : Dg X CL) {dh : kP} (h : iX dh) :
   aO X CL b kO ["self"] (iW dh) (iY dh) := by
 obtain ⟨cd, pl, pa, bs, ex⟩ := dh
 dsimp only [aO, iX, iW, iY] at h ⊢
 exact ck (xA E.nW (gJ E.aB E.dN (bE E.bw) EH) E.nV) rfl
theorem sP : pA (ao kO) ([("self", av), ("len", aG)]) = true := by decide +kernel
theorem sQ : aS ["self"] ["self"] (ao kO) := bz
theorem abo {m : Nat} {x : It} (h : IW m x) (bs : List Int) (k : Nat) : gX (k + 2) (x.j bs).d := by
 cases x with
 | fU q =>
   cases q with
   | put i a c =>
     refine .tup (ds := [.str "put", .int i, .int _, .int _]) fun d hd => ?_
     simp only [ag4, ahb, aiv] at hd
     rcases hd with rfl | rfl | rfl | rfl
     . exact .str _ _ (by decide +kernel)
     . exact .int _ _
     . exact .int _ _
     . exact .int _ _
   | say s a c => exact OI (.str _ "say" (by decide +kernel)) (.str _ _ (wH h.1)) (.int _ _)
   | call s => exact tK (.str _ "call" (by decide +kernel)) (.str _ _ (wH h))
 | out i => exact vH (x := .out i) (m := m) h k
 | keep i p q => exact vH (x := .keep i p q) (m := m) h k
 | way i => exact vH (x := .way i) (m := m) h k
 | Ep i => exact vH (x := .Ep i) (m := m) h k
theorem GL {m : Nat} (k : Nat) : ∀ {xs : List It} (bs : List Int), (∀ x ∈ xs, IW m x) -> ∀ d ∈ (j6 xs bs).map J.d, gX (k + 2) d
 | [], _, _, d, hd => by cases hd
 | x :: xs, bs, h, d, hd => by
   rw [j6, ahd] at hd
   rcases ag4.mp hd with rfl | hd
   . exact abo (h x agV) bs k
   . exact GL k (x.af bs) (fun y hy => h y (agY _ hy)) d hd
theorem Jm {R : List (bH × List b9)} {hs : List Str} {m f : Nat} (h : mY m f hs R) {cs : List Str} {a : Nat} {bs : List Int} (ha : a < f) (hb : bs.length = m) (hc : ∀ x ∈ cs, PyData.strOk x = true) : ∀ j, ∀ d ∈ (jX R hs j (cs, a, bs)).1, gX 59 d
 | 0 => fun d hd => absurd hd ahb
 | j + 1 => by
   have ih := Jm h ha hb hc j
   have Bh := C3 h (cs := cs) ha hb hc j
   obtain ⟨_, _, h5, _, _⟩ := pL h (cs := cs) ha hb j
   cases e : jX R hs j (cs, a, bs) with
   | mk rs r =>
     obtain ⟨w, a2, b2⟩ := r
     rw [e] at ih h5 Bh
     cases w with
     | nil =>
       rw [jX, e]
       exact ih
     | cons sg w =>
       rw [qN e]
       intro d hd
       rcases ag0.mp hd with z | z
       . exact ih d z
       . rcases ag4.mp z with rfl | z
         . exact tK (.str _ "sign" (by decide +kernel)) (.str _ _ (Bh sg agV))
         . exact GL 57 b2 (yW h h5 sg b2).2.1 d z
theorem Jo {R : List (bH × List b9)} {hs : List Str} {m f : Nat} (h : mY m f hs R) {cs : List Str} {a : Nat} {bs : List Int} (ha : a < f) (hb : bs.length = m) (hc : ∀ x ∈ cs, PyData.strOk x = true) : ∀ d ∈ nU R hs (cs, a, bs), gX 59 d := fun d hd => by
 unfold nU at hd
 rcases ag0.mp hd with z | z
 . exact Jm h ha hb hc 8 d z
 . split at z
   . cases z
   . rw [ahN.mp z]
     exact tK (.str _ "rest" (by decide +kernel)) (.int _ _)
theorem T3 (s : List Int) (a : Nat) (x : Str) (hx : ¬ x ∈ sy s) : fj (vF s) (Fp a x) = none := Nx fun hm => by
 obtain ⟨q, hq, e⟩ := ahm.mp hm
 obtain ⟨a2, _, h⟩ := aiC.mp hq
 obtain ⟨k, hk, rfl⟩ := ahm.mp h
 have hk := aik.mp hk
 have e : IG (sy s) a2 k = Fp a x := e
 unfold IG Fp at e
 injection e with _ e2
 injection e2 with e2 _
 have e2 := Sum.inr.inj e2
 refine hx ?_
 rw [← e2, ahT, ag7 hk]
 exact List.getElem_mem hk
theorem Px {m : Nat} {xs : List It} (h : ∀ x ∈ xs, IW m x) : ∀ x ∈ aD xs, PyData.strOk x = true := fun x hx => by
 obtain ⟨i, hi, he⟩ := aiH.mp hx
 have hg := h i hi
 cases i with
 | fU q =>
   cases q with
   | call s => cases he; exact wH hg
   | put i a c => cases he
   | say s a c => cases he
 | _ => cases he
noncomputable def sgL : List Str := ["go", "go2", "gog"]
noncomputable def sgN (c : Int) : Str := sgL.getD (c % 7 % 3).toNat Str.empty
theorem Yi (c : Int) : PyData.strOk (sgN c) = true := by
 have : ∀ k : Nat, k < 3 -> PyData.strOk (sgL.getD k Str.empty) = true := by decide +kernel
 exact this _ (by omega)
theorem GN (r : List L3.D) (l : List (Nat × List Int × List L3.D)) (q : Nat × List Int × List L3.D) : di r (l ++ [q]) = di r l ++ q.2.2 := by
 unfold di
 rw [List.flatMap_append, agT]
 simp
theorem Lg {r : List L3.D} {l : List (Nat × List Int × List L3.D)} (h : ∀ q ∈ l, q.2.2.length <= 200) : (di r l).length <= r.length + 200 * l.length := by
 unfold di
 rw [ahc]
 induction l with
 | nil => exact ag6 _
 | cons q l ih =>
   rw [List.flatMap_cons, ahc, ahu]
   have h1 := h q agV
   have h2 := ih fun p hp => h p (agY _ hp)
   omega
theorem BP {P : L3.D -> Prop} {r : List L3.D} {l : List (Nat × List Int × List L3.D)} (h0 : ∀ d ∈ r, P d) (h : ∀ q ∈ l, ∀ d ∈ q.2.2, P d) : ∀ d ∈ di r l, P d := fun d hd => by
 rcases ag0.mp hd with z | z
 . exact h0 d z
 . obtain ⟨q, hq, z⟩ := aiC.mp z
   exact h q hq d z
noncomputable abbrev Jp : Stmt := top 36
noncomputable abbrev Py : Type := List Int
noncomputable def sd : Py -> List L3.D := fun a => [.lst (a.map .int)]
noncomputable def se : Py -> Prop := fun a => a.length <= 63
noncomputable def sf : Py -> T := fun a => (.sh (.bl true) : T)
structure abp (X : Cx) (CL : Str -> Addr) : Prop extends cW X where
 bK : Ln X 0 "script"
 fL : Ln X 1 "part"
 cG : Ln X 2 "table"
 ql : Ln X 3 "run"
 aK : Ln X 4 "boxes"
 aR : Ln X 5 "rows"
 cy : Ln X 6 "called"
 fK : Ln X 7 "flat"
 bX : Ln X 8 "many"
 C1 : Ln X 9 "cell"
 kh : Ln X 10 "sign"
 Jq : Ln X 11 "fed"
 dO : Ln X 12 "heard"
 mZ : Gl X "_law_pieces"
 T4 : Gl X "Table"
 Di : Gl X "_law_keeps"
 Lh : Gl X "FlatRun"
 qT : Gl X "_law_done"
 uP : Gl X "_law_dealt"
 iN : Gl X "isinstance"
 zu : Gl X "Runner"
 sR : Gl X "_law_stands"
 Dj : Gl X "_law_turns"
 dR : Gl X "list"
 zb : Fc X CL "_law_pieces" 6 1 lI lJ lK
 T5 : Fm X CL "Table" 1 6 qU qV qW
 T6 : BD X CL "_law_keeps" 7 3 oh rO oi kY
 Li : Fm X CL "FlatRun" 9 2 oN jB oO
 vN : BD X CL "_law_done" 2 3 iw f6 iy fZ
 Jr : BD X CL "_law_dealt" 3 5 oA k6 oB kZ
 iO : X.mg "isinstance" = none
 E3 : Fc X CL "_law_stands" 2 3 pO pP pQ
 T7 : Fc X CL "_law_turns" 1 3 rT oG rV
 dS : X.mg "list" = none
 AW : FqM X CL "FlatRun" "feed" 7 2 fC fD fE dY
 rg : Fq X CL "FlatRun" "story" 1 1 gD dB gE
 uQ : Fq X CL "FlatRun" "fed" 1 1 iW iX iY
 aB : j5 X.K (CL "FlatRun")
 bA : j5 X.K (CL "Table")
 eG : aF X.K (CL "Table") "begin"
 aZ : aF X.K (CL "FlatRun") "boxes"
 bM : aF X.K (CL "Table") "boxes"
 ia : Gf X.K (CL "FlatRun")
 oQ : PySem.W.kitOne X.K (.ref (CL "FlatRun")) (.ref (CL "Runner")) = some true
 Lj : X.mg "Runner" = some (.ref (CL "Runner"))
theorem abq {X : Cx} {CL : Str -> Addr} {b : Bx} (E : abp X CL) {a} (h : se a) :
   aO X CL b Jp ["script", "part", "table", "run", "boxes", "rows", "called", "flat", "many", "cell", "sign", "fed", "heard"] (sd a) (sf a) := by
 dsimp only [aO, se, sd, sf] at h ⊢
 have hs : a.length <= 63 := by omega
 obtain ⟨b1, b2, b3, b4, b5, b6⟩ := Ox a
 have Y6 := Gy a
 have QB : (wG a).length = Gq a := by unfold wG; rw [agU, ahP]
 have hx : ∀ x ∈ xJ a, IW (wG a).length x := by rw [QB]; exact IX (by omega) Y6 _
 have hxl : (xJ a).length <= 3 := CG _ _ _
 have hG := OL a
 rw [← QB] at hG b1
 have hN := T3 a
 have ib : D.bQ ((wG a).map jW) = true := bW (fun _ => rfl) _
 have ip : D.bQ ((List.range (sL a)).map ji) = true := bW (fun _ => rfl) _
 have ix : D.bQ ((xJ a).map It.d) = true := bW pH _
 refine aX E.g E.fL (bR (c_ a E.zb E.mZ (aA (bE E.bK) b7) (by show a.length <= 1000; omega) (by show (ED a).clean = true; rw [CK]; exact BK _ _)) (t2 := Qz a (vF a)) (CK a)) ?_
 refine aX E.g E.cG (Ih (d := cD ((wG a).map jW) ((sy a).map .str) ((xJ a).map It.d) ((List.range (sL a)).map ji) (fV (vF a))) (bR (mk_ ((wG a).map jW, (sy a).map .str, (xJ a).map It.d, (List.range (sL a)).map ji, fV (vF a)) E.T5 E.T4
   (aA (xF (p := [.ix 0]) (u := .lst (((wG a).map jW).map T.sh)) (lC (j := 0) (b8 E.fL.1 rfl) rfl rfl (ai aj) rfl) rfl rfl (c5 _))
   (aA (xF (p := [.ix 1]) (u := .lst (((sy a).map .str).map T.sh)) (lC (j := 1) (b8 E.fL.1 rfl) rfl rfl (ai aj) rfl) rfl rfl (c5 _))
   (aA (ai (uh (p := [.ix 2]) (d := .tup ((xJ a).map It.d)) (lC (j := 2) (b8 E.fL.1 rfl) rfl rfl (ai aj) rfl) rfl rfl))
   (aA (xF (p := [.ix 3]) (u := .lst (((List.range (sL a)).map ji).map T.sh)) (lC (j := 3) (b8 E.fL.1 rfl) rfl rfl (ai aj) rfl) rfl rfl (c5 _))
   (aA (xF (p := [.ix 4]) (u := .dct (sA (vF a))) (d := .dct (fk (fV (vF a)))) (lC (j := 4) (b8 E.fL.1 rfl) rfl rfl (ai aj) rfl) rfl rfl (by rw [IY, uo])) b7)))))
   (by exact ⟨ib, lA _, ip, IZ, by rw [OQ]; exact hG.c, by unfold fV; rw [agU]; have := hG.d; omega⟩) (Gu ib (lA _) ix ip IZ)) (t2 := .ins "Table" (Gs ((wG a).map jW) ((sy a).map .str) ((xJ a).map It.d) ((List.range (sL a)).map ji) (fV (vF a)))) rfl) (OG ..)) ?_
 refine Vt (Si (Xk (lE (Il (t := .sh (.bl true)) (fun z => (z, a)) (ptW a) E.T6 E.Di (cu (v_ E.bK.1) (cu (v_ E.cG.1) (iE E.fL.1 rfl rfl cj))) (fun _ _ => by show a.length <= 1000; omega) (fun _ _ => rfl) (fun _ _ => ⟨rfl, .inl rfl, trivial⟩)) (t2 := .sh (.bl true)) rfl))) (fun hp => by cases hp) (fun _ => az ?_)
 obtain ⟨pw, hpw⟩ : ∃ pw, pw = ptW a := ⟨_, rfl⟩
 rw [← hpw]
 clear hpw
 have hc0 := Px hx
 have hc1 : (aD (xJ a)).length <= (xJ a).length := ahJ _ _
 generalize wG a = bs at QB hx hG ib b1 ⊢
 generalize sy a = hh at Y6 hG hN b4 ⊢
 generalize xJ a = xs at hx hxl ix hc0 hc1 ⊢
 generalize sL a = n at hG b2 b3 ip ⊢
 generalize vF a = R at hG hN ⊢
 have hml : (bs.map (·.2)).length = bs.length := agU ..
 show cU X CL b _ [some (.sh (.lst (a.map .int))), some pw, some (.sh (cD (bs.map jW) (hh.map .str) (xs.map It.d) ((List.range n).map ji) (fV R))), none, none, none, none, none, none, none, none, none, none] _
 refine aX E.g E.ql (bR (mkF (n, bs, xs, (List.range n).map ji, hh, R) E.Li E.Lh (aT (v_ E.cG.1) bF) (by dsimp only [jB]; exact ⟨hG, by omega, by omega, by omega, hx⟩)) (t2 := .ins "FlatRun" (cX (cD (bs.map jW) (hh.map .str) (xs.map It.d) ((List.range n).map ji) (fV R)) (.int (xK R hh (aD xs, 0, xs.foldl It.af (bs.map (·.2))))) [] (xM R hh (aD xs, 0, xs.foldl It.af (bs.map (·.2)))) (u9 (some ((j6 xs (bs.map (·.2))).map J.d ++ nU R hh (aD xs, 0, xs.foldl It.af (bs.map (·.2)))))))) rfl) ?_
 refine Ga (p := fun _ => true) (gg := fun d => T.sh d.at2) E.g E.aK (jt .nil (by decide +kernel)) (oZ (iC E.bA E.bM (v_ E.cG.1) mF)) (.inr rfl) (fun C s0 H0 f0 b' d hd => ?SN) (ah3 (kW (by simp; omega))) ?rest (by exact agZ rfl) (yE ⟨_, rfl⟩)
 case SN =>
   obtain ⟨q, _, rfl⟩ := ahm.mp hd
   exact ⟨rfl, fun _ => cE (aM (ai (v_ (pe (i := 0) rfl (by decide +kernel)))) (ai aj) (aL (j := 1) rfl)) rfl⟩
 case rest =>
 have eB : (((bs.map jW).filter fun _ => true).map fun d => T.sh d.at2) = ((bs.map (·.2)).map L3.D.int).map T.sh := by
   rw [jS, ahv, ahv, ahv]
   rfl
 rw [eB]
 clear eB
 obtain ⟨nb, hnb⟩ : ∃ nb, nb = bs.map (·.2) := ⟨_, rfl⟩
 rw [← hnb] at hml ⊢
 clear hnb
 show cU X CL b _ [some (.sh (.lst (a.map .int))), some pw, some (.sh (cD (bs.map jW) (hh.map .str) (xs.map It.d) ((List.range n).map ji) (fV R))), some (.ins "FlatRun" (cX (cD (bs.map jW) (hh.map .str) (xs.map It.d) ((List.range n).map ji) (fV R)) (.int (xK R hh (aD xs, 0, xs.foldl It.af nb))) [] (xM R hh (aD xs, 0, xs.foldl It.af nb)) (u9 (some ((j6 xs nb).map J.d ++ nU R hh (aD xs, 0, xs.foldl It.af nb)))))), some (.lst ((nb.map .int).map T.sh)), none, none, none, none, none, none, none, none] _
 refine aX E.g E.aR (c7 bF (ahs _)) ?_
 refine fJ E.g E.cy (cM2 (fun y z => (y, z, xs, nb, [])) (.lst (((xs.foldl It.af nb).map .int).map T.sh)) (.lst (((j6 xs nb).map J.d).map T.sh)) E.vN E.qT (cu (iC E.bA E.eG (v_ E.cG.1) qK) (iE E.aK.1 rfl rfl (iE E.aR.1 rfl rfl cj))) (fun _ _ _ => by dsimp only [f6]; exact ⟨by omega, Nat.zero_le _, fun x hx' => CN (hx x hx') hml⟩) (t := .lst (((aD xs).map .str).map T.sh)) (fun _ _ _ => rfl) (fun y z _ => ⟨rfl, .inl rfl, rfl, .inl rfl, trivial⟩)) ?_
 refine Vr (i := 6) (d := .lst ((aD xs).map .str)) rfl (c5 _) ?_
 show cU X CL b _ [some (.sh (.lst (a.map .int))), some pw, some (.sh (cD (bs.map jW) (hh.map .str) (xs.map It.d) ((List.range n).map ji) (fV R))), some (.ins "FlatRun" (cX (cD (bs.map jW) (hh.map .str) (xs.map It.d) ((List.range n).map ji) (fV R)) (.int (xK R hh (aD xs, 0, xs.foldl It.af nb))) [] (xM R hh (aD xs, 0, xs.foldl It.af nb)) (u9 (some ((j6 xs nb).map J.d ++ nU R hh (aD xs, 0, xs.foldl It.af nb)))))), some (.lst (((xs.foldl It.af nb).map .int).map T.sh)), some (.lst (((j6 xs nb).map J.d).map T.sh)), some (.sh (.lst ((aD xs).map .str))), none, none, none, none, none, none] _
 have EW : (xs.foldl It.af nb).length = bs.length := (lF xs nb).trans hml
 have Fl : ((j6 xs nb).map J.d).length <= 3 := by rw [agU, rJ]; omega
 have YM : 0 < n := by omega
 have hji : D.bQ ((j6 xs nb).map J.d) = true := xH _ _
 have hjd := GL 57 nb hx
 refine fJ E.g E.fK (cM2 (fun y z => (y, z, bs.length, n, bs.map jW, xs.map It.d, (List.range n).map ji, hh, R, 0, aD xs, xs.foldl It.af nb, (j6 xs nb).map J.d)) (.lst (((xM R hh (aD xs, 0, xs.foldl It.af nb)).map .int).map T.sh)) (.lst (((j6 xs nb).map J.d ++ nU R hh (aD xs, 0, xs.foldl It.af nb)).map T.sh)) E.Jr E.uP (cu (v_ E.cG.1) (cu aj (cu (v_ E.cy.1) (iE E.aK.1 rfl rfl (iE E.aR.1 rfl rfl cj))))) (fun _ _ _ => by dsimp only [k6]; exact ⟨hG, hN, YM, EW, by omega, hc0, by omega⟩) (t := .sh (.int (xK R hh (aD xs, 0, xs.foldl It.af nb)))) (fun _ _ _ => rfl) (fun y z _ => ⟨rfl, .inl rfl, rfl, .inl rfl, trivial⟩)) ?_
 obtain ⟨_, _, hA, hB, _⟩ := pL hG (cs := aD xs) YM EW 8
 obtain ⟨hr1, hr2⟩ := Gz hG (cs := aD xs) YM EW
 have Y8 := Jo hG YM EW hc0
 have hri : D.bQ ((j6 xs nb).map J.d ++ nU R hh (aD xs, 0, xs.foldl It.af nb)) = true := pB fun d hd => by
   rcases ag0.mp hd with z | z
   . exact gP hji d z
   . exact gP hr2 d z
 have hrl : ((j6 xs nb).map J.d ++ nU R hh (aD xs, 0, xs.foldl It.af nb)).length <= 100 := by rw [ahc]; omega
 have hrd : ∀ d ∈ (j6 xs nb).map J.d ++ nU R hh (aD xs, 0, xs.foldl It.af nb), gX 59 d := fun d hd => by
   rcases ag0.mp hd with z | z
   . exact hjd d z
   . exact Y8 d z
 have hA : xK R hh (aD xs, 0, xs.foldl It.af nb) < n := hA
 have hB : (xM R hh (aD xs, 0, xs.foldl It.af nb)).length = bs.length := hB
 generalize (j6 xs nb).map J.d ++ nU R hh (aD xs, 0, xs.foldl It.af nb) = r0 at hri hrl hrd ⊢
 generalize xK R hh (aD xs, 0, xs.foldl It.af nb) = A0 at hA ⊢
 generalize xM R hh (aD xs, 0, xs.foldl It.af nb) = B0 at hB ⊢
 clear hr1 hr2 Y8 hji hjd Fl EW
 show cU X CL b _ [some (.sh (.lst (a.map .int))), some pw, some (.sh (cD (bs.map jW) (hh.map .str) (xs.map It.d) ((List.range n).map ji) (fV R))), some (.ins "FlatRun" (cX (cD (bs.map jW) (hh.map .str) (xs.map It.d) ((List.range n).map ji) (fV R)) (.int A0) [] B0 (u9 (some r0)))), some (.lst ((B0.map .int).map T.sh)), some (.lst (r0.map T.sh)), some (.sh (.lst ((aD xs).map .str))), some (.sh (.int A0)), none, none, none, none, none] _
 have EA : ∀ {m : Str}, (m == ("table" : Str)) = false -> (m == ("place" : Str)) = false -> (m == ("past" : Str)) = false -> (m == ("boxes" : Str)) = false -> (m == ("first_rows" : Str)) = false -> ∀ (pl : L3.D) (pa : List L3.D) (b0 : List Int), List.lookup m (kg (cD (bs.map jW) (hh.map .str) (xs.map It.d) ((List.range n).map ji) (fV R)) pl pa b0 (EF (some r0))) = none := fun h1 h2 h3 h4 h5 pl pa b0 => yS h1 h2 h3 h4 h5
 have hd0 : gX 60 (.lst r0) := .lst hrd
 have es0 : di r0 [] = r0 := by unfold di; rw [List.flatMap_nil, ag3]
 refine dJ (Kd (sI (vp (ud (Xh E.uQ.cls E.ia E.iO E.iN (aA (vE E.ql.1 rfl pJ) (aA (ai (Xf (v := .ref (CL "Runner")) E.zu E.Lj rfl)) b7)) rfl E.oQ))) (fun _ => sI (tD E.u (ju (ds := r0) (bR (YW (cD (bs.map jW) (hh.map .str) (xs.map It.d) ((List.range n).map ji) (fV R), .int A0, [], B0, r0) E.rg (vE E.ql.1 rfl pJ) (EA (by decide +kernel) (by decide +kernel) (by decide +kernel) (by decide +kernel) (by decide +kernel) _ _ _) rfl (by dsimp only [dB]; exact ⟨hri, by omega, by decide, fun q hq => by cases hq⟩) (dM (by rw [es0]; exact hri))) (t2 := .lst (r0.map T.sh)) (by show T.lst ((di r0 []).map T.sh) = _; rw [es0]))) (vL E.aR.1) hd0 hd0).1 (fun _ => Cj (vp (ud (bR (c_ (bs.map jW, hh.map .str, xs.map It.d, n, fV R, A0, [], B0, some r0) E.E3 E.sR (aA (vE E.ql.1 rfl pJ) (aA (bE E.fK) (aA (vL E.aK.1) b7))) hA rfl) (t2 := .sh (.bl true)) rfl)))))))
   (fun hp => absurd hp (by rw [eU hd0]; decide)) (fun _ => az ?_)
 refine aX E.g E.bX aj ?_
 have htl := Tt a 16 40
 refine qj E.g E.C1 (fun j δ => ∃ (A : Nat) (B : List Int) (L : List (Nat × List Int × List L3.D)) (o9 OZ Vy o12 : Option T), (A < n /\ B.length = bs.length /\ L.length = j) /\ (∀ q ∈ L, q.2.2.length <= 200 /\ D.bQ q.2.2 = true /\ ∀ d ∈ q.2.2, gX 59 d) /\ δ = [some (.sh (.lst (a.map .int))), some pw, some (.sh (cD (bs.map jW) (hh.map .str) (xs.map It.d) ((List.range n).map ji) (fV R))), some (.ins "FlatRun" (cX (cD (bs.map jW) (hh.map .str) (xs.map It.d) ((List.range n).map ji) (fV R)) (.int A) (j0 L) B (u9 (some r0)))), some (.lst ((B.map .int).map T.sh)), some (.lst ((di r0 L).map T.sh)), some (.sh (.lst ((aD xs).map .str))), some (.sh (.int A)), some (.sh (.int (j : Nat))), o9, OZ, Vy, o12])
   (oZ (iD (ds := (Y7 a 16 40).map .int) (bR (c_ ((a, 16, 40)) E.T7 E.Dj (aA (bE E.bK) (aA (ai aj) (aA (ai aj) b7))) (by dsimp only [oG]; exact (⟨by omega, by decide, by decide, by decide⟩)) (pG _)) rfl))) ⟨A0, B0, [], _, _, _, _, ⟨hA, hB, rfl⟩, fun q hq => absurd hq List.not_mem_nil, by rw [es0]; rfl⟩ (fun j δ ⟨_, _, _, _, _, _, _, _, _, e⟩ => by subst e; exact Nat.le_of_ble_eq_true rfl) ?turn ?fin
 case turn =>
   rintro j d δ hj ⟨A, B, L, o9, OZ, Vy, o12, ⟨hA, hB, hL⟩, hq, rfl⟩
   obtain ⟨c, rfl, _, hcm, Fl, _, _⟩ := Np hj
   have hLl : L.length <= 63 := by omega
   have hsl := Lg (r := r0) fun q h => (hq q h).1
   have c1 := ahB (c % 7) (b := 3) (by decide)
   have c2 := ahn (c % 7) (b := 3) (by decide)
   refine aX E.g E.kh (bR (cE (eY (ju (xE (xD (l := sgL) rfl) (ay rfl))) (ai (oY (ai (oY (bE E.C1) (ai aj) (by decide))) (ai aj) (by decide))) (yG Str.empty (l := sgL) c1 (show c % 7 % 3 < 3 from c2))) rfl) (t2 := .sh (.str (sgN c))) rfl) ?_
   have hsg : ∀ x ∈ [sgN c], PyData.strOk x = true := fun x hx => by rw [ahN.mp hx]; exact Yi c
   generalize sgN c = sg at hsg ⊢
   refine aX E.g E.Jq (c7 bF (ahs _)) ?_
   refine fJ E.g E.fK (cM2 (fun y z => (y, z, bs.length, n, bs.map jW, xs.map It.d, (List.range n).map ji, hh, R, A, [sg], B, [])) (.lst (((xM R hh ([sg], A, B)).map .int).map T.sh)) (.lst ((nU R hh ([sg], A, B)).map T.sh)) E.Jr E.uP (cu (v_ E.cG.1) (cu (v_ E.fK.1) (cu (iD (ds := [.str sg]) (c7 (aT (v_ E.kh.1) bF) (ay rfl))) (iE E.aK.1 rfl rfl (iE E.Jq.1 rfl rfl cj))))) (fun _ _ _ => by dsimp only [k6]; exact ⟨hG, hN, hA, hB, by simp, hsg, Nat.zero_le _⟩) (t := .sh (.int (xK R hh ([sg], A, B)))) (fun _ _ _ => rfl) (fun y z _ => ⟨rfl, .inl rfl, rfl, .inl rfl, trivial⟩)) ?_
   refine fJ E.g E.dO (qM (dl := [.str sg]) (fun z => (z, bs.length, n, bs.map jW, xs.map It.d, (List.range n).map ji, hh, R, A, j0 L, B, some r0, sg)) (.ins "FlatRun" (cX (cD (bs.map jW) (hh.map .str) (xs.map It.d) ((List.range n).map ji) (fV R)) (.int (xK R hh ([sg], A, B))) (j0 L ++ [.tup [.int A, .lst (B.map .int), .lst (nU R hh ([sg], A, B))]]) (xM R hh ([sg], A, B)) (u9 (some r0)))) E.AW E.ql.1 (.own rfl) (aT (v_ E.kh.1) bF) (fun z _ => by dsimp only [fD]; exact ⟨hG, hA, hB, by unfold j0; rw [List.length_map]; omega⟩) (t := .lst ((nU R hh ([sg], A, B)).map T.sh)) (fun z _ => rfl) (fun z _ => ⟨rfl, .inl rfl, trivial⟩) (CM (by decide +kernel) (by decide +kernel) (by decide +kernel) (by decide +kernel) (by decide +kernel)) (fun z _ => rfl)) ?_
   have epa : j0 L ++ [L3.D.tup [.int A, .lst (B.map .int), .lst (nU R hh ([sg], A, B))]] = j0 (L ++ [(A, B, nU R hh ([sg], A, B))]) := by unfold j0; rw [ag1]; rfl
   rw [epa]
   clear epa
   obtain ⟨_, _, hA2, hB2, _⟩ := pL hG (cs := [sg]) hA hB 8
   obtain ⟨hr1, hr2⟩ := Gz hG (cs := [sg]) hA hB
   have Y8 := Jo hG hA hB hsg
   have hA2 : xK R hh ([sg], A, B) < n := hA2
   have hB2 : (xM R hh ([sg], A, B)).length = bs.length := hB2
   have hq2 : ∀ q ∈ L ++ [(A, B, nU R hh ([sg], A, B))], q.2.2.length <= 200 /\ D.bQ q.2.2 = true /\ ∀ d ∈ q.2.2, gX 59 d := fun q h => by
     rcases ag0.mp h with z | z
     . exact hq q z
     . rw [ahN.mp z]
       exact ⟨ahM hr1 (by decide), hr2, Y8⟩
   have hL2 : (L ++ [(A, B, nU R hh ([sg], A, B))]).length = j + 1 := by rw [ahc, hL]; rfl
   have est : di r0 (L ++ [(A, B, nU R hh ([sg], A, B))]) = di r0 L ++ nU R hh ([sg], A, B) := GN _ _ _
   generalize L ++ [(A, B, nU R hh ([sg], A, B))] = L2 at hq2 hL2 est ⊢
   generalize nU R hh ([sg], A, B) = fr at hr1 hr2 Y8 est ⊢
   generalize xK R hh ([sg], A, B) = A2 at hA2 ⊢
   generalize xM R hh ([sg], A, B) = B2 at hB2 ⊢
   show cU X CL b _ [some (.sh (.lst (a.map .int))), some pw, some (.sh (cD (bs.map jW) (hh.map .str) (xs.map It.d) ((List.range n).map ji) (fV R))), some (.ins "FlatRun" (cX (cD (bs.map jW) (hh.map .str) (xs.map It.d) ((List.range n).map ji) (fV R)) (.int A2) (j0 L2) B2 (u9 (some r0)))), some (.lst ((B2.map .int).map T.sh)), some (.lst ((di r0 L).map T.sh)), some (.sh (.lst ((aD xs).map .str))), some (.sh (.int A2)), some (.sh (.int (j : Nat))), some (.sh (.int c)), some (.sh (.str sg)), some (.lst (fr.map T.sh)), some (.lst (fr.map T.sh))] _
   have Ra : gX 60 (.lst fr) := .lst Y8
   have hpl : (j0 L2).length = j + 1 := by unfold j0; rw [agU]; exact hL2
   refine aX E.g E.bX (bR (k9 (bE E.bX) (ai aj)) (t2 := .sh (.int ((j + 1 : Nat) : Int))) rfl) ?_
   refine dJ (Kd (sI (vp (ud (isL E.iO E.dS E.iN E.dR (vL E.dO.1)))) (fun _ => sI (tD E.u (vL (ds := fr) E.dO.1) (vL (ds := fr) E.Jq.1) Ra Ra).1 (fun _ => sI (vp (ud (bR (c_ (bs.map jW, hh.map .str, xs.map It.d, n, fV R, A2, j0 L2, B2, some r0) E.E3 E.sR (aA (vE E.ql.1 rfl pJ) (aA (bE E.fK) (aA (vL E.aK.1) b7))) hA2 rfl) (t2 := .sh (.bl true)) rfl))) (fun _ => Cj (Cg (ai (bR (YW (cD (bs.map jW) (hh.map .str) (xs.map It.d) ((List.range n).map ji) (fV R), .int A2, j0 L2, B2, EF (some r0)) E.uQ (vE E.ql.1 rfl pJ) (EA (by decide +kernel) (by decide +kernel) (by decide +kernel) (by decide +kernel) (by decide +kernel) _ _ _) rfl trivial rfl) (t2 := .sh (.int ((j + 1 : Nat) : Int))) (by show T.sh (.int (((j0 L2).length : Nat) : Int)) = _; rw [hpl]))) (bE E.bX)).1)))))
     (fun hp => absurd hp (by rw [eU Ra]; simp)) (fun _ => az ?_)
   refine Es E.aR.1 rfl (vM E.Jq.1) rfl (by rw [agU, agU]; omega) (az ⟨A2, B2, L2, some (.sh (.int c)), some (.sh (.str sg)), none, some (.lst (fr.map T.sh)), ⟨hA2, hB2, hL2⟩, hq2, ?_⟩)
   rw [est, ag1 (l₁ := di r0 L)]
   rfl
 case fin =>
   rintro δ ⟨A, B, L, o9, OZ, Vy, o12, ⟨hA, hB, hL⟩, hq, rfl⟩
   rw [agU] at hL
   have hdl : gX 60 (.lst (di r0 L)) := .lst (BP hrd fun q h => (hq q h).2.2)
   have YV : D.bQ (di r0 L) = true := pB (BP (P := fun d => d.mw = true) (gP hri) fun q h => gP (hq q h).2.1)
   exact ck (bR (qE E.u (ju (ds := di r0 L) (bR (YW (cD (bs.map jW) (hh.map .str) (xs.map It.d) ((List.range n).map ji) (fV R), .int A, L, B, r0) E.rg (vE E.ql.1 rfl pJ) (EA (by decide +kernel) (by decide +kernel) (by decide +kernel) (by decide +kernel) (by decide +kernel) _ _ _) rfl (by dsimp only [dB]; exact ⟨hri, by omega, by omega, fun q h => ⟨(hq q h).1, (hq q h).2.1⟩⟩) (dM YV)) (t2 := .lst ((di r0 L).map T.sh)) rfl)) (vL E.aR.1) hdl hdl).2 (t2 := .sh (.bl true)) (by rw [eU hdl])) rfl
theorem dm : pA (ao Jp) ([("script", av), ("part", av), ("table", av), ("run", av), ("boxes", av), ("rows", av), ("called", av), ("flat", av), ("many", av), ("cell", av), ("sign", av), ("fed", av), ("heard", av), ("_law_pieces", aG), ("Table", aG), ("_law_keeps", aG), ("FlatRun", aG), ("_law_done", aG), ("_law_dealt", aG), ("isinstance", aG), ("Runner", aG), ("_law_stands", aG), ("_law_turns", aG), ("list", aG)]) = true := by decide +kernel
theorem Pz : aS ["script", "part", "table", "run", "boxes", "rows", "called", "flat", "many", "cell", "sign", "fed", "heard"] ["script"] (ao Jp) := bz
noncomputable def cl (ak ah au : Addr) : Str -> Addr := fun c => if c = "Runner" then ak else if c = "FlatRun" then ah else if c = "Table" then au else 0
theorem gF {ak ah au : Addr} : cl ak ah au "Runner" = ak := by unfold cl; rw [ag9 rfl]
theorem aN {ak ah au : Addr} : cl ak ah au "FlatRun" = ah := by unfold cl; rw [ag2 (by decide +kernel)]; rw [ag9 rfl]
theorem j3 {ak ah au : Addr} : cl ak ah au "Table" = au := by unfold cl; rw [ag2 (by decide +kernel)]; rw [ag2 (by decide +kernel)]; rw [ag9 rfl]
theorem Yj {ak ah au : Addr} {x : Str} (h : HQ x = true) : cl ak ah au x = 0 := by unfold cl; rw [ag2 (fun e => by rw [e] at h; exact absurd h (by decide +kernel))]; rw [ag2 (fun e => by rw [e] at h; exact absurd h (by decide +kernel))]; rw [ag2 (fun e => by rw [e] at h; exact absurd h (by decide +kernel))]
theorem all_mk {l : PySem.W.OpenLaw} {w : World} {K : PySem.W.Frag} {h : Heap} {mg : Str -> Option Value} {fa BQ GO GP Dl zB PB E4 Dm Js vR Jt Dn iZ g9 gG E5 Ju kQ Jv sS E6 PC zC wI Jw zE fT i6 gW i7 jP i9 kR Vz ak ah au : Addr} (XX : K.In h) (G : h.Ns mainGlobals mg) (hfa : mg "law" = some (.ref fa))
   {Lk Yk Yl T8 PD Ym PF T9 Ua Lp Ub Uc zF wY vS PJ Ud Dp pV m7 zl GC tN jZ Dc tO uR zG AX zH AY zI Dq VA : FuncData}
   (zJ : um K "Runner" ak) (vU : PySem.W.plainGet K ak Str.empty = true) (vV : PySem.W.hasDictIn K ak = true) (vW : PySem.W.plainOver K ak = true) (vX : PySem.W.findIn K (.ref ak) "__setattr__" = some (some (.builtin "object.__setattr__"))) (BR : PySem.W.makesIn K ak = true) (BU : PySem.W.keepIn K (.ref ak) = true)
   (lQ : PySem.W.findIn K (.ref ak) "place" = some none)
   (m9 : PySem.W.findIn K (.ref ak) "past" = some none)
   (lR : PySem.W.findIn K (.ref ak) "boxes" = some none)
   (gM : PySem.W.findIn K (.ref ak) "first_rows" = some none)
   (vY : um K "FlatRun" ah) (tP : PySem.W.plainGet K ah Str.empty = true) (tQ : PySem.W.hasDictIn K ah = true) (tR : PySem.W.plainOver K ah = true) (tS : PySem.W.findIn K (.ref ah) "__setattr__" = some (some (.builtin "object.__setattr__"))) (tT : PySem.W.makesIn K ah = true) (tU : PySem.W.keepIn K (.ref ah) = true)
   (ko : PySem.W.findIn K (.ref ah) "table" = some none)
   (kr : PySem.W.findIn K (.ref ah) "place" = some none)
   (lS : PySem.W.findIn K (.ref ah) "past" = some none)
   (ku : PySem.W.findIn K (.ref ah) "boxes" = some none)
   (gi : PySem.W.findIn K (.ref ah) "first_rows" = some none)
   (Dr : um K "Table" au) (zK : PySem.W.plainGet K au Str.empty = true) (zL : PySem.W.hasDictIn K au = true) (zM : PySem.W.plainOver K au = true) (zN : PySem.W.findIn K (.ref au) "__setattr__" = some (some (.builtin "object.__setattr__"))) (zO : PySem.W.makesIn K au = true) (zP : PySem.W.keepIn K (.ref au) = true)
   (ng : PySem.W.findIn K (.ref au) "boxes" = some none)
   (nh : PySem.W.findIn K (.ref au) "signs" = some none)
   (ni : PySem.W.findIn K (.ref au) "begin" = some none)
   (nj : PySem.W.findIn K (.ref au) "flats" = some none)
   (qa : PySem.W.findIn K (.ref au) "rows" = some none)
   (GQ : PySem.W.findIn K (.ref ah) "__class__" = some (some (.builtin "object.__class__"))) (GR : PySem.W.specialIn K (.builtin "object.__class__") "__get__" = some (some (.builtin "getset_descriptor.__get__"))) (GU : PySem.W.takesIn K (.builtin "object.__class__") = some true) (GV : PySem.W.mroIn K ah (.type "object") = some true)
   (oQ : PySem.W.kitOne K (.ref ah) (.ref ak) = some true)
   (vZ : um K "_law_cell_at" BQ) (Lq : mV K "_law_cell_at" "_law_cell_at" rK BQ Lk)
   (GX : um K "_law_take" GO) (tV : mV K "_law_take" "_law_take" CP GO Yk)
   (GY : um K "_law_term" GP) (Ds : mV K "_law_term" "_law_term" CV GP Yl)
   (Dt : um K "_law_piece" Dl) (Du : mV K "_law_piece" "_law_piece" xO Dl T8)
   (zQ : um K "_law_script" zB) (uS : mV K "_law_script" "_law_script" uq zB PD)
   (GZ : um K "_law_rows" PB) (Yn : mV K "_law_rows" "_law_rows" CY PB Ym)
   (zR : um K "_law_pieces" E4) (PK : mV K "_law_pieces" "_law_pieces" uA E4 PF)
   (Dv : um K "_law_keeps" Dm) (Dw : mV K "_law_keeps" "_law_keeps" xR Dm T9)
   (Dy : um K "_law_worth" Js) (Ue : mV K "_law_worth" "_law_worth" xT Js Ua)
   (v5 : um K "_law_done" vR) (sr : mV K "_law_done" "_law_done" rP vR Lp)
   (Dz : um K "_law_asked" Jt) (Ug : mV K "_law_asked" "_law_asked" xV Jt Ub)
   (DB : um K "_law_dealt" Dn) (DC : mV K "_law_dealt" "_law_dealt" xX Dn Uc)
   (lT : PySem.W.findIn K (.ref ah) "flat" = some (some (.ref iZ))) (lU : PySem.W.isFn K (.ref iZ) = true) (lV : mV K "flat" "FlatRun.flat" iL iZ zF)
   (kB : PySem.W.findIn K (.ref ah) "moods" = some (some (.ref g9))) (kC : PySem.W.isFn K (.ref g9) = true) (kD : mV K "moods" "FlatRun.moods" gY g9 wY)
   (jC : PySem.W.findIn K (.ref ah) "numbers" = some (some (.ref gG))) (jD : PySem.W.isFn K (.ref gG) = true) (jE : mV K "numbers" "Runner.numbers" gB gG vS)
   (zS : um K "_law_stands" E5) (PL : mV K "_law_stands" "_law_stands" uD E5 PJ)
   (DE : um K "_law_turns" Ju) (Uh : mV K "_law_turns" "_law_turns" x6 Ju Ud)
   (qb : PySem.W.findIn K (.ref au) "__init__" = some (some (.ref kQ))) (qc : PySem.W.isFn K (.ref kQ) = true) (uT : mV K "__init__" "Table.__init__" kJ kQ Dp)
   (DF : um K "value" Jv) (Ui : mV K "value" "value" x9 Jv pV)
   (nk : um K "with_number" sS) (AZ : mV K "with_number" "with_number" jJ sS m7)
   (zT : um K "redone" E6) (PN : mV K "redone" "redone" uG E6 zl)
   (G0 : um K "done" PC) (Yo : mV K "done" "done" C7 PC GC)
   (tW : um K "all_done" zC) (G3 : mV K "all_done" "all_done" pW zC tN)
   (rm : um K "performed" wI) (E7 : mV K "performed" "performed" mP wI jZ)
   (DG : um K "holds" Jw) (Uj : mV K "holds" "holds" yd Jw Dc)
   (tX : um K "all_hold" zE) (G4 : mV K "all_hold" "all_hold" pY zE tO)
   (ja : PySem.W.findIn K (.ref ah) "step_at" = some (some (.ref fT))) (jb : PySem.W.isFn K (.ref fT) = true) (jc : mV K "step_at" "FlatRun.step_at" fQ fT uR)
   (jd : PySem.W.findIn K (.ref ah) "dealt" = some (some (.ref i6))) (je : PySem.W.isFn K (.ref i6) = true) (jf : mV K "dealt" "Runner.dealt" iR i6 zG)
   (sU : PySem.W.findIn K (.ref ak) "__init__" = some (some (.ref gW))) (sV : PySem.W.isFn K (.ref gW) = true) (nq : mV K "__init__" "Runner.__init__" jL gW AX)
   (lW : PySem.W.specialIn K (.ref ak) "__getattribute__" = some (some (.builtin "type.__getattribute__"))) (lX : PySem.W.readsIn K ak (.type "type") = true) (lY : PySem.W.findCls K (.ref ak) (.type "type") "__init__" = some (.val (.ref gW)))
   (lZ : PySem.W.findIn K (.ref ah) "__init__" = some (some (.ref i7))) (l0 : PySem.W.isFn K (.ref i7) = true) (rq : mV K "__init__" "FlatRun.__init__" iT i7 zH)
   (nu : PySem.W.findIn K (.ref ah) "feed" = some (some (.ref jP))) (ny : PySem.W.isFn K (.ref jP) = true) (nA : mV K "feed" "Runner.feed" jN jP AY)
   (mh : PySem.W.findIn K (.ref ah) "story" = some (some (.ref i9))) (mj : PySem.W.isFn K (.ref i9) = true) (mq : mV K "story" "Runner.story" iU i9 zI)
   (qd : PySem.W.findIn K (.ref ah) "fed" = some (some (.ref kR))) (qe : PySem.W.isFn K (.ref kR) = true) (qf : mV K "fed" "Runner.fed" kO kR Dq)
   (Jx : um K "law" Vz) (PR : mV K "law" "law" Jp Vz VA)
   (PV : PySem.W.nsIn K mainGlobals "len" = some none)
   (PX : PySem.W.nsIn K mainGlobals "str" = some none)
   (DH : PySem.W.nsIn K mainGlobals "tuple" = some none)
   (DI : PySem.W.nsIn K mainGlobals "range" = some none)
   (G5 : PySem.W.nsIn K mainGlobals "list" = some none)
   (qg : PySem.W.nsIn K mainGlobals "isinstance" = some none)
   (PY : PySem.W.nsIn K mainGlobals "int" = some none)
   (y_bool : PySem.W.nsIn K mainGlobals "bool" = some none)
   (PZ : PySem.W.nsIn K mainGlobals "min" = some none)
   (P0 : PySem.W.nsIn K mainGlobals "max" = some none)
   (P1 : PySem.W.nsIn K mainGlobals "sum" = some none)
   {P4 : Tok} (DJ : PySem.W.nsIn K mainGlobals "AFTER" = some (some (.int 3 P4)))
   {Jy : Addr} {P5 : Option Addr} {yc : Nat} {P6 : Array (Option Value)} {G6 G7 G8 G9 : Tok} (DK : PySem.W.nsIn K mainGlobals "MARKS" = some (some (.ref Jy))) (zU : K.lookup Jy = some ⟨.type "tuple", P5, .seq #[.str "out" G6, .str "keep" G7, .str "way" G8, .str "in" G9] yc, P6⟩)
   {A1 : Tok} (qh : PySem.W.nsIn K mainGlobals "MOST_SIGNS" = some (some (.int 8 A1)))
   : ∃ fd : FuncData, (∀ (s : Shared) (v : Value), BindsTo s fd ⟨[v], []⟩ [("script", v)]) /\ ∀ base : Heap, K.In base -> base.Ns mainGlobals mg -> cQ l.prog w K mg base kU 11 fa fd ["script"] (Az K (fun _ => 0) 1 sd se sf) := by
 have e := hfa.symm.trans (ahL XX G Jx)
 cases e
 have zV := ahL XX G GX
 have zW := tV.binds (ps := ["pot", "many"]) fun _ _ _ _ _ _ => by refine eV ?_; exact fun _ _ => rfl
 have P7 := ahL XX G GY
 have P8 := Ds.binds (ps := ["pot", "many"]) fun _ _ _ _ _ _ => by refine eV ?_; exact fun _ _ => rfl
 have Uk := ahL XX G Dt
 have Ul := Du.binds (ps := ["pot", "many", "heard"]) fun _ _ _ _ _ _ => by refine eV ?_; exact fun _ _ _ => rfl
 have E8 := ahL XX G zQ
 have E9 := uS.binds (ps := ["pot", "many", "heard"]) fun _ _ _ _ _ _ => by refine eV ?_; exact fun _ _ _ => rfl
 have Um := ahL XX G Dv
 have Uo := Dw.binds (ps := ["script", "table", "part"]) fun _ _ _ _ _ _ => by refine eV ?_; exact fun _ _ _ => rfl
 have BV := ahL XX G v5
 have BW := sr.binds (ps := ["script", "boxes", "rows"]) fun _ _ _ _ _ _ => by refine eV ?_; exact fun _ _ _ => rfl
 have Up := ahL XX G DB
 have Uq := DC.binds (ps := ["table", "flat", "waiting", "boxes", "rows"]) fun _ _ _ _ _ _ => by refine eV ?_; exact fun _ _ _ _ _ => rfl
 have zX := lV.binds (ps := ["self"]) fun _ _ _ _ _ _ => by refine eV ?_; exact fun _ => rfl
 have wZ := kD.binds (ps := ["self"]) fun _ _ _ _ _ _ => by refine eV ?_; exact fun _ => rfl
 have v7 := jE.binds (ps := ["self"]) fun _ _ _ _ _ _ => by refine eV ?_; exact fun _ => rfl
 have DL := uT.binds (ps := ["self", "boxes", "signs", "begin", "flats", "rows"]) fun _ _ _ _ _ _ => by refine eV ?_; exact fun _ _ _ _ _ _ => rfl
 have uU := jc.binds (ps := ["self", "sign"]) fun _ _ _ _ _ _ => by refine eV ?_; exact fun _ _ => rfl
 have rz := jf.binds (ps := ["self", "called"]) fun _ _ _ _ _ _ => by refine eV ?_; exact fun _ _ => rfl
 have A3 := nq.binds (ps := ["self", "boxes", "place", "script"]) fun _ _ _ _ _ _ => by refine eV ?_; exact fun _ _ _ _ => rfl
 have zY := rq.binds (ps := ["self", "table"]) fun _ _ _ _ _ _ => by refine eV ?_; exact fun _ _ => rfl
 have A4 := nA.binds (ps := ["self", "sign"]) fun _ _ _ _ _ _ => by refine eV ?_; exact fun _ _ => rfl
 have zZ := mq.binds (ps := ["self"]) fun _ _ _ _ _ _ => by refine eV ?_; exact fun _ => rfl
 have DM := qf.binds (ps := ["self"]) fun _ _ _ _ _ _ => by refine eV ?_; exact fun _ => rfl
 have aeS := ahL XX G Jx
 have aeT := PR.binds (ps := ["script"]) fun _ _ _ _ _ _ => by refine eV ?_; exact fun _ => rfl
 have Fb := ahL XX G zJ
 have P9 : j5 K ak := ⟨vU, vV, vW, vX⟩
 have abv : j5 K ((cl ak ah au) "Runner") := by rw [gF]; exact P9
 have Qa : aF K ((cl ak ah au) "Runner") "place" := by rw [gF]; exact lQ
 have QC : aF K ((cl ak ah au) "Runner") "past" := by rw [gF]; exact m9
 have Qc : aF K ((cl ak ah au) "Runner") "boxes" := by rw [gF]; exact lR
 have Ft : aF K ((cl ak ah au) "Runner") "first_rows" := by rw [gF]; exact gM
 have Lr := ahL XX G vY
 have aB : j5 K ah := ⟨tP, tQ, tR, tS⟩
 have dD : j5 K ((cl ak ah au) "FlatRun") := by rw [aN]; exact aB
 have kE : aF K ((cl ak ah au) "FlatRun") "table" := by rw [aN]; exact ko
 have dZ : aF K ((cl ak ah au) "FlatRun") "place" := by rw [aN]; exact kr
 have jg : aF K ((cl ak ah au) "FlatRun") "past" := by rw [aN]; exact lS
 have cg : aF K ((cl ak ah au) "FlatRun") "boxes" := by rw [aN]; exact ku
 have j4 : aF K ((cl ak ah au) "FlatRun") "first_rows" := by rw [aN]; exact gi
 have Ur := ahL XX G Dr
 have bA : j5 K au := ⟨zK, zL, zM, zN⟩
 have jh : j5 K ((cl ak ah au) "Table") := by rw [j3]; exact bA
 have cT : aF K ((cl ak ah au) "Table") "boxes" := by rw [j3]; exact ng
 have nB : aF K ((cl ak ah au) "Table") "signs" := by rw [j3]; exact nh
 have jQ : aF K ((cl ak ah au) "Table") "begin" := by rw [j3]; exact ni
 have nE : aF K ((cl ak ah au) "Table") "flats" := by rw [j3]; exact nj
 have kT : aF K ((cl ak ah au) "Table") "rows" := by rw [j3]; exact qa
 have z6 := ahO XX G PV
 have VB := ahO XX G PX
 have DN := ahO XX G DH
 have uV := ahO XX G DI
 have nF := ahO XX G G5
 have uW := ahO XX G qg
 have abw := ahO XX G PY
 have Yp := ahO XX G y_bool
 have abx := ahO XX G PZ
 have aby := ahO XX G P0
 have abz := ahO XX G P1
 have Us : ∃ u, mg "AFTER" = some (.int 3 u) := ⟨_, ahL XX G DJ⟩
 have Ut := ahL XX G DK
 have DP : ∃ u, mg "MOST_SIGNS" = some (.int 8 u) := ⟨_, ahL XX G qh⟩
 refine ⟨VA, ?bind, fun base _ _ => ?_⟩
 case bind =>
   obtain ⟨oc, od, kV, doc, pm, an, gO, ct, QY, rfl, lk, mS⟩ := PR.ex
   exact fun s v => .of_eq rfl
 have q := @Xn l.prog w mg base K h (cl ak ah au) XX G
 have Ls := q 0 mG mH mJ Lq GA vZ fun _ _ _ _ _ _ _ _ hr u p => K8 (by exact ⟨u, bJ tL 0, bJ tL 1, fY tL 2, z6⟩) p
 have z7 : cQ l.prog w K mg base kU 1 GO _ ["pot", "many"] (Ew K (cl ak ah au) 2 iG pre_take iH gS) := mW tV Jb (fun a hp => by
   obtain ⟨p0, p1, p2⟩ := a; dsimp only [iG, gS]
   repeat (first | exact trivial | refine ⟨rfl, ?_⟩)) fun gO Ar outer s H E b a hr hp => by
   obtain ⟨p0, p1, p2⟩ := a; refine XS ?_ p0 p1 p2 hp
   exact ⟨⟨⟨Jb.nd, rfl, .never⟩, hr.units⟩, bJ CT 0, bJ CT 1, bJ CT 2⟩
 have Qd : cQ l.prog w K mg base kU 2 GP _ ["pot", "many"] (Ew K (cl ak ah au) 2 nX qO nY lG) := mW Ds Jc (fun a hp => by
   obtain ⟨p0, p1, p2⟩ := a; dsimp only [nX, lG]
   repeat (first | exact trivial | refine ⟨rfl, ?_⟩)) fun gO Ar outer s H E b a hr hp => by
   obtain ⟨p0, p1, p2⟩ := a; refine XU ?_ p0 p1 p2 hp
   exact ⟨⟨⟨Jc.nd, rfl, .never⟩, hr.units⟩, bJ xN 0, bJ xN 1, bJ xN 2, fY xN 3, ⟨⟨_, _, _, z7, zV, tV.kp, zW⟩, hr.mono (by decide)⟩⟩
 have Uu : cQ l.prog w K mg base kU 3 Dl _ ["pot", "many", "heard"] (Ew K (cl ak ah au) 3 n5 rM n9 kX) := mW Du EK (fun a hp => by
   obtain ⟨p0, p1, p2, p3⟩ := a; dsimp only [n5, kX]
   repeat (first | exact trivial | refine ⟨rfl, ?_⟩)) fun gO Ar outer s H E b a hr hp => by
   obtain ⟨p0, p1, p2, p3⟩ := a; refine SJ ?_ p0 p1 p2 p3 hp
   exact ⟨⟨⟨EK.nd, rfl, .never⟩, hr.units⟩, bJ iI 0, bJ iI 1, bJ iI 2, bJ iI 3, bJ iI 4, fY iI 5, fY iI 6, fY iI 7, fY iI 8, ⟨⟨_, _, _, z7, zV, tV.kp, zW⟩, hr.mono (by decide)⟩, ⟨⟨_, _, _, Qd, P7, Ds.kp, P8⟩, hr.mono (by decide)⟩, VB, z6⟩
 have Fd : cQ l.prog w K mg base kU 4 zB _ ["pot", "many", "heard"] (Ew K (cl ak ah au) 3 jy lH jz ic) := mW uS BL (fun a hp => by
   obtain ⟨p0, p1, p2, p3⟩ := a; dsimp only [jy, ic]
   repeat (first | exact trivial | refine ⟨rfl, ?_⟩)) fun gO Ar outer s H E b a hr hp => by
   obtain ⟨p0, p1, p2, p3⟩ := a; refine OY ?_ p0 p1 p2 p3 hp
   exact ⟨⟨⟨BL.nd, rfl, .never⟩, hr.units⟩, Xc gu 0, jF gu 0 rfl, Xc gu 1, jF gu 1 rfl, Xc gu 2, jF gu 2 rfl, fY gu 3, fY gu 4, fY gu 5, DN, uV, ⟨⟨_, _, _, z7, zV, tV.kp, zW⟩, hr.mono (by decide)⟩, ⟨⟨_, _, _, Uu, Uk, Du.kp, Ul⟩, hr.mono (by decide)⟩⟩
 have Yq := q 4 ux qP uy Yn SQ GZ fun _ _ _ _ _ _ _ _ hr u p => XZ (by exact ⟨u, bJ d9 0, bJ d9 1, bJ d9 2, bJ d9 3, bJ d9 4, bJ d9 5, bJ d9 6, bJ d9 7, bJ d9 8, bJ d9 9, bJ d9 10, bJ d9 11, fY d9 12, fY d9 13, fY d9 14, fY d9 15, fY d9 16, uV, ⟨⟨_, _, _, z7, zV, tV.kp, zW⟩, hr.mono (by decide)⟩, ⟨⟨_, _, _, Qd, P7, Ds.kp, P8⟩, hr.mono (by decide)⟩, ⟨⟨_, _, _, Fd, E8, uS.kp, E9⟩, hr.mono (by decide)⟩, DN⟩) p
 have Fe := q 5 lI lJ lK PK K9 zR fun _ _ _ _ _ _ _ _ hr u p => O4 (by exact ⟨u, Xc bZ 0, jF bZ 0 rfl, bJ bZ 1, bJ bZ 2, bJ bZ 3, bJ bZ 4, bJ bZ 5, bJ bZ 6, bJ bZ 7, bJ bZ 8, bJ bZ 9, bJ bZ 10, fY bZ 11, fY bZ 12, fY bZ 13, fY bZ 14, fY bZ 15, fY bZ 16, pD Ls hr, ⟨⟨_, _, _, z7, zV, tV.kp, zW⟩, hr.mono (by decide)⟩, uV, z6, pD Yq hr, ⟨⟨_, _, _, Fd, E8, uS.kp, E9⟩, hr.mono (by decide)⟩, VB⟩) p
 have Uv : cQ l.prog w K mg base kU 7 Dm _ ["script", "table", "part"] (Ew K (cl ak ah au) 3 oh rO oi kY) := mW Dw ER (fun a hp => by
   obtain ⟨p0, p1⟩ := a; dsimp only [oh, kY]
   repeat (first | exact trivial | refine ⟨rfl, ?_⟩)) fun gO Ar outer s H E b a hr hp => by
   obtain ⟨p0, p1⟩ := a; refine SX ?_ p0 p1 hp
   exact ⟨⟨⟨ER.nd, rfl, .never⟩, hr.units⟩, bJ oj 0, bJ oj 1, bJ oj 2, bJ oj 3, bJ oj 4, fY oj 5, pD Fe hr, dD, jh, cg, cT, nB, jQ, nE, kT⟩
 have Jz := q 0 om oq ou Ue O8 Dy fun _ _ _ _ _ _ _ _ hr u p => S9 (by exact ⟨u, bJ EV 0, bJ EV 1⟩) p
 have BX : cQ l.prog w K mg base kU 2 vR _ ["script", "boxes", "rows"] (Ew K (cl ak ah au) 3 iw f6 iy fZ) := mW sr zc (fun a hp => by
   obtain ⟨p0, p1, p2, p3, p4⟩ := a; dsimp only [iw, fZ]
   repeat (first | exact trivial | refine ⟨rfl, ?_⟩)) fun gO Ar outer s H E b a hr hp => by
   obtain ⟨p0, p1, p2, p3, p4⟩ := a; refine Lb ?_ p0 p1 p2 p3 p4 hp
   exact ⟨⟨⟨zc.nd, rfl, .never⟩, hr.units⟩, bJ ig 0, bJ ig 1, bJ ig 2, bJ ig 3, bJ ig 4, bJ ig 5, fY ig 6, pD Jz hr⟩
 have Uw := q 1 rR oz rS Ug Pa Dz fun _ _ _ _ _ _ _ _ hr u p => Tf (by exact ⟨u, bJ iK 0, bJ iK 1, bJ iK 2, bJ iK 3, bJ iK 4, bJ iK 5, bJ iK 6, bJ iK 7, fY iK 8, pD Jz hr⟩) p
 have Ux : cQ l.prog w K mg base kU 3 Dn _ ["table", "flat", "waiting", "boxes", "rows"] (Ew K (cl ak ah au) 5 oA k6 oB kZ) := mW DC EX (fun a hp => by
   obtain ⟨p0, p1, p2, p3, p4, p5, p6, p7, p8, p9, VC, VD, VF⟩ := a; dsimp only [oA, kZ]
   repeat (first | exact trivial | refine ⟨rfl, ?_⟩)) fun gO Ar outer s H E b a hr hp => by
   obtain ⟨p0, p1, p2, p3, p4, p5, p6, p7, p8, p9, VC, VD, VF⟩ := a; refine Tq ?_ p0 p1 p2 p3 p4 p5 p6 p7 p8 p9 VC VD VF hp
   exact ⟨⟨⟨EX.nd, rfl, .never⟩, hr.units⟩, bJ fq 0, bJ fq 1, bJ fq 2, bJ fq 3, bJ fq 4, bJ fq 5, bJ fq 6, bJ fq 7, fY fq 8, fY fq 9, fY fq 10, fY fq 11, uV, pD Uw hr, ⟨⟨_, _, _, BX, BV, sr.kp, BW⟩, hr.mono (by decide)⟩, z6, jh, kT⟩
 have z8 : cQ l.prog w K mg base kU 1 iZ _ ["self"] (Az K (cl ak ah au) 1 gw gy gA) := mE lV qk fun gO Ar outer s H E b a hr hp => by
   refine zg ?_ hp
   exact ⟨⟨⟨qk.nd, rfl, .never⟩, hr.units⟩, bJ wU 0, dD, dZ⟩
 have w6 : cQ l.prog w K mg base kU 1 g9 _ ["self"] (Az K (cl ak ah au) 1 fN fO fP) := mE kD oF fun gO Ar outer s H E b a hr hp => by
   refine wW ?_ hp
   exact ⟨⟨⟨oF.nd, rfl, .never⟩, hr.units⟩, bJ oE 0, fY oE 1, nF, dD, jh, nE, dZ, kE⟩
 have v8 : cQ l.prog w K mg base kU 1 gG _ ["self"] (Az K (cl ak ah au) 1 e7 e9 fc) := mE jE mO fun gO Ar outer s H E b a hr hp => by
   refine vP ?_ hp
   exact ⟨⟨⟨mO.nd, rfl, .never⟩, hr.units⟩, bJ mL 0, fY mL 1, nF, dD, jh, cg, cT⟩
 have Qe := q 1 pO pP pQ PL Le zS fun _ _ _ _ _ _ _ _ hr u p => Ph (by exact ⟨u, bJ jA 0, bJ jA 1, bJ jA 2, bJ jA 3, fY jA 4, fY jA 5, fY jA 6, uW, abw, Yp, ⟨⟨_, _, _, by rw [aN]; exact ⟨lT, lU, lV.kp⟩, z8, zX⟩, hr.mono (by decide), by rw [aN]; exact aB⟩, ⟨⟨_, _, _, by rw [aN]; exact ⟨kB, kC, kD.kp⟩, w6, wZ⟩, hr.mono (by decide), by rw [aN]; exact aB⟩, ⟨⟨_, _, _, by rw [aN]; exact ⟨jC, jD, jE.kp⟩, v8, v7⟩, hr.mono (by decide), by rw [aN]; exact aB⟩⟩) p
 have Uy := q 0 rT oG rV Uh Pk DE fun _ _ _ _ _ _ _ _ hr u p => Tz (by exact ⟨u, Xc f9 0, jF f9 0 rfl, Xc f9 1, jF f9 1 rfl, Xc f9 2, jF f9 2 rfl, bJ f9 3, fY f9 4, fY f9 5, fY f9 6, fY f9 7, abx, aby, z6, uV, abz⟩) p
 have DQ : cQ l.prog w K mg base kU 1 kQ _ ["self", "boxes", "signs", "begin", "flats", "rows"] (YT K (cl ak ah au) "Table" 6 qU qV qW) := Ie uT sO fun gO Ar outer s H E b a y hr hp => by
   obtain ⟨p0, p1, p2, p3, p4⟩ := a; refine C6 ?_ p0 p1 p2 p3 p4 y hp
   exact ⟨⟨⟨sO.nd, rfl, .never⟩, hr.units⟩, bJ cR 0, bJ cR 1, bJ cR 2, bJ cR 3, bJ cR 4, bJ cR 5, bJ cR 6, fY cR 7, fY cR 8, nF, DN, dD, jh, cg, cT, nB, jQ, nE, kT⟩
 have JA := q 0 oH oJ oK Ui Pp DF fun _ _ _ _ _ _ _ _ hr u p => TJ (by exact ⟨u, bJ uF 0, bJ uF 1, bJ uF 2, bJ uF 3⟩) p
 have A5 := q 0 g4 g6 g7 AZ zk nk fun _ _ _ _ _ _ _ _ hr u p => AJ (by exact ⟨u, bJ gb 0, bJ gb 1, bJ gb 2, bJ gb 3, fY gb 4, nF⟩) p
 have Qf := q 1 pS pT pU PN Lf zT fun _ _ _ _ _ _ _ _ hr u p => Pr (by exact ⟨u, bJ rX 0, bJ rX 1, fY rX 2, fY rX 3, pD A5 hr, Us⟩) p
 have Yr := q 2 uI uJ uK Yo TQ G0 fun _ _ _ _ _ _ _ _ hr u p => Yg (by exact ⟨u, bJ rY 0, bJ rY 1, bJ rY 2, bJ rY 3, fY rY 4, fY rY 5, pD JA hr, pD Qf hr⟩) p
 have Hf := q 3 kK iP iQ G3 EY tW fun _ _ _ _ _ _ _ _ hr u p => GD (by exact ⟨u, bJ eu 0, bJ eu 1, bJ eu 2, bJ eu 3, bJ eu 4, bJ eu 5, bJ eu 6, fY eu 7, fY eu 8, nF, pD Yr hr⟩) p
 have wJ := q 4 gU eL gV E7 C9 rm fun _ _ _ _ _ _ _ _ hr u p => E1 (by exact ⟨u, bJ cS 0, bJ cS 1, bJ cS 2, bJ cS 3, bJ cS 4, bJ cS 5, bJ cS 6, fY cS 7, fY cS 8, fY cS 9, nF, aas Ut zU (ay rfl) (.cons ⟨_, rfl⟩ (.cons ⟨_, rfl⟩ (.cons ⟨_, rfl⟩ (.cons ⟨_, rfl⟩ (.nil))))), pD Hf hr⟩) p
 have Uz := q 1 rZ r6 r9 Uj Pw DG fun _ _ _ _ _ _ _ _ hr u p => TX (by exact ⟨u, bJ oM 0, bJ oM 1, bJ oM 2, bJ oM 3, bJ oM 4, fY oM 5, pD JA hr⟩) p
 have Hg := q 2 kL kM kN G4 E2 tX fun _ _ _ _ _ _ _ _ hr u p => GJ (by exact ⟨u, bJ mR 0, bJ mR 1, bJ mR 2, fY mR 3, pD Uz hr⟩) p
 have uX : cQ l.prog w K mg base kU 4 fT _ ["self", "sign"] (Az K (cl ak ah au) 2 eS c9 eT) := mE jc lN fun gO Ar outer s H E b a hr hp => by
   refine uN ?_ hp
   exact ⟨⟨⟨lN.nd, rfl, .never⟩, hr.units⟩, bJ fh 0, bJ fh 1, bJ fh 2, fY fh 3, pD Hg hr, dD, jh, nB, dZ, kE, kT, cg, cT⟩
 have rA : cQ l.prog w K mg base kU 6 i6 _ ["self", "called"] (Ew K (cl ak ah au) 2 dw cP dz cO) := mW jf qm (fun a hp => by
   obtain ⟨p0, p1, p2, p3, p4, p5, p6, p7, p8, p9, VC, VD, VF⟩ := a; dsimp only [dw, cO]
   repeat (first | exact trivial | refine ⟨rfl, ?_⟩)) fun gO Ar outer s H E b a hr hp => by
   obtain ⟨p0, p1, p2, p3, p4, p5, p6, p7, p8, p9, VC, VD, VF⟩ := a; refine zo ?_ p0 p1 p2 p3 p4 p5 p6 p7 p8 p9 VC VD VF hp
   exact ⟨⟨⟨qm.nd, rfl, .never⟩, hr.units⟩, bJ bB 0, bJ bB 1, bJ bB 2, bJ bB 3, bJ bB 4, bJ bB 5, bJ bB 6, bJ bB 7, fY bB 8, fY bB 9, fY bB 10, fY bB 11, nF, DP, pD wJ hr, z6, ⟨⟨_, _, _, by rw [aN]; exact ⟨ja, jb, jc.kp⟩, uX, uU⟩, hr.mono (by decide), by rw [aN]; exact aB⟩, dD, jh, dZ, cg, cT⟩
 have A6 : cQ l.prog w K mg base kU 7 gW _ ["self", "boxes", "place", "script"] (Ew K (cl ak ah au) 4 fu fz fB dX) := mW nq qZ (fun a hp => by
   obtain ⟨p0, p1, p2, p3, p4, p5, p6, p7, p8, p9⟩ := a; dsimp only [fu, dX]
   repeat (first | exact trivial | refine ⟨rfl, ?_⟩)) fun gO Ar outer s H E b a hr hp => by
   obtain ⟨p0, p1, p2, p3, p4, p5, p6, p7, p8, p9⟩ := a; refine AQ ?_ p0 p1 p2 p3 p4 p5 p6 p7 p8 p9 hp
   exact ⟨⟨⟨qZ.nd, rfl, .never⟩, hr.units⟩, bJ eW 0, bJ eW 1, bJ eW 2, bJ eW 3, bJ eW 4, fY eW 5, pD wJ hr, ⟨⟨_, _, _, by rw [aN]; exact ⟨jd, je, jf.kp⟩, rA, rz⟩, hr.mono (by decide), by rw [aN]; exact aB⟩, dD, jh, dZ, jg, cg, cT, j4⟩
 have z9 : cQ l.prog w K mg base kU 9 i7 _ ["self", "table"] (YT K (cl ak ah au) "FlatRun" 2 oN jB oO) := Ie rq qo fun gO Ar outer s H E b a y hr hp => by
   obtain ⟨p0, p1, p2, p3, p4, p5⟩ := a; refine zx ?_ p0 p1 p2 p3 p4 p5 y hp
   exact ⟨⟨⟨qo.nd, rfl, .never⟩, hr.units⟩, bJ ki 0, bJ ki 1, fY ki 2, ⟨⟨_, _, _, by rw [gF]; exact ⟨lW, lX, lY, nq.kp⟩, A6, by rw [gF]; exact Fb, A3⟩, hr.mono (by decide)⟩, dD, jh, kE, jQ, cg, cT⟩
 have A7 : cQ l.prog w K mg base kU 7 jP _ ["self", "sign"] (Ew K (cl ak ah au) 2 fC fD fE dY) := mW nA q8 (fun a hp => by
   obtain ⟨p0, p1, p2, p3, p4, p5, p6, p7, p8, p9, VC, VD, VF⟩ := a; dsimp only [fC, dY]
   repeat (first | exact trivial | refine ⟨rfl, ?_⟩)) fun gO Ar outer s H E b a hr hp => by
   obtain ⟨p0, p1, p2, p3, p4, p5, p6, p7, p8, p9, VC, VD, VF⟩ := a; refine AV ?_ p0 p1 p2 p3 p4 p5 p6 p7 p8 p9 VC VD VF hp
   exact ⟨⟨⟨q8.nd, rfl, .never⟩, hr.units⟩, bJ eX 0, bJ eX 1, bJ eX 2, bJ eX 3, bJ eX 4, fY eX 5, nF, ⟨⟨_, _, _, by rw [aN]; exact ⟨jd, je, jf.kp⟩, rA, rz⟩, hr.mono (by decide), by rw [aN]; exact aB⟩, dD, jh, dZ, cg, cT, jg⟩
 have Aa : cQ l.prog w K mg base kU 1 i9 _ ["self"] (Az K (cl ak ah au) 1 gD dB gE) := mE mq qp fun gO Ar outer s H E b a hr hp => by
   refine zA ?_ hp
   exact ⟨⟨⟨qp.nd, rfl, .never⟩, hr.units⟩, bJ g8 0, bJ g8 1, bJ g8 2, fY g8 3, nF, dD, jg, j4⟩
 have DR : cQ l.prog w K mg base kU 1 kR _ ["self"] (Az K (cl ak ah au) 1 iW iX iY) := mE qf sQ fun gO Ar outer s H E b a hr hp => by
   refine Dh ?_ hp
   exact ⟨⟨⟨sQ.nd, rfl, .never⟩, hr.units⟩, bJ sP 0, fY sP 1, z6, dD, jg⟩
 have abA : cQ l.prog w K mg base kU 11 _ _ ["script"] (Az K (cl ak ah au) 1 sd se sf) := mE PR Pz fun gO Ar outer s H E b a hr hp => by
   refine abq ?_ hp
   exact ⟨⟨⟨Pz.nd, rfl, .never⟩, hr.units⟩, bJ dm 0, bJ dm 1, bJ dm 2, bJ dm 3, bJ dm 4, bJ dm 5, bJ dm 6, bJ dm 7, bJ dm 8, bJ dm 9, bJ dm 10, bJ dm 11, bJ dm 12, fY dm 13, fY dm 14, fY dm 15, fY dm 16, fY dm 17, fY dm 18, fY dm 19, fY dm 20, fY dm 21, fY dm 22, fY dm 23, pD Fe hr, ⟨⟨_, _, _, by rw [j3]; exact ⟨zO, qb, qc, zP⟩, DQ, by rw [j3]; exact Ur, DL⟩, hr.mono (by decide)⟩, ⟨⟨_, _, _, Uv, Um, Dw.kp, Uo⟩, hr.mono (by decide)⟩, ⟨⟨_, _, _, by rw [aN]; exact ⟨tT, lZ, l0, tU⟩, z9, by rw [aN]; exact Lr, zY⟩, hr.mono (by decide)⟩, ⟨⟨_, _, _, BX, BV, sr.kp, BW⟩, hr.mono (by decide)⟩, ⟨⟨_, _, _, Ux, Up, DC.kp, Uq⟩, hr.mono (by decide)⟩, uW, pD Qe hr, pD Uy hr, nF, ⟨⟨_, _, _, by rw [aN]; exact ⟨nu, ny, nA.kp⟩, A7, A4⟩, hr.mono (by decide), by rw [aN]; exact aB⟩, ⟨⟨_, _, _, by rw [aN]; exact ⟨mh, mj, mq.kp⟩, Aa, zZ⟩, hr.mono (by decide), by rw [aN]; exact aB⟩, ⟨⟨_, _, _, by rw [aN]; exact ⟨qd, qe, qf.kp⟩, DR, DM⟩, hr.mono (by decide), by rw [aN]; exact aB⟩, dD, jh, jQ, cg, cT, by rw [aN]; exact ⟨GQ, GR, GU, GV⟩, by rw [aN, gF]; exact oQ, by rw [gF]; exact Fb⟩
 exact abA.imp (W5 (fun _ => rfl) (fun _ => rfl) fun x hx => Yj hx)
theorem walk {l : PySem.W.OpenLaw} {q : Program} {loose : List Str} {XP : (Str -> Option Value) -> Heap -> Prop} {YP : World -> Heap -> Prop} {d : DefRec} {K : Params -> PySem.W.Frag} (hn : l.most = some 63) (Ra : d.params.defaults = [])
   (hY : ∀ (w : World) (h : Heap), YP w h -> (K w.params).In h)
   (F : ∀ (w : World) (mg : Str -> Option Value) (fa : Addr) (h : Heap), (K w.params).In h -> h.Ns mainGlobals mg -> mg d.name = some (.ref fa) →
     ∃ fd : FuncData, (∀ (s : Shared) (u : Value), BindsTo s fd ⟨[u], []⟩ [("script", u)]) /\ ∀ base : Heap, (K w.params).In base -> base.Ns mainGlobals mg -> cQ l.prog w (K w.params) mg base kU 11 fa fd ["script"] (Az (K w.params) (fun _ => 0) 1 sd se sf)) :
   PySem.W.WalkO q loose XP YP l.row.toRowW d [] (fun f vs => PySem.call f vs) :=
 L2.Rb (n := 63) (k := 11) (x := "script") (CX := fun _ => kU) (sp := fun w => Az (K w.params) (fun _ => 0) 1 sd se sf) hn (by decide) Ra ⟨rfl, by decide, by decide⟩ hY F (fun _ _ a ns hl _ hS => WV rfl hl rfl hS) fun _ _ _ _ _ z => z
end Law
namespace PySem.W.Fast
 def tw17520929286320663958 := 0
 def tw3398401219532436612 := 0
 def tw5638208388563091163 := 0
 def tw9649486582386588995 := 0
 def tw10520945271556970829 := 0
 def tw6723928819852319529 := 0
 def tw10065796365174556460 := 0
 def tw11364681077585045497 := 0
 def tw3591988420096897979 := 0
 def tw11289242407824117445 := 0
 def tw426424939570624185 := 0
 def tw14073176568162509344 := 0
 def tw10607882379836353285 := 0
 def tw16958714066466005509 := 0
 def tw6585182942307188933 := 0
 def tw282020360150218951 := 0
 def tw17368473078122428064 := 0
 def tw12476582741883817894 := 0
 def tw16730009752302317251 := 0
 def tw16981787786467361002 := 0
 def tw10775298589190905531 := 0
 def tw4105305605590003291 := 0
 def tw17855524149302979411 := 0
 def tw7149133518692750892 := 0
 def tw4853601191626548323 := 0
 def tw13693324468587702819 := 0
 def tw7135766407061863616 := 0
 def tw3257224703603221771 := 0
 def tw11218262150267453317 := 0
 def tw266818522515678996 := 0
 def tw10722360125833548548 := 0
 def tw8039015329325485664 := 0
 def tw1972966618911453542 := 0
 def tw7235218928999723962 := 0
 def tw12936824605900485501 := 0
 def tw14823200855820883515 := 0
 def tw16547516533168699063 := 0
 def tw15284297643966366643 := 0
 def tw4378901822401357888 := 0
 def tw1161793348221547679 := 0
 def tw1333451647958304537 := 0
 def tw3659214884741237207 := 0
 def tw8038490805699037772 := 0
 def tw6405013906676712628 := 0
 def tw15876099002545787755 := 0
 def tw3382634884636741992 := 0
 def tw16983040334302655605 := 0
 def tw5323031922374522527 := 0
 def tw16507180140428500791 := 0
end PySem.W.Fast
open PySem PySem.W PyProof.Rows
set_option maxRecDepth 100000 in
set_option maxHeartbeats 0 in
theorem PySem.Challenge.cw_moodtree_k53_a_run_of_rows_holds : PySem.Challenge.rw_moodtree_k53_a_run_of_rows.Holds := by
 w_on; o_law; k_head; (case hw => w_witness2)
 k_fill
 refine Law.walk (l := PySem.Challenge.rw_moodtree_k53_a_run_of_rows) rfl rfl (fun w h Y => PySem.W.kIn_of Y) ?F
 case F =>
   intro w mg fa h KX G Wo
   refine' Law.all_mk KX G Wo ?zJ ?vU ?vV ?vW ?vX ?BR ?BU ?lQ ?m9 ?lR ?gM ?vY ?tP ?tQ ?tR ?tS ?tT ?tU ?ko ?kr ?lS ?ku ?gi ?Dr ?zK ?zL ?zM ?zN ?zO ?zP ?ng ?nh ?ni ?nj ?qa ?GQ ?GR ?GU ?GV ?oQ ?vZ (L2.bT ?Lv ?Lw ?Lx) ?GX (L2.bT ?Ys ?Yt ?Yu) ?GY (L2.bT ?pM ?Yv ?Yw) ?Dt (L2.bT ?bY ?UA ?UB) ?zQ (L2.bT ?bK ?Qg ?qS) ?GZ (L2.bT ?aR ?Yx ?Yy) ?zR (L2.bT ?Qh ?Qi ?Qj) ?Dv (L2.bT ?UC ?UD ?UE) ?Dy (L2.bT ?UG ?UH ?UI) ?v5 (L2.bT ?Ly ?Lz ?LC) ?Dz (L2.bT ?UJ ?UK ?UL) ?DB (L2.bT ?UM ?UN ?UO) ?lT ?lU (L2.bT ?Ab ?Ac ?Ad) ?kB ?kC (L2.bT ?w9 ?xg ?xh) ?jC ?jD (L2.bT ?v9 ?wc ?wg) ?zS (L2.bT ?Qk ?Ql ?Qm) ?DE (L2.bT ?UQ ?UR ?UT) ?qb ?qc (L2.bT ?DS ?DT ?DU) ?DF (L2.bT ?UU ?UW ?UX) ?nk (L2.bT ?A8 ?A9 ?Ba) ?zT (L2.bT ?Qn ?Qo ?Qp) ?G0 (L2.bT ?Yz ?YB ?YC) ?tW (L2.bT ?Hh ?Hi ?Hj) ?rm (L2.bT ?Ff ?Fg ?Fi) ?DG (L2.bT ?UY ?UZ ?U0) ?tX (L2.bT ?Hl ?Ho ?Hq) ?ja ?jb (L2.bT ?uY ?uZ ?u5) ?jd ?je (L2.bT ?Ae ?Af ?Ag) ?sU ?sV (L2.bT ?Bb ?Bc ?m8) ?lW ?lX ?lY ?lZ ?l0 (L2.bT ?Ah ?Ai ?Aj) ?nu ?ny (L2.bT ?Bd ?Be ?Bf) ?mh ?mj (L2.bT ?Ak ?Al ?Am) ?qd ?qe (L2.bT ?DV ?DW ?DX) ?Jx (L2.bT ?abB ?abC ?abD) ?PV ?PX ?DH ?DI ?G5 ?qg ?PY ?y_bool ?PZ ?P0 ?P1 ?DJ ?DK ?zU ?qh
   case zJ | vU | vV | vW | vX | BR | BU | lQ | m9 | lR | gM | vY | tP | tQ | tR | tS | tT | tU | ko | kr | lS | ku | gi | Dr | zK | zL | zM | zN | zO | zP | ng | nh | ni | nj | qa | GQ | GR | GU | GV => (try delta L3.um); k_is
   case oQ => kit_is
   case vZ | Lv | Lw | Lx | GX | Ys | Yt | Yu | GY | pM | Yv | Yw | Dt | bY | UA | UB | zQ | bK | Qg | qS | GZ | aR | Yx | Yy | zR | Qh | Qi | Qj | Dv | UC | UD | UE | Dy | UG | UH | UI | v5 | Ly | Lz | LC | Dz | UJ | UK | UL | DB | UM | UN | UO | lT | lU | Ab | Ac | Ad | kB | kC | w9 | xg | xh | jC | jD | v9 | wc | wg | zS | Qk | Ql | Qm | DE | UQ | UR | UT | qb | qc | DS | DT | DU | DF | UU | UW | UX | nk | A8 | A9 | Ba | zT | Qn | Qo | Qp | G0 | Yz | YB | YC | tW | Hh | Hi | Hj | rm | Ff | Fg | Fi | DG | UY | UZ | U0 | tX | Hl | Ho | Hq | ja | jb | uY | uZ | u5 | jd | je | Ae | Af | Ag | sU | sV | Bb | Bc | m8 | lW | lX | lY | lZ | l0 | Ah | Ai | Aj | nu | ny | Bd | Be | Bf | mh | mj | Ak | Al | Am | qd | qe | DV | DW | DX | Jx | abB | abC | abD | PV | PX | DH | DI | G5 | qg | PY | y_bool | PZ | P0 | P1 | DJ | DK | zU | qh => (try delta L3.um); k_is
