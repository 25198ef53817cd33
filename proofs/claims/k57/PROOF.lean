import PyProof.Rows.All
import Wide.All
import OpenK.AllK
import Wide.FinOn
import Lean
import PyProof.EqAt
import PyProof.EqKinds
import PyProof.TupleCall
import PySem.Challenge.RW_moodtree_k57_alike_flats
set_option Elab.async false
set_option linter.all false
set_option maxRecDepth 100000
set_option maxHeartbeats 4000000
namespace L2
open PySem PySem.Spec PyProof.Rows
noncomputable abbrev afN := @wpAny_bind
noncomputable abbrev afO := @List.length_map
noncomputable abbrev afP := @List.mem_cons_self
noncomputable abbrev afQ := @List.mem_append_right
noncomputable abbrev afR := @List.getElem?_eq_getElem
noncomputable abbrev afS := @List.mem_cons_of_mem
noncomputable abbrev afT := @wpAny_pure
noncomputable abbrev afU := @List.mem_append_left
noncomputable abbrev afV := @Nat.le_of_ble_eq_true
noncomputable abbrev afW := @List.append_assoc
noncomputable abbrev afX := @List.mem_cons
noncomputable abbrev afY := @List.length_append
noncomputable abbrev afZ := @List.mem_map
noncomputable abbrev af0 := @List.mem_append
noncomputable abbrev af1 := @if_neg
noncomputable abbrev af2 := @List.getElem?_map
noncomputable abbrev af3 := @Nat.le_refl
noncomputable abbrev af4 := @Bool.false_ne_true
noncomputable abbrev af5 := @List.getElem?_eq_some_iff
noncomputable abbrev af6 := @List.getD_eq_getElem?_getD
noncomputable abbrev af7 := @Heap.get?_push_of_some
noncomputable abbrev af8 := @List.mem_of_getElem?
noncomputable abbrev af9 := @List.not_mem_nil
noncomputable abbrev aga := @List.map_append
noncomputable abbrev agb := @if_pos
noncomputable abbrev agc := @List.length_range
noncomputable abbrev agd := @List.map_cons
noncomputable abbrev age := @sizeLine_eq
noncomputable abbrev agf := @Option.some.inj
noncomputable abbrev agg := @Option.map_eq_some_iff
noncomputable abbrev agh := @List.map_map
noncomputable abbrev agi := @List.size_toArray
noncomputable abbrev agj := @Heap.lt_size
noncomputable abbrev agk := @Bool.and_eq_true
noncomputable abbrev agl := @Heap.get?_push_size
noncomputable abbrev agm := @decide_eq_false
noncomputable abbrev agn := @List.lookup_cons
noncomputable abbrev ago := @List.getElem?_append_left
noncomputable abbrev agp := @Int.toNat_natCast
noncomputable abbrev agq := @List.cons_append
noncomputable abbrev agr := @Nat.zero_le
noncomputable abbrev ags := @Int.emod_nonneg
noncomputable abbrev agt := @of_decide_eq_true
noncomputable abbrev agu := @Int.emod_lt_of_pos
noncomputable abbrev agv := @List.length_take
noncomputable abbrev agw := @List.mem_singleton
noncomputable abbrev agx := @List.length_replicate
noncomputable abbrev agy := @List.Perm.append_left
noncomputable abbrev agz := @List.Sublist.refl
noncomputable abbrev agA := @Nat.lt_of_lt_of_le
noncomputable abbrev agB := @List.nodup_cons
noncomputable abbrev agC := @List.Sublist.append
noncomputable abbrev agD := @List.nodup_append
noncomputable abbrev agE := @List.perm_append_comm
noncomputable abbrev agF := @List.append_nil
noncomputable abbrev agG := @Nat.ne_of_lt
noncomputable abbrev agH := @Nat.le_trans
noncomputable abbrev agI := @wpAny_call_entry
noncomputable abbrev agJ := @List.take_add_one
noncomputable abbrev agK := @Int.zero_add
noncomputable abbrev agL := @of_decide_eq_false
noncomputable abbrev agM := @decide_eq_true
noncomputable abbrev agN := @List.getElem?_eq_none
noncomputable abbrev agO := @List.replicate_succ
noncomputable abbrev agP := @wpAny_newObj_type
noncomputable abbrev agQ := @or_false
noncomputable abbrev agR := @PySem.W.mg_none_of
noncomputable abbrev agS := @List.length_cons
noncomputable abbrev agT := @List.map_congr_left
noncomputable abbrev agU := @wpAny_dictEntries
noncomputable abbrev agV := @PyProof.Rows.slot_tuple_getitem
noncomputable abbrev agW := @wpAny_callSpecial?_slot
noncomputable abbrev agX := @List.mem_range
noncomputable abbrev agY := @List.perm_middle
noncomputable abbrev agZ := @beq_eq_false_iff_ne
noncomputable abbrev ag0 := @wpAny_truthy_bool
noncomputable abbrev ag1 := @List.getElem?_range
noncomputable abbrev ag2 := @Heap.SameBut.update
noncomputable abbrev ag3 := @List.sublist_append_right
noncomputable abbrev ag4 := @List.mem_or_eq_of_mem_set
noncomputable abbrev ag5 := @List.take_length
noncomputable abbrev ag6 := @List.idxOf_lt_length_iff
noncomputable abbrev ag7 := @wpAny_mono
noncomputable abbrev ag8 := @List.mem_of_mem_take
noncomputable abbrev ag9 := @PySem.F.slot_dict_itemiterator_next
noncomputable abbrev aha := @List.flatten_cons
noncomputable abbrev ahb := @PySem.F.slot_dict_keyiterator_next
noncomputable abbrev ahc := @PySem.mem_of_lookup
noncomputable abbrev ahd := @Nat.le_of_lt
noncomputable abbrev ahe := @wpAny_field
noncomputable abbrev ahf := @wpAny_holding
noncomputable abbrev ahg := @beq_self_eq_true
noncomputable abbrev ahh := @List.getElem_mem
noncomputable abbrev ahi := @List.nodup_nil
noncomputable abbrev ahj := @Bool.false_eq_true
noncomputable abbrev ahk := @List.mem_iff_getElem?
noncomputable abbrev ahl := @if_false
noncomputable abbrev ahm := @List.find?_cons
noncomputable abbrev ahn := @wpAny_typeNameOfWhole_itemiter
noncomputable abbrev aho := @List.reverse_cons
noncomputable abbrev ahp := @Paired.length
noncomputable abbrev ahq := @wpAny_typeNameOfWhole_keyiter
noncomputable abbrev ahr := @List.filterMap_cons
noncomputable abbrev ahs := @Array.length_toList
noncomputable abbrev aht := @List.length_drop
noncomputable abbrev ahu := @Nat.lt_of_le_of_lt
noncomputable abbrev ahv := @Obj.data_mapFields
noncomputable abbrev ahw := @wpAny_passesOwn
noncomputable abbrev ahx := @Heap.get?_update_self
noncomputable abbrev ahy := @List.nil_append
noncomputable abbrev ahz := @wpAny_dictEpoch
noncomputable abbrev ahA := @List.range_succ
noncomputable abbrev ahB := @List.map_take
noncomputable abbrev ahC := @List.map_nil
noncomputable abbrev ahD := @List.all_eq_true
noncomputable abbrev ahE := @List.eq_of_mem_replicate
noncomputable abbrev ahF := @List.perm_iff_count
noncomputable abbrev ahG := @List.flatMap_append
noncomputable abbrev ahH := @Int.toNat_of_nonneg
noncomputable abbrev ahI := @wpAny_getItem_str_slice
noncomputable abbrev ahJ := @wpAny_attempt
noncomputable abbrev ahK := @List.mem_filter
noncomputable abbrev ahL := @wpAny_Call_Name_kw
noncomputable abbrev ahM := @tupleKind_room_in1
noncomputable abbrev ahN := @wpAny_specialOf
noncomputable abbrev ahO := @PySem.W.kia_one
noncomputable abbrev ahP := @wpAny_setField_rec
noncomputable abbrev ahQ := @List.count_append
noncomputable abbrev ahR := @F.slot_tuple_hash
noncomputable abbrev ahS := @if_true
noncomputable abbrev ahT := @wpAny_setField
noncomputable abbrev ahU := @Array.getElem?_toList
noncomputable abbrev ahV := @wpAny_notOrdered_dict
noncomputable abbrev ahW := @wpAny_isInstance
noncomputable abbrev ahX := @Nat.lt_irrefl
noncomputable abbrev ahY := @List.any_cons
noncomputable abbrev ahZ := @List.getElem?_append_right
noncomputable abbrev ah0 := @Array.getElem?_eq_some_iff
noncomputable abbrev ah1 := @Bool.eq_iff_iff
noncomputable abbrev ah2 := @List.length_set
noncomputable abbrev ah3 := @PySem.F.slot_dict_getitem
noncomputable abbrev ah4 := @Array.getElem?_eq_getElem
noncomputable abbrev ah5 := @List.filter_map
noncomputable abbrev ah6 := @PySem.F.args_tuple_add_2
noncomputable abbrev ah7 := @List.getElem_idxOf
noncomputable abbrev ah8 := @beq_iff_eq
noncomputable abbrev ah9 := @List.Perm.refl
noncomputable abbrev aia := @PySem.F.entry_tuple_add
noncomputable abbrev aib := @PySem.F.plainAttrs_list
noncomputable abbrev aic := @List.pairwise_singleton
noncomputable abbrev aid := @List.ext_getElem?
noncomputable abbrev aie := @eqIsQuiet_byValue
noncomputable abbrev aif := @List.idxOf_append
noncomputable abbrev aih := @PySem.W.mg_of
noncomputable abbrev Key := Sum Int Str
noncomputable def vt : Key -> Value -> Bool
 | .inl k, v => Value.isInt k v
 | .inr x, v => Value.isStrOf x v
noncomputable def aay (w : World) : Key -> Int
 | .inl k => hashInt k
 | .inr x => hashStr w x
theorem dG : ∀ {k : Key} {v : Value}, vt k v = true -> (∃ i t, k = Sum.inl i /\ v = Value.int i t) \/ (∃ x t, k = Sum.inr x /\ v = Value.str x t)
 | .inl i, v, h => by
   obtain ⟨t, e⟩ := Value.isInt_shape (k := i) (v := v) h
   exact .inl ⟨i, t, rfl, e⟩
 | .inr x, v, h => by
   obtain ⟨t, e⟩ := Value.isStrOf_shape (x := x) (v := v) h
   exact .inr ⟨x, t, rfl, e⟩
theorem EH (i : Int) (t : Tok) : vt (.inl i) (.int i t) = true := by simp [vt, Value.isInt]
theorem EI (x : Str) (t : Tok) : vt (.inr x) (.str x t) = true := by simp [vt, Value.isStrOf]
theorem Ry (a b : Int) : decide ((Sum.inl a : Key) = Sum.inl b) = (a == b) := by
 by_cases e : a = b
 . subst e; simp
 . have h : ¬ (Sum.inl a : Key) = Sum.inl b := fun q => e (Sum.inl.inj q)
   rw [agm h]
   exact (agZ.mpr e).symm
theorem Rz (a b : Str) : decide ((Sum.inr a : Key) = Sum.inr b) = decide (a = b) := by
 by_cases e : a = b
 . subst e; simp
 . have h : ¬ (Sum.inr a : Key) = Sum.inr b := fun q => e (Sum.inr.inj q)
   rw [agm h, agm e]
theorem RA (a : Int) (b : Str) : decide ((Sum.inl a : Key) = Sum.inr b) = false := agm (fun q => nomatch q)
theorem RB (a : Str) (b : Int) : decide ((Sum.inr a : Key) = Sum.inl b) = false := agm (fun q => nomatch q)
noncomputable def dS (prog : Program) (w : World) : PySem.KeyKind prog w Key where
 is := vt
 hash := aay w
 inj := fun v a b ha hb => by
   rcases dG ha with ⟨i, t, rfl, rfl⟩ | ⟨x, t, rfl, rfl⟩
   . rcases dG hb with ⟨j, u, rfl, e⟩ | ⟨y, u, rfl, e⟩
     . injection e with e1 _; rw [e1]
     . exact nomatch e
   . rcases dG hb with ⟨j, u, rfl, e⟩ | ⟨y, u, rfl, e⟩
     . exact nomatch e
     . injection e with e1 _; rw [e1]
 byValue := fun k v h => by
   rcases dG h with ⟨i, t, rfl, rfl⟩ | ⟨x, t, rfl, rfl⟩ <;> rfl
 pyHash := fun hv h => by
   rcases dG hv with ⟨i, t, rfl, rfl⟩ | ⟨x, t, rfl, rfl⟩
   . exact wpAny_pyHash_int h
   . exact wpAny_pyHash_str h
 eqBool := fun hu hv h => by
   rcases dG hu with ⟨i, t, rfl, rfl⟩ | ⟨x, t, rfl, rfl⟩
   . rcases dG hv with ⟨j, u, rfl, rfl⟩ | ⟨y, u, rfl, rfl⟩
     . rw [Ry] at h; exact wpAny_eqBool_int h
     . rw [RA] at h; exact SeqAt.EqAt.int_str i t y u _ _ _ _ h
   . rcases dG hv with ⟨j, u, rfl, rfl⟩ | ⟨y, u, rfl, rfl⟩
     . rw [RB] at h; exact SeqAt.EqAt.str_int x t j u _ _ _ _ h
     . rw [Rz] at h; exact wpAny_eqBool_str h
 «strs» := fun k x t v h => by
   rcases dG h with ⟨i, u, rfl, e⟩ | ⟨y, u, rfl, e⟩
   . exact nomatch e
   . injection e with e1 _
     subst e1
     cases v <;> rfl
theorem zG (prog : Program) (w : World) (i : Int) (t : Tok) : (dS prog w).is (.inl i) (.int i t) = true := EH i t
theorem zH (prog : Program) (w : World) (x : Str) (t : Tok) : (dS prog w).is (.inr x) (.str x t) = true := EI x t
inductive V where
 | non | bl (b : Bool) | int (i : Int) | str (x : Str) | GU (b : Array UInt8) | ZF (b : UInt64) | ref (a : Addr) | ty (n : String)
 deriving DecidableEq
noncomputable def RelV : V -> Value -> Prop
 | .non, u => u = Value.none
 | .bl b, u => u = Value.bool b
 | .int i, u => ∃ t, u = Value.int i t
 | .str x, u => ∃ t, u = Value.str x t
 | .GU b, u => ∃ t, u = Value.bytes b t
 | .ZF b, u => ∃ t, u = Value.float b t
 | .ref a, u => u = Value.ref a
 | .ty n, u => u = Value.type n
noncomputable abbrev Vals : List V -> List Value -> Prop := Paired RelV
theorem Vals.length {xs : List V} {us : List Value} (r : Vals xs us) : xs.length = us.length := ahp r
theorem Vals.get : ∀ {xs : List V} {us : List Value} {i : Nat} {x : V}, Vals xs us -> xs[i]? = some x -> ∃ u, us[i]? = some u /\ RelV x u
 | _, _, _, _, .nil, e => by simp at e
 | _, _, 0, _, .cons r _, e => by simp at e; subst e; exact ⟨_, rfl, r⟩
 | _, _, i + 1, x, .cons _ t, e => by
   obtain ⟨u, h1, h2⟩ := Vals.get (i := i) (x := x) t (by simpa using e)
   exact ⟨u, by simpa using h1, h2⟩
theorem Vals.set {x : V} {u : Value} (r : RelV x u) : ∀ {xs : List V} {us : List Value} (i : Nat), Vals xs us -> Vals (xs.set i x) (us.set i u)
 | _, _, _, .nil => .nil
 | _, _, 0, .cons _ t => .cons r t
 | _, _, i + 1, .cons q t => .cons q (Vals.set r i t)
theorem Vals.append : ∀ {xs ys : List V} {us ws : List Value}, Vals xs us -> Vals ys ws -> Vals (xs ++ ys) (us ++ ws)
 | _, _, _, _, .nil, s => s
 | _, _, _, _, .cons r t, s => .cons r (Vals.append t s)
theorem Vals.take : ∀ {xs : List V} {us : List Value} (n : Nat), Vals xs us -> Vals (xs.take n) (us.take n)
 | _, _, 0, _ => .nil
 | _, _, _ + 1, .nil => .nil
 | _, _, n + 1, .cons r t => .cons r (Vals.take n t)
theorem Vals.drop : ∀ {xs : List V} {us : List Value} (n : Nat), Vals xs us -> Vals (xs.drop n) (us.drop n)
 | _, _, 0, r => r
 | _, _, _ + 1, .nil => .nil
 | _, _, n + 1, .cons _ t => Vals.drop n t
noncomputable def nE : Option V -> Option Value -> Prop
 | some v, some u => RelV v u
 | none, none => True
 | _, _ => False
noncomputable def KV {κ : Type} : List (κ × V) -> List (κ × Value) -> Prop := Paired fun (p : κ × V) (q : κ × Value) => p.1 = q.1 /\ RelV p.2 q.2
noncomputable def kV : Key -> V
 | .inl i => .int i
 | .inr x => .str x
inductive HO where
 | lst (xs : List V)
 | tup (xs : List V)
 | dK (kvs : List (Key × V)) | dT (kvs : List (List Key × V))
 | set (S : Int -> Bool) (n : Nat)
 | ins (C dx : Addr) (fs : List (Str × V))
 | own (x : Addr)
 | xd (fs : List (Str × V))
 | met (f x : Addr)
 | RC (lo hi : Int)
 | bK (o : Obj) (u : HO)
 | Qo (ps : Array Value)
 | tabs (q : Str)
 | Qp (q : Str)
 | ext (φ : Heap -> Prop)
noncomputable abbrev Hp := Addr -> Option HO
noncomputable def upd (H : Hp) (a : Addr) (o : HO) : Hp := fun b => if b = a then some o else H b
theorem az {H : Hp} {a : Addr} {o : HO} : upd H a o a = some o := by unfold upd; rw [agb rfl]
theorem ao {H : Hp} {a b : Addr} {o : HO} (h : b ≠ a) : upd H a o b = H b := by unfold upd; rw [af1 h]
theorem Qq {H : Hp} {a b : Addr} {o u : HO} (h : H a = some o) (h' : H b = some u) (d : o ≠ u) : a ≠ b := by
 intro e; subst e; rw [h] at h'; exact d (agf h')
theorem bu {H : Hp} {a b : Addr} {o : HO} (h : H a = some o) (h' : H b = none) : a ≠ b := by
 intro e; subst e; rw [h] at h'; cases h'
section
variable (P : Program) (w : World)
noncomputable def cV (H : Hp) (h : Heap) (a : Addr) : HO -> Prop
 | .lst xs => xs.length <= sizeLine /\ ∃ (its : List Value) (n : Nat), Vals xs its /\ h.get? a = some { cls := .type "list", data := .seq its.toArray n }
 | .tup xs => xs.length <= sizeLine /\ ∃ its : List Value, Vals xs its /\ IsTup h a its.toArray
 | .dK kvs => kvs.length <= sizeLine /\ (a == sysModules) = false /\ ∃ vs, KV kvs vs /\ h.DictOf (dS P w) a vs
 | .dT kvs => kvs.length <= sizeLine /\ (a == sysModules) = false /\ ∃ xs : List (List Key × Addr × Value),
     Paired (fun (p : List Key × V) (q : List Key × Addr × Value) => p.1 = q.1 /\ H q.2.1 = some (.tup (p.1.map kV)) /\ RelV p.2 q.2.2) kvs xs ∧
     ∃ o es ep, h.get? a = some o /\ o.ExactDict /\ o.data = .dict es ep /\ es.toList = xs.map (entryOfKey (tupleKind (dS P w))) /\ (xs.map (·.1)).Nodup
 | .set S n => h.SetOf (intKind P w) a S n
 | .ins C dx fs => H dx = some (.own a) /\ fs.length <= 1000 /\ dx ≠ a /\ h.get? a = some (PySem.W.instObj C dx) ∧
     ∃ mA, h.Ns1 dx mA /\ (∀ f, nE (fs.lookup f) (mA f)) /\ PySem.Within mA (fs.map (·.1))
 | .own _ => ∃ o, h.get? a = some o
 | .xd fs => ∃ mA, h.Ns1 a mA /\ ∀ f, nE (fs.lookup f) (mA f)
 | .RC lo hi => ∃ t u v, h.get? a = some { cls := .type "range", data := .fields #[.int lo t, .int hi u, .int 1 v] }
 | .bK o u => h.get? a = some o /\ cV H h a u
 | .Qo ps => h.get? a = some { cls := .none, data := .fields ps }
 | .tabs q => ∃ ps : Array Value, h.get? a = some { cls := .none, data := .fields ps } /\ TriplesOk ps.toList /\ ∀ pos cv, codeAmong pos ps.toList = some cv -> ∃ c, cv = .ref c /\ H c = some (.Qp q)
 | .Qp q => ∃ o vs t, h.get? a = some o /\ o.data = .fields vs /\ vs[1]? = some (.str q t)
 | .met f x => h.get? a = some (PySem.W.methodObj (.ref f) (.ref x))
 | .ext φ => φ h /\ (∃ o, h.get? a = some o) /\ ∀ h1 h2 : Heap, φ h1 -> (∀ o, h1.get? a = some o -> h2.get? a = some o) -> φ h2
noncomputable def oz (H : Hp) (h : Heap) : Prop := ∀ a o, H a = some o -> cV P w H h a o
end
section
variable {P : Program} {w : World} {H H' : Hp} {h h' : Heap} {a : Addr} {o : HO}
theorem cV.lt (x : cV P w H h a o) : a < h.objs.size := by
 cases o with
 | lst xs => obtain ⟨_, _, _, _, e⟩ := x; exact agj e
 | tup xs => obtain ⟨_, _, _, p⟩ := x; exact p.lt
 | dK kvs => obtain ⟨_, _, _, _, o, _, _, e, _⟩ := x; exact agj e
 | dT kvs => obtain ⟨_, _, _, _, o, _, _, e, _⟩ := x; exact agj e
 | set S n => obtain ⟨o, _, _, _, e, _⟩ := x; exact agj e
 | ins C dx fs => obtain ⟨_, _, _, e, _⟩ := x; exact agj e
 | own y => obtain ⟨_, e⟩ := x; exact agj e
 | xd fs => obtain ⟨_, ⟨_, _, _, e, _⟩, _⟩ := x; exact agj e
 | RC lo hi => obtain ⟨_, _, _, e⟩ := x; exact agj e
 | bK ob u => obtain ⟨e, _⟩ := x; exact agj e
 | Qo ps => exact agj (show h.get? a = some _ from x)
 | tabs q => obtain ⟨_, e, _⟩ := x; exact agj e
 | Qp q => obtain ⟨_, _, _, e, _⟩ := x; exact agj e
 | met f y => exact agj (show h.get? a = some _ from x)
 | ext φ => obtain ⟨_, ⟨_, e⟩, _⟩ := x; exact agj e
theorem Paired.RD {α β : Type} {F G : α -> β -> Prop} : ∀ {l₁ : List α} {l₂ : List β}, Paired F l₁ l₂ -> (∀ a b, F a b -> G a b) -> Paired G l₁ l₂
 | _, _, .nil, _ => .nil
 | _, _, .cons r t, f => .cons (f _ _ r) (Paired.RD t f)
theorem cV.uP (x : cV P w H h a o) (k : ∀ b u, (b = a \/ H b = some (.own a)) -> h.get? b = some u -> h'.get? b = some u)
   (ho : ∀ b, H b = some (.own a) -> H' b = some (.own a)) (ht : ∀ b xs, H b = some (.tup xs) -> H' b = some (.tup xs)) (kK : ∀ b q, H b = some (.Qp q) -> H' b = some (.Qp q) := by intro _ _ q; exact q) : cV P w H' h' a o := by
 induction o with
 | lst xs => obtain ⟨z, its, n, r, e⟩ := x; exact ⟨z, its, n, r, k _ _ (.inl rfl) e⟩
 | tup xs => obtain ⟨z, its, r, ob, e, c⟩ := x; exact ⟨z, its, r, ob, k _ _ (.inl rfl) e, c⟩
 | dK kvs => obtain ⟨z, y, vs, r, ob, es, ep, e, c⟩ := x; exact ⟨z, y, vs, r, ob, es, ep, k _ _ (.inl rfl) e, c⟩
 | dT kvs =>
   obtain ⟨z, y, xs, r, ob, es, ep, e, c⟩ := x
   exact ⟨z, y, xs, Paired.RD r fun p q z => ⟨z.1, ht _ _ z.2.1, z.2.2⟩, ob, es, ep, k _ _ (.inl rfl) e, c⟩
 | set S n => obtain ⟨ob, es, ep, t, e, c⟩ := x; exact ⟨ob, es, ep, t, k _ _ (.inl rfl) e, c⟩
 | ins C dx fs =>
   obtain ⟨d, z, ne, e, mA, ⟨od, es, ep, e2, c⟩, r⟩ := x
   exact ⟨ho _ d, z, ne, k _ _ (.inl rfl) e, mA, ⟨od, es, ep, k _ _ (.inr d) e2, c⟩, r⟩
 | own y => obtain ⟨ob, e⟩ := x; exact ⟨ob, k _ _ (.inl rfl) e⟩
 | xd fs => obtain ⟨mA, ⟨od, es, ep, e, c⟩, r⟩ := x; exact ⟨mA, ⟨od, es, ep, k _ _ (.inl rfl) e, c⟩, r⟩
 | RC lo hi => obtain ⟨t, u, v, e⟩ := x; exact ⟨t, u, v, k _ _ (.inl rfl) e⟩
 | bK ob u ih => obtain ⟨e, q⟩ := x; exact ⟨k _ _ (.inl rfl) e, ih q⟩
 | Qo ps =>
   have e : h.get? a = some { cls := .none, data := .fields ps } := x
   show h'.get? a = some { cls := .none, data := .fields ps }
   exact k a _ (.inl rfl) e
 | met f y =>
   have e : h.get? a = some (PySem.W.methodObj (.ref f) (.ref y)) := x
   show h'.get? a = some (PySem.W.methodObj (.ref f) (.ref y))
   exact k a _ (.inl rfl) e
 | tabs q => obtain ⟨ps, e, tr, cs⟩ := x; exact ⟨ps, k _ _ (.inl rfl) e, tr, fun pos cv z => let ⟨c, e1, e2⟩ := cs pos cv z; ⟨c, e1, kK _ _ e2⟩⟩
 | Qp q => obtain ⟨ob, vs, t, e, r⟩ := x; exact ⟨ob, vs, t, k _ _ (.inl rfl) e, r⟩
 | ext φ => obtain ⟨p, ⟨o, e⟩, st⟩ := x; exact ⟨st _ _ p fun o q => k _ _ (.inl rfl) q, ⟨o, k _ _ (.inl rfl) e⟩, st⟩
theorem oz.lt (x : oz P w H h) (e : H a = some o) : a < h.objs.size := (x a o e).lt
theorem oz.fresh (x : oz P w H h) (e : h.objs.size <= a) : H a = none := by
 cases q : H a with
 | none => rfl
 | some u => exact absurd (agA (x.lt q) e) (ahX _)
theorem oz.kept (x : oz P w H h) (k : ∀ b u, h.get? b = some u -> h'.get? b = some u) : oz P w H h' := fun a o e =>
 (x a o e).uP (fun b u _ q => k b u q) (fun _ q => q) fun _ _ q => q
theorem oz.laid (x : oz P w H h) (k : ∀ b u, h.get? b = some u -> h'.get? b = some u) (hp : h.objs.size <= a) (new : cV P w (upd H a o) h' a o) : oz P w (upd H a o) h' := fun b u e => by
 have hn := x.fresh hp
 by_cases hb : b = a
 . subst hb; rw [az] at e; cases e; exact new
 . rw [ao hb] at e
   exact (x b u e).uP (fun c v _ q => k c v q) (fun c q => by rw [ao (bu q hn)]; exact q) (fun c xs q => by rw [ao (bu q hn)]; exact q) fun c z q => by rw [ao (bu q hn)]; exact q
end
noncomputable def Rd (H : Hp) (a : Addr) (u : HO) : Prop := H a = some u \/ ∃ o, H a = some (.bK o u)
theorem Rd.ok {P : Program} {w : World} {H : Hp} {h : Heap} {a : Addr} {u : HO} (r : Rd H a u) (x : oz P w H h) : cV P w H h a u := by
 rcases r with r | ⟨o, r⟩
 . exact x a u r
 . obtain ⟨_, q⟩ := x a _ r
   exact q
noncomputable def WU : Option HO -> Prop
 | some (.lst _) => True
 | some (.dK _) => True
 | some (.dT _) => True
 | some (.set _ _) => True
 | some (.ins _ _ _) => True
 | some (.ext _) => True
 | some (.tabs _) => True
 | _ => False
section
variable {P : Program} {w : World} {H : Hp} {h h' : Heap} {x e : Addr} {o' : HO}
theorem oz.write (ok : oz P w H h) (mu : WU (H x)) (he : e = x \/ H e = some (.own x)) (k : ∀ b u, b ≠ e -> h.get? b = some u -> h'.get? b = some u) (Ww : ∃ u, h'.get? e = some u)
   (new : cV P w (upd H x o') h' x o') : oz P w (upd H x o') h' := fun b u q => by
 have WV : ∀ c y, H c = some (.own y) -> c ≠ x := fun c y r z => by subst z; rw [r] at mu; exact mu
 have aaz : ∀ c xs, H c = some (.tup xs) -> c ≠ x := fun c xs r z => by subst z; rw [r] at mu; exact mu
 have aaA : ∀ c q, H c = some (.Qp q) -> c ≠ x := fun c q r z => by subst z; rw [r] at mu; exact mu
 by_cases hb : b = x
 . subst hb; rw [az] at q; cases q; exact new
 . rw [ao hb] at q
   by_cases RG : b = e
   . have q' : H b = some (.own x) := by
       rcases he with z | z
       . exact absurd (RG.trans z) hb
       . rw [RG]; exact z
     rw [q] at q'; cases q'
     obtain ⟨v, hv⟩ := Ww
     exact ⟨v, by rw [RG]; exact hv⟩
   . refine (ok b u q).uP (fun c v hc r => k c v ?_ r) (fun c r => by rw [ao (WV c b r)]; exact r) (fun c xs r => by rw [ao (aaz c xs r)]; exact r) fun c z r => by rw [ao (aaA c z r)]; exact r
     rcases hc with rfl | hc
     . exact RG
     . rintro rfl
       rcases he with z | z
       . exact WV c b hc z
       . rw [hc] at z; cases z; exact hb rfl
end
structure Un (fs ex : List Addr) (H H' : Hp) (h h' : Heap) : Prop where
 keep : ∀ b o, h.get? b = some o -> H b = none -> b ∉ fs -> b ∉ ex -> h'.get? b = some o
 slot : ∀ b o, h.get? b = some o -> H b = none -> b ∈ fs -> b ∉ ex -> ∃ sl, h'.get? b = some { o with slots := sl }
 free : ∀ b o, h.get? b = some o -> H b = none -> b ∉ ex -> H' b = none
 there : ∀ b o, h.get? b = some o -> b ∉ ex -> ∃ o', h'.get? b = some o'
 uQ : ∀ b xs, H b = some (.tup xs) -> H' b = some (.tup xs)
 d9 : ∀ b o u, H b = some (.bK o u) -> H' b = some (.bK o u)
 uR : ∀ b ps, H b = some (.Qo ps) -> ∃ more, H' b = some (.Qo (ps ++ more))
section
variable {fs ex : List Addr} {H H1 : Hp} {h h1 h' : Heap} {a x e : Addr} {o : HO}
theorem Un.any (u : Un fs ex H H1 h h1) {b : Addr} {ob : Obj} (q : h.get? b = some ob) (n : H b = none) (hx : b ∉ ex) : ∃ sl, h1.get? b = some { ob with slots := sl } := by
 by_cases hb : b ∈ fs
 . exact u.slot b ob q n hb hx
 . exact ⟨ob.slots, u.keep b ob q n hb hx⟩
theorem Un.kept (k : ∀ b u, h.get? b = some u -> h'.get? b = some u) : Un fs ex H H h h' :=
 ⟨fun b ob q _ _ _ => k b ob q, fun b ob q _ _ _ => ⟨ob.slots, k b ob q⟩, fun _ _ _ n _ => n, fun b ob q _ => ⟨ob, k b ob q⟩, fun _ _ q => q, fun _ _ _ q => q, fun _ ps q => ⟨#[], by rw [q]; simp⟩⟩
theorem Un.refl : Un fs ex H H h h := Un.kept fun _ _ q => q
theorem Un.laid (k : ∀ b u, h.get? b = some u -> h'.get? b = some u) (hp : h.objs.size <= a) (hn : H a = none) : Un fs ex H (upd H a o) h h' where
 keep := fun b u q _ _ _ => k b u q
 slot := fun b u q _ _ _ => ⟨u.slots, k b u q⟩
 free := fun b u q n _ => by rw [ao (agG (agA (agj q) hp))]; exact n
 there := fun b u q _ => ⟨u, k b u q⟩
 uQ := fun b xs q => by rw [ao (bu q hn)]; exact q
 d9 := fun b u xs q => by rw [ao (bu q hn)]; exact q
 uR := fun b ps q => ⟨#[], by rw [ao (bu q hn), q]; simp⟩
theorem Un.write (mu : WU (H x)) (he : e = x \/ H e = some (.own x)) (k : ∀ b u, b ≠ e -> h.get? b = some u -> h'.get? b = some u) (Ww : ∃ u, h'.get? e = some u) : Un fs ex H (upd H x o) h h' := by
 have hx : ∀ b, H b = none -> b ≠ x := fun b n z => by subst z; rw [n] at mu; exact mu
 have hb : ∀ b, H b = none -> b ≠ e := fun b n z => by
   subst z
   rcases he with r | r
   . exact hx b n r
   . rw [n] at r; cases r
 have hm : ∀ b u, H b = some u -> ¬ WU (some u) -> b ≠ x := fun b u q nm z => by subst z; rw [q] at mu; exact nm mu
 refine ⟨fun b u q n _ _ => k b u (hb b n) q, fun b u q n _ _ => ⟨u.slots, k b u (hb b n) q⟩, fun b u q n _ => by rw [ao (hx b n)]; exact n, fun b u q _ => ?_,
   fun b xs q => by rw [ao (hm b _ q fun z => z)]; exact q, fun b u xs q => by rw [ao (hm b _ q fun z => z)]; exact q, fun b ps q => ⟨#[], by rw [ao (hm b _ q fun z => z), q]; simp⟩⟩
 by_cases RG : b = e
 . subst RG; exact Ww
 . exact ⟨u, k b u RG q⟩
end
noncomputable def ZG (h : Heap) (H : Hp) : List Addr := (List.range h.objs.size).filter fun a => (H a).isSome
noncomputable def wo (h : Heap) (H : Hp) : Heap := PySem.W.hideAll h (ZG h H)
theorem EJ (h : Heap) (H : Hp) : (wo h H).objs.size = h.objs.size := PySem.W.hideAll_size _ _
theorem G7 {h : Heap} {H : Hp} {b : Addr} {o : Obj} (e : h.get? b = some o) (n : H b = none) : (wo h H).get? b = some o :=
 PySem.W.hideAll_get _ e fun hm => by
   have q : (H b).isSome = true := (ahK.mp hm).2
   rw [n] at q; simp at q
theorem Mi {h : Heap} {H : Hp} {b : Addr} {o : Obj} (e : (wo h H).get? b = some o) : h.get? b = some o /\ H b = none := by
 have e' : h.get? b = some o := PySem.W.of_hideAll (ZG h H) e
 refine ⟨e', ?_⟩
 cases q : H b with
 | none => rfl
 | some x =>
   have hm : b ∈ ZG h H := ahK.mpr ⟨agX.mpr (agj e'), by simp [q]⟩
   have z : (wo h H).get? b = none := PySem.W.hideAll_none (ZG h H) hm
   rw [z] at e; cases e
noncomputable def Mj (g h : Heap) (L : Addr) : List (Addr × Obj) := (List.range h.objs.size).filterMap fun a => if a = L \/ (g.get? a).isSome = true then none else (h.get? a).map fun o => (a, o)
noncomputable def rest (g h : Heap) (L d : Addr) : List (Addr × Obj) := (Mj g h L).filter fun p => decide (p.1 ≠ d)
structure Mod (K : PySem.W.Frag) (mg : Str -> Option Value) (base : Heap) : Prop where
 ZH : K.In base
 glob : base.Ns mainGlobals mg
 blt : ∃ mb, base.Ns builtinsNs mb /\ ∀ x : Str, x ≠ "__name__" -> mb x = bootBuiltins x
 nolimit : base.NoLimit
structure Cx where
 prog : Program
 w : World
 K : PySem.W.Frag
 mg : Str -> Option Value
 base : Heap
 A : Around
 N : List Str
 s₀ : Shared
 H₀ : Hp
 env : Env
 outer : List Env
 stack : List Env
 ex : List Addr
 fn : Str -> Bool
 calm : Bool
 pn : List (Addr × Obj)
 xe : Value -> Shared -> Prop
noncomputable def GV (l : List Env) : List Addr := l.filterMap (·.frame)
noncomputable abbrev Cx.fs (X : Cx) : List Addr := GV X.outer
noncomputable def Wx (sc : Scope) (x : Str) : Prop := sc.names.lookup x = some .local \/ sc.names.lookup x = some .cell \/ sc.names.lookup x = some .free
noncomputable def Loc (sc : Scope) (x : Str) : Prop := sc.names.lookup x = some .local \/ sc.names.lookup x = some .cell
noncomputable def Look (env : Env) (h : Heap) (m : Str -> Option Value) (x : Str) (u : Value) : Prop :=
 (env.kindOf x = some .local /\ m x = some u) \/ ((env.kindOf x = some .cell \/ env.kindOf x = some .free) /\ ∃ c, env.cells.lookup x = some c /\ h.IsCell c (some u))
structure Cx.Ok (X : Cx) : Prop where
 mod : Mod X.K X.mg X.base
 kind : X.env.scope.kind = .function
 glob : X.env.globals = mainGlobals
 blt : X.env.builtins = builtinsNs
 above : X.s₀.heap.objs.size <= X.env.locals
 inj : ∀ x y c, X.env.cells.lookup x = some c -> X.env.cells.lookup y = some c -> x = y
 has : ∀ x, (X.env.kindOf x = some .cell \/ X.env.kindOf x = some .free) -> ∃ c, X.env.cells.lookup x = some c
 WW : ∀ x c, X.fn x = true -> X.env.cells.lookup x = some c -> X.s₀.heap.objs.size <= c
 hd : X.calm = true -> X.A.handled = none
 frames : X.A.frames = some X.stack
 ZI : X.stack = X.outer \/ (X.stack = X.env :: X.outer /\ X.env.frame = some X.env.locals)
 exf : ∀ b ∈ X.ex, b ≠ X.env.locals /\ ∀ x c, X.env.cells.lookup x = some c -> c ≠ b
 bs : ∀ b o, X.base.get? b = some o -> X.s₀.heap.get? b = some o /\ X.H₀ b = none
 LY : X.base.objs.size <= X.s₀.heap.objs.size
 G8 : ∀ b o, X.base.get? b = some o -> b ∉ X.ex
 Ml : ∀ b ∈ X.ex, b ∉ X.fs
 qo : X.s₀.heap.FunFrames X.base X.outer
 Qs : ∀ b ∈ X.fs, X.H₀ b = none
structure Inv (X : Cx) (pins : List (Addr × Obj)) (σ : List (Option V)) (H : Hp) (s : Shared) : Prop where
 ok : X.Ok
 os : s.os = X.s₀.os
 bare : AllBare s.gens
 base : Un X.fs X.ex X.H₀ H X.s₀.heap s.heap
 loc : ∃ m, s.heap.Ns X.env.locals m /\ ∀ (i : Nat) (x : Str) (v : V), X.N[i]? = some x -> σ[i]? = some (some v) -> Wx X.env.scope x -> ∃ u, RelV v u /\ Look X.env s.heap m x u
 cell : ∀ x c, X.env.cells.lookup x = some c -> ∃ v, s.heap.IsCell c v
 free : H X.env.locals = none
 kM : ∀ x c, X.env.cells.lookup x = some c -> H c = none
 pin : ∀ p ∈ X.pn ++ pins, s.heap.get? p.1 = some p.2 /\ H p.1 = none /\ p.1 ≠ X.env.locals /\ p.1 ∉ X.fs /\ ∀ v, p.2.data ≠ .cell v
 c6 : oz X.prog X.w H s.heap
 len : σ.length = X.N.length
section
variable {X : Cx} {pins : List (Addr × Obj)} {σ : List (Option V)} {H H' : Hp} {s : Shared} {h' : Heap}
theorem Cx.Ok.aaB (ok : X.Ok) {b : Addr} {o : Obj} (e : X.base.get? b = some o) : b ∉ X.fs := fun hb => by
 have := (ok.qo.mem hb).1
 rw [e] at this; cases this
theorem Inv.bs (I : Inv X pins σ H s) : ∀ b o, X.base.get? b = some o -> s.heap.get? b = some o /\ H b = none := fun b o e =>
 ⟨I.base.keep b o (I.ok.bs b o e).1 (I.ok.bs b o e).2 (I.ok.aaB e) (I.ok.G8 b o e), I.base.free b o (I.ok.bs b o e).1 (I.ok.bs b o e).2 (I.ok.G8 b o e)⟩
theorem Inv.bk (I : Inv X pins σ H s) : ∀ b o, X.base.get? b = some o -> s.heap.get? b = some o := fun b o e => (I.bs b o e).1
theorem Inv.mod (I : Inv X pins σ H s) : Mod X.K X.mg X.base := I.ok.mod
theorem Inv.zx (I : Inv X pins σ H s) : X.K.In s.heap := I.ok.mod.ZH.keeps I.bk
theorem Inv.lt (I : Inv X pins σ H s) : X.env.locals < s.heap.objs.size := let ⟨_, hn, _⟩ := I.loc; hn.lt
theorem Inv.sz (I : Inv X pins σ H s) : X.s₀.heap.objs.size <= s.heap.objs.size := agH I.ok.above (ahd I.lt)
theorem Inv.aaC (I : Inv X pins σ H s) {a : Addr} (h : s.heap.objs.size <= a) : a ∉ X.fs := fun hb => by
 obtain ⟨_, o, ho, _⟩ := I.ok.qo.mem hb
 exact absurd (agA (agj ho) (agH I.sz h)) (ahX _)
theorem Inv.RH (I : Inv X pins σ H s) : ∀ x c, X.env.cells.lookup x = some c -> c ≠ X.env.locals := fun x c e z => by
 obtain ⟨v, o, ho, hd⟩ := I.cell x c e
 obtain ⟨m, ⟨o', es, ep, CZ, wu, _⟩, _⟩ := I.loc
 rw [z, CZ] at ho; cases ho; rw [wu] at hd; cases hd
theorem Inv.qo (I : Inv X pins σ H s) : s.heap.FunFrames X.base X.outer := by
 have all : ∀ (l : List Env), (∀ b ∈ GV l, b ∈ X.fs) -> X.s₀.heap.FunFrames X.base l -> s.heap.FunFrames X.base l := by
   intro l
   induction l with
   | nil => intro _ _; trivial
   | cons env r ih =>
     intro hs hl
     obtain ⟨hk, ⟨L, o, hf, hn, ho, hd⟩, hr⟩ := hl
     have hL : L ∈ X.fs := hs L (by unfold GV; rw [ahr, hf]; exact afP)
     obtain ⟨sl, e⟩ := I.base.slot L o ho (I.ok.Qs L hL) hL fun z => I.ok.Ml L z hL
     exact ⟨hk, ⟨L, _, hf, hn, e, hd⟩, ih (fun b hb => hs b (by unfold GV; rw [ahr, hf]; exact afS _ hb)) hr⟩
 exact all X.outer (fun _ hb => hb) I.ok.qo
theorem Inv.stack (I : Inv X pins σ H s) : s.heap.FunFrames X.base X.stack := by
 rcases I.ok.ZI with e | ⟨e, hf⟩
 . rw [e]; exact I.qo
 . rw [e]
   obtain ⟨m, hn, _⟩ := I.loc
   refine .cons (by rw [I.ok.kind]; decide) hf hn ?_ I.qo
   exact Heap.get?_none_of_le (agH I.ok.LY I.ok.above)
theorem Inv.wA (I : Inv X pins σ H s) : ∀ b ∈ GV X.stack, b ∈ X.env.locals :: X.fs := fun b hb => by
 rcases I.ok.ZI with e | ⟨e, hf⟩
 . rw [e] at hb; exact afS _ hb
 . rw [e] at hb
   unfold GV at hb
   rw [ahr, hf] at hb
   exact hb
theorem Inv.C1 (I : Inv X pins σ H s) : ∀ b ∈ GV X.stack, H b = none := fun b hb => by
 rcases afX.mp (I.wA b hb) with e | hb
 . rw [e]; exact I.free
 . obtain ⟨_, o, ho, _⟩ := I.ok.qo.mem hb
   exact I.base.free b o ho (I.ok.Qs b hb) fun z => I.ok.Ml b z hb
theorem Inv.step {g' : Array GenState} {t' : Nat} {d' : Drawn} {ch : List Addr} (I : Inv X pins σ H s)
   (Qt : ∀ b ∈ ch, (b ∈ X.ex \/ X.s₀.heap.objs.size <= b) /\ b ≠ X.env.locals /\ (∀ x c, X.env.cells.lookup x = some c -> c ≠ b) /\ ∀ p ∈ X.pn ++ pins, p.1 ≠ b)
   (keep : ∀ b o, b ≠ X.env.locals -> b ∉ X.fs -> b ∉ ch -> s.heap.get? b = some o -> H b = none -> h'.get? b = some o)
   (slot : ∀ b o, b ≠ X.env.locals -> b ∈ X.fs -> b ∉ ch -> s.heap.get? b = some o -> H b = none -> ∃ sl, h'.get? b = some { o with slots := sl }) (free : ∀ b o, b ∉ ch -> s.heap.get? b = some o -> H b = none -> H' b = none)
   (there : ∀ b o, b ∉ ch -> s.heap.get? b = some o -> ∃ o', h'.get? b = some o')
   (uQ : ∀ b xs, H b = some (.tup xs) -> H' b = some (.tup xs)) (d9 : ∀ b o u, H b = some (.bK o u) -> H' b = some (.bK o u)) (uR : ∀ b ps, H b = some (.Qo ps) -> ∃ more, H' b = some (.Qo (ps ++ more)))
   (ns : ∀ m, s.heap.Ns X.env.locals m -> h'.Ns X.env.locals m) (c6 : oz X.prog X.w H' h') (hg : AllBare g') :
   Inv X pins σ H' { s with heap := h', gens := g', drawn := d', toks := t' } := by
 have neL : ∀ b o, X.s₀.heap.get? b = some o -> b ≠ X.env.locals := fun b o e => agG (agA (agj e) I.ok.above)
 have ZJ : ∀ b o, X.s₀.heap.get? b = some o -> b ∉ X.ex -> b ∉ ch := fun b o e hx hb => by
   rcases (Qt b hb).1 with z | z
   . exact hx z
   . exact absurd (agA (agj e) z) (ahX _)
 have cellK : ∀ x c, X.env.cells.lookup x = some c -> ∀ v, s.heap.IsCell c v -> h'.IsCell c v := fun x c e v ⟨o, ho, hd⟩ => by
   have WX : c ∉ ch := fun z => (Qt c z).2.2.1 x c e rfl
   by_cases hc : c ∈ X.fs
   . obtain ⟨sl, q⟩ := slot c o (I.RH x c e) hc WX ho (I.kM x c e)
     exact ⟨_, q, hd⟩
   . exact ⟨o, keep c o (I.RH x c e) hc WX ho (I.kM x c e), hd⟩
 refine ⟨I.ok, I.os, hg, ⟨fun b o e n hb hx => ?_, fun b o e n hb hx => ?_, fun b o e n hx => ?_, fun b o e hx => ?_, fun b xs e => uQ b xs (I.base.uQ b xs e), fun b o xs e => d9 b o xs (I.base.d9 b o xs e), fun b ps e => ?_⟩, ?_, fun x c e => ?_, ?_, fun x c e => ?_, fun p hp => ?_, c6, I.len⟩
 . exact keep b o (neL b o e) hb (ZJ b o e hx) (I.base.keep b o e n hb hx) (I.base.free b o e n hx)
 . obtain ⟨sl, e1⟩ := I.base.slot b o e n hb hx
   obtain ⟨sl', e2⟩ := slot b _ (neL b o e) hb (ZJ b o e hx) e1 (I.base.free b o e n hx)
   exact ⟨sl', e2⟩
 . obtain ⟨o', e1⟩ := I.base.there b o e hx
   exact free b o' (ZJ b o e hx) e1 (I.base.free b o e n hx)
 . obtain ⟨o', e1⟩ := I.base.there b o e hx
   exact there b o' (ZJ b o e hx) e1
 . obtain ⟨m1, e1⟩ := I.base.uR b ps e
   obtain ⟨m2, e2⟩ := uR b _ e1
   exact ⟨m1 ++ m2, by rw [e2, Array.append_assoc]⟩
 . obtain ⟨m, hn, hl⟩ := I.loc
   refine ⟨m, ns m hn, fun i x v e1 e2 e3 => ?_⟩
   obtain ⟨u, r, l⟩ := hl i x v e1 e2 e3
   refine ⟨u, r, ?_⟩
   rcases l with l | ⟨k, c, e, z⟩
   . exact .inl l
   . exact .inr ⟨k, c, e, cellK x c e _ z⟩
 . obtain ⟨v, z⟩ := I.cell x c e
   exact ⟨v, cellK x c e v z⟩
 . obtain ⟨m, ⟨o, _, _, ho, _⟩, _⟩ := I.loc
   exact free _ o (fun z => (Qt _ z).2.1 rfl) ho I.free
 . obtain ⟨v, o, ho, hd⟩ := I.cell x c e
   exact free c o (fun z => (Qt c z).2.2.1 x c e rfl) ho (I.kM x c e)
 . obtain ⟨e, n, ne, nf, d⟩ := I.pin p hp
   have WX : p.1 ∉ ch := fun z => (Qt p.1 z).2.2.2 p hp rfl
   exact ⟨keep p.1 p.2 ne nf WX e n, free p.1 p.2 WX e n, ne, nf, d⟩
theorem Inv.un {t' : Nat} (I : Inv X pins σ H s) (u : Un X.fs [] H H' s.heap h') (c6 : oz X.prog X.w H' h') : Inv X pins σ H' { s with heap := h', toks := t' } := by
 obtain ⟨m, ⟨o, es, ep, ho, r⟩, _⟩ := id I.loc
 obtain ⟨sl, hL⟩ := u.any ho I.free (by simp)
 exact I.step (g' := s.gens) (d' := s.drawn) (ch := []) (fun _ z => nomatch z) (fun b o _ hb _ e n => u.keep b o e n hb (by simp)) (fun b o _ hb _ e n => u.slot b o e n hb (by simp)) (fun b o _ e n => u.free b o e n (by simp)) (fun b o _ e => u.there b o e (by simp)) u.uQ u.d9 u.uR (fun m' hm => by
   obtain ⟨o', GX, Qu, CZ, r'⟩ := hm
   rw [ho] at CZ; cases CZ
   exact ⟨_, GX, Qu, hL, r'⟩) c6 I.bare
theorem Inv.call {g' : Array GenState} {t' : Nat} {d' : Drawn} {ch : List Addr} (I : Inv X pins σ H s) (u : Un (GV X.stack) ch H H' s.heap h') (c6 : oz X.prog X.w H' h') (hg : AllBare g')
   (Qt : ∀ b ∈ ch, (b ∈ X.ex \/ X.s₀.heap.objs.size <= b) /\ b ≠ X.env.locals /\ (∀ x c, X.env.cells.lookup x = some c -> c ≠ b) /\ ∀ p ∈ X.pn ++ pins, p.1 ≠ b) :
   Inv X pins σ H' { s with heap := h', gens := g', drawn := d', toks := t' } := by
 obtain ⟨m, ⟨o, es, ep, ho, r⟩, _⟩ := id I.loc
 obtain ⟨sl, hL⟩ := u.any ho I.free fun z => (Qt _ z).2.1 rfl
 exact I.step (ch := ch) Qt (fun b o hL hb hc e n => u.keep b o e n (fun z => (afX.mp (I.wA b z)).elim hL hb) hc) (fun b o _ _ hc e n => u.any e n hc) (fun b o hc e n => u.free b o e n hc) (fun b o hc e => u.there b o e hc) u.uQ u.d9 u.uR (fun m' hm => by
   obtain ⟨o', GX, Qu, CZ, r'⟩ := hm
   rw [ho] at CZ; cases CZ
   exact ⟨_, GX, Qu, hL, r'⟩) c6 hg
theorem Inv.turned {t' : Nat} {it : Addr} (I : Inv X pins σ H s) (k : ∀ b o, b ≠ it -> s.heap.get? b = some o -> h'.get? b = some o) (hn : H it = none) (hL : it ≠ X.env.locals)
   (h1 : it ∈ X.ex \/ X.s₀.heap.objs.size <= it) (h2 : ∀ x c, X.env.cells.lookup x = some c -> c ≠ it) (h3 : ∀ p ∈ X.pn ++ pins, p.1 ≠ it) : Inv X pins σ H { s with heap := h', toks := t' } := by
 have nit : ∀ b u, H b = some u -> b ≠ it := fun b u e z => by rw [z, hn] at e; cases e
 refine I.step (g' := s.gens) (d' := s.drawn) (ch := [it]) (fun b hb => ?_) (fun b o _ _ hc e _ => k b o (fun z => hc (by simp [z])) e) (fun b o _ _ hc e _ => ⟨o.slots, k b o (fun z => hc (by simp [z])) e⟩) (fun _ _ _ _ n => n)
   (fun b o hc e => ⟨o, k b o (fun z => hc (by simp [z])) e⟩) (fun _ _ e => e) (fun _ _ _ e => e) (fun b ps e => ⟨#[], by rw [e]; simp⟩) (fun m hm => ?_) (fun b u e => ?_) I.bare
 . have e : b = it := by simpa using hb
   subst e
   exact ⟨h1, hL, h2, h3⟩
 . obtain ⟨o, es, ep, ho, r⟩ := hm
   exact ⟨o, es, ep, k _ o (Ne.symm hL) ho, r⟩
 . refine (I.c6 b u e).uP (fun c v hc q => k c v ?_ q) (fun _ q => q) fun _ _ q => q
   rcases hc with z | z
   . rw [z]; exact nit b u e
   . exact nit c _ z
theorem Inv.tok (I : Inv X pins σ H s) (t : Nat) : Inv X pins σ H { s with toks := t } := I.un (h' := s.heap) (t' := t) Un.refl I.c6
theorem Inv.kept {t' : Nat} (I : Inv X pins σ H s) (k : ∀ b u, s.heap.get? b = some u -> h'.get? b = some u) : Inv X pins σ H { s with heap := h', toks := t' } := I.un (Un.kept k) (I.c6.kept k)
theorem Inv.laid {a : Addr} {o : HO} {t' : Nat} (I : Inv X pins σ H s) (k : ∀ b u, s.heap.get? b = some u -> h'.get? b = some u) (hp : s.heap.objs.size <= a) (new : cV X.prog X.w (upd H a o) h' a o) :
   Inv X pins σ (upd H a o) { s with heap := h', toks := t' } := I.un (Un.laid k hp (I.c6.fresh hp)) (I.c6.laid k hp new)
theorem Inv.write {x e : Addr} {o : HO} {t' : Nat} (I : Inv X pins σ H s) (mu : WU (H x)) (he : e = x \/ H e = some (.own x)) (k : ∀ b u, b ≠ e -> s.heap.get? b = some u -> h'.get? b = some u) (Ww : ∃ u, h'.get? e = some u)
   (new : cV X.prog X.w (upd H x o) h' x o) : Inv X pins σ (upd H x o) { s with heap := h', toks := t' } := I.un (Un.write mu he k Ww) (I.c6.write mu he k Ww new)
theorem Inv.rN {C2 : List (Addr × Obj)} (I : Inv X pins σ H s) (h : ∀ p ∈ C2, s.heap.get? p.1 = some p.2 /\ H p.1 = none /\ p.1 ≠ X.env.locals /\ p.1 ∉ X.fs /\ ∀ v, p.2.data ≠ .cell v) : Inv X C2 σ H s :=
 ⟨I.ok, I.os, I.bare, I.base, I.loc, I.cell, I.free, I.kM, fun p hp => (af0.mp hp).elim (fun z => I.pin p (afU _ z)) (h p), I.c6, I.len⟩
theorem zI {N : List Str} (hN : N.Nodup) {i j : Nat} {x : Str} (a : N[i]? = some x) (b : N[j]? = some x) : i = j := by
 obtain ⟨h1, e1⟩ := af5.mp a
 obtain ⟨h2, e2⟩ := af5.mp b
 exact (List.getElem_inj hN).mp (e1.trans e2.symm)
theorem EK {M : Model} {A : Around} {E : Value -> Shared -> Prop} {i : Nat} {x : Str} {v : V} {u : Value} {Q : Unit -> Shared -> Prop} (I : Inv X pins σ H s) (hN : X.N.Nodup) (hi : X.N[i]? = some x) (hx : Loc X.env.scope x) (r : RelV v u)
   (h : ∀ s', Inv X pins (σ.set i (some v)) H s' -> (∃ a, Heap.SameBut a s.heap s'.heap /\ (a = X.env.locals \/ X.env.cells.lookup x = some a)) -> Q () s') (hf : X.fn x = true \/ X.env.scope.names.lookup x = some .local := by first | exact .inl rfl | exact .inr rfl | assumption) : wpAny M A (storeName X.env x u) Q E s := by
 obtain ⟨m, hn, hl⟩ := id I.loc
 have aaD : (X.env.scope.kind == .class || (X.env.scope.kind == .module && X.env.locals != X.env.globals)) = false := by rw [I.ok.kind]; rfl
 have WY : i < σ.length := by rw [I.len]; exact (af5.mp hi).1
 have RH := I.RH
 have tracked : ∀ {a : Addr} {h' : Heap}, (∃ o, s.heap.get? a = some o /\ H a = none) -> Heap.SameBut a s.heap h' -> oz X.prog X.w H h' := fun {a h'} ha hs b ob e => by
   obtain ⟨_, _, Qv⟩ := ha
   refine (I.c6 b ob e).uP (fun c w' hc q => (hs.2 c ?_).trans q) (fun _ q => q) fun _ _ q => q
   rintro rfl
   rcases hc with rfl | hc
   . rw [Qv] at e; cases e
   . rw [Qv] at hc; cases hc
 rcases hx with hk | hk
 . refine wpAny_storeName_local hk hn (fun h' hn' hs => ?_) aaD
   obtain ⟨oL, _, _, hoL, _⟩ := id hn
   refine h _ ⟨I.ok, I.os, I.bare, ⟨fun b o e n hb hx => ?_, fun b o e n hb hx => ?_, I.base.free, fun b o e hx => ?_, I.base.uQ, I.base.d9, I.base.uR⟩, ⟨_, hn', fun j y v' e1 e2 e3 => ?_⟩, fun y c e => ?_, I.free, I.kM, fun p hp => ?_, tracked ⟨oL, hoL, I.free⟩ hs, by simpa using I.len⟩ ⟨_, hs, .inl rfl⟩
   . exact (hs.2 b (agG (agA (agj e) I.ok.above))).trans (I.base.keep b o e n hb hx)
   . obtain ⟨sl, e1⟩ := I.base.slot b o e n hb hx
     exact ⟨sl, (hs.2 b (agG (agA (agj e) I.ok.above))).trans e1⟩
   . obtain ⟨o', e1⟩ := I.base.there b o e hx
     exact ⟨o', (hs.2 b (agG (agA (agj e) I.ok.above))).trans e1⟩
   . by_cases hj : j = i
     . subst hj
       rw [hi] at e1; cases e1
       rw [List.getElem?_set_self WY] at e2
       cases e2
       exact ⟨u, r, .inl ⟨hk, by simp⟩⟩
     . rw [List.getElem?_set_ne (Ne.symm hj)] at e2
       obtain ⟨u', r', q⟩ := hl j y v' e1 e2 e3
       refine ⟨u', r', ?_⟩
       rcases q with ⟨k, e⟩ | ⟨k, c, e, z⟩
       . refine .inl ⟨k, ?_⟩
         have : y ≠ x := fun e => hj (zI hN e1 (e ▸ hi))
         simp [this, e]
       . exact .inr ⟨k, c, e, z.sameBut hs (RH y c e)⟩
   . obtain ⟨w', z⟩ := I.cell y c e
     exact ⟨w', z.sameBut hs (RH y c e)⟩
   . obtain ⟨e, n, ne, nf, d⟩ := I.pin p hp
     exact ⟨(hs.2 p.1 ne).trans e, n, ne, nf, d⟩
 . have hfn : X.fn x = true := by
     rcases hf with z | z
     . exact z
     . rw [z] at hk; cases hk
   obtain ⟨c, hc⟩ := I.ok.has x (.inl hk)
   obtain ⟨w', z⟩ := I.cell x c hc
   refine wpAny_storeName_cell I.ok.kind hk hc z (fun h' RJ hs => ?_)
   obtain ⟨oc, ZK, aaF⟩ := id z
   refine h { s with heap := h' } ⟨I.ok, I.os, I.bare, ⟨fun b o e n hb hx => ?_, fun b o e n hb hx => ?_, I.base.free, fun b o e hx => ?_, I.base.uQ, I.base.d9, I.base.uR⟩, ⟨m, hn.sameBut hs (Ne.symm (RH x c hc)), fun j y v' e1 e2 e3 => ?_⟩, fun y c' e => ?_, I.free, I.kM, fun p hp => ?_, tracked ⟨oc, ZK, I.kM x c hc⟩ hs, by simpa using I.len⟩ ⟨c, hs, .inr hc⟩
   . exact (hs.2 b (agG (agA (agj e) (I.ok.WW x c hfn hc)))).trans (I.base.keep b o e n hb hx)
   . obtain ⟨sl, e1⟩ := I.base.slot b o e n hb hx
     exact ⟨sl, (hs.2 b (agG (agA (agj e) (I.ok.WW x c hfn hc)))).trans e1⟩
   . obtain ⟨o', e1⟩ := I.base.there b o e hx
     exact ⟨o', (hs.2 b (agG (agA (agj e) (I.ok.WW x c hfn hc)))).trans e1⟩
   . by_cases hj : j = i
     . subst hj
       rw [hi] at e1; cases e1
       rw [List.getElem?_set_self WY] at e2
       cases e2
       exact ⟨u, r, .inr ⟨.inl hk, c, hc, RJ⟩⟩
     . rw [List.getElem?_set_ne (Ne.symm hj)] at e2
       obtain ⟨u', r', q⟩ := hl j y v' e1 e2 e3
       refine ⟨u', r', ?_⟩
       rcases q with q | ⟨k, c', e, z'⟩
       . exact .inl q
       . refine .inr ⟨k, c', e, z'.sameBut hs ?_⟩
         rintro rfl
         exact hj (zI hN e1 (I.ok.inj _ _ _ e hc ▸ hi))
   . by_cases ZL : c' = c
     . subst ZL; exact ⟨_, RJ⟩
     . obtain ⟨w2, z2⟩ := I.cell y c' e
       exact ⟨w2, z2.sameBut hs ZL⟩
   . obtain ⟨e, n, ne, nf, d⟩ := I.pin p hp
     refine ⟨(hs.2 p.1 ?_).trans e, n, ne, nf, d⟩
     intro q
     rw [q, ZK] at e
     have q' : oc = p.2 := agf e
     exact d w' (by rw [← q']; exact aaF)
theorem zJ {M : Model} {A : Around} {E : Value -> Shared -> Prop} {i : Nat} {x : Str} {v : V} {u : Value} {Q : Unit -> Shared -> Prop} (I : Inv X pins σ H s) (hN : X.N.Nodup) (hi : X.N[i]? = some x) (hx : Loc X.env.scope x) (r : RelV v u)
   (h : ∀ s', Inv X pins (σ.set i (some v)) H s' -> Q () s') (hf : X.fn x = true \/ X.env.scope.names.lookup x = some .local := by first | exact .inl rfl | exact .inr rfl | assumption) : wpAny M A (storeName X.env x u) Q E s :=
 EK I hN hi hx r (fun s' I' _ => h s' I') hf
end
noncomputable abbrev XK := Value -> Option Addr -> Hp -> Prop
noncomputable abbrev St := List (Option V)
noncomputable abbrev VK := V -> Hp -> Prop
noncomputable abbrev TE := St -> Hp -> VK -> Prop
noncomputable abbrev TT := St -> Hp -> (Bool -> Hp -> Prop) -> Prop
noncomputable abbrev TA := St -> Hp -> (List V -> Hp -> Prop) -> Prop
structure Ends where
 nx : St -> Hp -> Prop
 rt : VK
 bk : St -> Hp -> Prop := fun _ _ => False
 ct : St -> Hp -> Prop := fun _ _ => False
noncomputable abbrev TS := Ends -> St -> Hp -> Prop
noncomputable def EP (X : Cx) (pins : List (Addr × Obj)) (σ : St) (Q : VK) (u : Value) (s' : Shared) : Prop := ∃ v H', Inv X pins σ H' s' /\ RelV v u /\ Q v H'
noncomputable def TP (X : Cx) (pins : List (Addr × Obj)) (σ : St) (Q : Bool -> Hp -> Prop) (b : Bool) (s' : Shared) : Prop := ∃ H', Inv X pins σ H' s' /\ Q b H'
noncomputable def AP (X : Cx) (pins : List (Addr × Obj)) (σ : St) (Q : List V -> Hp -> Prop) (us : List Value) (s' : Shared) : Prop := ∃ vs H', Inv X pins σ H' s' /\ Vals vs us /\ Q vs H'
noncomputable def SP (X : Cx) (pins : List (Addr × Obj)) (D : Ends) (f : Flow) (s' : Shared) : Prop :=
 match f with
 | .next => ∃ σ' H', Inv X pins σ' H' s' /\ D.nx σ' H'
 | .brk => ∃ σ' H', Inv X pins σ' H' s' /\ D.bk σ' H'
 | .cont => ∃ σ' H', Inv X pins σ' H' s' /\ D.ct σ' H'
 | .ret u => ∃ v σ' H', Inv X pins σ' H' s' /\ RelV v u /\ D.rt v H'
noncomputable def PE (X : Cx) (e : Expr) (t : TE) : Prop :=
 ∀ (pins : List (Addr × Obj)) (s : Shared) (σ : St) (H : Hp) (Q : VK), Inv X pins σ H s -> t σ H Q -> wpAny (model X.prog X.w) X.A (eval e X.env) (EP X pins σ Q) X.xe s
noncomputable def PT (X : Cx) (e : Expr) (t : TT) : Prop :=
 ∀ (pins : List (Addr × Obj)) (s : Shared) (σ : St) (H : Hp) (Q : Bool -> Hp -> Prop), Inv X pins σ H s -> t σ H Q -> wpAny (model X.prog X.w) X.A (isTrue e X.env (eval e X.env)) (TP X pins σ Q) X.xe s
noncomputable def PW (X : Cx) (e : Expr) (t : TT) : Prop :=
 ∀ (whole : Sem Value) (pins : List (Addr × Obj)) (s : Shared) (σ : St) (H : Hp) (Q : Bool -> Hp -> Prop), Inv X pins σ H s -> t σ H Q -> wpAny (model X.prog X.w) X.A (isTrue e X.env whole) (TP X pins σ Q) X.xe s
noncomputable def PA (X : Cx) (es : List Expr) (t : TA) : Prop :=
 ∀ (pos : Pos) (pins : List (Addr × Obj)) (s : Shared) (σ : St) (H : Hp) (Q : List V -> Hp -> Prop), Inv X pins σ H s -> t σ H Q -> wpAny (model X.prog X.w) X.A (spliced (backTo pos (starEach es X.env))) (AP X pins σ Q) X.xe s
noncomputable def PS (X : Cx) (st : Stmt) (t : TS) : Prop :=
 ∀ (pins : List (Addr × Obj)) (s : Shared) (σ : St) (H : Hp) (D : Ends), Inv X pins σ H s -> t D σ H -> wpAny (model X.prog X.w) X.A (exec st X.env) (SP X pins D) X.xe s
noncomputable def C3 (X : Cx) (st : List Stmt) (t : TS) : Prop :=
 ∀ (pins : List (Addr × Obj)) (s : Shared) (σ : St) (H : Hp) (D : Ends), Inv X pins σ H s -> t D σ H -> wpAny (model X.prog X.w) X.A (execs st X.env) (SP X pins D) X.xe s
theorem cR {α : Type} {t : Sem α} {Q Q' : α -> Shared -> Prop} {M : Model} {A : Around} {E : Value -> Shared -> Prop} {s : Shared} (h : wpAny M A t Q E s) (hQ : ∀ a s, Q a s -> Q' a s) : wpAny M A t Q' E s := ag7 h hQ fun _ _ x => x
section
variable {X : Cx}
noncomputable def aaG (i : Nat) : TE := fun σ H Q => ∃ v, σ[i]? = some (some v) /\ Q v H
noncomputable def tC (v : V) : TE := fun _ H Q => Q v H
theorem gW {i : Nat} {x : Str} {pos : Pos} (hN : X.N[i]? = some x) (hv : Wx X.env.scope x) (hd : (x == ("__debug__" : Str)) = false := by decide) (kK : (x == ("__classdict__" : Str)) = false := by decide) : PE X (.Name x pos) (aaG i) := by
 intro pins s σ H Q I h
 obtain ⟨v, e, h⟩ := h
 obtain ⟨m, hn, hl⟩ := I.loc
 obtain ⟨u, r, l⟩ := hl i x v hN e hv
 have fin : EP X pins σ Q u s := ⟨v, H, I, r, h⟩
 rcases l with ⟨hk, hm⟩ | ⟨hk, c, hc, vv⟩
 . exact wpAny_Name (wpAny_loadName_local I.ok.kind hk hn hm fin) hd
 . rcases hk with hk | hk
   . exact wpAny_Name (wpAny_loadName_cell I.ok.kind hk hc vv fin) hd
   . exact wpAny_Name (wpAny_loadName_free I.ok.kind hk hc vv fin kK) hd
theorem RK {i j pos} : PE X (.Constant (.int i) j pos) (tC (.int i)) := fun _ _ _ H _ I h => wpAny_Constant_int ⟨.int i, H, I.tok _, ⟨_, rfl⟩, h⟩
theorem WZ {b j pos} : PE X (.Constant (.bool b) j pos) (tC (.bl b)) := fun _ _ _ H _ I h => Constant_bool ⟨.bl b, H, I, rfl, h⟩
theorem RL {x j pos} : PE X (.Constant (.str x) j pos) (tC (.str x)) := fun _ _ _ H _ I h => Calls.Constant_str ⟨.str x, H, I.tok _, ⟨_, rfl⟩, h⟩
noncomputable def Gl (X : Cx) (x : Str) : Prop := X.env.kindOf x = some .globalImplicit
theorem rO {E : Value -> Shared -> Prop} {pins : List (Addr × Obj)} {s : Shared} {σ : St} {H : Hp} {x : Str} {u : Value} {pos : Pos} {Q : Value -> Shared -> Prop} (I : Inv X pins σ H s) (hg : Gl X x) (hm : X.mg x = some u) (h : Q u s)
   (hd : (x == ("__debug__" : Str)) = false := by decide) : wpAny (model X.prog X.w) X.A (eval (.Name x pos) X.env) Q E s :=
 Calls.Name_function_global I.ok.kind hg (Calls.loadGlobal_global (by rw [I.ok.glob]; exact I.mod.glob.keeps I.bk) hm h) hd
theorem wB {E : Value -> Shared -> Prop} {pins : List (Addr × Obj)} {s : Shared} {σ : St} {H : Hp} {x : Str} {u : Value} {pos : Pos} {Q : Value -> Shared -> Prop} (I : Inv X pins σ H s) (hg : Gl X x) (hm : X.mg x = none) (hv : bootBuiltins x = some u) (h : Q u s)
   (hn : x ≠ "__name__" := by decide) (hd : (x == ("__debug__" : Str)) = false := by decide) : wpAny (model X.prog X.w) X.A (eval (.Name x pos) X.env) Q E s := by
 obtain ⟨mb, h1, h2⟩ := I.mod.blt
 exact Calls.Name_function_global I.ok.kind hg (Calls.loadGlobal_builtin (by rw [I.ok.glob]; exact I.mod.glob.keeps I.bk) hm (by rw [I.ok.blt]; exact h1.keeps I.bk) ((h2 x hn).trans hv) h) hd
theorem Mm {x : Str} {v : V} {u : Value} {pos : Pos} (hg : Gl X x) (hm : X.mg x = some u) (r : RelV v u) (hd : (x == ("__debug__" : Str)) = false := by decide) : PE X (.Name x pos) (tC v) :=
 fun _ _ _ H _ I h => rO I hg hm ⟨v, H, I, r, h⟩ hd
theorem Mp {x : Str} {v : V} {u : Value} {pos : Pos} (hg : Gl X x) (hm : X.mg x = none) (hv : bootBuiltins x = some u) (r : RelV v u) (hn : x ≠ "__name__" := by decide) (hd : (x == ("__debug__" : Str)) = false := by decide) : PE X (.Name x pos) (tC v) :=
 fun _ _ _ H _ I h => wB I hg hm hv ⟨v, H, I, r, h⟩ hn hd
variable {a b : Expr} {ta tb : TE} {pos : Pos}
noncomputable def PC (X : Cx) (op : CmpOp) (a b : Expr) (t : TE) : Prop :=
 ∀ (pins : List (Addr × Obj)) (s : Shared) (σ : St) (H : Hp) (Q : VK), Inv X pins σ H s -> t σ H Q →
   wpAny (model X.prog X.w) X.A (eval a X.env) (fun v s₁ => wpAny (model X.prog X.w) X.A (eval b X.env) (fun u s₂ => wpAny (model X.prog X.w) X.A (compareOp op v u) (EP X pins σ Q) X.xe s₂) X.xe s₁) X.xe s
theorem G9 (b : Expr) {op : CmpOp} (h : op ≠ .In) (h2 : op ≠ .NotIn) : behindInMarks op b = false := by
 have e1 : (op == CmpOp.In) = false := by cases op <;> first | rfl | exact absurd rfl h
 have e2 : (op == CmpOp.NotIn) = false := by cases op <;> first | rfl | exact absurd rfl h2
 cases b <;> simp [behindInMarks, e1, e2]
noncomputable def tB (t : TE) : TT := fun σ H Q => t σ H fun x H1 => ∃ c, x = .bl c /\ Q c H1
theorem RM {op : CmpOp} {t : TE} (h : PC X op a b t) (h1 : behindInMarks op b = false := by first | exact G9 _ (by decide) (by decide) | rfl) : PT X (.Compare a [op] [b] pos) (tB t) := by
 intro pins s σ H Q I hw
 refine wpAny_isTrue_Compare1 (cR (h pins s σ H _ I hw) fun v s1 h1 => cR h1 fun u s2 h2 => cR h2 fun c s3 zz => ?_) h1
 obtain ⟨x, H1, I1, r1, q1⟩ := zz
 obtain ⟨d, rfl, q⟩ := q1
 cases r1
 exact ag0 ⟨H1, I1, q⟩
theorem RN {e : Expr} {t : TE} (h : PE X e t) (he : ∀ whole, isTrue e X.env whole = (do let v ← whole; standAt e.pos; holding [v] (truthy v)) := by intro _; rfl) : PT X e (tB t) := by
 intro pins s σ H Q I hw
 refine isTrue_plain (cR (h pins s σ H _ I hw) fun v s1 zz => ?_) (he _)
 obtain ⟨x, H1, I1, r1, q1⟩ := zz
 obtain ⟨d, rfl, q⟩ := q1
 cases r1
 exact ag0 ⟨H1, I1, q⟩
variable {tA ZM : TT} {rest : List Expr}
noncomputable def aaH (t u : TT) : TT := fun σ H Q => t σ H fun c H1 => if c = true then u σ H1 Q else Q false H1
noncomputable def tOr (t u : TT) : TT := fun σ H Q => t σ H fun c H1 => if c = true then Q true H1 else u σ H1 Q
noncomputable def aaI (t : TT) : TT := fun σ H Q => t σ H fun c H1 => Q (!c) H1
theorem Mq (ha : PT X a tA) : PW X (.BoolOp .And [a] pos) tA := by
 intro wh pins s σ H Q I h
 refine isTrue_and (cR (ha pins s σ H Q I h) fun c s1 e => ?_)
 cases c with
 | true => exact isTrue_and_nil e
 | false => exact e
theorem RP (ha : PT X a tA) : PW X (.BoolOp .Or [a] pos) tA := by
 intro wh pins s σ H Q I h
 refine isTrue_or (cR (ha pins s σ H Q I h) fun c s1 e => ?_)
 cases c with
 | false => exact isTrue_or_nil e
 | true => exact e
theorem RQ (ha : PT X a tA) (hb : PW X (.BoolOp .And (b :: rest) pos) ZM) : PW X (.BoolOp .And (a :: b :: rest) pos) (aaH tA ZM) := by
 intro wh pins s σ H Q I h
 refine isTrue_and (cR (ha pins s σ H _ I h) fun c s1 zz => ?_)
 obtain ⟨H1, I1, q1⟩ := zz
 cases c with
 | true => exact hb wh pins s1 σ H1 Q I1 q1
 | false => exact ⟨H1, I1, q1⟩
theorem W0 (ha : PT X a tA) (hb : PW X (.BoolOp .Or (b :: rest) pos) ZM) : PW X (.BoolOp .Or (a :: b :: rest) pos) (tOr tA ZM) := by
 intro wh pins s σ H Q I h
 refine isTrue_or (cR (ha pins s σ H _ I h) fun c s1 zz => ?_)
 obtain ⟨H1, I1, q1⟩ := zz
 cases c with
 | true => exact ⟨H1, I1, q1⟩
 | false => exact hb wh pins s1 σ H1 Q I1 q1
theorem RT (ha : PT X a tA) : PT X (.UnaryOp .Not a pos) (aaI tA) := by
 intro pins s σ H Q I h
 exact isTrue_not (ha pins s σ H (fun c H1 => Q (!c) H1) I h)
noncomputable def W2 (ta tb : TE) : TE := fun σ H Q => ta σ H fun x H1 => ∃ c, x = .bl c /\ if c = true then tb σ H1 Q else Q (.bl false) H1
noncomputable def aaJ (ta tb : TE) : TE := fun σ H Q => ta σ H fun x H1 => ∃ c, x = .bl c /\ if c = true then Q (.bl true) H1 else tb σ H1 Q
noncomputable def W3 (ta : TE) : TE := fun σ H Q => ta σ H fun x H1 => ∃ c, x = .bl c /\ Q (.bl (!c)) H1
theorem RV {op} {t : TE} (h : PE X a t) : PE X (.BoolOp op [a] pos) t := fun pins s σ H Q I hw => BoolOp_one (h pins s σ H Q I hw)
theorem RW (ha : PE X a ta) (hb : PE X (.BoolOp .And (b :: rest) pos) tb) : PE X (.BoolOp .And (a :: b :: rest) pos) (W2 ta tb) := by
 intro pins s σ H Q I h
 refine BoolOp_and (cR (ha pins s σ H _ I h) fun v s1 zz => ?_)
 obtain ⟨x, H1, I1, r1, q1⟩ := zz
 obtain ⟨c, rfl, q1⟩ := q1
 cases r1
 refine ag0 ?_
 cases c with
 | true => exact hb pins s1 σ H1 Q I1 q1
 | false => exact ⟨.bl false, H1, I1, rfl, q1⟩
theorem W4 (ha : PE X a ta) (hb : PE X (.BoolOp .Or (b :: rest) pos) tb) : PE X (.BoolOp .Or (a :: b :: rest) pos) (aaJ ta tb) := by
 intro pins s σ H Q I h
 refine BoolOp_or (cR (ha pins s σ H _ I h) fun v s1 zz => ?_)
 obtain ⟨x, H1, I1, r1, q1⟩ := zz
 obtain ⟨c, rfl, q1⟩ := q1
 cases r1
 refine ag0 ?_
 cases c with
 | false => exact hb pins s1 σ H1 Q I1 q1
 | true => exact ⟨.bl true, H1, I1, rfl, q1⟩
theorem RX (ha : PE X a ta) : PE X (.UnaryOp .Not a pos) (W3 ta) := by
 intro pins s σ H Q I h
 refine UnaryOp_ (cR (ha pins s σ H _ I h) fun v s1 zz => ?_)
 obtain ⟨x, H1, I1, r1, q1⟩ := zz
 obtain ⟨c, rfl, q1⟩ := q1
 cases r1
 exact not_of (ag0 ⟨.bl (!c), H1, I1, rfl, q1⟩)
end
noncomputable def k6 (K : PySem.W.Frag) (H : Hp) (a : Addr) (xs : List V) : Prop :=
 Rd H a (.lst xs) ∨
   ∃ (o : Obj) (its : Array Value) (n : Nat), K.lookup a = some o /\ o.cls = .type "list" /\ o.dict = none /\ o.data = .seq its n /\ its.size <= sizeLine /\ Vals xs its.toList
noncomputable def kN (K : PySem.W.Frag) (H : Hp) (a : Addr) (xs : List V) : Prop :=
 Rd H a (.tup xs) ∨
   ∃ (o : Obj) (its : Array Value) (n : Nat), K.lookup a = some o /\ o.cls = .type "tuple" /\ o.data = .seq its n /\ its.size <= sizeLine /\ Vals xs its.toList
noncomputable def aaK : Value -> Option V
 | .none => some .non
 | .bool b => some (.bl b)
 | .int i _ => some (.int i)
 | .str x _ => some (.str x)
 | .bytes b _ => some (.GU b)
 | .float b _ => some (.ZF b)
 | .ref a => some (.ref a)
 | .type n => some (.ty n)
 | _ => none
theorem RelV.abs {x : V} {u : Value} (r : RelV x u) : aaK u = some x := by
 cases x with
 | non => cases r; rfl
 | bl _ => cases r; rfl
 | int _ => obtain ⟨t, rfl⟩ := r; rfl
 | str _ => obtain ⟨t, rfl⟩ := r; rfl
 | GU _ => obtain ⟨t, rfl⟩ := r; rfl
 | ZF _ => obtain ⟨t, rfl⟩ := r; rfl
 | ref _ => cases r; rfl
 | ty _ => cases r; rfl
theorem RelV.inj {x y : V} {u : Value} (r : RelV x u) (q : RelV y u) : x = y := agf (r.abs.symm.trans q.abs)
theorem Vals.inj {xs ys : List V} {us : List Value} (h : Vals xs us) (q : Vals ys us) : xs = ys := by
 induction h generalizing ys with
 | nil => cases q; rfl
 | cons r _ i => cases q with
   | cons r' t' => rw [r.inj r', i t']
section
variable {X : Cx} {pins : List (Addr × Obj)} {σ : St} {H : Hp} {s : Shared} {a : Addr} {xs ys : List V}
theorem k6.of {K : PySem.W.Frag} (h : H a = some (.lst xs)) : k6 K H a xs := .inl (.inl h)
theorem kN.of {K : PySem.W.Frag} (h : H a = some (.tup xs)) : kN K H a xs := .inl (.inl h)
theorem Inv.list (I : Inv X pins σ H s) (h : k6 X.K H a xs) : ∃ its : List Value, Vals xs its /\ PlainL s.heap a its.toArray /\ xs.length <= sizeLine := by
 rcases h with h | ⟨o, its, n, hk, hc, hd, hs, hz, r⟩
 . obtain ⟨z, its, n, r, e⟩ := h.ok I.c6
   exact ⟨its, r, ⟨_, n, e, rfl, rfl, rfl⟩, z⟩
 . refine ⟨its.toList, r, ⟨o, n, I.zx a o hk, hc, hd, by simpa using hs⟩, ?_⟩
   have e := r.length
   simp only [ahs] at e
   omega
theorem Inv.tuple (I : Inv X pins σ H s) (h : kN X.K H a xs) : ∃ its : List Value, Vals xs its /\ IsTup s.heap a its.toArray /\ xs.length <= sizeLine := by
 rcases h with h | ⟨o, its, n, hk, hc, hs, hz, r⟩
 . obtain ⟨z, its, r, p⟩ := h.ok I.c6
   exact ⟨its, r, p, z⟩
 . refine ⟨its.toList, r, ⟨o, I.zx a o hk, hc, n, by simpa using hs⟩, ?_⟩
   have e := r.length
   simp only [ahs] at e
   omega
theorem Inv.Hf (I : Inv X pins σ H s) (h : k6 X.K H a xs) (h' : k6 X.K H a ys) : xs = ys := by
 obtain ⟨its, r, ⟨o, n, e, _, _, d⟩, _⟩ := I.list h
 obtain ⟨its', r', ⟨o', n', e', _, _, d'⟩, _⟩ := I.list h'
 rw [e] at e'; cases e'
 rw [d] at d'
 injection d' with d1 _
 have : its = its' := by simpa using congrArg Array.toList d1
 subst this
 exact r.inj r'
theorem Inv.EL (I : Inv X pins σ H s) (h : kN X.K H a xs) (h' : kN X.K H a ys) : xs = ys := by
 obtain ⟨its, r, ⟨o, e, _, n, d⟩, _⟩ := I.tuple h
 obtain ⟨its', r', ⟨o', e', _, n', d'⟩, _⟩ := I.tuple h'
 rw [e] at e'; cases e'
 rw [d] at d'
 injection d' with d1 _
 have : its = its' := by simpa using congrArg Array.toList d1
 subst this
 exact r.inj r'
end
noncomputable abbrev Cx.wish (X : Cx) (E : Value -> Shared -> Prop) : Cx := { X with xe := E }
noncomputable abbrev Cx.Qw (X : Cx) : Cx := X.wish fun _ _ => False
theorem Cx.Ok.wish {X : Cx} (ok : X.Ok) (E : Value -> Shared -> Prop) : (X.wish E).Ok :=
 ⟨ok.mod, ok.kind, ok.glob, ok.blt, ok.above, ok.inj, ok.has, ok.WW, ok.hd, ok.frames, ok.ZI, ok.exf, ok.bs, ok.LY, ok.G8, ok.Ml, ok.qo, ok.Qs⟩
theorem Cx.Ok.k7 {X : Cx} {E : Value -> Shared -> Prop} (ok : (X.wish E).Ok) : X.Ok :=
 ⟨ok.mod, ok.kind, ok.glob, ok.blt, ok.above, ok.inj, ok.has, ok.WW, ok.hd, ok.frames, ok.ZI, ok.exf, ok.bs, ok.LY, ok.G8, ok.Ml, ok.qo, ok.Qs⟩
section
variable {X : Cx} {pins : List (Addr × Obj)} {σ : St} {H : Hp} {s : Shared} {E : Value -> Shared -> Prop}
theorem Inv.wish (I : Inv X pins σ H s) (E : Value -> Shared -> Prop) : Inv (X.wish E) pins σ H s := ⟨I.ok.wish E, I.os, I.bare, I.base, I.loc, I.cell, I.free, I.kM, I.pin, I.c6, I.len⟩
theorem Inv.k7 (I : Inv (X.wish E) pins σ H s) : Inv X pins σ H s := ⟨I.ok.k7, I.os, I.bare, I.base, I.loc, I.cell, I.free, I.kM, I.pin, I.c6, I.len⟩
theorem SP.k7 {D : Ends} {f : Flow} {s' : Shared} (h : SP (X.wish E) pins D f s') : SP X pins D f s' := by
 cases f with
 | next => obtain ⟨σ', H', I, q⟩ := h; exact ⟨σ', H', I.k7, q⟩
 | brk => obtain ⟨σ', H', I, q⟩ := h; exact ⟨σ', H', I.k7, q⟩
 | cont => obtain ⟨σ', H', I, q⟩ := h; exact ⟨σ', H', I.k7, q⟩
 | ret u => obtain ⟨v, σ', H', I, r, q⟩ := h; exact ⟨v, σ', H', I.k7, r, q⟩
theorem C3.Qw {st : List Stmt} {t : TS} (h : C3 X.Qw st t) : C3 X st t := fun pins s σ H D I hw =>
 ag7 (h pins s σ H D (I.wish _) hw) (fun _ _ q => q.k7) fun _ _ z => False.elim z
end
section
variable {X : Cx} {st : Stmt} {rest : List Stmt} {t u : TS} {e : Expr} {te : TE} {pos : Pos}
noncomputable def W5 : TS := fun D σ H => D.nx σ H
noncomputable def aaL (t u : TS) : TS := fun D σ H => t { D with nx := u D } σ H
theorem Mr : C3 X [] W5 := fun _ _ σ H _ I h => wpAny_execs_nil ⟨σ, H, I, h⟩
theorem Hg (h1 : PS X st t) (h2 : C3 X rest u) : C3 X (st :: rest) (aaL t u) := by
 intro pins s σ H D I h
 refine wpAny_execs_cons (cR (h1 pins s σ H { D with nx := u D } I h) fun f s1 q => ?_)
 cases f with
 | next =>
   obtain ⟨σ', H', I', q⟩ := q
   exact h2 pins s1 σ' H' D I' q
 | ret v => exact q
 | brk => exact q
 | cont => exact q
theorem Inv.quiet {pins : List (Addr × Obj)} {σ : St} {H : Hp} {s : Shared} (I : Inv X pins σ H s) : interactive X.env = false := by simp [interactive, I.ok.kind]
noncomputable def W6 (te : TE) : TS := fun D σ H => te σ H fun _ H1 => D.nx σ H1
theorem rP (he : PE X e te) (hs : swapsWith e none pos.line X.env = pure false := by rfl) : PS X (.Expr e pos) (W6 te) := by
 intro pins s σ H D I h
 exact wpAny_Expr_any (cR (he pins s σ H _ I h) fun v s1 ⟨x, H1, I1, r1, q1⟩ => ⟨σ, H1, I1, q1⟩) I.quiet hs
noncomputable def aaM (te : TE) : TS := fun D σ H => te σ H D.rt
theorem RZ (he : PE X e te) : PS X (.Return (some e) pos) (aaM te) := by
 intro pins s σ H D I h
 exact wpAny_Return_some (cR (he pins s σ H _ I h) fun v s1 ⟨x, H1, I1, r1, q1⟩ => ⟨x, σ, H1, I1, r1, q1⟩)
noncomputable def aaN (c : TT) (t u : TS) : TS := fun D σ H => c σ H fun b H1 => if b = true then t D σ H1 else u D σ H1
theorem W7 {c : Expr} {a b : List Stmt} {tc : TT} (hc : PT X c tc) (ha : C3 X a t) (hb : C3 X b u) : PS X (.If c a b pos) (aaN tc t u) := by
 intro pins s σ H D I h
 refine wpAny_If (cR (hc pins s σ H _ I h) fun d s1 zz => ?_)
 obtain ⟨H1, I1, q1⟩ := zz
 cases d with
 | true => exact ha pins s1 σ H1 D I1 q1
 | false => exact hb pins s1 σ H1 D I1 q1
end
noncomputable abbrev TG := V -> St -> Hp -> (St -> Hp -> Prop) -> Prop
noncomputable abbrev R0 := List V -> St -> Hp -> (St -> Hp -> Prop) -> Prop
noncomputable def PG (X : Cx) (target : Expr) (t : TG) : Prop :=
 ∀ (pins : List (Addr × Obj)) (s : Shared) (σ : St) (H : Hp) (v : V) (u : Value) (Q : St -> Hp -> Prop), Inv X pins σ H s -> RelV v u -> t v σ H Q →
   wpAny (model X.prog X.w) X.A (assign target X.env u) (fun _ s' => ∃ σ' H', Inv X pins σ' H' s' /\ Q σ' H') X.xe s
noncomputable def ZN (X : Cx) (ts : List Expr) (t : R0) : Prop :=
 ∀ (pins : List (Addr × Obj)) (s : Shared) (σ : St) (H : Hp) (vs : List V) (us : List Value) (Q : St -> Hp -> Prop), Inv X pins σ H s -> Vals vs us -> t vs σ H Q →
   wpAny (model X.prog X.w) X.A (assignInOrder ((assignEach ts X.env).map (·.2)) us) (fun _ s' => ∃ σ' H', Inv X pins σ' H' s' /\ Q σ' H') X.xe s
noncomputable abbrev R1 := V -> V -> V -> Hp -> (Hp -> Prop) -> Prop
noncomputable def W8 (X : Cx) (t : R1) : Prop :=
 ∀ (pins : List (Addr × Obj)) (s : Shared) (σ : St) (H : Hp) (o i v : V) (ov iv u : Value) (Q : Hp -> Prop), Inv X pins σ H s -> RelV o ov -> RelV i iv -> RelV v u -> t o i v H Q →
   wpAny (model X.prog X.w) X.A (setItem ov iv u) (fun _ s' => ∃ H', Inv X pins σ H' s' /\ Q H') X.xe s
section
variable {X : Cx} {pos : Pos}
noncomputable def qR (i : Nat) : TG := fun v σ H Q => Q (σ.set i (some v)) H
theorem iU {i : Nat} {x : Str} (hN : X.N.Nodup) (hi : X.N[i]? = some x) (hx : Loc X.env.scope x) (hf : X.fn x = true \/ X.env.scope.names.lookup x = some .local := by first | exact .inl rfl | exact .inr rfl | assumption) : PG X (.Name x pos) (qR i) := by
 intro pins s σ H v u Q I r h
 exact wpAny_assign_Name (zJ I hN hi hx r (fun s' I' => ⟨_, H, I', h⟩) hf)
noncomputable def R3 : R0 := fun vs σ H Q => vs = [] /\ Q σ H
noncomputable def zK (t : TG) (u : R0) : R0 := fun vs σ H Q => ∃ v r, vs = v :: r /\ t v σ H fun σ' H' => u r σ' H' Q
theorem C4 : ZN X [] R3 := by
 intro pins s σ H vs us Q I r h
 obtain ⟨e, h⟩ := h
 subst e
 cases r
 exact assignInOrder_nil ⟨σ, H, I, h⟩
theorem oB {e : Expr} {es : List Expr} {t : TG} {u : R0} (h1 : PG X e t) (h2 : ZN X es u)
   (hs : (assignEach (e :: es) X.env).map (·.2) = assign e X.env :: (assignEach es X.env).map (·.2) := by rfl) : ZN X (e :: es) (zK t u) := by
 intro pins s σ H vs us Q I r h
 obtain ⟨v, vr, e1, h⟩ := h
 subst e1
 cases r with
 | cons r rr =>
   rw [hs]
   refine assignInOrder_cons (cR (h1 pins s σ H _ _ _ I r h) fun _ s1 zz => ?_)
   obtain ⟨σ1, H1, I1, q1⟩ := zz
   exact h2 pins s1 σ1 H1 _ _ Q I1 rr q1
noncomputable def R4 (K : PySem.W.Frag) (n : Nat) (t : R0) : TG := fun v σ H Q => ∃ a xs, v = .ref a /\ kN K H a xs /\ xs.length = n /\ t xs σ H Q
theorem Hh {es : List Expr} {k : Nat} {t : R0} {n : Nat} (hc : X.calm = true) (h : ZN X es t)
   (hn : (assignEach es X.env).length = n := by rfl) (R5 : (assignEach es X.env).findIdx? (·.1) = none := by rfl) : PG X (.Tuple es k pos) (R4 X.K n t) := by
 intro pins s σ H v u Q I r hw
 obtain ⟨a, xs, e1, hq, hl, hw⟩ := hw
 subst e1
 cases r
 obtain ⟨its, rv, ht, hz⟩ := I.tuple hq
 refine assign_Tuple_tuple (I.ok.hd hc) ht (by simp [hn, ← hl, rv.length]) R5 fun h' hx => ?_
 have I1 : Inv X pins σ H { s with heap := h' } := I.kept (t' := s.toks) fun b o e => hx b o (agG (agj e)) e
 exact h pins _ σ H xs _ Q I1 (by simpa using rv) hw
noncomputable def aaO (to ti : TE) (t : R1) : TG := fun v σ H Q => to σ H fun o H1 => ti σ H1 fun i H2 => t o i v H2 fun H3 => Q σ H3
theorem R6 {o i : Expr} {to ti : TE} {t : R1} (ho : PE X o to) (hi : PE X i ti) (hs : W8 X t)
   (ha : ∀ v, assign (.Subscript o i pos) X.env v = (do
     let ov ← holding [v] (eval o X.env)
     let iv ← holding [v, ov] (eval i X.env)
     standAt pos
     holding [v, ov, iv] (setItem ov iv v)
     release [v, ov, iv] []) := by intro _; rfl) : PG X (.Subscript o i pos) (aaO to ti t) := by
 intro pins s σ H v u Q I r h
 rw [ha]
 refine afN (ahf (cR (ho pins s σ H _ I h) fun ov s1 zz => ?_))
 obtain ⟨x, H1, I1, r1, q1⟩ := zz
 refine afN (ahf (cR (hi pins s1 σ H1 _ I1 q1) fun iv s2 zz => ?_))
 obtain ⟨y, H2, I2, r2, q2⟩ := zz
 refine afN (wpAny_standAt (afN (ahf (cR (hs pins s2 σ H2 x y v ov iv u _ I2 r1 r2 r q2) fun _ s3 zz => ?_))))
 obtain ⟨H3, I3, q3⟩ := zz
 exact wpAny_release ⟨σ, H3, I3, q3⟩
noncomputable def W9 (te : TE) (g : TG) : TS := fun D σ H => te σ H fun x H1 => g x σ H1 D.nx
theorem R8 {tg e : Expr} {te : TE} {g : TG} (he : PE X e te) (hg : PG X tg g) (hs : swapsWithSole [tg] e pos.line X.env = pure false := by rfl) (hw : swappedStores [tg] e X.env = pure none := by rfl)
   (h1 : (assignEach [tg] X.env).map (·.2) = [assign tg X.env] := by rfl) : PS X (.Assign [tg] e pos) (W9 te g) := by
 intro pins s σ H D I h
 refine wpAny_Assign_stores (cR (he pins s σ H _ I h) fun v s1 zz => ?_) hs hw
 obtain ⟨x, H1, I1, r1, q1⟩ := zz
 rw [h1]
 exact cR (hg pins s1 σ H1 x v _ I1 r1 q1) fun _ s2 q => q
theorem R9 {i : Nat} {x : Str} {e : Expr} {te : TE} {pos' : Pos} (hN : X.N.Nodup) (hi : X.N[i]? = some x) (hx : Loc X.env.scope x) (he : PE X e te) (hs : swapsWith e (some (.Name x pos')) pos.line X.env = pure false := by rfl) (hf : X.fn x = true \/ X.env.scope.names.lookup x = some .local := by first | exact .inl rfl | exact .inr rfl | assumption) :
   PS X (.Assign [.Name x pos'] e pos) (W9 te (qR i)) := by
 intro pins s σ H D I h
 refine wpAny_Assign_Name (cR (he pins s σ H _ I h) fun v s1 zz => ?_) hs
 obtain ⟨y, H1, I1, r1, q1⟩ := zz
 exact zJ I1 hN hi hx r1 (fun s2 I2 => ⟨_, H1, I2, q1⟩) hf
end
section
variable {X : Cx} {pos : Pos}
noncomputable def Sb (c : TT) (tb : TS) : TS := fun D σ H => ∃ W : Nat -> St -> Hp -> Prop, (∃ m, W m σ H) /\ ∀ m σ H, W m σ H →
 c σ H fun b H1 => if b = true then ∃ N : St -> Hp -> Prop, (∀ σ' H', N σ' H' -> ∃ m', m' < m /\ W m' σ' H') /\ tb { D with nx := N, ct := N, bk := D.nx } σ H1 else D.nx σ H1
theorem Hi {c : Expr} {body : List Stmt} {tc : TT} {tb : TS} (hp : PassesOwn (model X.prog X.w) X.A X.env X.xe) (hc : PT X c tc) (hb : C3 X body tb) : PS X (.While c body [] pos) (Sb tc tb) := by
 intro pins s σ H D I h
 obtain ⟨W, ⟨m0, w0⟩, turn⟩ := h
 refine wpAny_While (codeAny_whileLoop (fun n s' => ∃ σ' H', Inv X pins σ' H' s' /\ W n σ' H') ?_ m0 ⟨σ, H, I, w0⟩)
 rintro n s1 ⟨σ1, H1, I1, w1⟩
 refine ahw hp (cR (hc pins s1 σ1 H1 _ I1 (turn n σ1 H1 w1)) fun b s2 zz => ?_)
 obtain ⟨H2, I2, q2⟩ := zz
 cases b with
 | true =>
   obtain ⟨N, hN, q2⟩ := q2
   rw [agb rfl]
   refine ahw hp (cR (hb pins s2 σ1 H2 _ I2 q2) fun f s3 q3 => ?_)
   cases f with
   | next =>
     obtain ⟨σ3, H3, I3, n3⟩ := q3
     obtain ⟨m', hm, w3⟩ := hN σ3 H3 n3
     exact ⟨m', hm, σ3, H3, I3, w3⟩
   | cont =>
     obtain ⟨σ3, H3, I3, n3⟩ := q3
     obtain ⟨m', hm, w3⟩ := hN σ3 H3 n3
     exact ⟨m', hm, σ3, H3, I3, w3⟩
   | brk => exact q3
   | ret v => exact q3
 | false =>
   rw [af1 af4]
   exact wpAny_execs_nil ⟨σ1, H2, I2, q2⟩
end
structure It where
 go : Nat -> Hp -> Prop
 Qx : Nat -> Hp -> V -> Hp -> Prop
 stop : Nat -> Hp -> Prop
noncomputable def rB (X : Cx) (pins : List (Addr × Obj)) (H : Hp) (b : Addr) : Prop :=
 H b = none /\ b ≠ X.env.locals /\ b ∉ X.fs /\ (b ∈ X.ex \/ X.s₀.heap.objs.size <= b) /\ (∀ x c, X.env.cells.lookup x = some c -> c ≠ b) /\ ∀ p ∈ X.pn ++ pins, p.1 ≠ b
theorem Inv.A9 {X : Cx} {pins : List (Addr × Obj)} {σ : St} {H H' : Hp} {s : Shared} {b : Addr} (I : Inv X pins σ H s) (hb : s.heap.objs.size <= b) (hn : H' b = none) : rB X pins H' b := by
 refine ⟨hn, Nat.ne_of_gt (agA I.lt hb), I.aaC hb, .inr (agH I.sz hb), fun x c e z => ?_, fun p hp z => ?_⟩
 . obtain ⟨v, q⟩ := I.cell x c e
   exact absurd (agA q.lt (by rw [z]; exact hb)) (ahX _)
 . exact absurd (agA (agj (I.pin p hp).1) (by rw [z]; exact hb)) (ahX _)
structure Turn (P : Program) (w : World) (K : PySem.W.Frag) (tg : Expr) (J : It) (fp : List Addr) (it : Addr) (tn : Nat -> Heap -> Prop) : Prop where
 mem : it ∈ fp
 obj : ∀ i h, tn i h -> ∀ b ∈ fp, ∃ o, h.get? b = some o /\ ∀ v, o.data ≠ .cell v
 keep : ∀ i h h', tn i h -> (∀ b ∈ fp, ∀ o, h.get? b = some o -> h'.get? b = some o) -> tn i h'
 item : ∀ (X : Cx), X.prog = P -> X.w = w -> X.K = K -> X.calm = true -> ∀ (i : Nat) (pins : List (Addr × Obj)) (s : Shared) (σ : St) (H : Hp) (E : Value -> Shared -> Prop), Inv X pins σ H s -> (∀ b ∈ fp, rB X pins H b) -> tn i s.heap -> J.go i H →
   wpAny (model P w) X.A (pyNext (.ref it)) (fun r s1 => ∃ u, r = some u ∧
     wpAny (model P w) X.A (letOwnedTupleGo tg (.ref it) u) (fun _ s2 => ∃ x H', Inv X pins σ H' s2 /\ RelV x u /\ J.Qx i H x H' /\ tn (i + 1) s2.heap /\ ∀ b ∈ fp, H' b = none) E s1) E s
 done : ∀ (X : Cx), X.prog = P -> X.w = w -> X.K = K -> X.calm = true -> ∀ (i : Nat) (pins : List (Addr × Obj)) (s : Shared) (σ : St) (H : Hp) (E : Value -> Shared -> Prop), Inv X pins σ H s -> (∀ b ∈ fp, rB X pins H b) -> tn i s.heap -> J.stop i H →
   wpAny (model P w) X.A (pyNext (.ref it)) (fun r s1 => r = none /\ Inv X pins σ H s1) E s
 self : ∀ (A : Around) (i : Nat) (s : Shared) (Q : Value -> Shared -> Prop) (E : Value -> Shared -> Prop), tn i s.heap -> Q (.ref it) s -> wpAny (model P w) A (pyIter (.ref it)) Q E s
noncomputable abbrev TI := St -> Hp -> (It -> Hp -> Prop) -> Prop
noncomputable def Xa (X : Cx) (pins : List (Addr × Obj)) (σ : St) (tg : Expr) (R : It -> Hp -> Prop) (ZO : Value) (s2 : Shared) : Prop :=
 ∃ (it : Addr) (fp : List Addr) (tn : Nat -> Heap -> Prop) (J : It) (H' : Hp), ZO = .ref it /\ Inv X pins σ H' s2 /\ Turn X.prog X.w X.K tg J fp it tn /\ tn 0 s2.heap /\ (∀ b ∈ fp, rB X pins H' b) /\ R J H'
noncomputable def PI (X : Cx) (tg iter : Expr) (wi : TI) : Prop :=
 ∀ (pins : List (Addr × Obj)) (s : Shared) (σ : St) (H : Hp) (R : It -> Hp -> Prop), Inv X pins σ H s -> wi σ H R →
   wpAny (model X.prog X.w) X.A (eval iter X.env) (fun v s1 => wpAny (model X.prog X.w) X.A (pyIter v) (Xa X pins σ tg R) X.xe s1) X.xe s
theorem C5 {M : Model} {A : Around} {E : Value -> Shared -> Prop} {s : Shared} {tg : Expr} {it : Addr} {u : Value} {o : Obj} {n : String} {vs : Array Value} {Q : Unit -> Shared -> Prop} (ho : s.heap.get? it = some o) (hc : o.cls = .type n) (hd : o.data = .fields vs)
   (hn : ["enumerate", "zip", "dict_itemiterator", "dict_reverseitemiterator", "odict_iterator", "itertools.zip_longest", "itertools.pairwise"].contains n = false) (hQ : Q () s) : wpAny M A (letOwnedTupleGo tg (.ref it) u) Q E s := by
 unfold letOwnedTupleGo
 cases tg <;> first
   | exact afT hQ
   | (cases u <;> first
       | exact afT hQ
       | (refine afN (wpAny_load ho ?_)
          rw [hc, hd]
          show wpAny M A (if (["enumerate", "zip", "dict_itemiterator", "dict_reverseitemiterator", "odict_iterator", "itertools.zip_longest", "itertools.pairwise"].contains n && vs[0]? == some (rawInt _)) = true then _ else _) Q E s
          rw [af1 (by intro h; rw [hn, Bool.false_and] at h; cases h)]
          exact afT hQ))
noncomputable def Itl (K : PySem.W.Frag) (a : Addr) : It :=
 ⟨fun i H => ∃ xs x, k6 K H a xs /\ xs[i]? = some x, fun i H x H' => H' = H /\ ∀ xs, k6 K H a xs -> xs[i]? = some x, fun i H => ∃ xs, k6 K H a xs /\ xs.length <= i⟩
noncomputable def Itt (K : PySem.W.Frag) (a : Addr) : It :=
 ⟨fun i H => ∃ xs x, kN K H a xs /\ xs[i]? = some x, fun i H x H' => H' = H /\ ∀ xs, kN K H a xs -> xs[i]? = some x, fun i H => ∃ xs, kN K H a xs /\ xs.length <= i⟩
noncomputable def Itr (lo : Int) (n : Nat) : It := ⟨fun i _ => i < n, fun i H x H' => H' = H /\ x = .int (lo + i), fun i _ => n <= i⟩
theorem ER {P : Program} {w : World} {K : PySem.W.Frag} {tg : Expr} (a it : Addr) : Turn P w K tg (Itl K a) [it] it (fun i h => h.IsListIter it a i) where
 mem := by simp
 obj := fun i h st b hb => by
   have e : b = it := by simpa using hb
   subst e
   obtain ⟨o, e, c, d⟩ := st
   exact ⟨o, e, fun v z => by rw [d] at z; cases z⟩
 keep := fun i h h' st k => st.at fun o e => k it (by simp) o e
 item := by
   intro X hP hw hK hc i pins s σ H E I hf st hg
   subst hP hw hK
   obtain ⟨xs, x, hq, hx⟩ := hg
   obtain ⟨its, rv, p, hz⟩ := I.list hq
   obtain ⟨u, hu, ru⟩ := rv.get hx
   obtain ⟨f0, f1, f2, f3, f4, f5⟩ := hf it (by simp)
   refine wpAny_pyNext_list_item st p.isList (x := u) (by simpa using hu) fun h' Hj sb => ?_
   have I1 : Inv X pins σ H { s with heap := h' } := I.turned (t' := s.toks) (fun b o hb e => (sb.2 b hb).trans e) f0 f1 f3 f4 f5
   obtain ⟨o, e, c, d⟩ := id Hj
   exact ⟨u, rfl, C5 (s := { s with heap := h' }) e c d (by decide) ⟨x, H, I1, ru, ⟨rfl, fun ys hy => by rw [I.Hf hy hq]; exact hx⟩, Hj, fun b hb => (hf b hb).1⟩⟩
 done := by
   intro X hP hw hK hc i pins s σ H E I hf st hg
   subst hP hw hK
   obtain ⟨xs, hq, hx⟩ := hg
   obtain ⟨its, rv, p, hz⟩ := I.list hq
   obtain ⟨f0, f1, f2, f3, f4, f5⟩ := hf it (by simp)
   have hl := rv.length
   exact wpAny_pyNext_list_end (I.ok.hd hc) st p.isList (by simp; omega) fun h' eb => ⟨rfl, I.turned (t' := s.toks) (fun b o hb e => eb b o hb e) f0 f1 f3 f4 f5⟩
 self := fun _ _ _ _ _ st h => wpAny_pyIter_listiter st h
theorem Ba {P : Program} {w : World} {K : PySem.W.Frag} {tg : Expr} (a it : Addr) : Turn P w K tg (Itt K a) [it] it (fun i h => h.IsTupleIter it a i) where
 mem := by simp
 obj := fun i h st b hb => by
   have e : b = it := by simpa using hb
   subst e
   obtain ⟨o, e, c, d⟩ := st
   exact ⟨o, e, fun v z => by rw [d] at z; cases z⟩
 keep := fun i h h' st k => st.at fun o e => k it (by simp) o e
 item := by
   intro X hP hw hK hc i pins s σ H E I hf st hg
   subst hP hw hK
   obtain ⟨xs, x, hq, hx⟩ := hg
   obtain ⟨its, rv, p, hz⟩ := I.tuple hq
   obtain ⟨u, hu, ru⟩ := rv.get hx
   obtain ⟨f0, f1, f2, f3, f4, f5⟩ := hf it (by simp)
   refine wpAny_pyNext_tuple_item st (show s.heap.IsTuple a its.toArray from p) (x := u) (by simpa using hu) fun h' Hj sb => ?_
   have I1 : Inv X pins σ H { s with heap := h' } := I.turned (t' := s.toks) (fun b o hb e => (sb.2 b hb).trans e) f0 f1 f3 f4 f5
   obtain ⟨o, e, c, d⟩ := id Hj
   exact ⟨u, rfl, C5 (s := { s with heap := h' }) e c d (by decide) ⟨x, H, I1, ru, ⟨rfl, fun ys hy => by rw [I.EL hy hq]; exact hx⟩, Hj, fun b hb => (hf b hb).1⟩⟩
 done := by
   intro X hP hw hK hc i pins s σ H E I hf st hg
   subst hP hw hK
   obtain ⟨xs, hq, hx⟩ := hg
   obtain ⟨its, rv, p, hz⟩ := I.tuple hq
   obtain ⟨f0, f1, f2, f3, f4, f5⟩ := hf it (by simp)
   have hl := rv.length
   exact wpAny_pyNext_tuple_end (I.ok.hd hc) st (show s.heap.IsTuple a its.toArray from p) (by simp; omega) fun h' eb => ⟨rfl, I.turned (t' := s.toks) (fun b o hb e => eb b o hb e) f0 f1 f3 f4 f5⟩
 self := fun _ _ _ _ _ st h => wpAny_pyIter_tupleiter st h
theorem Bb {P : Program} {w : World} {K : PySem.W.Frag} {tg : Expr} (it : Addr) (lo : Int) (n : Nat) : Turn P w K tg (Itr lo n) [it] it (fun i h => IsRangeIter h it (lo + (i : Nat) * 1) ((n : Int) - (i : Nat)) 1) where
 mem := by simp
 obj := fun i h st b hb => by
   have e : b = it := by simpa using hb
   subst e
   exact ⟨_, st, fun v z => by
     have z' : Data.fields _ = Data.cell v := z
     cases z'⟩
 keep := fun i h h' st k => k it (by simp) _ st
 item := by
   intro X hP hw hK hc i pins s σ H E I hf st hg
   subst hP hw hK
   obtain ⟨f0, f1, f2, f3, f4, f5⟩ := hf it (by simp)
   have W := Walks.range (prog := X.prog) (w := X.w) (I.ok.hd hc) it lo 1 n
   refine W.item i s _ _ hg st fun v h' tk hv Hj kk => ?_
   obtain ⟨t, rfl⟩ := hv
   have I1 : Inv X pins σ H { s with heap := h', toks := tk } := I.turned (fun b o hb e => kk b o (by simpa using hb) e) f0 f1 f3 f4 f5
   refine ⟨_, rfl, C5 (s := { s with heap := h', toks := tk }) (n := "range_iterator") Hj rfl rfl (by decide) ⟨.int (lo + i), H, I1, ⟨t, ?_⟩, ⟨rfl, rfl⟩, Hj, fun b hb => (hf b hb).1⟩⟩
   rw [Int.mul_one]
 done := by
   intro X hP hw hK hc i pins s σ H E I hf st hg
   subst hP hw hK
   obtain ⟨f0, f1, f2, f3, f4, f5⟩ := hf it (by simp)
   exact wpAny_pyNext_range_end (I.ok.hd hc) st (by have : n <= i := hg; omega) fun h' eb => ⟨rfl, I.turned (t' := s.toks) (fun b o hb e => eb b o hb e) f0 f1 f3 f4 f5⟩
 self := fun _ _ _ _ _ st h => wpAny_pyIter_rangeiter st h
section
variable {X : Cx} {tg : Expr}
noncomputable def Xb (K : PySem.W.Frag) (tl : TE) : TI := fun σ H R => tl σ H fun x H1 => ∃ a, x = .ref a /\ (∃ xs, k6 K H1 a xs) /\ R (Itl K a) H1
noncomputable def aaQ (K : PySem.W.Frag) (tl : TE) : TI := fun σ H R => tl σ H fun x H1 => ∃ a, x = .ref a /\ (∃ xs, kN K H1 a xs) /\ R (Itt K a) H1
theorem Ms {l : Expr} {tl : TE} (hl : PE X l tl) : PI X tg l (Xb X.K tl) := by
 intro pins s σ H R I h
 refine cR (hl pins s σ H _ I h) fun v s1 zz => ?_
 obtain ⟨x, H1, I1, r1, q1⟩ := zz
 obtain ⟨a, e, ⟨xs, hq⟩, q⟩ := q1
 subst e
 cases r1
 obtain ⟨its, rv, p, hz⟩ := I1.list hq
 refine wpAny_pyIter_list p.isList ?_
 refine ⟨s1.heap.objs.size, [s1.heap.objs.size], _, _, H1, rfl, I1.kept (t' := s1.toks) fun b o e => af7 _ e, ER a _, ⟨_, agl _ rfl, rfl, rfl⟩, fun b hb => ?_, q⟩
 have e : b = s1.heap.objs.size := by simpa using hb
 subst e
 exact I1.A9 (af3 _) (I1.c6.fresh (af3 _))
theorem Sd {l : Expr} {tl : TE} (hl : PE X l tl) : PI X tg l (aaQ X.K tl) := by
 intro pins s σ H R I h
 refine cR (hl pins s σ H _ I h) fun v s1 zz => ?_
 obtain ⟨x, H1, I1, r1, q1⟩ := zz
 obtain ⟨a, e, ⟨xs, hq⟩, q⟩ := q1
 subst e
 cases r1
 obtain ⟨its, rv, p, hz⟩ := I1.tuple hq
 refine wpAny_pyIter_tuple (show s1.heap.IsTuple a its.toArray from p) ?_
 refine ⟨s1.heap.objs.size, [s1.heap.objs.size], _, _, H1, rfl, I1.kept (t' := s1.toks) fun b o e => af7 _ e, Ba a _, ⟨_, agl _ rfl, rfl, rfl⟩, fun b hb => ?_, q⟩
 have e : b = s1.heap.objs.size := by simpa using hb
 subst e
 exact I1.A9 (af3 _) (I1.c6.fresh (af3 _))
theorem Hl {pins : List (Addr × Obj)} {σ : St} {H : Hp} {s : Shared} {R : It -> Hp -> Prop} {E : Value -> Shared -> Prop} {lo hi : Int} {t u v : Tok} {tk : Nat} (I : Inv X pins σ H s) (h1 : -(2 ^ 62) <= lo) (h2 : lo < 2 ^ 62) (h3 : -(2 ^ 62) <= hi) (h4 : hi < 2 ^ 62)
   (q : R (Itr lo (hi - lo).toNat) H) : wpAny (model X.prog X.w) X.A (pyIter (.ref s.heap.objs.size)) (Xa X pins σ tg R) E { s with heap := s.heap.push { cls := .type "range", data := .fields #[.int lo t, .int hi u, .int 1 v] }, toks := tk } := by
 refine wpAny_pyIter_range (IsRange.new ..) (small_one h1 h2 h3 h4) ?_
 have I1 : Inv X pins σ H { s with heap := s.heap.push { cls := .type "range", data := .fields #[.int lo t, .int hi u, .int 1 v] }, toks := tk } := I.kept fun b o e => af7 _ e
 refine ⟨(s.heap.push { cls := .type "range", data := .fields #[.int lo t, .int hi u, .int 1 v] }).objs.size, [(s.heap.push { cls := .type "range", data := .fields #[.int lo t, .int hi u, .int 1 v] }).objs.size], _, _, H, rfl,
   I1.kept (t' := tk) fun b o e => af7 _ e, Bb _ lo (hi - lo).toNat, ?_, fun b hb => ?_, q⟩
 . have e1 : lo + ((0 : Nat) : Int) * 1 = lo := by simp
   have e2 : (((hi - lo).toNat : Nat) : Int) - ((0 : Nat) : Int) = Builtin.Range.rangeSize lo hi 1 := by rw [rangeSize_one]; split <;> omega
   show IsRangeIter _ _ (lo + ((0 : Nat) : Int) * 1) ((((hi - lo).toNat : Nat) : Int) - ((0 : Nat) : Int)) 1
   rw [e1, e2]
   exact agl _ rfl
 . have e : b = (s.heap.push { cls := .type "range", data := .fields #[.int lo t, .int hi u, .int 1 v] }).objs.size := by simpa using hb
   subst e
   exact I1.A9 (af3 _) (I1.c6.fresh (af3 _))
noncomputable def Xc (ta : TA) : TI := fun σ H R => ta σ H fun vs H1 => ∃ j : Int, vs = [.int j] /\ -(2 ^ 62) <= j /\ j < 2 ^ 62 /\ R (Itr 0 j.toNat) H1
theorem EV {a : Expr} {ta : TA} {p pos : Pos} (hg : Gl X "range") (hm : X.mg "range" = none) (ha : PA X [a] ta) (hs : starEach [a] X.env = [(false, eval a X.env)] := by rfl) : PI X tg (.Call (.Name "range" p) [a] [] pos) (Xc ta) := by
 intro pins s σ H R I h
 refine Call_ (wB I hg hm boot_range (PyProof.Rows.callWith_type1 (cR (ha pos pins s σ H _ I h) fun us s1 zz => ?_) hs rfl))
 obtain ⟨vs, H1, I1, r1, q1⟩ := zz
 obtain ⟨j, e, q1, q2, q⟩ := q1
 subst e
 cases r1 with
 | cons r rr =>
   cases rr
   obtain ⟨t, rfl⟩ := r
   exact call_range_1 (Hl I1 (by omega) (by omega) q1 q2 (by simpa using q))
noncomputable def aaR (wi : TI) (g : TG) (tb : TS) : TS := fun D σ H => wi σ H fun J H1 => ∃ W : Nat -> Nat -> St -> Hp -> Prop, (∃ m, W 0 m σ H1) /\ ∀ i m σ H, W i m σ H →
 (J.stop i H /\ D.nx σ H) \/ (J.go i H /\ ∃ N : St -> Hp -> Prop, (∀ σ' H', N σ' H' -> ∃ m', m' < m /\ W (i + 1) m' σ' H') /\ ∀ x H', J.Qx i H x H' -> g x σ H' fun σ2 H2 => tb { D with nx := N, ct := N, bk := D.nx } σ2 H2)
noncomputable def sW (fp : List Addr) (h : Heap) : List (Addr × Obj) := fp.filterMap fun b => (h.get? b).map fun o => (b, o)
theorem jN {fp : List Addr} {h : Heap} {b : Addr} {o : Obj} (hb : b ∈ fp) (e : h.get? b = some o) : (b, o) ∈ sW fp h := List.mem_filterMap.mpr ⟨b, hb, by rw [e]; rfl⟩
theorem EW {fp : List Addr} {h : Heap} {p : Addr × Obj} (hp : p ∈ sW fp h) : p.1 ∈ fp /\ h.get? p.1 = some p.2 := by
 obtain ⟨b, hb, e⟩ := List.mem_filterMap.mp hp
 cases q : h.get? b with
 | none => rw [q] at e; cases e
 | some o =>
   rw [q] at e
   have e' : (b, o) = p := agf e
   subst e'
   exact ⟨hb, q⟩
theorem Inv.pinned {pins : List (Addr × Obj)} {σ : St} {H : Hp} {s : Shared} {fp : List Addr} (I : Inv X pins σ H s) (hf : ∀ b ∈ fp, rB X pins H b) (ho : ∀ b ∈ fp, ∃ o, s.heap.get? b = some o /\ ∀ v, o.data ≠ .cell v) : Inv X (pins ++ sW fp s.heap) σ H s :=
 I.rN fun p hp => (af0.mp hp).elim (fun z => I.pin p (afQ _ z)) fun z => by
   obtain ⟨hb, e⟩ := EW z
   obtain ⟨f0, f1, f2, _⟩ := hf p.1 hb
   obtain ⟨o, e', d⟩ := ho p.1 hb
   rw [e] at e'; cases e'
   exact ⟨e, f0, f1, f2, d⟩
theorem Inv.oE {pins pl : List (Addr × Obj)} {σ : St} {H : Hp} {s : Shared} (I : Inv X (pins ++ pl) σ H s) : Inv X pins σ H s := I.rN fun p hp => I.pin p (afQ _ (afU _ hp))
theorem wC {iter : Expr} {body : List Stmt} {wi : TI} {g : TG} {tb : TS} {pos : Pos} (hp : PassesOwn (model X.prog X.w) X.A X.env X.xe) (hc : X.calm = true) (hi : PI X tg iter wi) (hg : PG X tg g) (hb : C3 X body tb)
   (hs : ∀ x, foldedSetIterable iter X.env x = pure x := by intro _; rfl) : PS X (.For tg iter body [] pos) (aaR wi g tb) := by
 intro pins s σ H D I h
 refine wpAny_For (cR (hi pins s σ H _ I h) fun v s1 h1 => cR h1 fun ZO s2 h2 => ?_) hs
 obtain ⟨it, fp, tn, J, H2, e, I2, T, st2, f2, W, ⟨m0, w0⟩, turn⟩ := h2
 subst e
 have stat : ∀ {H' : Hp}, (∀ b ∈ fp, H' b = none) -> ∀ b ∈ fp, rB X pins H' b := fun hn b hb => ⟨hn b hb, (f2 b hb).2⟩
 refine codeAny_forLoop_any (fun n s' => ∃ i σ' H', Inv X pins σ' H' s' /\ tn i s'.heap /\ (∀ b ∈ fp, H' b = none) /\ W i n σ' H') ?_ m0 ⟨0, σ, H2, I2, st2, fun b hb => (f2 b hb).1, w0⟩
 rintro n s3 ⟨i, σ3, H3, I3, Xd, fr3, w3⟩
 rcases turn i n σ3 H3 w3 with ⟨stop, qn⟩ | ⟨go, N, hN, step⟩
 . refine ahw hp (cR (T.done X rfl rfl rfl hc i pins s3 σ3 H3 X.xe I3 (stat fr3) Xd stop) fun r s4 zz => ?_)
   obtain ⟨hr, I4⟩ := zz
   subst hr
   exact wpAny_execs_nil ⟨σ3, H3, I4, qn⟩
 . refine ahw hp (cR (T.item X rfl rfl rfl hc i pins s3 σ3 H3 X.xe I3 (stat fr3) Xd go) fun r s4 zz => ?_)
   obtain ⟨u, hr, h4⟩ := zz
   subst hr
   refine ahw hp (cR h4 fun _ s5 zz => ?_)
   obtain ⟨x, H5, I5, r5, y5, Wy, ZP⟩ := zz
   have I5' := I5.pinned (stat ZP) (T.obj _ _ Wy)
   refine ahw hp (cR (hg _ s5 σ3 H5 x u _ I5' r5 (step x H5 y5)) fun _ s6 zz => ?_)
   obtain ⟨σ6, H6, I6, q6⟩ := zz
   refine ahw hp (cR (hb _ s6 σ6 H6 _ I6 q6) fun f s7 q7 => ?_)
   have again : ∀ {σ7 : St} {H7 : Hp}, Inv X (pins ++ sW fp s5.heap) σ7 H7 s7 -> N σ7 H7 -> ∃ m, m < n /\ ∃ i σ' H', Inv X pins σ' H' s7 /\ tn i s7.heap /\ (∀ b ∈ fp, H' b = none) /\ W i m σ' H' := fun {σ7 H7} I7 n7 => by
     obtain ⟨m', hm, w7⟩ := hN σ7 H7 n7
     refine ⟨m', hm, i + 1, σ7, H7, I7.oE, T.keep _ _ _ Wy fun b hb o e => (I7.pin (b, o) (afQ _ (afQ _ (jN hb e)))).1, fun b hb => ?_, w7⟩
     obtain ⟨o, e, d⟩ := T.obj _ _ Wy b hb
     exact (I7.pin (b, o) (afQ _ (afQ _ (jN hb e)))).2.1
   cases f with
   | next => obtain ⟨σ7, H7, I7, n7⟩ := q7; exact again I7 n7
   | cont => obtain ⟨σ7, H7, I7, n7⟩ := q7; exact again I7 n7
   | brk => obtain ⟨σ7, H7, I7, q7⟩ := q7; exact ⟨σ7, H7, I7.oE, q7⟩
   | ret v => obtain ⟨x7, σ7, H7, I7, r7, q7⟩ := q7; exact ⟨x7, σ7, H7, I7.oE, r7, q7⟩
end
noncomputable abbrev R2 := V -> V -> Hp -> VK -> Prop
noncomputable def kY (X : Cx) (f : Value -> Value -> Sem Value) (r : R2) : Prop :=
 ∀ (pins : List (Addr × Obj)) (s : Shared) (σ : St) (H : Hp) (x y : V) (v u : Value) (Q : VK), Inv X pins σ H s -> RelV x v -> RelV y u -> r x y H Q →
   wpAny (model X.prog X.w) X.A (f v u) (EP X pins σ Q) X.xe s
noncomputable def UnR (X : Cx) (f : Value -> Sem Value) (r : V -> Hp -> VK -> Prop) : Prop :=
 ∀ (pins : List (Addr × Obj)) (s : Shared) (σ : St) (H : Hp) (x : V) (v : Value) (Q : VK), Inv X pins σ H s -> RelV x v -> r x H Q →
   wpAny (model X.prog X.w) X.A (f v) (EP X pins σ Q) X.xe s
noncomputable def iH (X : Cx) (f : Value) (r : List V -> Hp -> VK -> Prop) : Prop :=
 ∀ (pins : List (Addr × Obj)) (s : Shared) (σ : St) (H : Hp) (xs : List V) (us : List Value) (Q : VK), Inv X pins σ H s -> Vals xs us -> r xs H Q →
   wpAny (model X.prog X.w) X.A (call f us) (EP X pins σ Q) X.xe s
noncomputable def ZQ (r : R2) (ta tb : TE) : TE := fun σ H Q => ta σ H fun x H1 => tb σ H1 fun y H2 => r x y H2 Q
noncomputable def tUn (r : V -> Hp -> VK -> Prop) (ta : TE) : TE := fun σ H Q => ta σ H fun x H1 => r x H1 Q
noncomputable def rI (C : Int -> Int -> Prop) (g : Int -> Int -> V) : R2 := fun x y H Q => ∃ i j, x = .int i /\ y = .int j /\ C i j /\ Q (g i j) H
noncomputable def Mt (g : Int -> Int -> V) : R2 := fun x y H Q => ∃ i j, x = .int i /\ y = .int j /\ Q (g i j) H
noncomputable def rU (g : Int -> V) : V -> Hp -> VK -> Prop := fun x H Q => ∃ i, x = .int i /\ Q (g i) H
section
variable {X : Cx} {a b : Expr} {ta tb : TE} {pos : Pos}
theorem Se (ha : PE X a ta) (hb : PE X b tb) {pins : List (Addr × Obj)} {s : Shared} {σ : St} {H : Hp} {R : V -> V -> Hp -> Prop} (I : Inv X pins σ H s)
   (h : ta σ H fun x H1 => tb σ H1 fun y H2 => R x y H2) {Q : Value -> Shared -> Prop} {f : Value -> Value -> Sem Value}
   (hf : ∀ v u s2 x y H2, Inv X pins σ H2 s2 -> RelV x v -> RelV y u -> R x y H2 -> wpAny (model X.prog X.w) X.A (f v u) Q X.xe s2) :
   wpAny (model X.prog X.w) X.A (eval a X.env) (fun v s₁ => wpAny (model X.prog X.w) X.A (eval b X.env) (fun u s₂ => wpAny (model X.prog X.w) X.A (f v u) Q X.xe s₂) X.xe s₁) X.xe s := by
 refine cR (ha pins s σ H _ I h) fun v s1 zz => ?_
 obtain ⟨x, H1, I1, r1, q1⟩ := zz
 refine cR (hb pins s1 σ H1 _ I1 q1) fun u s2 zz => ?_
 obtain ⟨y, H2, I2, r2, q2⟩ := zz
 exact hf v u s2 x y H2 I2 r1 r2 q2
theorem sX {op : Operator} {r : R2} (ho : kY X (binaryOp op) r) (ha : PE X a ta) (hb : PE X b tb) : PE X (.BinOp a op b pos) (ZQ r ta tb) := by
 intro pins s σ H Q I h
 exact wpAny_BinOp (Se ha hb I h fun v u s2 x y H2 I2 rx ry q => ho pins s2 σ H2 x y v u Q I2 rx ry q)
theorem Xe {op : UnaryOp} {r : V -> Hp -> VK -> Prop} (ho : UnR X (unaryOp op) r) (ha : PE X a ta) : PE X (.UnaryOp op a pos) (tUn r ta) := by
 intro pins s σ H Q I h
 exact UnaryOp_ (cR (ha pins s σ H _ I h) fun v s1 ⟨x, H1, I1, r1, q1⟩ => ho pins s1 σ H1 x v Q I1 r1 q1)
theorem ZR {f : Value -> Value -> Sem Value} {C : Int -> Int -> Prop} {g : Int -> Int -> Int}
   (rule : ∀ (i j : Int) (t u : Tok) (s : Shared) (Q : Value -> Shared -> Prop) (E : Value -> Shared -> Prop), C i j -> Q (.int (g i j) s.toks) { s with toks := s.toks + 1 } -> wpAny (model X.prog X.w) X.A (f (.int i t) (.int j u)) Q E s) :
   kY X f (rI C fun i j => .int (g i j)) := by
 intro pins s σ H x y v u Q I rx ry h
 obtain ⟨i, j, rfl, rfl, hc, q⟩ := h
 obtain ⟨t, rfl⟩ := rx
 obtain ⟨t', rfl⟩ := ry
 exact rule i j t t' s _ _ hc ⟨.int (g i j), H, I.tok _, ⟨_, rfl⟩, q⟩
theorem Xf {f : Value -> Value -> Sem Value} {g : Int -> Int -> Int}
   (rule : ∀ (i j : Int) (t u : Tok) (s : Shared) (Q : Value -> Shared -> Prop) (E : Value -> Shared -> Prop), Q (.int (g i j) s.toks) { s with toks := s.toks + 1 } -> wpAny (model X.prog X.w) X.A (f (.int i t) (.int j u)) Q E s) :
   kY X f (Mt fun i j => .int (g i j)) := by
 intro pins s σ H x y v u Q I rx ry h
 obtain ⟨i, j, rfl, rfl, q⟩ := h
 obtain ⟨t, rfl⟩ := rx
 obtain ⟨t', rfl⟩ := ry
 exact rule i j t t' s _ _ ⟨.int (g i j), H, I.tok _, ⟨_, rfl⟩, q⟩
theorem Sf {f : Value -> Value -> Sem Value} {g : Int -> Int -> Bool}
   (rule : ∀ (i j : Int) (t u : Tok) (s : Shared) (Q : Value -> Shared -> Prop) (E : Value -> Shared -> Prop), Q (.bool (g i j)) s -> wpAny (model X.prog X.w) X.A (f (.int i t) (.int j u)) Q E s) :
   kY X f (Mt fun i j => .bl (g i j)) := by
 intro pins s σ H x y v u Q I rx ry h
 obtain ⟨i, j, rfl, rfl, q⟩ := h
 obtain ⟨t, rfl⟩ := rx
 obtain ⟨t', rfl⟩ := ry
 exact rule i j t t' s _ _ ⟨.bl (g i j), H, I, rfl, q⟩
noncomputable def Xg (i j : Int) : Prop := 0 < j /\ j < 1073741824
noncomputable def Xh (i j : Int) : Prop := 0 <= j /\ j <= 1000000 /\ i.natAbs < 2 ^ 64
noncomputable def Mu (i j : Int) : Prop := (-(2 ^ 64) < i /\ i < 2 ^ 64) \/ (-(2 ^ 64) < j /\ j < 2 ^ 64)
theorem Mu.ok {i j : Int} (h : Mu i j) : IntMulOk i j := by
 rcases h with ⟨h1, h2⟩ | ⟨h1, h2⟩
 . exact .of_left (intBits_le_64 h1 h2)
 . exact .of_right (intBits_le_64 h1 h2)
theorem Sg : kY X (binaryOp .Add) (Mt fun i j => .int (i + j)) := Xf fun _ _ _ _ _ _ _ q => add_int q
theorem Sh : kY X (binaryOp .Sub) (Mt fun i j => .int (i - j)) := Xf fun _ _ _ _ _ _ _ q => sub_int q
theorem Si : kY X (binaryOp .Mult) (rI Mu fun i j => .int (i * j)) := ZR fun _ _ _ _ _ _ _ hc q => mul_int q hc.ok
theorem Mv : kY X (binaryOp .FloorDiv) (rI Xg fun i j => .int (i / j)) := ZR fun i j _ _ _ _ _ hc q => by
 have h1 : (0 : Int) < j := hc.1
 have h2 : j < 1073741824 := hc.2
 exact floordiv_int (by omega) (by rw [Int.fdiv_eq_ediv_of_nonneg i (by omega)]; exact q) (.inl (PyProof.noPylong_small (by omega)))
theorem Sj : kY X (binaryOp .Mod) (rI (fun _ j => 0 < j) fun i j => .int (i % j)) := ZR fun i j _ _ _ _ _ hc q => by
 have h1 : (0 : Int) < j := hc
 exact mod_int' (by omega) (by rw [Int.fmod_eq_emod_of_nonneg i (by omega)]; exact q)
theorem Sl : kY X (binaryOp .Pow) (rI Xh fun i j => .int (i ^ j.toNat)) := ZR fun _ _ _ _ _ _ _ hc q => pow_int_small hc.1 hc.2.1 hc.2.2 q
theorem unI {f : Value -> Sem Value} {g : Int -> Int}
   (rule : ∀ (i : Int) (t : Tok) (s : Shared) (Q : Value -> Shared -> Prop) (E : Value -> Shared -> Prop), Q (.int (g i) s.toks) { s with toks := s.toks + 1 } -> wpAny (model X.prog X.w) X.A (f (.int i t)) Q E s) :
   UnR X f (rU fun i => .int (g i)) := by
 intro pins s σ H x v Q I rx h
 obtain ⟨i, rfl, q⟩ := h
 obtain ⟨t, rfl⟩ := rx
 exact rule i t s _ _ ⟨.int (g i), H, I.tok _, ⟨_, rfl⟩, q⟩
theorem Sn : UnR X (unaryOp .USub) (rU fun i => .int (-i)) := unI fun _ _ _ _ _ q => neg_int q
end
noncomputable def Xi : V -> V -> Bool
 | .non, .non => true | .non, .int _ => true | .int _, .non => true | .non, .bl _ => true | .bl _, .non => true | .non, .str _ => true | .str _, .non => true
 | .int _, .int _ => true | .bl _, .bl _ => true | .str _, .str _ => true | .GU _, .GU _ => true
 | .int _, .str _ => true | .str _, .int _ => true | .bl _, .str _ => true | .str _, .bl _ => true
 | _, _ => false
noncomputable def rEq : R2 := fun x y H Q => Xi x y = true /\ Q (.bl (decide (x = y))) H
noncomputable def rNe : R2 := fun x y H Q => Xi x y = true /\ Q (.bl (!decide (x = y))) H
theorem C6 {i j : Int} : decide (V.int i = V.int j) = (i == j) := by
 rw [ah1]
 simp
theorem Ho {i j : Bool} : decide (V.bl i = V.bl j) = (i == j) := by
 rw [ah1]
 simp
theorem C7 {i j : Str} : decide (V.str i = V.str j) = (i == j) := by
 rw [ah1]
 simp
theorem C8 {i j : Array UInt8} : decide (V.GU i = V.GU j) = (i.toList == j.toList) := by
 rw [ah1]
 cases i
 cases j
 simp
section
variable {X : Cx} {a b c : Expr} {ta tb tc : TE} {pos : Pos}
theorem b4 {pins : List (Addr × Obj)} {σ : St} {H : Hp} {s : Shared} {Q : VK} {k k' : Bool} (I : Inv X pins σ H s) (q : Q (.bl k) H) (e : k = k') : EP X pins σ Q (.bool k') s := by
 subst e
 exact ⟨.bl k, H, I, rfl, q⟩
theorem Xj : kY X (compareOp .Eq) rEq := by
 intro pins s σ H x y v u Q I rx ry h
 obtain ⟨hs, q⟩ := h
 cases x with
 | non =>
   cases rx
   cases y with
   | non => cases ry; exact PySem.EqNone.eq_none_none (b4 I q (by simp))
   | bl j => cases ry; exact PySem.EqNone.eq_none_bool (b4 I q (by simp))
   | int j => obtain ⟨t', rfl⟩ := ry; exact PySem.EqNone.eq_none_int (b4 I q (by simp))
   | str j => obtain ⟨t', rfl⟩ := ry; exact PySem.EqNone.eq_none_str (b4 I q (by simp))
   | _ => exact absurd (show false = true from hs) af4
 | bl i =>
   cases rx
   cases y with
   | non => cases ry; exact PySem.EqNone.eq_bool_none (b4 I q (by simp))
   | bl j => cases ry; exact eq_bool (b4 I q Ho)
   | str j => obtain ⟨t', rfl⟩ := ry; exact PySem.EqMixed.eq_bool_str (b4 I q (by simp))
   | _ => exact absurd (show false = true from hs) af4
 | int i =>
   obtain ⟨t, rfl⟩ := rx
   cases y with
   | non => cases ry; exact PySem.EqNone.eq_int_none (b4 I q (by simp))
   | int j => obtain ⟨t', rfl⟩ := ry; exact eq_int (b4 I q C6)
   | str j => obtain ⟨t', rfl⟩ := ry; exact PySem.EqMixed.eq_int_str (b4 I q (by simp))
   | _ => exact absurd (show false = true from hs) af4
 | str i =>
   obtain ⟨t, rfl⟩ := rx
   cases y with
   | non => cases ry; exact PySem.EqNone.eq_str_none (b4 I q (by simp))
   | bl j => cases ry; exact PySem.EqMixed.eq_str_bool (b4 I q (by simp))
   | int j => obtain ⟨t', rfl⟩ := ry; exact PySem.EqMixed.eq_str_int (b4 I q (by simp))
   | str j => obtain ⟨t', rfl⟩ := ry; exact eq_str (b4 I q C7)
   | _ => exact absurd (show false = true from hs) af4
 | GU i =>
   obtain ⟨t, rfl⟩ := rx
   cases y with
   | GU j => obtain ⟨t', rfl⟩ := ry; exact PySem.W.eq_bytes (b4 I q C8)
   | _ => exact absurd (show false = true from hs) af4
 | _ => cases y <;> exact absurd (show false = true from hs) af4
theorem Xk : kY X (compareOp .NotEq) rNe := by
 intro pins s σ H x y v u Q I rx ry h
 obtain ⟨hs, q⟩ := h
 cases x with
 | non =>
   cases rx
   cases y with
   | non => cases ry; exact PySem.EqNone.ne_none_none (b4 I q (by simp))
   | bl j => cases ry; exact PySem.EqNone.ne_none_bool (b4 I q (by simp))
   | int j => obtain ⟨t', rfl⟩ := ry; exact PySem.EqNone.ne_none_int (b4 I q (by simp))
   | str j => obtain ⟨t', rfl⟩ := ry; exact PySem.EqNone.ne_none_str (b4 I q (by simp))
   | _ => exact absurd (show false = true from hs) af4
 | bl i =>
   cases rx
   cases y with
   | non => cases ry; exact PySem.EqNone.ne_bool_none (b4 I q (by simp))
   | bl j => cases ry; exact ne_bool (b4 I q (congrArg not Ho))
   | str j => obtain ⟨t', rfl⟩ := ry; exact PySem.EqMixed.ne_bool_str (b4 I q (by simp))
   | _ => exact absurd (show false = true from hs) af4
 | int i =>
   obtain ⟨t, rfl⟩ := rx
   cases y with
   | non => cases ry; exact PySem.EqNone.ne_int_none (b4 I q (by simp))
   | int j => obtain ⟨t', rfl⟩ := ry; exact ne_int (b4 I q (congrArg not C6))
   | str j => obtain ⟨t', rfl⟩ := ry; exact PySem.EqMixed.ne_int_str (b4 I q (by simp))
   | _ => exact absurd (show false = true from hs) af4
 | str i =>
   obtain ⟨t, rfl⟩ := rx
   cases y with
   | non => cases ry; exact PySem.EqNone.ne_str_none (b4 I q (by simp))
   | bl j => cases ry; exact PySem.EqMixed.ne_str_bool (b4 I q (by simp))
   | int j => obtain ⟨t', rfl⟩ := ry; exact PySem.EqMixed.ne_str_int (b4 I q (by simp))
   | str j => obtain ⟨t', rfl⟩ := ry; exact ne_str (b4 I q (congrArg not C7))
   | _ => exact absurd (show false = true from hs) af4
 | GU i =>
   obtain ⟨t, rfl⟩ := rx
   cases y with
   | GU j => obtain ⟨t', rfl⟩ := ry; exact PySem.W.ne_bytes (b4 I q (congrArg not C8))
   | _ => exact absurd (show false = true from hs) af4
 | _ => cases y <;> exact absurd (show false = true from hs) af4
theorem Xl : kY X (compareOp .Lt) (Mt fun i j => .bl (decide (i < j))) := Sf fun _ _ _ _ _ _ _ q => lt_int q
theorem Qy : kY X (compareOp .LtE) (Mt fun i j => .bl (decide (i <= j))) := Sf fun _ _ _ _ _ _ _ q => le_int q
theorem Xm : kY X (compareOp .Gt) (Mt fun i j => .bl (decide (j < i))) := Sf fun _ _ _ _ _ _ _ q => gt_int q
theorem k8 (b : Expr) {op : CmpOp} (h : op ≠ .In := by decide) (h2 : op ≠ .NotIn := by decide) : behindInMarks op b = false := by
 have e1 : (op == CmpOp.In) = false := by cases op <;> first | rfl | exact absurd rfl h
 have e2 : (op == CmpOp.NotIn) = false := by cases op <;> first | rfl | exact absurd rfl h2
 cases b <;> simp [behindInMarks, e1, e2]
theorem oF {op : CmpOp} {r : R2} (ho : kY X (compareOp op) r) (ha : PE X a ta) (hb : PE X b tb) (hm : behindInMarks op b = false) : PE X (.Compare a [op] [b] pos) (ZQ r ta tb) := by
 intro pins s σ H Q I h
 exact wpAny_Compare1 (Se ha hb I h fun v u s2 x y H2 I2 rx ry q => ho pins s2 σ H2 x y v u Q I2 rx ry q) hm
noncomputable def Qz (t : TE) : TT := fun σ H Q => t σ H fun x H' => ∃ k, x = .bl k /\ Q k H'
theorem oG {op : CmpOp} {r : R2} (ho : kY X (compareOp op) r) (ha : PE X a ta) (hb : PE X b tb) (hm : behindInMarks op b = false) : PT X (.Compare a [op] [b] pos) (Qz (ZQ r ta tb)) := by
 intro pins s σ H Q I h
 refine wpAny_isTrue_Compare1 (cR (ha pins s σ H _ I h) fun v s1 ⟨x, H1, I1, r1, q1⟩ => cR (hb pins s1 σ H1 _ I1 q1) fun u s2 ⟨y, H2, I2, r2, q2⟩ =>
   cR (ho pins s2 σ H2 x y v u _ I2 r1 r2 q2) fun c s3 ⟨z, H3, I3, r3, k, e, q3⟩ => ?_) hm
 subst e
 cases r3
 exact ag0 ⟨H3, I3, q3⟩
noncomputable def Hq (r r' : R2) (ta tb tc : TE) : TE := fun σ H Q => ta σ H fun x H1 => tb σ H1 fun y H2 => r x y H2 fun z H3 => ∃ k, z = .bl k ∧
 (if k = true then tc σ H3 fun w' H4 => r' y w' H4 Q else Q (.bl false) H3)
theorem Hr {op op' : CmpOp} {r r' : R2} (ho : kY X (compareOp op) r) (CZ : kY X (compareOp op') r') (ha : PE X a ta) (hb : PE X b tb) (hc : PE X c tc)
   (hm : lastMarks [op, op'] [b, c] = false := by with_unfolding_all rfl) : PE X (.Compare a [op, op'] [b, c] pos) (Hq r r' ta tb tc) := by
 intro pins s σ H Q I h
 refine Compare_chain (cR (ha pins s σ H _ I h) fun v s1 ⟨x, H1, I1, r1, q1⟩ => chain_link (cR (hb pins s1 σ H1 _ I1 q1) fun u s2 ⟨y, H2, I2, r2, q2⟩ =>
   cR (ho pins s2 σ H2 x y v u _ I2 r1 r2 q2) fun d s3 ⟨z, H3, I3, r3, k, e, q3⟩ => ?_)) hm
 subst e
 cases r3
 refine ag0 ?_
 cases k with
 | false => exact ite_ff ⟨.bl false, H3, I3, rfl, q3⟩
 | true => exact ite_tt (chain_last (cR (hc pins s3 σ H3 _ I3 q3) fun w' s4 ⟨z', H4, I4, r4, q4⟩ => CZ pins s4 σ H4 y z' u w' Q I4 r2 r4 q4))
theorem Hs {op op' : CmpOp} {r r' : R2} (ho : kY X (compareOp op) r) (CZ : kY X (compareOp op') r') (ha : PE X a ta) (hb : PE X b tb) (hc : PE X c tc)
   (hm : lastMarks [op, op'] [b, c] = false := by with_unfolding_all rfl) : PT X (.Compare a [op, op'] [b, c] pos) (Qz (Hq r r' ta tb tc)) := by
 intro pins s σ H Q I h
 refine isTrue_chain (cR (ha pins s σ H _ I h) fun v s1 ⟨x, H1, I1, r1, q1⟩ => test_link (cR (hb pins s1 σ H1 _ I1 q1) fun u s2 ⟨y, H2, I2, r2, q2⟩ =>
   cR (ho pins s2 σ H2 x y v u _ I2 r1 r2 q2) fun d s3 ⟨z, H3, I3, r3, k, e, q3⟩ => ?_)) hm
 subst e
 cases r3
 refine ag0 ?_
 cases k with
 | false =>
   obtain ⟨k', e', q'⟩ := q3
   cases e'
   exact ite_ff ⟨H3, I3, q'⟩
 | true =>
   refine ite_tt (test_last (cR (hc pins s3 σ H3 _ I3 q3) fun w' s4 ⟨z', H4, I4, r4, q4⟩ => cR (CZ pins s4 σ H4 y z' u w' _ I4 r2 r4 q4) fun d' s5 zz => ?_))
   obtain ⟨z2, H5, I5, r5, k2, e2, q5⟩ := zz
   subst e2
   cases r5
   exact ag0 ⟨H5, I5, q5⟩
theorem sY : (sizeLine : Nat) < 2 ^ 63 := by rw [age]; decide
theorem Bc : kY X (binaryOp .Add) (fun x y H Q => ∃ i j, x = .str i /\ y = .str j /\ i.length + j.length <= sizeLine /\ Q (.str (i ++ j)) H) := by
 intro pins s σ H x y v u Q I rx ry h
 obtain ⟨i, j, rfl, rfl, hz, q⟩ := h
 obtain ⟨t, rfl⟩ := rx
 obtain ⟨t', rfl⟩ := ry
 exact add_str (fun t' tk => ⟨.str (i ++ j), H, I.tok _, ⟨_, rfl⟩, q⟩) hz
theorem vals1 {x : V} {us : List Value} (r : Vals [x] us) : ∃ u, us = [u] /\ RelV x u := by
 cases r with
 | cons r1 r2 => cases r2; exact ⟨_, rfl, r1⟩
theorem vals2 {x y : V} {us : List Value} (r : Vals [x, y] us) : ∃ u w', us = [u, w'] /\ RelV x u /\ RelV y w' := by
 cases r with
 | cons r1 r2 =>
   cases r2 with
   | cons r3 r4 => cases r4; exact ⟨_, _, rfl, r1, r3⟩
theorem EX (hc : X.calm = true) : iH X (.builtin "max") (fun xs H Q => ∃ i j, xs = [.int i, .int j] /\ Q (.int (if j > i then j else i)) H) := by
 intro pins s σ H xs us Q I r h
 obtain ⟨i, j, rfl, q⟩ := h
 obtain ⟨u, w', rfl, ⟨t, rfl⟩, ⟨t', rfl⟩⟩ := vals2 r
 refine max_two_ints (I.ok.hd hc) fun h' tk k => ⟨_, H, I.kept k, ?_, q⟩
 by_cases hj : j > i
 . rw [agb hj, agb hj]; exact ⟨_, rfl⟩
 . rw [af1 hj, af1 hj]; exact ⟨_, rfl⟩
theorem EY (hc : X.calm = true) : iH X (.builtin "min") (fun xs H Q => ∃ i j, xs = [.int i, .int j] /\ Q (.int (if j < i then j else i)) H) := by
 intro pins s σ H xs us Q I r h
 obtain ⟨i, j, rfl, q⟩ := h
 obtain ⟨u, w', rfl, ⟨t, rfl⟩, ⟨t', rfl⟩⟩ := vals2 r
 refine min_two_ints (I.ok.hd hc) fun h' tk k => ⟨_, H, I.kept k, ?_, q⟩
 by_cases hj : j < i
 . rw [agb hj, agb hj]; exact ⟨_, rfl⟩
 . rw [af1 hj, af1 hj]; exact ⟨_, rfl⟩
theorem wF : iH X (.type "str") (fun xs H Q => ∃ i, xs = [.int i] /\ i.natAbs.log2 < 1920 /\ Q (.str (toString i)) H) := by
 intro pins s σ H xs us Q I r h
 obtain ⟨i, rfl, hz, q⟩ := h
 obtain ⟨u, rfl, t, rfl⟩ := vals1 r
 exact PySem.P.str_of_int hz ⟨.str _, H, I.tok _, ⟨_, rfl⟩, q⟩
end
structure EZ (h : Heap) (x dx C : Addr) (mA : Str -> Option Value) : Prop where
 obj : h.get? x = some (PySem.W.instObj C dx)
 ns : h.Ns1 dx mA
 ne : dx ≠ x
theorem E1 {h : Heap} {dx : Addr} {mA : Str -> Option Value} (n : h.Ns1 dx mA) : ∃ od, h.get? dx = some od /\ ∀ name, PySem.W.lookIn name od = some (mA name) := by
 obtain ⟨o, es, ep, ho, hd, hk, _, hm⟩ := n
 refine ⟨o, ho, fun name => ?_⟩
 have e := hm name
 unfold nsFind findBy at e
 rw [← Array.find?_toList] at e
 unfold PySem.W.lookIn
 rw [hd]
 dsimp only
 split
 . rename_i y q
   rw [q] at e
   exact congrArg some e
 . rename_i q
   rw [q] at e
   have a : es.toList.any (·.refKey) = false := by
     rw [List.any_eq_false]
     intro y hy
     obtain ⟨z, t, rC⟩ := hk y (Array.mem_toList_iff.mp hy)
     simp [DictEntry.refKey, rC]
   have a' : ¬ es.toList.any (·.refKey) = true := by rw [a]; exact af4
   rw [af1 a']
   exact congrArg some e
theorem EZ.look {h : Heap} {x dx C : Addr} {mA : Str -> Option Value} (I : EZ h x dx C mA) : ∃ od, PySem.W.InstAt h x (PySem.W.instObj C dx) C (some od) /\ ∀ name, PySem.W.lookIn name od = some (mA name) :=
 let ⟨od, ho, hl⟩ := E1 I.ns
 ⟨od, ⟨I.obj, rfl, rfl, ho⟩, hl⟩
section
variable {prog : Program} {w : World} {A : Around} {E : Value -> Shared -> Prop} {s : Shared} {K : PySem.W.Frag} {x dx C f : Addr} {mA : Str -> Option Value} {name : Str} {v : Value}
theorem get_map {expr : Bool} {Q : Value -> Shared -> Prop} (X : K.In s.heap) (I : EZ s.heap x dx C mA) (hg : PySem.W.plainGet K C name = true) (hh : PySem.W.hasDictIn K C = true)
   (ha : PySem.W.findIn K (.ref C) name = some none) (hv : mA name = some v) (hv' : PySem.W.handedIn v = true) (h : Q v { s with toks := s.toks + 1 }) :
   wpAny (model prog w) A (getAttr (.ref x) name expr) Q E s := by
 obtain ⟨od, J, hl⟩ := I.look
 exact PySem.W.get_value X J (PySem.W.plainGet_of hg).1 (PySem.W.findObj_own hh ha rfl (by rw [hl, hv])) hv' h
theorem Mw {ns : List Str} {Q : Unit -> Shared -> Prop} (X : K.In s.heap) (I : EZ s.heap x dx C mA)
   (hs : PySem.W.findIn K (.ref C) "__setattr__" = some (some (.builtin "object.__setattr__"))) (hp : PySem.W.plainOver K C = true) (ht : PySem.W.takerIn K C name = some none) (hh : PySem.W.hasDictIn K C = true)
   (hw : PySem.Within mA ns) (hsz : ns.length <= sizeLine)
   (h : ∀ h', EZ h' x dx C (fun y => if y = name then some v else mA y) -> Heap.SameBut dx s.heap h' -> Q () { s with heap := h', toks := s.toks + 2 }) :
   wpAny (model prog w) A (setAttr (.ref x) name v) Q E s := by
 obtain ⟨od, J, hl⟩ := I.look
 refine PySem.W.set_plain X J hs (PySem.W.osa_open (s := { s with toks := s.toks + 1 }) (r := none) X J hp ht fun b => ?_)
 obtain ⟨cd, hc, wu⟩ := PySem.W.any_some hh
 have hx : s.heap.get? x = some ⟨.ref C, some dx, .plain, #[]⟩ := I.obj
 refine afN (afT (afN (afN (wpAny_loadPart hx (afN (PySem.W.Looks.here (s := { s with toks := s.toks + 1 }) (PySem.W.looks_clsIn X hc) ?_))))))
 rw [wu]
 refine afT (a := some dx) (afN (afT (afN ?_)))
 refine wpAny_nsSet1 (s := { s with toks := s.toks + 1 }) I.ns fun h' QB Ht => ?_
 obtain ⟨oD, esD, epD, hoD, hdD, hcD⟩ := QB.count (PySem.Within.cons name v hw)
 refine afN (wpAny_lookBehind hoD (by rw [hdD]; exact pastItsLine_dict (agH hcD (by rw [agS]; omega))) ?_)
 exact afT (h _ ⟨(Ht.2 _ (Ne.symm I.ne)).trans I.obj, QB, I.ne⟩ Ht)
theorem Hu {R : Result -> Shared -> Prop} {vs : List Value} {kw : List (Str × Value)} (X : K.In s.heap) (hm : PySem.W.makesIn K C = true)
   (hi : PySem.W.findIn K (.ref C) "__init__" = some (some (.ref f))) (hf : PySem.W.typeIn K (.ref f) = some (.type "function"))
   (h : codeAny (model prog w) (A.under (.builtin "type.__call__" ⟨.ref C :: vs, kw⟩)) (.call (.ref f) ⟨.ref (s.heap.objs.size + 1) :: vs, kw⟩) (PySem.W.InitBack (s.heap.objs.size + 1) R)
     { s with heap := (s.heap.push PySem.W.emptyDict).push (PySem.W.instObj C s.heap.objs.size) }) :
   codeAny (model prog w) A (.call (.ref C) ⟨vs, kw⟩) R s := by
 obtain ⟨hh, g, d, t, os⟩ := s
 exact PySem.W.make_core (PySem.W.makes_of X hm) (PySem.W.looks_findIn X hi) (fun self => PySem.W.bind_fn X self hf) (.inl rfl) h
end
noncomputable def iI (f : Str) (v : V) : List (Str × V) -> List (Str × V)
 | [] => [(f, v)]
 | (g, x) :: r => if g = f then (g, v) :: r else (g, x) :: iI f v r
theorem qS (f g : Str) (v : V) : ∀ fs : List (Str × V), (iI f v fs).lookup g = if g = f then some v else fs.lookup g
 | [] => by
   show List.lookup g [(f, v)] = _
   by_cases h : g = f
   . have hb : (g == f) = true := ah8.mpr h
     simp only [List.lookup, hb, agb h]
   . have hb : (g == f) = false := agZ.mpr h
     simp only [List.lookup, hb, af1 h]
 | (k, x) :: r => by
   have ih := qS f g v r
   rw [show iI f v ((k, x) :: r) = (if k = f then (k, v) :: r else (k, x) :: iI f v r) from rfl]
   by_cases hk : k = f
   . rw [agb hk]
     by_cases h : g = k
     . have hb : (g == k) = true := ah8.mpr h
       simp only [List.lookup, hb, agb (h.trans hk)]
     . have hb : (g == k) = false := agZ.mpr h
       simp only [List.lookup, hb, af1 (fun e : g = f => h (e.trans hk.symm))]
   . rw [af1 hk]
     by_cases h : g = k
     . have hb : (g == k) = true := ah8.mpr h
       simp only [List.lookup, hb, af1 (fun e : g = f => hk (h.symm.trans e))]
     . have hb : (g == k) = false := agZ.mpr h
       simp only [List.lookup, hb]
       exact ih
theorem qp (f : Str) (v : V) : ∀ fs : List (Str × V), f ∈ (iI f v fs).map (·.1) /\ ∀ g, g ∈ fs.map (·.1) -> g ∈ (iI f v fs).map (·.1)
 | [] => ⟨by simp [iI], fun g h => by simp at h⟩
 | (k, x) :: r => by
   obtain ⟨i1, i2⟩ := qp f v r
   rw [show iI f v ((k, x) :: r) = (if k = f then (k, v) :: r else (k, x) :: iI f v r) from rfl]
   by_cases hk : k = f
   . rw [agb hk]
     subst hk
     exact ⟨by simp, fun g h => by simpa using h⟩
   . rw [af1 hk]
     refine ⟨?_, fun g h => ?_⟩
     . rw [agd]
       exact afS _ i1
     . rw [agd] at h ⊢
       rcases afX.mp h with e | e
       . exact afX.mpr (.inl e)
       . exact afS _ (i2 g e)
theorem qT (f : Str) (v : V) : ∀ fs : List (Str × V), (iI f v fs).length <= fs.length + 1
 | [] => by simp [iI]
 | (k, x) :: r => by
   have ih := qT f v r
   rw [show iI f v ((k, x) :: r) = (if k = f then (k, v) :: r else (k, x) :: iI f v r) from rfl]
   by_cases hk : k = f
   . rw [agb hk, agS, agS]; omega
   . rw [af1 hk, agS, agS]; omega
theorem nE.some_of {v : V} {o : Option Value} (r : nE (some v) o) : ∃ u, o = some u /\ RelV v u := by
 cases o with
 | none => exact (show False from r).elim
 | some u => exact ⟨u, rfl, r⟩
theorem E2 {v : V} {u : Value} (r : RelV v u) : PySem.W.handedIn u = true := by
 cases v with
 | non => cases (show u = Value.none from r); rfl
 | bl b => cases (show u = Value.bool b from r); rfl
 | int i => obtain ⟨t, e⟩ := (show ∃ t, u = Value.int i t from r); cases e; rfl
 | str x => obtain ⟨t, e⟩ := (show ∃ t, u = Value.str x t from r); cases e; rfl
 | GU b => obtain ⟨t, e⟩ := (show ∃ t, u = Value.bytes b t from r); cases e; rfl
 | ZF b => obtain ⟨t, e⟩ := (show ∃ t, u = Value.float b t from r); cases e; rfl
 | ref a => cases (show u = Value.ref a from r); rfl
 | ty n => cases (show u = Value.type n from r); rfl
section
variable {P : Program} {w : World} {H : Hp} {h : Heap} {a C dx : Addr} {fs : List (Str × V)}
theorem C9 (c6 : oz P w H h) (e : H a = some (.ins C dx fs)) : ∃ mA, EZ h a dx C mA /\ (∀ f, nE (fs.lookup f) (mA f)) /\ PySem.Within mA (fs.map (·.1)) /\ fs.length <= 1000 /\ H dx = some (.own a) := by
 obtain ⟨d, z, ne, ob, mA, n, r, q⟩ := (show cV P w H h a (.ins C dx fs) from c6 a _ e)
 exact ⟨mA, ⟨ob, n, ne⟩, r, q, z, d⟩
end
structure wG (K : PySem.W.Frag) (C : Addr) : Prop where
 pg : PySem.W.plainGet K C Str.empty = true
 hd : PySem.W.hasDictIn K C = true
 po : PySem.W.plainOver K C = true
 sa : PySem.W.findIn K (.ref C) "__setattr__" = some (some (.builtin "object.__setattr__"))
theorem wG.get {K : PySem.W.Frag} {C : Addr} (c : wG K C) (f : Str) : PySem.W.plainGet K C f = true := c.pg
noncomputable def bU (K : PySem.W.Frag) (C : Addr) (f : Str) : Prop := PySem.W.findIn K (.ref C) f = some none
theorem bU.Xn {K : PySem.W.Frag} {C : Addr} {f : Str} (n : bU K C f) : PySem.W.takerIn K C f = some none := by
 unfold PySem.W.takerIn
 rw [show PySem.W.findIn K (.ref C) f = some none from n]
 rfl
section
variable {X : Cx} {pins : List (Addr × Obj)} {σ : St} {H : Hp} {s : Shared} {a C dx : Addr} {fs : List (Str × V)} {f : Str} {v : V} {A : Around} {E : Value -> Shared -> Prop}
theorem Bd {b : Bool} {Q : Value -> Shared -> Prop} (I : Inv X pins σ H s) (e : H a = some (.ins C dx fs)) (c : wG X.K C) (n : bU X.K C f) (l : fs.lookup f = some v)
   (h : ∀ u s', Inv X pins σ H s' -> RelV v u -> Q u s') : wpAny (model X.prog X.w) A (getAttr (.ref a) f b) Q E s := by
 obtain ⟨mA, O, r, _, _, _⟩ := C9 I.c6 e
 obtain ⟨u, hu, ru⟩ := nE.some_of (v := v) (o := mA f) (by rw [← l]; exact r f)
 exact get_map I.zx O (c.get f) c.hd n hu (E2 ru) (h u _ (I.tok _) ru)
theorem Be {y : V} {u : Value} {Q : Unit -> Shared -> Prop} (I : Inv X pins σ H s) (e : H a = some (.ins C dx fs)) (c : wG X.K C) (n : bU X.K C f) (hl : fs.length < 1000) (ry : RelV y u)
   (h : ∀ s', Inv X pins σ (upd H a (.ins C dx (iI f y fs))) s' -> Q () s') : wpAny (model X.prog X.w) A (setAttr (.ref a) f u) Q E s := by
 obtain ⟨mA, O, r, wi, _, ho⟩ := C9 I.c6 e
 have hz : (fs.map (·.1)).length <= sizeLine := by rw [afO, age]; omega
 refine Mw I.zx O c.sa c.po n.Xn c.hd wi hz fun h' O' sb => h _ ?_
 have hd : ∃ o, h'.get? dx = some o := let ⟨o, _, _, e', _⟩ := O'.ns; ⟨o, e'⟩
 refine I.write (x := a) (e := dx) (by rw [e]; exact True.intro) (.inr ho) (fun b q hb z => (sb.2 b hb).trans z) hd ?_
 refine ⟨by rw [ao O.ne]; exact ho, ?_, O.ne, O'.obj, _, O'.ns, fun g => ?_, fun g hg => ?_⟩
 . have := qT f y fs; omega
 . show nE ((iI f y fs).lookup g) (if g = f then some u else mA g)
   rw [qS]
   by_cases q : g = f
   . rw [agb q, agb q]; exact ry
   . rw [af1 q, af1 q]; exact r g
 . by_cases q : g = f
   . rw [q]; exact (qp f y fs).1
   . refine (qp f y fs).2 g (wi g fun z => hg ?_)
     show (if g = f then some u else mA g) = none
     rw [af1 q]; exact z
theorem Inv.made (I : Inv X pins σ H s) : Inv X pins σ (upd (upd H s.heap.objs.size (.own (s.heap.objs.size + 1))) (s.heap.objs.size + 1) (.ins C s.heap.objs.size []))
   { s with heap := (s.heap.push PySem.W.emptyDict).push (PySem.W.instObj C s.heap.objs.size) } := by
 have e1 : (s.heap.push PySem.W.emptyDict).get? s.heap.objs.size = some PySem.W.emptyDict := agl s.heap rfl
 have e2 : ((s.heap.push PySem.W.emptyDict).push (PySem.W.instObj C s.heap.objs.size)).get? (s.heap.objs.size + 1) = some (PySem.W.instObj C s.heap.objs.size) := by
   have := agl (s.heap.push PySem.W.emptyDict) (o := PySem.W.instObj C s.heap.objs.size) rfl
   rwa [Heap.size_push] at this
 have e3 : (s.heap.push PySem.W.emptyDict).Ns s.heap.objs.size (fun _ => none) := ⟨PySem.W.emptyDict, #[], _, e1, rfl, (fun e he => absurd he (by simp)), fun _ => rfl⟩
 have I1 := I.laid (a := s.heap.objs.size) (o := .own (s.heap.objs.size + 1)) (h' := s.heap.push PySem.W.emptyDict) (t' := s.toks) (fun b u q => af7 _ q) (af3 _) ⟨_, e1⟩
 refine I1.laid (a := s.heap.objs.size + 1) (o := .ins C s.heap.objs.size []) (t' := s.toks) (fun b u q => af7 _ q) (Nat.le_of_eq (Heap.size_push _ _)) ?_
 have ne : s.heap.objs.size ≠ s.heap.objs.size + 1 := agG (Nat.lt_succ_self _)
 refine ⟨by rw [ao ne, az], agr _, ne, e2, fun _ => none, (Heap.Ns1.of_empty e3).at fun o q => af7 _ q, fun _ => True.intro, fun y hy => absurd rfl hy⟩
theorem Mx {prog : Program} {w : World} {env : Env} {e : Expr} {f : Str} {pos : Pos} {s : Shared} {Q : Value -> Shared -> Prop} (hb : attributeBase e f env (eval e env) = eval e env)
   (h : wpAny (model prog w) A (eval e env) (fun o s₁ => wpAny (model prog w) A (getAttr o f true) Q E s₁) E s) : wpAny (model prog w) A (eval (.Attribute e f pos) env) Q E s :=
 Attribute_any_ h (by rw [arm_eval_Attribute, hb])
end
noncomputable def aaT (K : PySem.W.Frag) (ta : TE) (f : Str) : TE := fun σ H Q => ta σ H fun x H1 => ∃ a C dx fs v, x = .ref a /\ H1 a = some (.ins C dx fs) /\ wG K C /\ bU K C f /\ fs.lookup f = some v /\ Q v H1
noncomputable def aaU (K : PySem.W.Frag) (ta tv : TE) (f : Str) : TS := fun D σ H => tv σ H fun y H1 => ta σ H1 fun x H2 => ∃ a C dx fs, x = .ref a /\ H2 a = some (.ins C dx fs) /\ wG K C /\ bU K C f /\ fs.length < 1000 ∧
 D.nx σ (upd H2 a (.ins C dx (iI f y fs)))
section
variable {X : Cx} {o e value : Expr} {f : Str} {pos pos' : Pos} {ta tv : TE}
theorem Bf (he : PE X e ta) (hb : attributeBase e f X.env (eval e X.env) = eval e X.env) : PE X (.Attribute e f pos) (aaT X.K ta f) := by
 intro pins s σ H Q I h
 refine Mx hb (cR (he pins s σ H _ I h) fun u s1 zz => ?_)
 obtain ⟨x, H1, I1, rx, a, C, dx, fs, v, ex, ea, c, n, l, q⟩ := zz
 subst ex
 obtain rfl : u = Value.ref a := rx
 exact Bd I1 ea c n l fun u' s2 I2 ru => ⟨v, H1, I2, ru, q⟩
theorem Sq (ha : PE X o ta) (hv : PE X value tv) (hs : swapsWith value (some (.Attribute o f pos')) pos.line X.env = pure false) : PS X (.Assign [.Attribute o f pos'] value pos) (aaU X.K ta tv f) := by
 intro pins s σ H D I h
 refine plainObj_wpAny_Assign_Attribute (cR (hv pins s σ H _ I h) fun u s1 ⟨y, H1, I1, ry, q⟩ => cR (ha pins s1 σ H1 _ I1 q) fun ov s2 zz => ?_) hs
 obtain ⟨x, H2, I2, rx, a, C, dx, fs, ex, ea, c, n, l, q2⟩ := zz
 subst ex
 obtain rfl : ov = Value.ref a := rx
 exact Be I2 ea c n l ry fun s3 I3 => ⟨σ, _, I3, q2⟩
end
structure fc (k : Nat) (A : Around) : Prop where
 hd : A.handled = none
 dp : A.depth + 3 * k + 5 < recursionLimit
 un : A.units + 16 * k + 200 < cLine
theorem fc.mono {j k : Nat} {A : Around} (r : fc k A) (h : j <= k) : fc j A := ⟨r.hd, by have := r.dp; omega, by have := r.un; omega⟩
theorem fc.deeper {k : Nat} {A : Around} (r : fc (k + 1) A) (env : Env) : fc k (A.deeper env) :=
 ⟨r.hd, by have := r.dp; show A.depth + 1 + 3 * k + 5 < _; omega, by have := r.un; show A.units + 3 + 16 * k + 200 < _; omega⟩
theorem fc.in1 {k : Nat} {A : Around} (r : fc (k + 1) A) : fc k A.in1 :=
 ⟨r.hd, by have := r.dp; show A.depth + 3 * k + 5 < _; omega, by have := r.un; show A.units + 1 + 16 * k + 200 < _; omega⟩
theorem Bg {A : Around} {C : Addr} {us : List Value} {kw : List (Str × Value)} : (A.under (.builtin "type.__call__" ⟨.ref C :: us, kw⟩)).depth = A.depth + 1 := by
 first | rfl | simp [Around.under, Code.weight, Code.isCreation, Code.isGuard, Code.isCaller, Code.frames, Code.isFrame, guardIds]
theorem Bh {A : Around} {C : Addr} {us : List Value} {kw : List (Str × Value)} : (A.under (.builtin "type.__call__" ⟨.ref C :: us, kw⟩)).units = A.units + 1 := by
 first | rfl | simp [Around.under, Code.cUnits, Code.frames, Code.isFrame]
theorem fc.make {k : Nat} {A : Around} (r : fc (k + 1) A) (C : Addr) (us : List Value) (kw : List (Str × Value)) : fc k (A.under (.builtin "type.__call__" ⟨.ref C :: us, kw⟩)) :=
 ⟨r.hd, by have := r.dp; rw [Bg]; omega, by have := r.un; rw [Bh]; omega⟩
theorem fc.depth {k : Nat} {A : Around} (r : fc k A) : A.depth < recursionLimit := by have := r.dp; omega
theorem fc.units {k : Nat} {A : Around} (r : fc k A) : A.units + 64 < cLine := by have := r.un; omega
noncomputable def Xo : TA := fun _ H Q => Q [] H
noncomputable def Xp (ta : TE) (tr : TA) : TA := fun σ H Q => ta σ H fun x H1 => tr σ H1 fun xs H2 => Q (x :: xs) H2
section
variable {X : Cx} {e : Expr} {es : List Expr} {te : TE} {t : TA} {pos : Pos}
theorem dW : PA X [] Xo := fun _ _ _ _ H Q I h => Calls.spliced_nil ⟨[], H, I, .nil, h⟩
theorem cu (ha : PE X e te) (hr : PA X es t) (hs : starEach (e :: es) X.env = (false, eval e X.env) :: starEach es X.env := by rfl) : PA X (e :: es) (Xp te t) := by
 intro pos pins s σ H Q I h
 rw [hs]
 show wpAny _ _ (spliced ((false, eval e X.env) :: backTo pos (starEach es X.env))) _ _ s
 refine Calls.spliced_cons (cR (ha pins s σ H _ I h) fun u s1 zz => ?_)
 obtain ⟨x, H1, I1, r1, q1⟩ := zz
 exact cR (hr pos pins s1 σ H1 _ I1 q1) fun us s2 ⟨xs, H2, I2, r2, q2⟩ => ⟨x :: xs, H2, I2, .cons r1 r2, q2⟩
noncomputable def aaV (t : TA) : TE := fun σ H Q => t σ H fun xs H1 => xs.length <= sizeLine /\ ∀ p, H1 p = none -> Q (.ref p) (upd H1 p (.tup xs))
noncomputable def aaW (t : TA) : TE := fun σ H Q => t σ H fun xs H1 => xs.length <= sizeLine /\ ∀ p, H1 p = none -> Q (.ref p) (upd H1 p (.lst xs))
theorem Ss {x1} (h : PA X es t) : PE X (.Tuple es x1 pos) (aaV t) := by
 intro pins s σ H Q I hq
 refine wpAny_Tuple_spliced (cR (h pos pins s σ H _ I hq) fun us s1 ⟨xs, H1, I1, r, z, q⟩ => ⟨by rw [← r.length]; exact z, ?_⟩)
 have hf : H1 s1.heap.objs.size = none := I1.c6.fresh (af3 _)
 refine ⟨.ref s1.heap.objs.size, upd H1 s1.heap.objs.size (.tup xs), I1.laid (t' := s1.toks) (fun b u e => af7 _ e) (af3 _) ?_, rfl, q _ hf⟩
 exact ⟨z, us, r, ⟨_, agl _ rfl, rfl, _, rfl⟩⟩
theorem Sv (h : PA X es t) : PE X (.List es pos) (aaW t) := by
 intro pins s σ H Q I hq
 refine wpAny_List_spliced (cR (h pos pins s σ H _ I hq) fun us s1 ⟨xs, H1, I1, r, z, q⟩ => ⟨by rw [← r.length]; exact z, ?_⟩)
 have hf : H1 s1.heap.objs.size = none := I1.c6.fresh (af3 _)
 refine ⟨.ref s1.heap.objs.size, upd H1 s1.heap.objs.size (.lst xs), I1.laid (t' := s1.toks) (fun b u e => af7 _ e) (af3 _) ?_, rfl, q _ hf⟩
 exact ⟨z, us, 0, r, agl _ rfl⟩
end
noncomputable abbrev Sp := List V -> Hp -> VK -> XK -> Prop
noncomputable abbrev Hv := List Env -> Hp -> Shared -> XK -> Value -> Shared -> Prop
structure uS (P : Program) (w : World) (K : PySem.W.Frag) (mg : Str -> Option Value) (base : Heap) (A : Around) (outer : List Env) (s : Shared) (H : Hp) : Prop where
 frames : A.frames = some outer
 mod : Mod K mg base
 bs : ∀ b o, base.get? b = some o -> s.heap.get? b = some o /\ H b = none
 LY : base.objs.size <= s.heap.objs.size
 qo : s.heap.FunFrames base outer
 Qs : ∀ b ∈ GV outer, H b = none
 c6 : oz P w H s.heap
 bare : AllBare s.gens
noncomputable def CE (outer : List Env) (P : Program) (w : World) (H : Hp) (s : Shared) (Q : VK) (u : Value) (s' : Shared) : Prop :=
 ∃ v H', s'.os = s.os /\ AllBare s'.gens /\ Un (GV outer) [] H H' s.heap s'.heap /\ oz P w H' s'.heap /\ RelV v u /\ Q v H'
noncomputable def CR (CX : Hv) (outer : List Env) (P : Program) (w : World) (H : Hp) (s : Shared) (Q : VK) (E : XK) (r : Result) (s' : Shared) : Prop :=
 match r with
 | .ok (.ret u) => CE outer P w H s Q u s'
 | .ok _ => False
 | .error e => CX outer H s E e s'
structure g9 (P : Program) (w : World) (K : PySem.W.Frag) (mg : Str -> Option Value) (base : Heap) (CX : Hv) (k : Nat) (f : Addr) (fd : FuncData) (ps : List Str) (sp : Sp) : Prop where
 len : ∀ vs H Q E, sp vs H Q E -> vs.length = ps.length
 run : ∀ (A : Around) (outer : List Env) (s : Shared) (H : Hp) (args : Args) (us : List Value) (vs : List V) (Q : VK) (E : XK), fc k A -> uS P w K mg base A outer s H -> BindsTo s fd args (ps.zip us) -> Vals vs us -> sp vs H Q E →
   codeAny (model P w) A (.call (.ref f) args) (CR CX outer P w H s Q E) s
theorem g9.imp {P : Program} {w : World} {K : PySem.W.Frag} {mg : Str -> Option Value} {base : Heap} {CX : Hv} {k : Nat} {f : Addr} {fd : FuncData} {ps : List Str} {sp sp' : Sp} (F : g9 P w K mg base CX k f fd ps sp)
   (h : ∀ vs H Q E, sp' vs H Q E -> sp vs H Q E) : g9 P w K mg base CX k f fd ps sp' :=
 ⟨fun vs H Q E q => F.len vs H Q E (h _ _ _ _ q), fun A outer s H args us vs Q E hr he hb hv hs => F.run A outer s H args us vs Q E hr he hb hv (h _ _ _ _ hs)⟩
theorem uS.make {P : Program} {w : World} {K : PySem.W.Frag} {mg : Str -> Option Value} {base : Heap} {A : Around} {outer : List Env} {s : Shared} {H : Hp} (e : uS P w K mg base A outer s H) (C : Addr) (us : List Value) (kw : List (Str × Value)) :
   uS P w K mg base (A.under (.builtin "type.__call__" ⟨.ref C :: us, kw⟩)) outer s H := ⟨by first | exact e.frames | (simpa [Around.under, Code.envs, Code.isFrame, pushEnvs] using e.frames), e.mod, e.bs, e.LY, e.qo, e.Qs, e.c6, e.bare⟩
theorem uS.in1 {P : Program} {w : World} {K : PySem.W.Frag} {mg : Str -> Option Value} {base : Heap} {A : Around} {outer : List Env} {s : Shared} {H : Hp} (e : uS P w K mg base A outer s H) :
   uS P w K mg base A.in1 outer s H := ⟨e.frames, e.mod, e.bs, e.LY, e.qo, e.Qs, e.c6, e.bare⟩
section
variable {X : Cx} {pins : List (Addr × Obj)} {σ : St} {H : Hp} {s s' : Shared}
theorem Inv.Xq (I : Inv X pins σ H s) : uS X.prog X.w X.K X.mg X.base X.A X.stack s H :=
 ⟨I.ok.frames, I.ok.mod, I.bs, agH I.ok.LY I.sz, I.stack, I.C1, I.c6, I.bare⟩
theorem Inv.after {Q : VK} {u : Value} (I : Inv X pins σ H s) (h : CE X.stack X.prog X.w H s Q u s') : EP X pins σ Q u s' := by
 obtain ⟨v, H', os, bare, un, c6, r, q⟩ := h
 obtain ⟨hh, g, d, t, Wz⟩ := s'
 obtain rfl : Wz = s.os := os
 exact ⟨v, H', I.call (h' := hh) (g' := g) (d' := d) (t' := t) (ch := []) un c6 bare (fun b z => absurd z (by simp)), r, q⟩
end
noncomputable def QC (sp : Sp) (zL : List V) (E : XK) (t : TA) : TE := fun σ H Q => t σ H fun vs H1 => sp (vs ++ zL) H1 Q E
noncomputable def Xr (C : Addr) (sp : Sp) (zL : List V) (E : XK) (t : TA) : TE := fun σ H Q => t σ H fun vs H1 => ∀ x dx, H1 x = none -> H1 dx = none -> dx ≠ x →
 sp (.ref x :: (vs ++ zL)) (upd (upd H1 dx (.own x)) x (.ins C dx [])) (fun v H2 => v = .non /\ Q (.ref x) H2) E
noncomputable def Binds (K : PySem.W.Frag) (fd : FuncData) (ps : List Str) (ds : List Value) : Prop :=
 ∀ (s : Shared) (us : List Value), K.In s.heap -> (us ++ ds).length = ps.length -> BindsTo s fd ⟨us, []⟩ (ps.zip (us ++ ds))
theorem Binds.all {K : PySem.W.Frag} {fd : FuncData} {ps : List Str} (h : ∀ us : List Value, us.length = ps.length -> bindArgs fd ⟨us, []⟩ = pure (ps.zip us)) : Binds K fd ps [] := fun s us _ hl => by
 rw [agF] at hl ⊢
 exact .of_eq (h us hl)
noncomputable def Passes (CX : Hv) (X : Cx) (E : XK) : Prop := ∀ (pins : List (Addr × Obj)) (σ : St) (H : Hp) (s : Shared) (e : Value) (s' : Shared), Inv X pins σ H s -> CX X.stack H s E e s' -> X.xe e s'
section
variable {X : Cx} {CX : Hv} {k : Nat} {f C : Addr} {fd : FuncData} {ps : List Str} {sp : Sp} {zL : List V} {ds : List Value} {E : XK} {x : Str} {p pos : Pos} {e : Expr} {es : List Expr} {t : TA}
theorem Hw {pins : List (Addr × Obj)} {σ : St} {H : Hp} {s : Shared} {Q : VK} {us : List Value} {vs : List V} (F : g9 X.prog X.w X.K X.mg X.base CX k f fd ps sp) (hr : fc k X.A) (hb : Binds X.K fd ps ds) (hd : Vals zL ds) (hx : Passes CX X E)
   (I : Inv X pins σ H s) (r : Vals vs us) (h : sp (vs ++ zL) H Q E) : wpAny (model X.prog X.w) X.A (call (.ref f) us) (EP X pins σ Q) X.xe s := by
 have r2 : Vals (vs ++ zL) (us ++ ds) := r.append hd
 have hl : (us ++ ds).length = ps.length := by rw [← r2.length]; exact F.len _ _ _ _ h
 refine wpAny_call (codeAny_mono (F.run X.A X.stack s H ⟨us, []⟩ (us ++ ds) (vs ++ zL) Q E hr I.Xq (hb s us I.zx hl) r2 h) fun r s' hq => ?_)
 cases r with
 | error e => exact hx pins σ H s e s' I hq
 | ok fl =>
   cases fl with
   | ret u => exact I.after hq
   | next => exact False.elim hq
   | brk => exact False.elim hq
   | cont => exact False.elim hq
theorem My (F : g9 X.prog X.w X.K X.mg X.base CX k f fd ps sp) (hr : fc k X.A) (hg : Gl X x) (hm : X.mg x = some (.ref f)) (hk : PySem.W.keepIn X.K (.ref f) = true) (hb : Binds X.K fd ps ds) (hd : Vals zL ds) (hx : Passes CX X E)
   (ha : PA X (e :: es) t) (sZ : (x == ("__debug__" : Str)) = false := by decide) (he : starEach (e :: es) X.env = (false, eval e X.env) :: starEach es X.env := by rfl) (hpl : (backTo pos (starEach es X.env)).any (·.1) = false := by rfl) :
   PE X (.Call (.Name x p) (e :: es) [] pos) (QC sp zL E t) := by
 intro pins s σ H Q I h
 refine ahL (rO I hg hm ?_ sZ)
 refine PySem.W.callWith_K (h₀ := X.base) I.ok.mod.ZH hk (cR (ha pos pins s σ H _ I h) fun us s1 ⟨vs, H1, I1, r, q⟩ => ⟨I1.zx, ?_⟩) he hpl
 exact Hw F hr hb hd hx I1 r q
theorem Hx (F : g9 X.prog X.w X.K X.mg X.base CX k f fd ps sp) (hr : fc k X.A) (hg : Gl X x) (hm : X.mg x = some (.ref f)) (hk : PySem.W.keepIn X.K (.ref f) = true) (hb : Binds X.K fd ps ds) (hd : Vals zL ds) (hx : Passes CX X E)
   (sZ : (x == ("__debug__" : Str)) = false := by decide) : PE X (.Call (.Name x p) [] [] pos) (QC sp zL E Xo) := by
 intro pins s σ H Q I h
 refine ahL (rO I hg hm ?_ sZ)
 exact PySem.W.callWith_K0 I.zx hk (Hw (us := []) F hr hb hd hx I .nil h)
structure Mk (K : PySem.W.Frag) (C f : Addr) : Prop where
 makes : PySem.W.makesIn K C = true
 init : PySem.W.findIn K (.ref C) "__init__" = some (some (.ref f))
 fn : PySem.W.isFn K (.ref f) = true
 kp : PySem.W.keepIn K (.ref C) = true
theorem Hy {pins : List (Addr × Obj)} {σ : St} {H : Hp} {s : Shared} {Q : VK} {us : List Value} {vs : List V} (M : Mk X.K C f) (F : g9 X.prog X.w X.K X.mg X.base CX k f fd ps sp) (hr : fc (k + 1) X.A) (hb : Binds X.K fd ps ds) (hd : Vals zL ds)
   (hx : Passes CX X E) (I : Inv X pins σ H s) (r : Vals vs us)
   (h : ∀ x dx, H x = none -> H dx = none -> dx ≠ x -> sp (.ref x :: (vs ++ zL)) (upd (upd H dx (.own x)) x (.ins C dx [])) (fun v H2 => v = .non /\ Q (.ref x) H2) E) :
   wpAny (model X.prog X.w) X.A (call (.ref C) us) (EP X pins σ Q) X.xe s := by
 have hq := h (s.heap.objs.size + 1) s.heap.objs.size (I.c6.fresh (Nat.le_succ _)) (I.c6.fresh (af3 _)) (agG (Nat.lt_succ_self _))
 have I2 := Inv.made (C := C) I
 have r2 : Vals (V.ref (s.heap.objs.size + 1) :: (vs ++ zL)) (Value.ref (s.heap.objs.size + 1) :: (us ++ ds)) := .cons rfl (r.append hd)
 have hl : (Value.ref (s.heap.objs.size + 1) :: us ++ ds).length = ps.length := by
   have e := r2.length
   rw [F.len _ _ _ _ hq] at e
   exact e.symm
 refine wpAny_call (Hu (f := f) I.zx M.makes M.init (ah8.mp M.fn) (codeAny_mono (F.run _ X.stack _ _ ⟨Value.ref (s.heap.objs.size + 1) :: us, []⟩ (Value.ref (s.heap.objs.size + 1) :: (us ++ ds)) _ _ E (hr.make C us [])
   (I2.Xq.make C us []) (hb _ (Value.ref (s.heap.objs.size + 1) :: us) I2.zx hl) r2 hq) fun r s' Xs => ?_))
 cases r with
 | error e => exact hx pins σ _ _ e s' I2 Xs
 | ok fl =>
   cases fl with
   | ret u =>
     obtain ⟨v, H', I3, rv, ev, q3⟩ := I2.after Xs
     subst ev
     exact ⟨rv, ⟨V.ref (s.heap.objs.size + 1), H', I3, rfl, q3⟩⟩
   | next => exact False.elim Xs
   | brk => exact False.elim Xs
   | cont => exact False.elim Xs
theorem Mz (M : Mk X.K C f) (F : g9 X.prog X.w X.K X.mg X.base CX k f fd ps sp) (hr : fc (k + 1) X.A) (hg : Gl X x) (hm : X.mg x = some (.ref C)) (hb : Binds X.K fd ps ds) (hd : Vals zL ds) (hx : Passes CX X E)
   (ha : PA X (e :: es) t) (sZ : (x == ("__debug__" : Str)) = false := by decide) (he : starEach (e :: es) X.env = (false, eval e X.env) :: starEach es X.env := by rfl) (hpl : (backTo pos (starEach es X.env)).any (·.1) = false := by rfl) :
   PE X (.Call (.Name x p) (e :: es) [] pos) (Xr C sp zL E t) := by
 intro pins s σ H Q I h
 refine ahL (rO I hg hm ?_ sZ)
 refine PySem.W.callWith_K (h₀ := X.base) I.ok.mod.ZH M.kp (cR (ha pos pins s σ H _ I h) fun us s1 ⟨vs, H1, I1, r, q⟩ => ⟨I1.zx, ?_⟩) he hpl
 exact Hy M F hr hb hd hx I1 r q
end
structure aQ (N P : List Str) (sc : Scope) : Prop where
 kind : sc.kind = .function
 co : sc.isCoroutine = false
 gen : sc.isGenerator = false
 nd : N.Nodup
 pre : N.take P.length = P
 par : ∀ x ∈ P, sc.names.lookup x = some .local \/ sc.names.lookup x = some .cell
 Sw : ∀ y ∈ sc.names, y.2 ≠ .free
theorem vz {kindOf : Str -> Option NameKind} {x : Str} : ∀ {binds : List (Str × Value)} {m : Str -> Option Value}, (∀ v, (x, v) ∉ binds) -> bindL kindOf binds m x = m x
 | [], _, _ => rfl
 | (n, v) :: r, m, h => by
   unfold bindL
   rw [vz fun w hw => h w (afS _ hw)]
   split
   . have : x ≠ n := by rintro rfl; exact h v afP
     simp [this]
   . rfl
theorem vA {kindOf : Str -> Option NameKind} {x : Str} : ∀ {binds : List (Str × Value)} {m : Str -> Option Value}, (∀ v, (x, v) ∉ binds) -> bindC kindOf binds m x = m x
 | [], _, _ => rfl
 | (n, v) :: r, m, h => by
   unfold bindC
   rw [vA fun w hw => h w (afS _ hw)]
   split
   . rfl
   . have : x ≠ n := by rintro rfl; exact h v afP
     simp [this]
theorem vC {kindOf : Str -> Option NameKind} {x : Str} {v : Value} : ∀ {P : List Str} {vs : List Value} {i : Nat} {m : Str -> Option Value}, P.Nodup -> P[i]? = some x -> vs[i]? = some v -> kindOf x = some .local →
   bindL kindOf (P.zip vs) m x = some v
 | [], _, _, _, _, h, _, _ => by simp at h
 | _ :: _, [], _, _, _, _, h, _ => by simp at h
 | p :: P, w :: vs, 0, m, nd, h1, h2, hk => by
   simp at h1 h2; subst h1; subst h2
   show bindL kindOf ((p, w) :: P.zip vs) m p = _
   unfold bindL
   rw [vz fun v hv => (agB.mp nd).1 (List.of_mem_zip hv).1, agb hk]
   simp
 | p :: P, w :: vs, i + 1, m, nd, h1, h2, hk => by
   show bindL kindOf ((p, w) :: P.zip vs) m x = _
   unfold bindL
   exact vC (i := i) (List.nodup_cons.mp nd).2 (by simpa using h1) (by simpa using h2) hk
theorem vD {kindOf : Str -> Option NameKind} {x : Str} {v : Value} : ∀ {P : List Str} {vs : List Value} {i : Nat} {m : Str -> Option Value}, P.Nodup -> P[i]? = some x -> vs[i]? = some v -> kindOf x ≠ some .local →
   bindC kindOf (P.zip vs) m x = some v
 | [], _, _, _, _, h, _, _ => by simp at h
 | _ :: _, [], _, _, _, _, h, _ => by simp at h
 | p :: P, w :: vs, 0, m, nd, h1, h2, hk => by
   simp at h1 h2; subst h1; subst h2
   show bindC kindOf ((p, w) :: P.zip vs) m p = _
   unfold bindC
   rw [vA fun v hv => (agB.mp nd).1 (List.of_mem_zip hv).1, af1 hk]
   simp
 | p :: P, w :: vs, i + 1, m, nd, h1, h2, hk => by
   show bindC kindOf ((p, w) :: P.zip vs) m x = _
   unfold bindC
   exact vD (i := i) (List.nodup_cons.mp nd).2 (by simpa using h1) (by simpa using h2) hk
noncomputable def start (N : List Str) (vs : List V) : St := vs.map some ++ List.replicate (N.length - vs.length) none
noncomputable def uT (CX : Hv) (P : Program) (w : World) (K : PySem.W.Frag) (mg : Str -> Option Value) (base : Heap) (N : List Str) (qual : Str) (scope : Scope) (f : Addr) (cd : Value) (A : Around) (outer : List Env) (s : Shared) (H : Hp) (E : XK) : Cx where
 prog := P
 w := w
 K := K
 mg := mg
 base := base
 A := A.deeper (envOfC qual scope s.heap.objs.size f cd)
 N := N
 s₀ := s
 H₀ := H
 env := envOfC qual scope s.heap.objs.size f cd
 outer := outer
 stack := envOfC qual scope s.heap.objs.size f cd :: outer
 ex := []
 calm := true
 fn := fun _ => true
 pn := []
 xe := fun e s' => wpAny (model P w) (A.deeper (envOfC qual scope s.heap.objs.size f cd)) (leaving (envOfC qual scope s.heap.objs.size f cd) e) (fun _ s'' => CX outer H s E e s'') (fun e' s'' => CX outer H s E e' s'') s'
theorem zM {sc : Scope} {n : Nat} {x : Str} (h : sc.names.lookup x = some .cell) : ∃ c, (cellsFrom n sc.names []).lookup x = some c := by
 have q := PySem.W.cellsFrom_some sc.names n [] (.inl h)
 exact Option.isSome_iff_exists.mp q
theorem E3 {CX : Hv} {P : Program} {w : World} {K : PySem.W.Frag} {mg : Str -> Option Value} {base : Heap} {N ps : List Str} {qual : Str} {scope : Scope} {f : Addr} {cd : Value} {A : Around} {outer : List Env} {s s1 : Shared} {H : Hp} {E : XK} {us : List Value} {vs : List V}
   (S : aQ N ps scope) (hd : A.handled = none) (e0 : uS P w K mg base A outer s H) (hl : vs.length = ps.length) (r : Vals vs us)
   (x : InCallC s s.heap.objs.size (bindL (envOfC qual scope s.heap.objs.size f cd).kindOf (ps.zip us) fun _ => none) (cellsFrom (s.heap.objs.size + 1) scope.names []) (bindC (envOfC qual scope s.heap.objs.size f cd).kindOf (ps.zip us) fun _ => none) s1) :
   Inv (uT CX P w K mg base N qual scope f cd A outer s H E) [] (start N vs) H s1 := by
 have hpl : ps.length <= N.length := by have := congrArg List.length S.pre; rw [agv] at this; omega
 obtain ⟨h1, tk, rfl, hk⟩ := x.done
 have Xu : ∀ b : Addr, b ∉ (uT CX P w K mg base N qual scope f cd A outer s H E).ex := fun b z => absurd (show b ∈ ([] : List Addr) from z) (by simp)
 refine ⟨⟨e0.mod, S.kind, rfl, rfl, af3 _, fun y z c h1 h2 => ?_, fun y hy => ?_, fun y c _ h => ?_, fun _ => hd, Around.frames_deeper e0.frames, .inr ⟨rfl, rfl⟩, fun b z => absurd z (Xu b), e0.bs, e0.LY, fun b _ _ => Xu b, fun b z => absurd z (Xu b), e0.qo, e0.Qs⟩,
   rfl, e0.bare, Un.kept hk, ⟨_, x.toInCall.ns, fun i y v h1 h2 h3 => ?_⟩, fun y c h => ⟨_, x.cell y c h⟩, e0.c6.fresh (af3 _), fun y c h => ?_, fun p hp => absurd (show p ∈ ([] : List (Addr × Obj)) from hp) (by simp), e0.c6.kept hk, ?_⟩
 . exact name_of_addr x.apart (ahc h1) (ahc h2)
 . have hy : scope.names.lookup y = some .cell \/ scope.names.lookup y = some .free := hy
   rcases hy with hy | hy
   . exact zM hy
   . exact absurd rfl (S.Sw _ (ahc hy))
 . exact ahd (x.above y c (ahc h))
 . have hi : i < vs.length := by
     unfold start at h2
     by_cases hi : i < vs.length
     . exact hi
     . rw [List.getElem?_append_right (by simpa using hi)] at h2
       rw [List.getElem?_replicate] at h2
       split at h2 <;> cases h2
   have ha : vs[i]? = some v := by
     unfold start at h2
     rw [List.getElem?_append_left (by simpa using hi), List.getElem?_map] at h2
     cases e : vs[i]? with
     | none => rw [e] at h2; cases h2
     | some a => rw [e] at h2; cases h2; rfl
   obtain ⟨u, hu, rv⟩ := r.get ha
   have hp : ps[i]? = some y := by
     rw [← S.pre, List.getElem?_take_of_lt (by omega)]; exact h1
   have ndP : ps.Nodup := by rw [← S.pre]; exact S.nd.sublist (List.take_sublist _ _)
   refine ⟨u, rv, ?_⟩
   rcases S.par y (af8 hp) with k | k
   . exact .inl ⟨k, vC ndP hp hu k⟩
   . obtain ⟨c, e⟩ := zM (n := s.heap.objs.size + 1) k
     refine .inr ⟨.inl k, c, e, ?_⟩
     have q := x.cell y c e
     rw [vD ndP hp hu (by show scope.names.lookup y ≠ _; rw [k]; decide)] at q
     exact q
 . exact e0.c6.fresh (ahd (x.above y c (ahc h)))
 . unfold start
   show _ = N.length
   rw [afY, afO, agx]
   omega
theorem Xv {CX : Hv} {P : Program} {w : World} {K : PySem.W.Frag} {mg : Str -> Option Value} {base : Heap} {k : Nat} {f : Addr} {name qual : Str} {params : Arguments} {body : List Stmt} {scope : Scope} {dV kV doc pm ji ct oc : Value} {an od : Option Addr}
   {Hz : Array (Option Value)} {N ps : List Str} {sp : Sp} (lk : K.lookup f = some ⟨oc, od, .func (PySem.W.fnOf name qual params body scope dV kV doc pm an ji ct), Hz⟩) (kK : PySem.W.codeIn K ji qual = true) (S : aQ N ps scope)
   (len : ∀ vs H Q E, sp vs H Q E -> vs.length = ps.length)
   (HB : ∀ (A : Around) (outer : List Env) (s : Shared) (H : Hp) (vs : List V) (Q : VK) (E : XK), fc k (A.deeper (envOfC qual scope s.heap.objs.size f ji)) -> sp vs H Q E →
     ∃ t, C3 (uT CX P w K mg base N qual scope f ji A outer s H E) body t /\ t { nx := fun _ H' => Q .non H', rt := Q } (start N vs) H) :
   g9 P w K mg base CX (k + 1) f (PySem.W.fnOf name qual params body scope dV kV doc pm an ji ct) ps sp := by
 refine ⟨len, fun A outer s H args us vs Q E hr e0 hb r QD => ?_⟩
 have hl := len _ _ _ _ QD
 have KX : K.In s.heap := e0.mod.ZH.keeps fun b o e => (e0.bs b o e).1
 have lim : s.heap.NoLimit := e0.mod.nolimit.keeps fun b o e => (e0.bs b o e).1
 have Dc : ∀ y ∈ ps.zip us, scope.names.lookup y.1 = some .local \/ (scope.names.lookup y.1 = some .cell /\ ((cellsFrom (s.heap.objs.size + 1) scope.names []).lookup y.1).isSome = true) := fun ⟨n, v⟩ hy => by
   rcases S.par n (List.of_mem_zip hy).1 with q | q
   . exact .inl q
   . exact .inr ⟨q, PySem.W.cellsFrom_some _ _ _ (.inl q)⟩
 refine codeAny_call_function hr.depth (KX _ _ lk) rfl S.co S.gen rfl (PySem.W.codeRec_of KX kK) (hb _ _ _ _ ?_)
 refine wpAny_newFunctionEnv_cells S.kind Dc fun env he s1 x => ?_
 subst he
 refine ⟨lim.keeps x.toInCall.keep, codeAny_func ?_⟩
 obtain ⟨t, ht, hq⟩ := HB A outer s H vs Q E (hr.deeper _) QD
 have I : Inv (uT CX P w K mg base N qual scope f ji A outer s H E) [] (start N vs) H s1 := E3 S hr.hd e0 hl r x
 refine ag7 (ht [] s1 (start N vs) H _ I hq) (fun fl s' hs => ?_) fun e s' hs => hs
 have fin : ∀ {σ' : St} {H' : Hp} {v : V} {u : Value}, Inv (uT CX P w K mg base N qual scope f ji A outer s H E) [] σ' H' s' -> RelV v u -> Q v H' -> CE outer P w H s Q u s' :=
   fun {σ' H' v u} J rv q => ⟨v, H', J.os, J.bare, J.base, J.c6, rv, q⟩
 cases fl with
 | ret u =>
   obtain ⟨v, σ', H', J, rv, q⟩ := hs
   exact fin J rv q
 | next =>
   obtain ⟨σ', H', J, q⟩ := hs
   exact fin (v := V.non) (u := Value.none) J rfl q
 | brk =>
   obtain ⟨_, _, _, q⟩ := hs
   exact False.elim q
 | cont =>
   obtain ⟨_, _, _, q⟩ := hs
   exact False.elim q
section
variable {X : Cx} {x : Str} {p pos : Pos} {e : Expr} {es : List Expr} {t : TA} {id T : String} {r : List V -> Hp -> VK -> Prop}
noncomputable def tCB (r : List V -> Hp -> VK -> Prop) (t : TA) : TE := fun σ H Q => t σ H fun vs H1 => r vs H1 Q
theorem iJ (hc : iH X (.builtin id) r) (hg : Gl X x) (hm : X.mg x = none) (hv : bootBuiltins x = some (.builtin id)) (ha : PA X (e :: es) t) (hn : x ≠ "__name__" := by decide) (sZ : (x == ("__debug__" : Str)) = false := by decide)
   (he : starEach (e :: es) X.env = (false, eval e X.env) :: starEach es X.env := by rfl) (hpl : (backTo pos (starEach es X.env)).any (·.1) = false := by rfl) : PE X (.Call (.Name x p) (e :: es) [] pos) (tCB r t) := by
 intro pins s σ H Q I h
 refine ahL (wB I hg hm hv ?_ hn sZ)
 exact PyProof.Rows.callWith_builtin1 (cR (ha pos pins s σ H _ I h) fun us s1 ⟨vs, H1, I1, r1, q1⟩ => hc pins s1 σ H1 vs us Q I1 r1 q1) he hpl
theorem gu (hc : iH X (.type T) r) (hg : Gl X x) (hm : X.mg x = none) (hv : bootBuiltins x = some (.type T)) (ha : PA X (e :: es) t) (hn : x ≠ "__name__" := by decide) (sZ : (x == ("__debug__" : Str)) = false := by decide)
   (he : starEach (e :: es) X.env = (false, eval e X.env) :: starEach es X.env := by rfl) (hpl : (backTo pos (starEach es X.env)).any (·.1) = false := by rfl) : PE X (.Call (.Name x p) (e :: es) [] pos) (tCB r t) := by
 intro pins s σ H Q I h
 refine ahL (wB I hg hm hv ?_ hn sZ)
 exact PyProof.Rows.callWith_type1 (cR (ha pos pins s σ H _ I h) fun us s1 ⟨vs, H1, I1, r1, q1⟩ => hc pins s1 σ H1 vs us Q I1 r1 q1) he hpl
end
end L2
namespace HT
open PySem PyProof.Rows
section
variable {prog : Program} {w : World} {A : Around} {E : Value -> Shared -> Prop} {s : Shared}
theorem MA {t b : Addr} {vs ws : List Value} {Q : Value -> Shared -> Prop} (ht : IsTup s.heap t vs.toArray) (hb : IsTup s.heap b ws.toArray) (hv : vs ≠ [])
   (h1 : ws = [] -> Q (.ref t) s) (h2 : ws ≠ [] -> Q (.ref s.heap.objs.size) { s with heap := s.heap.push { cls := .type "tuple", data := .seq (vs ++ ws).toArray } })
   (hsz : vs.length + ws.length <= sizeLine) : wpAny (model prog w) A (binaryOp .Add (.ref t) (.ref b)) Q E s := by
 obtain ⟨⟨cls, dd, data, sl⟩, ho, hc, n, hd⟩ := id ht
 obtain ⟨⟨aaY, QF, data2, WB⟩, GY, Sx, n2, hd2⟩ := id hb
 simp only at hc hd Sx hd2
 subst hc hd Sx hd2
 have e : vs.toArray ++ ws.toArray = (vs ++ ws).toArray := by simp
 by_cases hw : ws = []
 . exact concat_meets ⟨_, ho, rfl⟩ ⟨_, GY, rfl⟩ noFill_tuple_add seq_tuple_add PySem.F.slot_tuple_add PySem.F.entry_tuple_add (PySem.F.args_tuple_add_2 _ _)
     (tuple_addW1 t b vs.toArray ws.toArray n n2 dd QF sl WB (by simpa using hv) (by simp [hw])) ⟨ho, GY, h1 hw⟩
 . refine concat_meets ⟨_, ho, rfl⟩ ⟨_, GY, rfl⟩ noFill_tuple_add seq_tuple_add PySem.F.slot_tuple_add PySem.F.entry_tuple_add (PySem.F.args_tuple_add_2 _ _)
     (tuple_addW2 t b vs.toArray ws.toArray n n2 dd QF sl WB (by simpa using hv) (by simpa using hw) (by rw [List.size_toArray, List.size_toArray]; exact hsz)) ⟨ho, GY, ?_⟩
   rw [e]
   exact h2 hw
noncomputable def eZ (n d : Nat) : Option Int -> Nat
 | none => d
 | some v => if v < 0 then (v + (n : Int)).toNat else min v.toNat n
theorem Sy (n d : Nat) (hd : d <= n) (o : Option Int) : eZ n d o <= n := by
 cases o with
 | none => exact hd
 | some v =>
   show (if v < 0 then (v + (n : Int)).toNat else min v.toNat n) <= n
   by_cases hv : v < 0
   . rw [if_pos hv]; omega
   . rw [if_neg hv]; exact Nat.min_le_right _ _
theorem Dd (v : Int) (n d : Nat) : (if v < 0 then max (v + (n : Int)) 0 else min v (n : Int)) = ((eZ n d (some v) : Nat) : Int) := by
 show (if v < 0 then max (v + (n : Int)) 0 else min v (n : Int)) = (((if v < 0 then (v + (n : Int)).toNat else min v.toNat n) : Nat) : Int)
 by_cases hv : v < 0
 . simp only [if_pos hv]; omega
 . simp only [if_neg hv]; omega
theorem Bj (lo hi : Option Int) (n : Nat) : Builtin.Slice.sliceAdjust lo hi 1 (n : Int) = (((eZ n 0 lo : Nat) : Int), ((eZ n n hi : Nat) : Int)) := by
 have h1 : ¬ ((1 : Int) < 0) := by omega
 unfold Builtin.Slice.sliceAdjust
 simp only [h1, if_false]
 refine Prod.ext ?_ ?_
 . cases lo with
   | none => rfl
   | some v => exact Dd v n 0
 . cases hi with
   | none => rfl
   | some v => exact Dd v n n
theorem Bk (i j : Nat) : Builtin.Slice.slicePlaces (i : Int) (j : Int) 1 = j - i := by
 unfold Builtin.Slice.slicePlaces
 have h1 : (1 : Int) > 0 := by omega
 simp only [h1, if_true, Int.ediv_one]
 split <;> omega
theorem tu {v : Value} {o : Option Int} {Q : Option Int -> Shared -> Prop} (p : IsPart v o) (h : Q o s) : wpAny (model prog w) A (Builtin.Slice.slicePartIndex v) Q E s := by
 cases p with
 | none => exact slicePart_none h
 | int i t => exact slicePart_int h
theorem jx {sl : Addr} {vl vu : Value} {lo hi : Option Int} {n : Nat} {Q : Int × Int × Nat -> Shared -> Prop} (hs : s.heap.IsSliceOf sl vl vu .none) (pl : IsPart vl lo) (pu : IsPart vu hi)
   (h : Q (((eZ n 0 lo : Nat) : Int), 1, eZ n n hi - eZ n 0 lo) s) : wpAny (model prog w) A (Builtin.Slice.sliceApplied (.ref sl) (pure (n : Int))) Q E s := by
 obtain ⟨os, MB, ZS, Xw⟩ := id hs
 unfold Builtin.Slice.sliceApplied Builtin.Slice.sliceFields
 refine wpAny_bind (wpAny_bind (wpAny_field MB Xw (x := vl) rfl (wpAny_bind (wpAny_field MB Xw (x := vu) rfl (wpAny_bind (wpAny_field MB Xw (x := .none) rfl (wpAny_pure ?_)))))))
 refine wpAny_bind (slicePart_none ?_)
 show wpAny _ _ (if ((1 : Int) == 0) = true then _ else _) _ _ s
 rw [if_neg (by decide)]
 refine wpAny_bind (tu pl (wpAny_bind (tu pu (wpAny_bind (wpAny_pure ?_)))))
 show wpAny _ _ (match Builtin.Slice.sliceAdjust lo hi 1 (n : Int) with | (lo, hi) => pure (lo, (1 : Int), Builtin.Slice.slicePlaces lo hi 1)) _ _ s
 rw [Bj lo hi n]
 show wpAny _ _ (pure (((eZ n 0 lo : Nat) : Int), (1 : Int), Builtin.Slice.slicePlaces ((eZ n 0 lo : Nat) : Int) ((eZ n n hi : Nat) : Int) 1)) _ _ s
 rw [Bk]
 exact wpAny_pure h
theorem HC (xs : Array Value) (i k : Nat) : ((List.range k).filterMap fun (m : Nat) => xs[((i : Int) + (m : Int) * 1).toNat]?).toArray = ((xs.toList.drop i).take k).toArray := by
 have e : (fun (m : Nat) => xs[((i : Int) + (m : Int) * 1).toNat]?) = fun m => xs[i + m]? := by
   funext m
   have : ((i : Int) + (m : Int) * 1).toNat = i + m := by omega
   rw [this]
 rw [e]
 have := pick_run xs i k
 rw [List.filterMap_map] at this
 have e2 : ((fun x => xs[x]?) ∘ fun x => i + x) = fun m => xs[i + m]? := rfl
 rw [e2] at this
 rw [this]
theorem oH {t sl : Addr} {items : Array Value} {vl vu : Value} {lo hi : Option Int} {Q : Value -> Shared -> Prop} (ht : IsTup s.heap t items) (hs : s.heap.IsSliceOf sl vl vu .none) (pl : IsPart vl lo) (pu : IsPart vu hi)
   (hw : ¬ (eZ items.size 0 lo = 0 /\ eZ items.size items.size hi = items.size))
   (h : Q (.ref s.heap.objs.size) { s with heap := s.heap.push { cls := .type "tuple", data := .seq ((items.toList.drop (eZ items.size 0 lo)).take (eZ items.size items.size hi - eZ items.size 0 lo)).toArray } })
   (hsz : items.size <= sizeLine) : wpAny (model prog w) A (getItem (.ref t) (.ref sl)) Q E s := by
 have De : sizeOk (.seq ((items.toList.drop (eZ items.size 0 lo)).take (eZ items.size items.size hi - eZ items.size 0 lo)).toArray) := by
   show ((items.toList.drop (eZ items.size 0 lo)).take (eZ items.size items.size hi - eZ items.size 0 lo)).toArray.size <= sizeLine
   rw [List.size_toArray, List.length_take, List.length_drop, Array.length_toList]
   omega
 have hj : eZ items.size items.size hi <= items.size := Sy _ _ (Nat.le_refl _) hi
 obtain ⟨os, MB, ZS, Xw⟩ := id hs
 have hTs : s.TypeIs (.ref sl) "slice" := ⟨os, MB, ZS⟩
 unfold getItem
 try with_reducible refine wpAny_holding ?_
 first | refine wpAny_bind (wpAny_pure ?_) | skip
 refine wpAny_bind (wpAny_sequenceKey ht.typeIs (by decide) ?_)
 refine wpAny_bind (wpAny_callSpecial?_slot (name := Str.ofString "__getitem__") ht.typeIs PyProof.Rows.slot_tuple_getitem
   (wpAny_call_entry PyProof.Rows.slot_tuple_getitem ht.typeIs entry_tuple_getitem ?_ (args_tuple_getitem _ _)))
 show wpAny _ _ (Builtin.Tuple.tupleItemsOf (.ref t) >>= _) _ _ s
 refine wpAny_bind (tupleItemsOf_ ht ?_)
 refine wpAny_bind (wpAny_typeOf hTs ?_)
 rw [if_pos (by decide)]
 refine wpAny_bind (jx hs pl pu ?_)
 have A4 : ¬ ((((eZ items.size 0 lo : Nat) : Int) == 0 && (1 : Int) == 1 && (eZ items.size items.size hi - eZ items.size 0 lo) == items.size) = true) := by
   intro q
   rw [Bool.and_eq_true, Bool.and_eq_true] at q
   have q1 : ((eZ items.size 0 lo : Nat) : Int) = 0 := eq_of_beq q.1.1
   have q2 : eZ items.size items.size hi - eZ items.size 0 lo = items.size := eq_of_beq q.2
   exact hw ⟨by omega, by omega⟩
 show wpAny _ _ (if (((eZ items.size 0 lo : Nat) : Int) == 0 && (1 : Int) == 1 && (eZ items.size items.size hi - eZ items.size 0 lo) == items.size) = true then _ else _) _ _ s
 rw [if_neg A4, HC]
 first
   | exact wpAny_bind (m := Builtin.Tuple.tupleExact _) (wpAny_newObj_type (wpAny_pure ⟨_, rfl, wpAny_pure h⟩) De)
   | exact wpAny_bind (m := Builtin.Tuple.tupleExact _) (wpAny_newObj_type (wpAny_bind (wpAny_pure (wpAny_pure ⟨_, rfl, wpAny_pure h⟩))) De)
   | exact wpAny_bind (wpAny_bind (m := Builtin.Tuple.tupleExact _) (wpAny_newObj_type (wpAny_pure (wpAny_pure ⟨_, rfl, wpAny_pure h⟩)) De))
   | exact wpAny_bind (wpAny_bind (m := Builtin.Tuple.tupleExact _) (wpAny_newObj_type (wpAny_pure ⟨_, rfl, wpAny_pure h⟩) De))
end
end HT
namespace L2
open PySem PySem.Spec PyProof.Rows
noncomputable abbrev TO := St -> Hp -> (Option Int -> Hp -> Prop) -> Prop
noncomputable def PO (X : Cx) (e : Option Expr) (t : TO) : Prop :=
 ∀ (pins : List (Addr × Obj)) (s : Shared) (σ : St) (H : Hp) (Q : Option Int -> Hp -> Prop), Inv X pins σ H s -> t σ H Q →
   wpAny (model X.prog X.w) X.A (evalPart e X.env) (fun u s' => ∃ o H', Inv X pins σ H' s' /\ IsPart u o /\ Q o H') X.xe s
noncomputable def MC : TO := fun _ H Q => Q none H
noncomputable def Xx (t : TE) : TO := fun σ H Q => t σ H fun x H1 => ∃ i, x = .int i /\ Q (some i) H1
theorem intsAre_of {ns : List Int} : ∀ {us : List Value}, Vals (ns.map V.int) us -> IntsAre us ns := by
 induction ns with
 | nil => intro us r; rw [ahC] at r; cases r; exact .nil
 | cons n ns ih =>
   intro us r
   rw [agd] at r
   cases r with
   | cons r1 r2 =>
     obtain ⟨t, e⟩ := r1
     subst e
     exact .cons n t (ih r2)
section
variable {X : Cx} {e : Expr} {te : TE} {lo hi : Option Expr} {tl th : TO} {pos p2 : Pos}
theorem MD : PO X none MC := by
 intro pins s σ H Q I h
 rw [evalPart_none]
 exact afT ⟨none, H, I, .none, h⟩
theorem MF (h : PE X e te) : PO X (some e) (Xx te) := by
 intro pins s σ H Q I hw
 rw [evalPart_some]
 refine cR (h pins s σ H _ I hw) fun u s1 zz => ?_
 obtain ⟨x, H1, I1, r1, q1⟩ := zz
 obtain ⟨i, rfl, q⟩ := q1
 obtain ⟨t, rfl⟩ := r1
 exact ⟨some i, H1, I1, .int i t, q⟩
noncomputable def Xy (X : Cx) (r : V -> Option Int -> Option Int -> Hp -> VK -> Prop) : Prop :=
 ∀ (pins : List (Addr × Obj)) (s : Shared) (σ : St) (H : Hp) (x : V) (v vl vu : Value) (lo hi : Option Int) (sl : Addr) (Q : VK), Inv X pins σ H s -> RelV x v -> s.heap.IsSliceOf sl vl vu .none -> IsPart vl lo -> IsPart vu hi -> r x lo hi H Q →
   ∃ T id, typeLookup (.type T) "__getitem__" = pure (some (.builtin id)) /\ s.TypeIs v T /\ wpAny (model X.prog X.w) X.A (getItem v (.ref sl)) (EP X pins σ Q) X.xe s
noncomputable def tSl (r : V -> Option Int -> Option Int -> Hp -> VK -> Prop) (te : TE) (tl th : TO) : TE := fun σ H Q => te σ H fun x H1 => tl σ H1 fun l H2 => th σ H2 fun u H3 => r x l u H3 Q
theorem tD {r : V -> Option Int -> Option Int -> Hp -> VK -> Prop} (hr : Xy X r) (he : PE X e te) (hl : PO X lo tl) (hu : PO X hi th) : PE X (.Subscript e (.Slice lo hi none p2) pos) (tSl r te tl th) := by
 intro pins s σ H Q I h
 refine Subscript_ (cR (he pins s σ H _ I h) fun v s1 zz => ?_)
 obtain ⟨x, H1, I1, r1, q1⟩ := zz
 refine wpAny_Slice (cR (hl pins s1 σ H1 _ I1 q1) fun vl s2 ⟨l, H2, I2, pl, q2⟩ => cR (hu pins s2 σ H2 _ I2 q2) fun vu s3 zz => ?_)
 obtain ⟨u, H3, I3, pu, q3⟩ := zz
 rw [evalPart_none]
 refine afT ?_
 have I4 : Inv X pins σ H3 { s3 with heap := s3.heap.push { cls := .type "slice", data := .fields #[vl, vu, .none] } } := I3.kept (t' := s3.toks) fun b ob q => af7 _ q
 obtain ⟨T, id, hT, ht, hg⟩ := hr pins { s3 with heap := s3.heap.push { cls := .type "slice", data := .fields #[vl, vu, .none] } } σ H3 x v vl vu l u s3.heap.objs.size Q I4 r1 (Heap.IsSliceOf.new ..) pl pu q3
 show wpAny (model X.prog X.w) X.A (subscriptTail e (.Slice lo hi none p2) v (.ref s3.heap.objs.size)) (EP X pins σ Q) X.xe { s3 with heap := s3.heap.push { cls := .type "slice", data := .fields #[vl, vu, .none] } }
 exact tail_any (ops := [.ref s3.heap.objs.size, v]) ht hT hg (by with_unfolding_all rfl)
noncomputable def wH (xs : List V) (lo hi : Option Int) : List V := (xs.drop (HT.eZ xs.length 0 lo)).take (HT.eZ xs.length xs.length hi - HT.eZ xs.length 0 lo)
theorem qU (xs : List V) (lo hi : Option Int) : (wH xs lo hi).length <= xs.length := by
 unfold wH
 rw [agv, aht]
 omega
noncomputable def aa0 (K : PySem.W.Frag) : V -> Option Int -> Option Int -> Hp -> VK -> Prop := fun x lo hi H Q => ∃ a xs, x = .ref a /\ kN K H a xs ∧
 ¬ (HT.eZ xs.length 0 lo = 0 /\ HT.eZ xs.length xs.length hi = xs.length) /\ ∀ p, H p = none -> Q (.ref p) (upd H p (.tup (wH xs lo hi)))
theorem Sz : Xy X (aa0 X.K) := by
 intro pins s σ H x v vl vu lo hi sl Q I rx hs pl pu h
 obtain ⟨a, xs, rfl, hx, hw, q⟩ := h
 cases rx
 obtain ⟨its, r, ht, hz⟩ := I.tuple hx
 have hlen : its.toArray.size = xs.length := by rw [agi]; exact r.length.symm
 refine ⟨"tuple", _, agV.lookup, ht.typeIs, ?_⟩
 refine HT.oH ht hs pl pu (by rw [hlen]; exact hw) ?_ (by rw [hlen]; exact hz)
 rw [hlen]
 refine ⟨.ref s.heap.objs.size, _, I.laid (t' := s.toks) (o := .tup (wH xs lo hi)) (fun b ob q => af7 _ q) (af3 _) ?_, rfl, q _ (I.c6.fresh (af3 _))⟩
 exact ⟨agH (qU xs lo hi) hz, _, (r.drop (HT.eZ xs.length 0 lo)).take (HT.eZ xs.length xs.length hi - HT.eZ xs.length 0 lo), IsTup.new _ _⟩
noncomputable def Xz (K : PySem.W.Frag) : R2 := fun x y H Q => ∃ a b xs ys, x = .ref a /\ y = .ref b /\ kN K H a xs /\ kN K H b ys /\ xs ≠ [] /\ xs.length + ys.length <= sizeLine ∧
 (ys = [] -> Q (.ref a) H) /\ (ys ≠ [] -> ∀ p, H p = none -> Q (.ref p) (upd H p (.tup (xs ++ ys))))
theorem Vals.rQ {xs : List V} {us : List Value} (r : Vals xs us) : us = [] ↔ xs = [] := by
 cases r with
 | nil => simp
 | cons _ _ => simp
theorem Df : kY X (binaryOp .Add) (Xz X.K) := by
 intro pins s σ H x y v u Q I rx ry h
 obtain ⟨a, b, xs, ys, rfl, rfl, ha, hb, hx, hz, q1, q2⟩ := h
 cases rx
 cases ry
 obtain ⟨its, r1, p1, _⟩ := I.tuple ha
 obtain ⟨tE, r2, p2, _⟩ := I.tuple hb
 refine HT.MA p1 p2 (fun z => hx (r1.rQ.mp z)) (fun z => ⟨.ref a, H, I, rfl, q1 (r2.rQ.mp z)⟩) (fun z => ?_) (by rw [← r1.length, ← r2.length]; exact hz)
 refine ⟨.ref s.heap.objs.size, _, I.laid (t' := s.toks) (o := .tup (xs ++ ys)) (fun b ob q => af7 _ q) (af3 _) ?_, rfl, q2 (fun w => z (r2.rQ.mpr w)) _ (I.c6.fresh (af3 _))⟩
 exact ⟨by rw [afY]; exact hz, _, r1.append r2, IsTup.new _ _⟩
end
noncomputable def Dg (n : Nat) (i : Int) : Option Nat := if 0 <= i then (if i < n then some i.toNat else none) else if -(n : Int) <= i then some (i + n).toNat else none
noncomputable def oJ {α : Type} (xs : List α) (i : Int) : Option α := (Dg xs.length i).bind fun j => xs[j]?
theorem rR {n : Nat} {i : Int} {j : Nat} (h : Dg n i = some j) : seqIndex? i n = some j /\ j < n /\ -(n : Int) <= i /\ i < n := by
 unfold Dg at h
 by_cases h0 : 0 <= i
 . rw [agb h0] at h
   by_cases h1 : i < n
   . rw [agb h1] at h
     have e : i.toNat = j := agf h
     exact ⟨by rw [seqIndex_of h0 h1, e], by omega, by omega, h1⟩
   . rw [af1 h1] at h; cases h
 . rw [af1 h0] at h
   by_cases h1 : -(n : Int) <= i
   . rw [agb h1] at h
     have e : (i + n).toNat = j := agf h
     exact ⟨by rw [seqIndex_neg (by omega) h1, e], by omega, h1, by omega⟩
   . rw [af1 h1] at h; cases h
theorem wI {α : Type} {xs : List α} {i : Int} {v : α} (h : oJ xs i = some v) : ∃ j, seqIndex? i xs.length = some j /\ xs[j]? = some v /\ j < xs.length /\ -(xs.length : Int) <= i /\ i < xs.length := by
 unfold oJ at h
 cases e : Dg xs.length i with
 | none => rw [e] at h; cases h
 | some j =>
   rw [e] at h
   obtain ⟨h1, h2, h3, h4⟩ := rR e
   exact ⟨j, h1, h, h2, h3, h4⟩
theorem aN {α : Type} {xs : List α} {j : Nat} {v : α} (h : xs[j]? = some v) : oJ xs (j : Int) = some v := by
 have hj : j < xs.length := (af5.mp h).1
 have e : Dg xs.length (j : Int) = some j := by
   unfold Dg
   rw [agb (by omega), agb (by omega)]; simp
 unfold oJ; rw [e]; exact h
noncomputable def jO (b : Expr) : Prop := ∀ o i, subscripted b false o i = operate [o, i] (getItem o i)
noncomputable def ZT (X : Cx) (r : R2) : Prop :=
 ∀ (value slice : Expr) (pins : List (Addr × Obj)) (s : Shared) (σ : St) (H : Hp) (x y : V) (v u : Value) (Q : VK), Inv X pins σ H s -> RelV x v -> RelV y u -> r x y H Q →
   subscripted slice false v u = operate [v, u] (getItem v u) -> wpAny (model X.prog X.w) X.A (subscriptTail value slice v u) (EP X pins σ Q) X.xe s
noncomputable def MtR (X : Cx) (id : String) (r : V -> List V -> Hp -> VK -> Prop) : Prop :=
 ∀ (pins : List (Addr × Obj)) (s : Shared) (σ : St) (H : Hp) (x : V) (xs : List V) (v : Value) (us : List Value) (Q : VK), Inv X pins σ H s -> RelV x v -> Vals xs us -> r x xs H Q →
   wpAny (model X.prog X.w) X.A (call (.builtin id) (v :: us)) (EP X pins σ Q) X.xe s
section
variable {X : Cx} {a b : Expr} {ta tb : TE} {pos : Pos}
theorem vF {r : R2} (hr : ZT X r) (ha : PE X a ta) (hb : PE X b tb) (hs : jO b) : PE X (.Subscript a b pos) (ZQ r ta tb) := by
 intro pins s σ H Q I h
 exact Subscript_ (Se ha hb I h fun v u s2 x y H2 I2 rx ry q => hr a b pins s2 σ H2 x y v u Q I2 rx ry q (hs _ _))
noncomputable def aa1 (K : PySem.W.Frag) : R2 := fun x y H Q => ∃ p xs i v, x = .ref p /\ y = .int i /\ k6 K H p xs /\ oJ xs i = some v /\ Q v H
noncomputable def aa2 (K : PySem.W.Frag) : R2 := fun x y H Q => ∃ p xs i v, x = .ref p /\ y = .int i /\ kN K H p xs /\ oJ xs i = some v /\ Q v H
noncomputable def aa3 : R2 := fun x y H Q => ∃ z i c, x = .str z /\ y = .int i /\ z.length <= sizeLine /\ oJ z.cps.toList i = some c /\ Q (.str ⟨#[c]⟩) H
theorem wJ : ZT X (aa1 X.K) := by
 intro value slice pins s σ H x y v u Q I rx ry h hs
 obtain ⟨p, xs, i, z, rfl, rfl, hq, he, q⟩ := h
 cases rx
 obtain ⟨t, rfl⟩ := ry
 obtain ⟨its, r, pl, hz⟩ := I.list hq
 obtain ⟨j, h1, h2, h3, h4, h5⟩ := wI he
 obtain ⟨w, ew, zN⟩ := r.get h2
 have hl := r.length
 have hn := sY
 have fin : EP X pins σ Q w s := ⟨z, H, I, zN, q⟩
 by_cases h0 : 0 <= i
 . have hj : i.toNat = j := by
     rw [seqIndex_of h0 h5] at h1
     exact agf h1
   exact item_listR pl.isList h0 (by omega) (by rw [hj]; simpa using ew) fin hs
 . have hj : (i + (its.toArray.size : Int)).toNat = j := by
     rw [seqIndex_neg (by omega) h4] at h1
     rw [agi, ← hl]
     exact agf h1
   exact subscriptTail_builtinR (x := w) pl.isList.typeIs slot_list_getitem.lookup
     (wpAny_getItem_list_neg (Q := fun r s' => r = w /\ EP X pins σ Q r s') pl.isList (by omega) (by rw [List.size_toArray] <;> omega) (by omega) (by rw [hj]; simpa using ew) ⟨rfl, fin⟩) hs
theorem HD : ZT X (aa2 X.K) := by
 intro value slice pins s σ H x y v u Q I rx ry h hs
 obtain ⟨p, xs, i, z, rfl, rfl, hq, he, q⟩ := h
 cases rx
 obtain ⟨t, rfl⟩ := ry
 obtain ⟨its, r, pl, hz⟩ := I.tuple hq
 obtain ⟨j, h1, h2, h3, h4, h5⟩ := wI he
 obtain ⟨w, ew, zN⟩ := r.get h2
 have hl := r.length
 have hn := sY
 have fin : EP X pins σ Q w s := ⟨z, H, I, zN, q⟩
 exact subscriptTail_builtinR (x := w) pl.typeIs slot_tuple_getitem.lookup
   (getItem_tuple (j := j) (Q := fun r s' => r = w /\ EP X pins σ Q r s') pl (by omega) (by omega) (by rw [List.size_toArray, ← hl]; exact h1) (by simpa using ew) ⟨rfl, fin⟩) hs
theorem SD : ZT X aa3 := by
 intro value slice pins s σ H x y v u Q I rx ry h hs
 obtain ⟨z, i, c, rfl, rfl, hz, he, q⟩ := h
 obtain ⟨t, rfl⟩ := rx
 obtain ⟨t', rfl⟩ := ry
 obtain ⟨j, h1, h2, h3, h4, h5⟩ := wI he
 have hl : z.cps.toList.length = z.length := by simp [Str.length]
 rw [hl] at h1 h4 h5
 have hn := sY
 exact tail_any (typeIs_str s z t) slot_str_getitem.lookup (getItem_str (c := c) (by
   have e1 : decide (i < -(2 ^ 63 : Int)) = false := agm (by omega)
   have e2 : decide (i ≥ 2 ^ 63) = false := agm (by omega)
   rw [e1, e2, Bool.or_false]) (by rw [h1]; simpa using h2) ⟨.str ⟨#[c]⟩, H, I.tok _, ⟨_, rfl⟩, q⟩) hs
theorem Bl (its : List Value) (n j : Nat) (u : Value) : Obj.mapSeq (·.setIfInBounds j u) { cls := .type "list", data := .seq its.toArray n } = { cls := .type "list", data := .seq (its.set j u).toArray n } := by
 simp [Obj.mapSeq]
theorem Inv.lst {pins : List (Addr × Obj)} {σ : St} {H : Hp} {s : Shared} {p : Addr} {xs : List V} (I : Inv X pins σ H s) (h : H p = some (.lst xs)) :
   ∃ (its : List Value) (n : Nat), Vals xs its /\ s.heap.get? p = some { cls := .type "list", data := .seq its.toArray n } /\ xs.length <= sizeLine := by
 obtain ⟨z, its, n, r, e⟩ := I.c6 p _ h
 exact ⟨its, n, r, e, z⟩
theorem Inv.SG {pins : List (Addr × Obj)} {σ : St} {H : Hp} {s : Shared} {p : Addr} {xs ys : List V} {its its' : List Value} {n n' : Nat} {f : Obj -> Obj} (I : Inv X pins σ H s) (h : H p = some (.lst xs))
   (ho : s.heap.get? p = some { cls := .type "list", data := .seq its.toArray n }) (hf : f { cls := .type "list", data := .seq its.toArray n } = { cls := .type "list", data := .seq its'.toArray n' }) (r : Vals ys its') (hz : ys.length <= sizeLine) (t : Nat) :
   Inv X pins σ (upd H p (.lst ys)) { s with heap := s.heap.update p f, toks := t } := by
 have e : (s.heap.update p f).get? p = some { cls := .type "list", data := .seq its'.toArray n' } := by
   rw [ahx f ho (by rw [hf] <;> rfl), hf]
 refine I.write (x := p) (e := p) (by rw [h]; trivial) (.inl rfl) (fun b u hb q => (Heap.get?_update_other _ _ (Ne.symm hb)).trans q) ⟨_, e⟩ ?_
 exact ⟨hz, its', n', r, e⟩
noncomputable def XA : V -> V -> V -> Hp -> (Hp -> Prop) -> Prop := fun o i v H Q => ∃ p xs k j, o = .ref p /\ i = .int k /\ H p = some (.lst xs) /\ Dg xs.length k = some j /\ Q (upd H p (.lst (xs.set j v)))
theorem set_list : W8 X XA := by
 intro pins s σ H o i v ov iv u Q I ro ri rv h
 obtain ⟨p, xs, k, j, rfl, rfl, hp, hj, q⟩ := h
 cases ro
 obtain ⟨t, rfl⟩ := ri
 obtain ⟨its, n, r, ho, hz⟩ := I.lst hp
 obtain ⟨h1, h2, h3, h4⟩ := rR hj
 have hl := r.length
 have hn := sY
 have I' : Inv X pins σ (upd H p (.lst (xs.set j v))) { s with heap := s.heap.update p (Obj.mapSeq (·.setIfInBounds j u)) } :=
   I.SG hp ho (Bl its n j u) (r.set rv j) (by rw [ah2]; exact hz) s.toks
 by_cases h0 : 0 <= k
 . have hk : k.toNat = j := by
     rw [seqIndex_of h0 h4] at h1
     exact agf h1
   exact PySem.W.ki_setAt ho h0 (by omega) (by rw [agi, ← hl]; exact h4) (by rw [hk]; exact ⟨_, I', q⟩)
 . have hk : (k + (its.toArray.size : Int)).toNat = j := by
     rw [seqIndex_neg (by omega) h3] at h1
     rw [agi, ← hl]
     exact agf h1
   exact PySem.W.ki_setBack ho (by omega) (by rw [agi, ← hl]; exact h3) (by omega) (by rw [hk]; exact ⟨_, I', q⟩)
theorem wK (lo hi : Option Int) (n : Nat) : (sliceBounds lo hi none n).1 = ((HT.eZ n 0 lo : Nat) : Int) /\ (sliceBounds lo hi none n).2.1 = ((HT.eZ n n hi : Nat) : Int) /\ (sliceBounds lo hi none n).2.2 = 1 := by
 refine ⟨?_, ?_, rfl⟩
 . cases lo with
   | none => simp [sliceBounds, HT.eZ]
   | some i =>
     simp only [sliceBounds, HT.eZ, Option.getD_none, show (1 : Int) > 0 by decide, ahS]
     by_cases h : i < 0
     . simp only [h, ahS] <;> omega
     . simp only [h, ahl] <;> omega
 . cases hi with
   | none => simp [sliceBounds, HT.eZ]
   | some i =>
     simp only [sliceBounds, HT.eZ, Option.getD_none, show (1 : Int) > 0 by decide, ahS]
     by_cases h : i < 0
     . simp only [h, ahS] <;> omega
     . simp only [h, ahl] <;> omega
theorem uU (its : List Value) (lo hi : Option Int) : slicePick its.toArray lo hi none = ((its.drop (HT.eZ its.length 0 lo)).take (HT.eZ its.length its.length hi - HT.eZ its.length 0 lo)).toArray := by
 obtain ⟨h1, h2, h3⟩ := wK lo hi its.toArray.size
 unfold slicePick
 rw [h1, h2, h3]
 simp only [sliceRange_one, pick_run, agi] <;> rfl
noncomputable def aa4 (K : PySem.W.Frag) : V -> Option Int -> Option Int -> Hp -> VK -> Prop := fun x lo hi H Q => ∃ a xs, x = .ref a /\ k6 K H a xs /\ ∀ p, H p = none -> Q (.ref p) (upd H p (.lst (wH xs lo hi)))
theorem MG : Xy X (aa4 X.K) := by
 intro pins s σ H x v vl vu lo hi sl Q I rx hs pl pu h
 obtain ⟨a, xs, rfl, hx, q⟩ := h
 cases rx
 obtain ⟨its, r, ht, hz⟩ := I.list hx
 have hlen := r.length
 refine ⟨"list", _, slot_list_getitem.lookup, ht.isList.typeIs, ?_⟩
 refine wpAny_getItem_list_slice ht.isList hs pl pu .none (by simp) ?_ (by rw [agi] <;> omega)
 rw [uU, ← hlen]
 refine ⟨.ref s.heap.objs.size, _, I.laid (t' := s.toks) (o := .lst (wH xs lo hi)) (fun b ob q => af7 _ q) (af3 _) ?_, rfl, q _ (I.c6.fresh (af3 _))⟩
 exact ⟨agH (qU xs lo hi) hz, _, 0, (r.drop (HT.eZ xs.length 0 lo)).take (HT.eZ xs.length xs.length hi - HT.eZ xs.length 0 lo), agl _ rfl⟩
noncomputable def oK : V -> Bool
 | .non => true
 | .bl _ => true
 | .int _ => true
 | .str _ => true
 | _ => false
noncomputable def MH : V -> V -> Bool
 | .non, .non => true
 | .bl a, .bl b => a == b
 | .bl a, .int b => (if a then 1 else 0) == b
 | .int a, .bl b => a == (if b then 1 else 0)
 | .int a, .int b => a == b
 | .str a, .str b => a == b
 | _, _ => false
theorem SJ {A : Around} {s : Shared} {y x : V} {u v : Value} (ry : RelV y u) (rx : RelV x v) (fy : oK y = true) (fx : oK x = true) : SeqAt.EqAt A s u v (MH y x) := by
 cases y with
 | non =>
   cases ry
   cases x with
   | non => cases rx; exact SeqAt.EqAt.same _
   | bl b => cases rx; exact SeqAt.EqAt.none_bool b
   | int b => obtain ⟨t, rfl⟩ := rx; exact SeqAt.EqAt.none_int b t
   | str b => obtain ⟨t, rfl⟩ := rx; exact SeqAt.EqAt.none_str b t
   | _ => exact absurd (show false = true from fx) af4
 | bl a =>
   cases ry
   cases x with
   | non => cases rx; exact SeqAt.EqAt.bool_none a
   | bl b => cases rx; exact SeqAt.EqAt.bool_bool a b
   | int b => obtain ⟨t, rfl⟩ := rx; exact SeqAt.EqAt.bool_int a b t
   | str b => obtain ⟨t, rfl⟩ := rx; exact SeqAt.EqAt.bool_str a b t
   | _ => exact absurd (show false = true from fx) af4
 | int a =>
   obtain ⟨t', rfl⟩ := ry
   cases x with
   | non => cases rx; exact SeqAt.EqAt.int_none a t'
   | bl b => cases rx; exact SeqAt.EqAt.int_bool a t' b
   | int b => obtain ⟨t, rfl⟩ := rx; exact SeqAt.EqAt.int_int a t' b t
   | str b => obtain ⟨t, rfl⟩ := rx; exact SeqAt.EqAt.int_str a t' b t
   | _ => exact absurd (show false = true from fx) af4
 | str a =>
   obtain ⟨t', rfl⟩ := ry
   cases x with
   | non => cases rx; exact SeqAt.EqAt.str_none a t'
   | bl b => cases rx; exact SeqAt.EqAt.str_bool a t' b
   | int b => obtain ⟨t, rfl⟩ := rx; exact SeqAt.EqAt.str_int a t' b t
   | str b => obtain ⟨t, rfl⟩ := rx; exact SeqAt.EqAt.str_str a t' b t
   | _ => exact absurd (show false = true from fx) af4
 | _ => exact absurd (show false = true from fy) af4
noncomputable def Bm (x : V) (u : Value) : Bool := match u with
 | .none => MH .non x
 | .bool b => MH (.bl b) x
 | .int i _ => MH (.int i) x
 | .str z _ => MH (.str z) x
 | _ => false
theorem HF {x y : V} {u : Value} (r : RelV y u) (f : oK y = true) : Bm x u = MH y x := by
 cases y with
 | non => cases r; rfl
 | bl b => cases r; rfl
 | int i => obtain ⟨t, rfl⟩ := r; rfl
 | str z => obtain ⟨t, rfl⟩ := r; rfl
 | _ => exact absurd (show false = true from f) af4
theorem oM {x : V} : ∀ {xs : List V} {us : List Value}, Vals xs us -> xs.all oK = true -> us.any (Bm x) = xs.any fun y => MH y x
 | _, _, .nil, _ => rfl
 | y :: xs, u :: us, .cons r t, f => by
   rw [List.all_cons, agk] at f
   rw [ahY, ahY, HF r f.1, oM t f.2]
theorem k9 {A : Around} {s : Shared} {x : V} {v : Value} (rx : RelV x v) (fx : oK x = true) : ∀ {xs : List V} {us : List Value}, Vals xs us -> xs.all oK = true -> ∀ u ∈ us, SeqAt.EqAt A s u v (Bm x u)
 | _, _, .nil, _ => fun u hu => by cases hu
 | y :: xs, u :: us, .cons r t, f => fun u' hu => by
   rw [List.all_cons, agk] at f
   rcases afX.mp hu with rfl | hu
   . rw [HF r f.1]; exact SJ r rx f.1 fx
   . exact k9 rx fx t f.2 u' hu
noncomputable def XC (x : V) (xs : List V) : Bool := xs.any fun y => MH y x
noncomputable def rIn (K : PySem.W.Frag) (neg : Bool) : R2 := fun x y H Q => ∃ p xs, y = .ref p /\ (k6 K H p xs \/ kN K H p xs) /\ oK x = true /\ xs.all oK = true /\ Q (.bl (if neg then !XC x xs else XC x xs)) H
theorem vG : kY X (compareOp .In) (rIn X.K false) := by
 intro pins s σ H x y v u Q I rx ry h
 obtain ⟨p, xs, rfl, hq, fx, fs, q⟩ := h
 cases ry
 rcases hq with hq | hq
 . obtain ⟨its, r, pl, hz⟩ := I.list hq
   refine SeqAt.in_listAt (Bm x) pl.isList (fun w hw => k9 rx fx r fs w (by simpa using hw)) ⟨.bl _, H, I, rfl, ?_⟩
   rw [show its.toArray.any (Bm x) = its.any (Bm x) by simp, oM r fs]
   exact q
 . obtain ⟨its, r, pl, hz⟩ := I.tuple hq
   refine SeqAt.in_tupleAt (Bm x) pl (fun w hw => k9 rx fx r fs w (by simpa using hw)) ⟨.bl _, H, I, rfl, ?_⟩
   rw [show its.toArray.any (Bm x) = its.any (Bm x) by simp, oM r fs]
   exact q
theorem oN : kY X (compareOp .NotIn) (rIn X.K true) := by
 intro pins s σ H x y v u Q I rx ry h
 obtain ⟨p, xs, rfl, hq, fx, fs, q⟩ := h
 cases ry
 rcases hq with hq | hq
 . obtain ⟨its, r, pl, hz⟩ := I.list hq
   refine SeqAt.notIn_listAt (Bm x) pl.isList (fun w hw => k9 rx fx r fs w (by simpa using hw)) ⟨.bl _, H, I, rfl, ?_⟩
   rw [show its.toArray.any (Bm x) = its.any (Bm x) by simp, oM r fs]
   exact q
 . obtain ⟨its, r, pl, hz⟩ := I.tuple hq
   refine SeqAt.notIn_tupleAt (Bm x) pl (fun w hw => k9 rx fx r fs w (by simpa using hw)) ⟨.bl _, H, I, rfl, ?_⟩
   rw [show its.toArray.any (Bm x) = its.any (Bm x) by simp, oM r fs]
   exact q
theorem wL : iH X (.builtin "len") (fun xs H Q => ∃ p ys, xs = [.ref p] /\ (k6 X.K H p ys \/ kN X.K H p ys) /\ Q (.int ys.length) H) := by
 intro pins s σ H xs us Q I r h
 obtain ⟨p, ys, rfl, hq, q⟩ := h
 obtain ⟨u, rfl, rx⟩ := vals1 r
 cases rx
 have hn := sY
 rcases hq with hq | hq
 . obtain ⟨its, r', pl, hz⟩ := I.list hq
   have hlen := r'.length
   exact Calls.call_len_list pl.isList (by simp only [agi] <;> omega) ⟨.int ys.length, H, I.tok _, ⟨s.toks + 1, by rw [agi, hlen]⟩, q⟩
 . obtain ⟨its, r', pl, hz⟩ := I.tuple hq
   have hlen := r'.length
   exact len_tuple pl (by simp only [agi] <;> omega) ⟨.int ys.length, H, I.tok _, ⟨s.toks + 1, by rw [agi, hlen]⟩, q⟩
theorem wM : iH X (.type "list") (fun xs H Q => ∃ p ys, xs = [.ref p] /\ (k6 X.K H p ys \/ kN X.K H p ys) /\ ∀ l, H l = none -> Q (.ref l) (upd H l (.lst ys))) := by
 intro pins s σ H xs us Q I r h
 obtain ⟨p, ys, rfl, hq, q⟩ := h
 obtain ⟨u, rfl, rx⟩ := vals1 r
 cases rx
 have fin : ∀ (its : List Value), Vals ys its -> ys.length <= sizeLine -> ∀ (h' : Heap) (c' : Nat), (∀ b o', s.heap.get? b = some o' -> h'.get? b = some o') →
     h'.get? s.heap.objs.size = some { cls := .type "list", dict := none, data := .seq its.toArray c', slots := #[] } -> EP X pins σ Q (.ref s.heap.objs.size) { s with heap := h' } := fun its r' hz h' c' kp e =>
   ⟨.ref s.heap.objs.size, _, I.laid (t' := s.toks) kp (af3 _) (show cV X.prog X.w _ h' _ (.lst ys) from ⟨hz, its, c', r', e⟩), rfl, q _ (I.c6.fresh (af3 _))⟩
 rcases hq with hq | hq
 . obtain ⟨its, r', pl, hz⟩ := I.list hq
   have hlen := r'.length
   obtain ⟨o, ho, hc, n, hd⟩ := pl.isList
   exact call_list_seq p (.inl rfl) ho hc hd (fun h' c' kp e => fin its r' hz h' c' kp e) (by simp only [agi] <;> omega)
 . obtain ⟨its, r', pl, hz⟩ := I.tuple hq
   have hlen := r'.length
   obtain ⟨o, ho, hc, n, hd⟩ := pl
   exact call_list_seq p (.inr rfl) ho hc hd (fun h' c' kp e => fin its r' hz h' c' kp e) (by simp only [agi] <;> omega)
theorem nF : iH X (.type "tuple") (fun xs H Q => ∃ p ys, xs = [.ref p] /\ ((k6 X.K H p ys /\ ∀ l, H l = none -> Q (.ref l) (upd H l (.tup ys))) \/ (kN X.K H p ys /\ Q (.ref p) H))) := by
 intro pins s σ H xs us Q I r h
 obtain ⟨p, ys, rfl, h⟩ := h
 obtain ⟨u, rfl, rx⟩ := vals1 r
 cases rx
 rcases h with ⟨hq, q⟩ | ⟨hq, q⟩
 . obtain ⟨its, r', pl, hz⟩ := I.list hq
   have hlen := r'.length
   refine call_tuple_list pl.isList (fun h' kp => ?_) (by simp only [agi] <;> omega)
   have I1 : Inv X pins σ H { s with heap := h' } := I.kept (t' := s.toks) kp
   have I2 : Inv X pins σ (upd H h'.objs.size (.tup ys)) { s with heap := h'.push { cls := .type "tuple", data := .seq its.toArray } } :=
     I1.laid (t' := s.toks) (fun b o e => af7 _ e) (af3 _) (show cV X.prog X.w _ _ _ (.tup ys) from ⟨hz, its, r', IsTup.new _ _⟩)
   exact ⟨.ref h'.objs.size, _, I2, rfl, q _ (I1.c6.fresh (af3 _))⟩
 . obtain ⟨its, r', pl, hz⟩ := I.tuple hq
   exact call_tuple_same pl ⟨.ref p, H, I, rfl, q⟩
noncomputable def tyV (K : PySem.W.Frag) (T : String) (x : V) (H : Hp) : Prop := match x with
 | .str _ => T = "str"
 | .int _ => T = "int"
 | .ref p => (T = "list" /\ ∃ xs, k6 K H p xs) \/ (T = "tuple" /\ ∃ o, K.lookup p = some o /\ o.cls = .type "tuple" /\ o.dict = none) ∨
     (T = "dict" /\ ((∃ kvs, H p = some (.dK kvs)) \/ ∃ kvs, H p = some (.dT kvs))) \/ (T = "set" /\ ∃ S n, H p = some (.set S n))
 | _ => False
theorem SK {pins : List (Addr × Obj)} {σ : St} {H : Hp} {s : Shared} {T : String} {x : V} {v : Value} (I : Inv X pins σ H s) (r : RelV x v) (ty : tyV X.K T x H) :
   s.TypeIs v T /\ ∀ a, v = .ref a -> ∃ ob, s.heap.get? a = some ob /\ ob.dict = none := by
 cases x with
 | str z =>
   obtain ⟨t, rfl⟩ := r
   cases (show T = "str" from ty)
   exact ⟨typeIs_str s z t, fun _ e => nomatch e⟩
 | int i =>
   obtain ⟨t, rfl⟩ := r
   cases (show T = "int" from ty)
   exact ⟨typeIs_int s i t, fun _ e => nomatch e⟩
 | ref p =>
   cases r
   rcases ty with ⟨rfl, xs, hq⟩ | ⟨rfl, o, hk, hc, hd⟩ | ⟨rfl, hk⟩ | ⟨rfl, S, n, hk⟩
   . obtain ⟨its, _, pl, _⟩ := I.list hq
     refine ⟨pl.isList.typeIs, fun a e => ?_⟩
     cases e
     obtain ⟨o, n, e, c, hd, _⟩ := pl
     exact ⟨o, e, hd⟩
   . refine ⟨⟨o, I.zx p o hk, hc⟩, fun a e => ?_⟩
     cases e
     exact ⟨o, I.zx _ o hk, hd⟩
   . have z : ∃ o, s.heap.get? p = some o /\ o.ExactDict := by
       rcases hk with ⟨kvs, hk⟩ | ⟨kvs, hk⟩
       . obtain ⟨_, _, _, _, o, _, _, e, ex, _⟩ := I.c6 p _ hk
         exact ⟨o, e, ex⟩
       . obtain ⟨_, _, _, _, o, _, _, e, ex, _⟩ := I.c6 p _ hk
         exact ⟨o, e, ex⟩
     obtain ⟨o, e, ex⟩ := z
     refine ⟨⟨o, e, ex.1⟩, fun a e2 => ?_⟩
     cases e2
     exact ⟨o, e, ex.2.1⟩
   . obtain ⟨o, _, _, _, e, ex, _⟩ := I.c6 p _ hk
     refine ⟨⟨o, e, ex.1⟩, fun a e2 => ?_⟩
     cases e2
     exact ⟨o, e, ex.2.1⟩
 | _ => exact False.elim ty
noncomputable def tBM (K : PySem.W.Frag) (T : String) (r : V -> List V -> Hp -> VK -> Prop) (to : TE) (t : TA) : TE := fun σ H Q => to σ H fun x H1 => tyV K T x H1 /\ t σ H1 fun xs H2 => r x xs H2 Q
variable {o e : Expr} {es : List Expr} {to : TE} {t : TA} {name : Str} {apos kR : Pos} {T id : String} {r : V -> List V -> Hp -> VK -> Prop}
theorem Dh (pa : PlainAttrs T) (slot : Slot T name id) (hty : typeOf (.builtin id) = pure (.type "method_descriptor")) (hm : MtR X id r) (ho : PE X o to) (ha : PA X (e :: es) t)
   (fP : attributeBase o name X.env (eval o X.env) = eval o X.env := by rfl)
   (nQ : ((backTo kR (starEach (e :: es) X.env)).all (fun x => !x.1) && (backToKw kR (keywordEach [] X.env)).all (fun x => x.1.isSome)
     && decide ((e :: es).length + ([] : List Keyword).length + (if ([] : List Keyword).isEmpty then 0 else 1) < 30)) = true := by rfl)
   (hline : (apos.endLine == kR.line) = true := by rfl) (hs : starEach (e :: es) X.env = (false, eval e X.env) :: starEach es X.env := by rfl) (nR : (backTo kR (starEach es X.env)).any (·.1) = false := by rfl) :
   PE X (.Call (.Attribute o name apos) (e :: es) [] kR) (tBM X.K T r to t) := by
 intro pins s σ H Q I h
 refine wpAny_Call_method_late fP nQ hline rfl (cR (ho pins s σ H _ I h) fun v s1 zz => ?_)
 obtain ⟨x, H1, I1, r1, ty, q1⟩ := zz
 obtain ⟨h1, h2⟩ := SK I1 r1 ty
 refine ⟨T, id, pa, slot, hty, h1, h2, ?_⟩
 have hA := ha kR pins s1 σ H1 _ I1 q1
 rw [hs] at hA ⊢
 refine Calls.callWith_builtin (by show (false || (backTo kR (starEach es X.env)).any (·.1)) = false; rw [nR] <;> rfl) (Calls.evalArgs_plain ?_)
 exact cR hA fun us s2 ⟨vs, H2, I2, r2, q2⟩ => hm pins s2 σ H2 x vs v us Q I2 r1 r2 q2
end
noncomputable def MtM (X : Cx) (id : String) (r : V -> List V -> Hp -> VK -> Prop) : Prop :=
 ∀ (pins : List (Addr × Obj)) (s : Shared) (σ : St) (H : Hp) (x : V) (xs : List V) (v : Value) (us : List Value) (Q : VK), Inv X pins σ H s -> RelV x v -> Vals xs us -> r x xs H Q →
   wpAny (model X.prog X.w) X.A (call (.builtin id) (v :: us)) (EP X pins σ Q) X.xe s
theorem Vals.one {x : V} {us : List Value} (h : Vals [x] us) : ∃ u, us = [u] /\ RelV x u := by
 cases h with
 | cons r h => cases h; exact ⟨_, rfl, r⟩
theorem Vals.two {x y : V} {us : List Value} (h : Vals [x, y] us) : ∃ u v, us = [u, v] /\ RelV x u /\ RelV y v := by
 cases h with
 | cons r h => cases h with
   | cons q h => cases h; exact ⟨_, _, rfl, r, q⟩
theorem Vals.rep {xs : List V} {us : List Value} (h : Vals xs us) : ∀ k : Nat, Vals (List.replicate k xs).flatten (List.replicate k us).flatten
 | 0 => .nil
 | k + 1 => by
   rw [agO, agO, aha, aha]
   exact Vals.append h (Vals.rep h k)
theorem foldl_rep (its : List Value) : ∀ (k : Nat) (acc : List Value),
   List.foldl (fun x1 x2 => x1 ++ x2) acc.toArray (List.replicate k its.toArray) = (acc ++ (List.replicate k its).flatten).toArray
 | 0, acc => by simp
 | k + 1, acc => by
   have e : acc.toArray ++ its.toArray = (acc ++ its).toArray := by simp
   have e2 : (acc ++ its) ++ (List.replicate k its).flatten = acc ++ (List.replicate (k + 1) its).flatten := by
     rw [agO, aha, afW]
   rw [← e2, ← foldl_rep its k (acc ++ its), ← e, agO, List.foldl_cons]
section
variable {X : Cx} {pins : List (Addr × Obj)} {σ : St} {H : Hp} {s : Shared} {l : Addr} {xs ys : List V}
theorem Inv.XD {its its' : List Value} {n : Nat} {f : Array Value -> Array Value} {t' : Nat} (I : Inv X pins σ H s) (hH : H l = some (.lst xs))
   (e : s.heap.get? l = some { cls := .type "list", data := .seq its.toArray n }) (hf : f its.toArray = its'.toArray) (hv : Vals ys its') (hz : ys.length <= sizeLine) :
   Inv X pins σ (upd H l (.lst ys)) { s with heap := s.heap.update l (Obj.mapSeq f), toks := t' } := by
 have q := PySem.IsL.update e f
 rw [hf] at q
 refine I.write (x := l) (e := l) (by rw [hH]; exact trivial) (.inl rfl) (fun b' u hb hu => (Heap.get?_update_other s.heap (Obj.mapSeq f) (Ne.symm hb)).trans hu) ⟨_, q⟩ ?_
 exact ⟨hz, its', _, hv, q⟩
theorem Inv.XE {its : List Value} {t' : Nat} (I : Inv X pins σ H s) (hv : Vals ys its) (hz : ys.length <= sizeLine) :
   Inv X pins σ (upd H s.heap.objs.size (.lst ys)) { s with heap := s.heap.push { cls := .type "list", data := .seq its.toArray }, toks := t' } :=
 I.laid (fun _ _ q => af7 _ q) (af3 _) ⟨hz, its, 0, hv, agl _ rfl⟩
theorem Inv.fresh (I : Inv X pins σ H s) : H s.heap.objs.size = none := I.c6.fresh (af3 _)
theorem Inv.SM (I : Inv X pins σ H s) (hH : H l = some (.lst xs)) : xs.length <= sizeLine /\ ∃ (its : List Value) (n : Nat), Vals xs its /\ xs.length = its.length /\ s.heap.get? l = some { cls := .type "list", data := .seq its.toArray n } := by
 obtain ⟨z, its, n, r, e⟩ := I.c6 l _ hH
 exact ⟨z, its, n, r, r.length, e⟩
theorem zO {n : Nat} (h : n <= sizeLine) : Builtin.List.listTooLong n = false := by
 unfold Builtin.List.listTooLong
 exact agm (by omega)
end
section
variable {X : Cx}
noncomputable def MJ : V -> List V -> Hp -> VK -> Prop := fun x vs H Q => ∃ l xs y, x = .ref l /\ vs = [y] /\ H l = some (.lst xs) /\ xs.length < sizeLine /\ Q .non (upd H l (.lst (xs ++ [y])))
theorem qq : MtM X "list.append" MJ := by
 intro pins s σ H x vs v us Q I rx rv h
 obtain ⟨l, xs, y, rfl, rfl, hH, hz, q⟩ := h
 cases rx
 obtain ⟨u, rfl, ru⟩ := rv.one
 obtain ⟨z, its, n, r, hl, e⟩ := I.SM hH
 refine call_meets F.slot_list_append ⟨_, e, rfl⟩ F.entry_list_append (F.args_list_append_2 _ _) (PySem.list_append l its.toArray n u (by rw [agi]; omega)) ⟨e, ?_⟩
 refine ⟨.non, _, I.XD (its' := its ++ [u]) hH e (by simp) (r.append (.cons ru .nil)) ?_, rfl, q⟩
 rw [afY, List.length_singleton]
 omega
noncomputable def MK : V -> List V -> Hp -> VK -> Prop := fun x vs H Q => ∃ l b xs zs, x = .ref l /\ vs = [.ref b] /\ H l = some (.lst xs) /\ H b = some (.lst zs) /\ xs.length + zs.length <= sizeLine /\ Q .non (upd H l (.lst (xs ++ zs)))
theorem E4 : MtM X "list.extend" MK := by
 intro pins s σ H x vs v us Q I rx rv h
 obtain ⟨l, b, xs, zs, rfl, rfl, hH, hB, hz, q⟩ := h
 cases rx
 obtain ⟨u, rfl, ru⟩ := rv.one
 cases ru
 obtain ⟨z, its, n, r, hl, e⟩ := I.SM hH
 obtain ⟨z2, tE, n2, r2, hl2, e2⟩ := I.SM hB
 have hsz : its.toArray.size + tE.toArray.size <= sizeLine := by rw [agi, agi]; omega
 have HG : ¬ (!its.toArray.isEmpty && Builtin.List.listTooLong (its.toArray.size + tE.toArray.size)) = true := by
   rw [zO hsz, Bool.and_false]
   exact af4
 refine call_meets F.slot_list_extend ⟨_, e, rfl⟩ F.entry_list_extend (F.args_list_extend_2 _ _)
   (AutoSeq1.list_extend_list_list_0 l its.toArray n b tE.toArray n2 HG (by rw [agi]; omega) (by omega)) ⟨e, e2, ?_⟩
 refine ⟨.non, _, I.XD (its' := its ++ tE) hH e (by simp) (r.append r2) ?_, rfl, q⟩
 rw [afY]
 omega
theorem len_rep {α : Type} (xs : List α) (k : Nat) : (List.replicate k xs).flatten.length = k * xs.length := by
 induction k with
 | zero => simp
 | succ k ih => rw [agO, aha, afY, ih, Nat.succ_mul, Nat.add_comm]
end
end L2
namespace Att
open PySem PySem.W PySem.Calls PyProof.Rows
theorem rD {P : Params} {h : Heap} : ∀ (ns : List Int) (vs : List Value), WellAll P h vs (ns.map WData.int) -> IntsAre vs ns := by
 intro ns
 induction ns with
 | nil =>
   intro vs w
   rw [List.map_nil] at w
   cases w
   exact .nil
 | cons n ns ih =>
   intro vs w
   rw [List.map_cons] at w
   cases w with
   | cons a b =>
     cases a
     exact .cons _ _ (ih _ b)
theorem E5 {l : OpenLaw} {n : Nat} (hn : l.most = some n) {P : Params} {h : Heap} {args : List WData} {vals : List Value}
   (E6 : l.row.toRowW.claim.pre args = true) (hwl : WellAll P h vals args) :
   ∃ a vs ns, vals = [Value.ref a] /\ args = [WData.list (ns.map WData.int)] /\ h.get? a = some { cls := .type "list", data := .seq vs.toArray } /\ IntsAre vs ns /\ ns.length <= n := by
 have E7 : WShape.hasAll [] args [.list .int] = true := (pre_splitW E6).1
 have hc : l.pre.holds [] { args := args } = true := (pre_splitW E6).2
 obtain ⟨d, r, rfl, h1, h2⟩ := hasAllW_cons E7
 obtain rfl := hasAllW_nil h2
 obtain ⟨xs, rfl, h3⟩ := hasW_list h1
 obtain ⟨ns, rfl⟩ := items_int h3
 have hlen : ns.length <= n := by
   unfold OpenLaw.pre at hc
   have h4 : (WTm.not (.lt (.lit (.int (n : Int))) (.len (.arg 0)))).holds [] { args := [.list (ns.map .int)] } = true := by
     have h4 := (holds_andW hc).1
     rw [hn] at h4
     exact h4
   have h5 := condW_of h4 (w_not (w_lt w_lit (w_len_list (w_arg rfl))))
   rw [List.length_map] at h5
   refine Nat.le_of_not_lt fun q => ?_
   have q' : (n : Int) < ((ns.length : Nat) : Int) := by omega
   first
     | (rw [decide_eq_true q'] at h5; exact absurd h5 (by decide))
     | (simp at h5; omega)
 cases hwl with
 | cons w1 w2 =>
   cases w2
   cases w1 with
   | list ho aa7 => exact ⟨_, _, ns, rfl, rfl, ho, rD ns _ aa7, hlen⟩
theorem E8 (l : OpenLaw) (args : List WData) : l.row.toRowW.claim.post args (.bool true) args = true :=
 postW_of (r := l.row.toRowW) (X := (true == true))
   (show WShape.has [] (.bool true) .bool = true by first | rfl | decide | simp [WShape.has, WShape.arms, WShape.armsAll])
   (show (WTm.eq .res (.lit (.bool true))).value [] { args := args, res := some (.bool true), after := args } = some (.bool (true == true)) from w_eq_bool (w_res rfl) w_lit) rfl
theorem zP {l : OpenLaw} {n : Nat} {q : Program} {loose : List Str} {XP : (Str -> Option Value) -> Heap -> Prop} {YP : World -> Heap -> Prop} {d : DefRec}
   (hn : l.most = some n) (XF : d.params.defaults = [])
   (call : ∀ (w : World) (s₀ s₁ : Shared) (mg mb : Str -> Option Value) (fa : Addr) (o : Obj) (pm cd doc : Value) (a : Addr) (vs : List Value) (ns : List Int),
     Ground q loose [] XP w s₀ mg mb s₁.heap -> YP w s₁.heap →
     s₁.heap.get? fa = some o -> o.data = .func (docDef d.name d.params d.body d.scope pm cd doc) -> s₁.heap.CodeRec cd d.name -> mg d.name = some (.ref fa) →
     s₁.heap.get? a = some { cls := .type "list", data := .seq vs.toArray } -> IntsAre vs ns -> ns.length <= n -> s₁.gens = #[] →
     codeAny (model l.prog w) callerA (.call (.ref fa) ⟨[.ref a], []⟩) (fun r s' => r = .ok (.ret (.bool true)) /\ OldK s₁.heap s'.heap /\ s'.os = s₁.os /\ AllBare s'.gens) s₁) :
   WalkO q loose XP YP l.row.toRowW d [] (fun f vs => PySem.call f vs) := by
 intro w s₀ s₁ mg mb G Y fa o pm cd doc dV kV ho hd kK hD XG hg args vals as E6 hlay hrd hwl hlo
 obtain rfl : dV = .none := Dflts.none hD XF
 obtain rfl : kV = .none := Dflts.noKw hD
 obtain ⟨a, vs, ns, rfl, rfl, SN, hints, hlen⟩ := E5 hn E6 hwl
 refine enter_call (codeAny_mono (call w s₀ s₁ mg mb fa o pm cd doc a vs ns G Y ho (fd_plain hd) kK XG SN hints hlen hg) fun r s' hq => ?_)
 obtain ⟨rfl, h2, h3, h4⟩ := hq
 exact ⟨.inl ⟨.bool true, .bool true, [], rfl, fun _ => rfl, .bool true, E8 l _, fun _ => ⟨List.Pairwise.nil, fun _ hm => (nomatch hm)⟩⟩, h2, h3, h4⟩
section
noncomputable def ledger (h : Heap) (L d : Addr) : List (Addr × Obj) := (List.range h.objs.size).filterMap fun a => if a = L \/ a = d then none else (h.get? a).map fun o => (a, o)
end
end Att
namespace L2
open PySem PySem.Spec PyProof.Rows
theorem vH : ∀ {vs : List Value} {ns : List Int}, IntsAre vs ns -> Vals (ns.map V.int) vs
 | _, _, .nil => .nil
 | _, _, .cons n t h => .cons ⟨t, rfl⟩ (vH h)
noncomputable def Only (H : Hp) : Prop := ∀ b, H b = none \/ ∃ o xs, H b = some (.bK o (.lst xs))
theorem HJ {P : Program} {w : World} {K : PySem.W.Frag} {mg mb : Str -> Option Value} {CX : Hv} {k : Nat} {fa a : Addr} {fd : FuncData} {x : Str} {sp : Sp} {s₁ : Shared} {vs : List Value} {ns : List Int}
   (KX : K.In s₁.heap) (hns : s₁.heap.Ns mainGlobals mg) (hb : s₁.heap.Ns builtinsNs mb) (hbb : ∀ x : Str, x ≠ "__name__" -> mb x = bootBuiltins x) (aa8 : s₁.heap.NoLimit) (hg : s₁.gens = #[])
   (ha : s₁.heap.get? a = some { cls := .type "list", data := .seq vs.toArray }) (hi : IntsAre vs ns) (hl : ns.length <= sizeLine) (hr : fc k callerA)
   (F : ∀ base : Heap, K.In base -> base.Ns mainGlobals mg -> g9 P w K mg base CX k fa fd [x] sp) (XH : ∀ (s : Shared) (u : Value), BindsTo s fd ⟨[u], []⟩ [(x, u)])
   (QD : ∀ H : Hp, Only H -> k6 K H a (ns.map V.int) -> sp [.ref a] H (fun v _ => v = .bl true) fun _ _ _ => False)
   (hCX : ∀ H e s', CX [] H s₁ (fun _ _ _ => False) e s' -> False) :
   codeAny (model P w) callerA (.call (.ref fa) ⟨[.ref a], []⟩) (fun r s' => r = .ok (.ret (.bool true)) /\ OldK s₁.heap s'.heap /\ s'.os = s₁.os /\ AllBare s'.gens) s₁ := by
 have rv := vH hi
 have abb := hi.length
 have core : ∀ H : Hp, Only H -> k6 K H a (ns.map V.int) -> oz P w H s₁.heap -> (∀ b, H b ≠ none -> b = a) -> (H a ≠ none -> K.lookup a = none) →
     codeAny (model P w) callerA (.call (.ref fa) ⟨[.ref a], []⟩) (fun r s' => r = .ok (.ret (.bool true)) /\ OldK s₁.heap s'.heap /\ s'.os = s₁.os /\ AllBare s'.gens) s₁ := by
   intro H hO hS c6 hA hK
   have Di : ∀ {b : Addr} {o : Obj}, s₁.heap.get? b = some o -> H b = none -> (wo s₁.heap H).get? b = some o := fun e n => G7 e n
   have Xu : ∀ {b : Addr} {o : Obj} {es : Array DictEntry} {ep : Nat}, s₁.heap.get? b = some o -> o.data = .dict es ep -> H b = none := fun {b o es ep} e d => by
     cases q : H b with
     | none => rfl
     | some u =>
       have e' : b = a := hA b (by rw [q]; simp)
       subst e'
       rw [ha] at e; cases e
       have d' : Data.seq vs.toArray _ = Data.dict es ep := d
       cases d'
   have ZU : ∀ {b : Addr} {m : Str -> Option Value}, s₁.heap.Ns b m -> (wo s₁.heap H).Ns b m := fun {b m} ⟨o, es, ep, e, d, r⟩ => ⟨o, es, ep, Di e (Xu e d), d, r⟩
   have hKb : K.In (wo s₁.heap H) := fun b o e => Di (KX b o e) (by
     cases q : H b with
     | none => rfl
     | some u =>
       have e' : b = a := hA b (by rw [q]; simp)
       subst e'
       rw [hK (by rw [q]; simp)] at e; cases e)
   have hM : Mod K mg (wo s₁.heap H) := ⟨hKb, ZU hns, ⟨mb, ZU hb, hbb⟩, let ⟨mc, h1, h2⟩ := aa8; ⟨mc, ZU h1, h2⟩⟩
   have e0 : uS P w K mg (wo s₁.heap H) callerA [] s₁ H := ⟨rfl, hM, fun b o e => Mi e, Nat.le_of_eq (EJ _ _), trivial, fun b hb => absurd (show b ∈ ([] : List Addr) from hb) (by simp), c6, .of_eq hg⟩
   refine codeAny_mono ((F _ hKb (ZU hns)).run callerA [] s₁ H ⟨[.ref a], []⟩ [.ref a] [.ref a] _ _ hr e0 (XH s₁ (.ref a)) (.cons rfl .nil) (QD H hO hS)) fun r s' h => ?_
   cases r with
   | error e => exact (hCX H e s' h).elim
   | ok fl =>
     cases fl with
     | next => exact False.elim h
     | brk => exact False.elim h
     | cont => exact False.elim h
     | ret u =>
       obtain ⟨v, H', os, bare, un, abd, r', q⟩ := h
       have q' : v = .bl true := q
       subst q'
       obtain rfl : u = Value.bool true := r'
       refine ⟨rfl, OldK.of_keep fun b o e => ?_, os, bare⟩
       cases q : H b with
       | none => exact un.keep b o e q (by intro z; exact absurd (show b ∈ ([] : List Addr) from z) (by simp)) (by simp)
       | some u =>
         rcases hO b with z | ⟨ob, xs, z⟩
         . rw [q] at z; cases z
         . have z2 := un.d9 b ob _ z
           obtain ⟨e1, _⟩ := c6 b _ z
           obtain ⟨e2, _⟩ := abd b _ z2
           rw [e] at e1; cases e1
           exact e2
 cases hk : K.lookup a with
 | some o =>
   have e := KX a o hk
   rw [ha] at e
   cases e
   refine core (fun _ => none) (fun _ => .inl rfl) (.inr ⟨_, vs.toArray, _, hk, rfl, rfl, rfl, by rw [List.size_toArray, abb]; exact hl, by simpa using rv⟩) (fun b u z => by have z' : (none : Option HO) = some u := z; cases z') (fun b z => absurd rfl z) fun z => absurd rfl z
 | none =>
   refine core (fun b => if b = a then some (.bK { cls := .type "list", data := .seq vs.toArray } (.lst (ns.map V.int))) else none) (fun b => ?_) (.inl (.inr ⟨{ cls := .type "list", data := .seq vs.toArray }, agb rfl⟩)) (fun b u z => ?_) (fun b z => ?_) fun _ => hk
   . by_cases hb : b = a
     . exact .inr ⟨_, _, agb hb⟩
     . exact .inl (af1 hb)
   . by_cases hb : b = a
     . have z' := (agb hb).symm.trans z
       cases z'
       subst hb
       exact ⟨ha, by rw [afO]; exact hl, vs, _, rv, ha⟩
     . have z' := (af1 hb).symm.trans z
       cases z'
   . by_cases hb : b = a
     . exact hb
     . exact absurd (af1 hb) z
theorem ML {l : PySem.W.OpenLaw} {n k : Nat} {q : Program} {loose : List Str} {XP : (Str -> Option Value) -> Heap -> Prop} {YP : World -> Heap -> Prop} {d : DefRec} {K : Params -> PySem.W.Frag} {CX : World -> Hv} {sp : World -> Sp} {x : Str}
   (hn : l.most = some n) (QB : n <= sizeLine) (XF : d.params.defaults = []) (hr : fc k callerA)
   (hY : ∀ (w : World) (h : Heap), YP w h -> (K w.params).In h)
   (F : ∀ (w : World) (mg : Str -> Option Value) (fa : Addr) (h : Heap), (K w.params).In h -> h.Ns mainGlobals mg -> mg d.name = some (.ref fa) →
     ∃ fd : FuncData, (∀ (s : Shared) (u : Value), BindsTo s fd ⟨[u], []⟩ [(x, u)]) ∧
       ∀ base : Heap, (K w.params).In base -> base.Ns mainGlobals mg -> g9 l.prog w (K w.params) mg base (CX w) k fa fd [x] (sp w))
   (QD : ∀ (w : World) (H : Hp) (a : Addr) (ns : List Int), ns.length <= n -> Only H -> k6 (K w.params) H a (ns.map V.int) -> sp w [.ref a] H (fun v _ => v = .bl true) fun _ _ _ => False)
   (hCX : ∀ (w : World) (H : Hp) (s : Shared) (e : Value) (s' : Shared), CX w [] H s (fun _ _ _ => False) e s' -> False) :
   PySem.W.WalkO q loose XP YP l.row.toRowW d [] (fun f vs => PySem.call f vs) := by
 refine Att.zP hn XF fun w s₀ s₁ mg mb fa o pm cd doc a vs ns G Y ho hd kK XG SN hints hlen hg => ?_
 have KX := hY w _ Y
 obtain ⟨fd, hb, hF⟩ := F w mg fa _ KX G.T.g XG
 exact HJ KX G.T.g G.T.b G.T.builtins G.T.nolimit hg SN hints (agH hlen QB) hr hF hb (fun H hO hS => QD w H a ns hlen hO hS) fun H e s' => hCX w H s₁ e s'
noncomputable def inClass (s : Stmt) (j : Nat) : Stmt := match s with
 | .ClassDef _ _ _ body _ _ _ _ _ _ _ => body.getD j (.Pass ⟨0, 0, 0, 0⟩)
 | _ => .Pass ⟨0, 0, 0, 0⟩
noncomputable def oO (s : Stmt) : Arguments := match s with
 | .FunctionDef _ a _ _ _ _ _ _ _ _ => a
 | _ => { posonlyargs := [], args := [], vararg := none, kwonlyargs := [], kw_defaults := [], kwarg := none, defaults := [] }
noncomputable def fQ (s : Stmt) : List Stmt := match s with
 | .FunctionDef _ _ b _ _ _ _ _ _ _ => b
 | _ => []
noncomputable def au (s : Stmt) : Scope := match s with
 | .FunctionDef _ _ _ _ _ _ sc _ _ _ => sc
 | _ => { kind := .function, names := [], isGenerator := false, isCoroutine := false }
noncomputable abbrev vI : Hv := fun _ _ _ _ _ _ => False
noncomputable abbrev E0 : XK := fun _ _ _ => False
theorem HK {X : Cx} : Passes vI X E0 := fun _ _ _ _ _ _ _ h => h.elim
structure jM (K : PySem.W.Frag) (x qual : Str) (st : Stmt) (f : Addr) (fd : FuncData) : Prop where
 ex : ∃ (oc : Value) (od : Option Addr) (kV doc pm : Value) (an : Option Addr) (ji ct : Value) (Hz : Array (Option Value)),
   fd = PySem.W.fnOf x qual (oO st) (fQ st) (au st) .none kV doc pm an ji ct /\ K.lookup f = some ⟨oc, od, .func fd, Hz⟩ /\ PySem.W.codeIn K ji qual = true
 kp : PySem.W.keepIn K (.ref f) = true
section
variable {P : Program} {w : World} {K : PySem.W.Frag} {mg : Str -> Option Value} {base : Heap}
theorem jM.ok {x qual : Str} {st : Stmt} {f : Addr} {fd : FuncData} {N ps : List Str} {k : Nat} {sp : Sp} (F : jM K x qual st f fd) (S : aQ N ps (au st)) (len : ∀ vs H Q E, sp vs H Q E -> vs.length = ps.length)
   (HB : ∀ (ji : Value) (A : Around) (outer : List Env) (s : Shared) (H : Hp) (vs : List V) (Q : VK) (E : XK), fc k (A.deeper (envOfC qual (au st) s.heap.objs.size f ji)) -> sp vs H Q E →
     ∃ t, C3 (uT vI P w K mg base N qual (au st) f ji A outer s H E).Qw (fQ st) t /\ t { nx := fun _ H' => Q .non H', rt := Q } (start N vs) H) : g9 P w K mg base vI (k + 1) f fd ps sp := by
 obtain ⟨oc, od, kV, doc, pm, an, ji, ct, Hz, rfl, lk, kK⟩ := F.ex
 refine Xv lk kK S len fun A outer s H vs Q E hr QD => ?_
 obtain ⟨t, h, q⟩ := HB ji A outer s H vs Q E hr QD
 exact ⟨t, h.Qw, q⟩
theorem jM.binds {x qual : Str} {st : Stmt} {f : Addr} {fd : FuncData} {ps : List Str} (F : jM K x qual st f fd)
   (h : ∀ (kV doc pm : Value) (an : Option Addr) (ji ct : Value) (us : List Value), us.length = ps.length -> bindArgs (PySem.W.fnOf x qual (oO st) (fQ st) (au st) .none kV doc pm an ji ct) ⟨us, []⟩ = pure (ps.zip us)) : Binds K fd ps [] := by
 obtain ⟨oc, od, kV, doc, pm, an, ji, ct, Hz, rfl, lk, kK⟩ := F.ex
 exact .all (h kV doc pm an ji ct)
theorem bM {x qual : Str} {st : Stmt} {f : Addr} {oc : Value} {od an : Option Addr} {Hz : Array (Option Value)} {kV doc pm ji ct : Value} (l : K.lookup f = some ⟨oc, od, .func (PySem.W.fnOf x qual (oO st) (fQ st) (au st) .none kV doc pm an ji ct), Hz⟩)
   (c : PySem.W.codeIn K ji qual = true) (k : PySem.W.keepIn K (.ref f) = true) : jM K x qual st f (PySem.W.fnOf x qual (oO st) (fQ st) (au st) .none kV doc pm an ji ct) := ⟨⟨oc, od, kV, doc, pm, an, ji, ct, Hz, rfl, l, c⟩, k⟩
end
theorem gw {n : Nat} (h : n <= 1000) : n < sizeLine := ahu h (by decide)
theorem E9 {A B : Prop} (h : B) : if false = true then A else B := by
 rw [af1 af4]
 exact h
theorem Fb {A B : Prop} (h : A) : if true = true then A else B := by
 rw [agb rfl]
 exact h
noncomputable def aA (H H' : Hp) : Prop := ∀ b o, H b = some o -> H' b = some o
theorem aA.refl (H : Hp) : aA H H := fun _ _ h => h
theorem aA.trans {H H1 H2 : Hp} (a : aA H H1) (b : aA H1 H2) : aA H H2 := fun c o h => b c o (a c o h)
theorem aA.free {H H' : Hp} (e : aA H H') {l : Addr} (h : H' l = Option.none) : H l = Option.none := by
 cases q : H l with
 | none => rfl
 | some o =>
   rw [e l o q] at h
   cases h
theorem aA.seq {K : PySem.W.Frag} {H H' : Hp} {a : Addr} {xs : List V} (e : aA H H') (h : k6 K H a xs) : k6 K H' a xs := by
 rcases h with (h | ⟨o, h⟩) | h
 . exact .inl (.inl (e _ _ h))
 . exact .inl (.inr ⟨o, e _ _ h⟩)
 . exact .inr h
section
variable {κ : Type} [DecidableEq κ]
noncomputable def fN (kvs : List (κ × V)) (k : κ) : Option V := (kvs.find? fun kv => decide (kv.1 = k)).map (·.2)
noncomputable def putK (kvs : List (κ × V)) (k : κ) (v : V) : List (κ × V) :=
 if (kvs.any fun kv => decide (kv.1 = k)) = true then kvs.map (fun kv => if kv.1 = k then (kv.1, v) else kv) else kvs ++ [(k, v)]
theorem jy {p : κ × V} {r : List (κ × V)} {k : κ} (e : p.1 = k) : fN (p :: r) k = some p.2 := by simp [fN, ahm, e]
theorem jz {p : κ × V} {r : List (κ × V)} {k : κ} (e : ¬ p.1 = k) : fN (p :: r) k = fN r k := by simp [fN, ahm, e]
theorem oQ (k : κ) : ∀ kvs : List (κ × V), (kvs.any fun kv => decide (kv.1 = k)) = (fN kvs k).isSome
 | [] => rfl
 | p :: r => by
   rw [ahY]
   by_cases e : p.1 = k
   . simp only [jy e, agM e, Bool.true_or, Option.isSome_some]
   . rw [jz e, agm e, Bool.false_or]; exact oQ k r
theorem qV (kvs : List (κ × V)) (k : κ) (v : V) : (putK kvs k v).length <= kvs.length + 1 := by
 unfold putK
 split
 . rw [afO]; omega
 . rw [afY, agS, List.length_nil]; omega
theorem HL {kvs : List (κ × V)} {k : κ} (v : V) (h : fN kvs k = none) : putK kvs k v = kvs ++ [(k, v)] := by
 unfold putK
 rw [oQ, h]
 exact af1 (by decide)
theorem nE.vJ {o : Option V} {u : Option Value} (r : nE o u) : o.isSome = u.isSome := by
 cases o with
 | none => cases u with
   | none => rfl
   | some _ => exact (show False from r).elim
 | some _ => cases u with
   | none => exact (show False from r).elim
   | some _ => rfl
theorem nE.getD {o : Option V} {u : Option Value} {d : V} {d' : Value} (r : nE o u) (rd : RelV d d') : RelV (o.getD d) (u.getD d') := by
 cases o with
 | none => cases u with
   | none => exact rd
   | some _ => exact (show False from r).elim
 | some _ => cases u with
   | none => exact (show False from r).elim
   | some _ => exact r
theorem KV.val {kvs : List (κ × V)} {vs : List (κ × Value)} (r : KV kvs vs) (k : κ) : nE (fN kvs k) (valueAt vs k) := by
 unfold KV at r
 induction r with
 | nil => exact True.intro
 | @cons p q ps qs h t ih =>
   obtain ⟨h1, h2⟩ := h
   by_cases e : p.1 = k
   . have e' : q.1 = k := h1.symm.trans e
     have b : valueAt (q :: qs) k = some q.2 := by simp [valueAt, ahm, e']
     rw [jy e, b]; exact h2
   . have e' : ¬ q.1 = k := fun z => e (h1.trans z)
     have b : valueAt (q :: qs) k = valueAt qs k := by simp [valueAt, ahm, e']
     rw [jz e, b]; exact ih
theorem KV.any {kvs : List (κ × V)} {vs : List (κ × Value)} (r : KV kvs vs) (k : κ) : (kvs.any fun kv => decide (kv.1 = k)) = vs.any fun kv => decide (kv.1 = k) := by
 unfold KV at r
 induction r with
 | nil => rfl
 | cons h t ih => rw [ahY, ahY, ih, h.1]
theorem KV.repl {kvs : List (κ × V)} {vs : List (κ × Value)} (r : KV kvs vs) (k : κ) {y : V} {u : Value} (ry : RelV y u) :
   KV (kvs.map fun kv => if kv.1 = k then (kv.1, y) else kv) (vs.map fun kv => if kv.1 = k then (kv.1, u) else kv) := by
 unfold KV at r ⊢
 induction r with
 | nil => exact .nil
 | @cons p q ps qs h t ih =>
   rw [agd, agd]
   refine .cons ?_ ih
   obtain ⟨h1, h2⟩ := h
   by_cases e : p.1 = k
   . rw [agb e, agb (h1.symm.trans e)]; exact ⟨h1, ry⟩
   . rw [af1 e, af1 (fun z => e (h1.trans z))]; exact ⟨h1, h2⟩
theorem KV.put {kvs : List (κ × V)} {vs : List (κ × Value)} (r : KV kvs vs) (k : κ) {y : V} {u : Value} (ry : RelV y u) : KV (putK kvs k y) (stored vs k u) := by
 unfold putK stored
 rw [r.any k]
 by_cases e : (vs.any fun kv => decide (kv.1 = k)) = true
 . rw [agb e, agb e]; exact r.repl k ry
 . rw [af1 e, af1 e]; exact Paired.snoc r ⟨rfl, ry⟩
theorem KV.length {kvs : List (κ × V)} {vs : List (κ × Value)} (r : KV kvs vs) : kvs.length = vs.length := ahp r
end
theorem HM {P : Program} {w : World} {k : Key} {u : Value} (r : RelV (kV k) u) : (dS P w).is k u = true := by
 cases k with
 | inl i => obtain ⟨t, e⟩ := (show ∃ t, u = Value.int i t from r); subst e; exact zG P w i t
 | inr x => obtain ⟨t, e⟩ := (show ∃ t, u = Value.str x t from r); subst e; exact zH P w x t
theorem qt {P : Program} {w : World} : ∀ {ks : List Key} {us : List Value}, Vals (ks.map kV) us -> ItemsAre (dS P w) ks us
 | [], _, r => by rw [ahC] at r; cases r; exact .nil
 | k :: ks, _, r => by
   rw [agd] at r
   cases r with
   | cons h t => exact .cons (HM h) (qt t)
noncomputable abbrev KT (H : Hp) : List (List Key × V) -> List (List Key × Addr × Value) -> Prop := Paired fun p q => p.1 = q.1 /\ H q.2.1 = some (.tup (p.1.map kV)) /\ RelV p.2 q.2.2
theorem KT.val {H : Hp} {kvs : List (List Key × V)} {xs : List (List Key × Addr × Value)} (r : KT H kvs xs) (k : List Key) : nE (fN kvs k) ((atKey xs k).map (·.2)) := by
 induction r with
 | nil => exact True.intro
 | @cons p q ps qs h t ih =>
   obtain ⟨h1, _, h2⟩ := h
   by_cases e : p.1 = k
   . have e' : q.1 = k := h1.symm.trans e
     have b : atKey (q :: qs) k = some q.2 := by simp [atKey, ahm, e']
     rw [jy e, b]; exact h2
   . have e' : ¬ q.1 = k := fun z => e (h1.trans z)
     have b : atKey (q :: qs) k = atKey qs k := by simp [atKey, ahm, e']
     rw [jz e, b]; exact ih
theorem KT.repl {H : Hp} {kvs : List (List Key × V)} {xs : List (List Key × Addr × Value)} (r : KT H kvs xs) (k : List Key) {y : V} {u : Value} (ry : RelV y u) :
   KT H (kvs.map fun kv => if kv.1 = k then (kv.1, y) else kv) (xs.map (putAt k u)) := by
 induction r with
 | nil => exact .nil
 | @cons p q ps qs h t ih =>
   rw [agd, agd]
   refine .cons ?_ ih
   obtain ⟨h1, h2, h3⟩ := h
   unfold putAt
   by_cases e : p.1 = k
   . rw [agb e, agb (h1.symm.trans e)]; exact ⟨h1, h2, ry⟩
   . rw [af1 e, af1 (fun z => e (h1.trans z))]; exact ⟨h1, h2, h3⟩
theorem KT.put {H : Hp} {kvs : List (List Key × V)} {xs : List (List Key × Addr × Value)} (r : KT H kvs xs) (k : List Key) {b : Addr} {y : V} {u : Value} (hb : H b = some (.tup (k.map kV))) (ry : RelV y u) :
   KT H (putK kvs k y) (storedH xs k b u) := by
 have e : (kvs.any fun kv => decide (kv.1 = k)) = (atKey xs k).isSome := by
   rw [oQ, (r.val k).vJ, Option.isSome_map]
 unfold putK storedH
 rw [e]
 by_cases q : (atKey xs k).isSome = true
 . rw [agb q, agb q]; exact r.repl k ry
 . rw [af1 q, af1 q]; exact Paired.snoc r ⟨rfl, hb, ry⟩
theorem KT.keeps {H H' : Hp} {kvs : List (List Key × V)} {xs : List (List Key × Addr × Value)} (r : KT H kvs xs) (ht : ∀ b ys, H b = some (.tup ys) -> H' b = some (.tup ys)) : KT H' kvs xs :=
 Paired.RD r fun _ _ z => ⟨z.1, ht _ _ z.2.1, z.2.2⟩
section
variable {P : Program} {w : World} {H : Hp} {h : Heap} {a : Addr}
theorem QG {u : HO} (ok : oz P w H h) (e : Rd H a u) : cV P w H h a u := e.ok ok
theorem HN {kvs : List (Key × V)} (ok : oz P w H h) (e : Rd H a (.dK kvs)) : kvs.length <= sizeLine /\ (a == sysModules) = false /\ ∃ vs, KV kvs vs /\ h.DictOf (dS P w) a vs :=
 show cV P w H h a (.dK kvs) from QG ok e
theorem XI {kvs : List (Key × V)} (ok : oz P w H h) (e : H a = some (.dK kvs)) : kvs.length <= sizeLine /\ (a == sysModules) = false /\ ∃ vs, KV kvs vs /\ h.DictOf (dS P w) a vs := HN ok (.inl e)
theorem Bo {ks : List Key} (ok : oz P w H h) (e : H a = some (.tup (ks.map kV))) : (tupleKind (dS P w)).is h ks a := by
 obtain ⟨_, its, r, o, h1, h2, n, h3⟩ := (show cV P w H h a (.tup (ks.map kV)) from ok a _ e)
 exact ⟨o, its.toArray, n, h1, h2, h3, by simpa using qt r⟩
theorem nG {kvs : List (List Key × V)} (ok : oz P w H h) (e : Rd H a (.dT kvs)) : kvs.length <= sizeLine /\ (a == sysModules) = false ∧
   ∃ xs, KT H kvs xs /\ h.DictOfH (tupleKind (dS P w)) a xs := by
 obtain ⟨z, y, xs, r, o, es, ep, h1, h2, h3, h4, h5⟩ := (show cV P w H h a (.dT kvs) from QG ok e)
 refine ⟨z, y, xs, r, o, es, ep, h1, h2, h3, h4, fun x hx => ?_, h5⟩
 have all : ∀ {l : List (List Key × V)} {m : List (List Key × Addr × Value)}, KT H l m -> ∀ x ∈ m, (tupleKind (dS P w)).is h x.1 x.2.1 := by
   intro l m q
   induction q with
   | nil => intro x hx; exact nomatch hx
   | @cons p q ps qs hq t ih =>
     intro x hx
     rcases afX.mp hx with e | hx
     . subst e
       exact Bo ok (by rw [← hq.1]; exact hq.2.1)
     . exact ih x hx
 exact all r x hx
theorem QH {kvs : List (List Key × V)} (ok : oz P w H h) (e : H a = some (.dT kvs)) : kvs.length <= sizeLine /\ (a == sysModules) = false ∧
   ∃ xs, KT H kvs xs /\ h.DictOfH (tupleKind (dS P w)) a xs := nG ok (.inl e)
end
noncomputable def Bp (H : Hp) (a : Addr) (y : V) (r : Option V) : Prop :=
 (∃ kvs k, Rd H a (.dK kvs) /\ y = kV k /\ r = fN kvs k) \/ ∃ kvs k b, Rd H a (.dT kvs) /\ y = .ref b /\ H b = some (.tup (k.map kV)) /\ r = fN kvs k
noncomputable def Fd (H : Hp) (a : Addr) (y v : V) (H' : Hp) : Prop :=
 (∃ kvs k, H a = some (.dK kvs) /\ y = kV k /\ kvs.length < sizeLine /\ H' = upd H a (.dK (putK kvs k v))) ∨
 ∃ kvs k b, H a = some (.dT kvs) /\ y = .ref b /\ H b = some (.tup (k.map kV)) /\ kvs.length < sizeLine /\ H' = upd H a (.dT (putK kvs k v))
theorem Fd.t {H : Hp} {a b : Addr} {kvs : List (List Key × V)} {k : List Key} {v : V} (e : H a = some (.dT kvs)) (eb : H b = some (.tup (k.map kV))) (hl : kvs.length < sizeLine) :
   Fd H a (.ref b) v (upd H a (.dT (putK kvs k v))) := .inr ⟨kvs, k, b, e, rfl, eb, hl, rfl⟩
section
variable {X : Cx} {pins : List (Addr × Obj)} {σ : St} {H : Hp} {s : Shared} {a : Addr} {y v : V} {u r : Value} {o : Option V} {A : Around} {E : Value -> Shared -> Prop}
theorem Inv.big (I : Inv X pins σ H s) : sysModules < s.heap.objs.size := by
 have h : mainGlobals < s.heap.objs.size := (I.mod.glob.keeps I.bk).lt
 exact Nat.lt_trans (by decide) h
theorem Fe {Q : Value -> Shared -> Prop} (hu : A.units + 1 < cLine) (I : Inv X pins σ H s) (g : Bp H a y (some v)) (ry : RelV y u) (h : ∀ w' s', Inv X pins σ H s' -> RelV v w' -> Q w' s') :
   wpAny (model X.prog X.w) A (getItem (.ref a) u) Q E s := by
 rcases g with ⟨kvs, k, e, ey, l⟩ | ⟨kvs, k, b, e, ey, eb, l⟩
 . subst ey
   obtain ⟨z, hd, vs, rel, dd⟩ := HN I.c6 e
   obtain ⟨w', hw, zN⟩ := nE.some_of (v := v) (o := valueAt vs k) (by rw [l]; exact rel.val k)
   exact wpAny_getItem_of (HM ry) dd.mapOf hw (h w' _ (I.tok _) zN)
 . subst ey
   cases (show u = Value.ref b from ry)
   obtain ⟨z, hd, xs, rel, dd⟩ := nG I.c6 e
   obtain ⟨w', hw, zN⟩ := nE.some_of (v := v) (o := (atKey xs k).map (·.2)) (by rw [l]; exact rel.val k)
   obtain ⟨p, hp, zy⟩ := agg.mp hw
   refine wpAny_getItem_heap (ahM hu) (Bo I.c6 eb) dd hp ?_
   rw [zy]
   exact h w' _ (I.tok _) zN
theorem oR {h' : Heap} {t' : Nat} {ob : HO} (I : Inv X pins σ H s) (mu : WU (H a)) (hs : Heap.SameBut a s.heap h') (he : ∃ q, h'.get? a = some q) (new : cV X.prog X.w (upd H a ob) h' a ob) :
   Inv X pins σ (upd H a ob) { s with heap := h', toks := t' } :=
 I.write (x := a) (e := a) mu (.inl rfl) (fun b q hb z => (hs.2 b hb).trans z) he new
theorem SQ {P : Program} {w : World} {H' : Hp} {h' : Heap} {kvs : List (Key × V)} {vs : List (Key × Value)} (z : kvs.length <= sizeLine) (hd : (a == sysModules) = false) (rel : KV kvs vs) (dd : h'.DictOf (dS P w) a vs) :
   cV P w H' h' a (.dK kvs) := ⟨z, hd, vs, rel, dd⟩
theorem Ff {H' : Hp} {Q : Unit -> Shared -> Prop} (hu : A.units + 1 < cLine) (I : Inv X pins σ H s) (g : Fd H a y v H') (ry : RelV y u) (rv : RelV v r) (h : ∀ s', Inv X pins σ H' s' -> Q () s') :
   wpAny (model X.prog X.w) A (setItem (.ref a) u r) Q E s := by
 rcases g with ⟨kvs, k, e, ey, l, eH⟩ | ⟨kvs, k, b, e, ey, eb, l, eH⟩
 . subst ey eH
   obtain ⟨z, hd, vs, rel, dd⟩ := XI I.c6 e
   have hz : vs.length <= sizeLine := by rw [← rel.length]; exact z
   have hl : (putK kvs k v).length <= sizeLine := by have := qV kvs k v; omega
   refine wpAny_setItem_pairs (hsz := hz) (HM ry) dd fun h' Bq hs => h _ ?_
   have he : ∃ q, h'.get? a = some q := let ⟨q, _, _, hq, _⟩ := Bq; ⟨q, hq⟩
   exact oR I (by rw [e]; exact True.intro) hs he (SQ hl hd (rel.put k rv) Bq)
 . subst ey eH
   cases (show u = Value.ref b from ry)
   obtain ⟨z, hd, xs, rel, dd⟩ := QH I.c6 e
   have hz : xs.length <= sizeLine := by rw [← ahp rel]; exact z
   have hl : (putK kvs k v).length <= sizeLine := by have := qV kvs k v; omega
   refine wpAny_setItem_heap (hsz := hz) (ahM hu) (Bo I.c6 eb) dd fun h' Bq hs => h _ ?_
   obtain ⟨q, es, ep, hq, h2, h3, h4, _, h5⟩ := Bq
   refine oR I (by rw [e]; exact True.intro) hs ⟨q, hq⟩ ⟨hl, hd, _, (rel.put k eb rv).keeps fun c ys ec => ?_, q, es, ep, hq, h2, h3, h4, h5⟩
   rw [ao (Qq ec e (fun z => nomatch z))]
   exact ec
end
noncomputable def wO (i : Expr) : Prop := ∀ ov iv, subscripted i false ov iv = operate [ov, iv] (getItem ov iv)
theorem wQ {prog : Program} {w : World} {A : Around} {E : Value -> Shared -> Prop} {s : Shared} {env : Env} {value slice : Expr} {pos : Pos} {T id : String} {Q : Value -> Shared -> Prop}
   (hl : typeLookup (.type T) "__getitem__" = pure (some (.builtin id))) (hs : wO slice)
   (h : wpAny (model prog w) A (eval value env) (fun o s₁ => wpAny (model prog w) A (eval slice env) (fun i s₂ => s₂.TypeIs o T /\ wpAny (model prog w) A (getItem o i) Q E s₂) E s₁) E s) :
   wpAny (model prog w) A (eval (.Subscript value slice pos) env) Q E s := by
 refine Subscript_ (ag7 h (fun o s₁ h₁ => ag7 h₁ (fun i s₂ h₂ => ?_) fun _ _ x => x) fun _ _ x => x)
 obtain ⟨hT, h₂⟩ := h₂
 unfold subscriptTail
 refine afN ?_
 rw [getitemInPython_of_ne hT.not_modules]
 refine afN (ahN hT hl ?_)
 have fin : wpAny (model prog w) A (subscripted slice false o i) (fun r s₃ => wpAny (model prog w) A (letTemporaryGo value o r >>= fun _ => pure r) Q E s₃) E s₂ := by
   rw [hs o i]
   exact wpAny_operating (ag7 h₂ (fun r s₃ h₃ => afN (wpAny_letTemporaryGo (afT h₃))) fun _ _ x => x)
 first
   | exact afT (afN fin)
   | exact afN (afT (afN fin))
   | exact afN fin
theorem zQ {X : Cx} {pins : List (Addr × Obj)} {σ : St} {H : Hp} {s : Shared} {a : Addr} {y : V} {o : Option V} (I : Inv X pins σ H s) (g : Bp H a y o) : s.TypeIs (.ref a) "dict" := by
 rcases g with ⟨kvs, k, e, _, _⟩ | ⟨kvs, k, b, e, _, _, _⟩
 . obtain ⟨_, _, vs, _, dd⟩ := HN I.c6 e
   exact dd.typeIs
 . obtain ⟨_, _, xs, _, dd⟩ := nG I.c6 e
   exact dd.typeIs
noncomputable def XJ (td ty : TE) : TE := fun σ H Q => td σ H fun x H1 => ty σ H1 fun y H2 => ∃ a v, x = .ref a /\ Bp H2 a y (some v) /\ Q v H2
noncomputable def XM (td ty tv : TE) : TS := fun D σ H => tv σ H fun v H1 => td σ H1 fun x H2 => ty σ H2 fun y H3 => ∃ a H4, x = .ref a /\ Fd H3 a y v H4 /\ D.nx σ H4
section
variable {X : Cx} {o i value : Expr} {pos pos' : Pos} {td ty tv : TE}
theorem Dj (hu : X.A.units + 1 < cLine) (ho : PE X o td) (hi : PE X i ty) (hs : wO i) : PE X (.Subscript o i pos) (XJ td ty) := by
 intro pins s σ H Q I h
 refine wQ ah3.lookup hs (cR (ho pins s σ H _ I h) fun u s1 ⟨x, H1, I1, rx, q1⟩ => cR (hi pins s1 σ H1 _ I1 q1) fun iv s2 zz => ?_)
 obtain ⟨y, H2, I2, ry, a, v, ex, g, q2⟩ := zz
 subst ex
 obtain rfl : u = Value.ref a := rx
 exact ⟨zQ I2 g, Fe hu I2 g ry fun w' s3 I3 zN => ⟨v, H2, I3, zN, q2⟩⟩
theorem Dl (hu : X.A.units + 1 < cLine) (ho : PE X o td) (hi : PE X i ty) (hv : PE X value tv) (hs : swapsWith value (some (.Subscript o i pos')) pos.line X.env = pure false) :
   PS X (.Assign [.Subscript o i pos'] value pos) (XM td ty tv) := by
 intro pins s σ H D I h
 refine wpAny_Assign_Subscript (cR (hv pins s σ H _ I h) fun r s1 ⟨v, H1, I1, rv, q1⟩ => cR (ho pins s1 σ H1 _ I1 q1) fun u s2 ⟨x, H2, I2, rx, q2⟩ => cR (hi pins s2 σ H2 _ I2 q2) fun iv s3 zz => ?_) hs
 obtain ⟨y, H3, I3, ry, a, H4, ex, g, q3⟩ := zz
 subst ex
 obtain rfl : u = Value.ref a := rx
 exact Ff hu I3 g ry rv fun s4 I4 => ⟨σ, H4, I4, q3⟩
end
theorem HP {P : Program} {w : World} {H : Hp} (h : Heap) (hb : sysModules < h.objs.size) : cV P w H (h.push { cls := .type "dict", data := .dict #[] }) h.objs.size (.dT []) :=
 ⟨agr _, agZ.mpr (Ne.symm (agG hb)), [], .nil, _, #[], 0, agl _ rfl, ⟨rfl, rfl, rfl⟩, rfl, rfl, ahi⟩
noncomputable def SR : TE := fun _ H Q => ∀ p, H p = none -> Q (.ref p) (upd H p (.dT []))
section
variable {X : Cx} {pos : Pos}
theorem HQ : PE X (.Dict [] [] pos) SR := fun pins s σ H Q I h =>
 wpAny_Dict_empty ⟨.ref s.heap.objs.size, _, I.laid (a := s.heap.objs.size) (o := .dT []) (t' := s.toks) (fun _ _ q => af7 _ q) (af3 _) (HP s.heap I.big), rfl, h _ (I.c6.fresh (af3 _))⟩
end
end L2
namespace L3
open PySem PySem.Spec PyProof.Rows L2
inductive D where
 | non | bl (b : Bool) | int (i : Int) | str (x : Str)
 | tup (ds : List D) | lst (ds : List D) | ins (c : Str) (fs : List (Str × D)) | oA (kvs : List (Key × D))
 | dct (kvs : List (List Key × D))
 | any
 | val (v : V)
 | gq (w : World) (ds : List D)
inductive T where
 | sh (d : D) | tup (ts : List T) | lst (ts : List T) | ins (c : Str) (fs : List (Str × T)) | oA (kvs : List (Key × D)) | dct (kvs : List (List Key × T))
 | pin (x : Addr) (t : T)
 | gq (w : World) (ds : List D)
mutual
noncomputable def T.bK : T -> D
 | .sh d => d
 | .tup ts => .tup (d9 ts)
 | .lst ts => .lst (d9 ts)
 | .ins c fs => .ins c (tF fs)
 | .oA kvs => .oA kvs
 | .dct kvs => .dct (uV kvs)
 | .pin _ t => t.bK
 | .gq w ds => .gq w ds
noncomputable def T.d9 : List T -> List D
 | [] => []
 | t :: ts => t.bK :: T.d9 ts
noncomputable def T.tF : List (Str × T) -> List (Str × D)
 | [] => []
 | (x, t) :: fs => (x, t.bK) :: T.tF fs
noncomputable def T.uV : List (List Key × T) -> List (List Key × D)
 | [] => []
 | (x, t) :: fs => (x, t.bK) :: T.uV fs
end
mutual
noncomputable def D.E7 (w : World) : D -> Int
 | .int i => hashInt i
 | .str x => hashStr w x
 | .tup ds => reduceHash (Builtin.Tuple.tupleHashOf (D.wR w ds))
 | _ => 0
noncomputable def D.wR (w : World) : List D -> List Int
 | [] => []
 | d :: ds => d.E7 w :: D.wR w ds
end
noncomputable def zR (w : World) (a : Addr) (ds : List D) (vs : List V) (h : Heap) : Prop :=
 (a == sysModules) = false /\ ∃ (xs : List (D × Addr × Value)) (o : Obj) (es : Array DictEntry) (ep : Nat), h.get? a = some o /\ o.ExactDict /\ o.data = .dict es ep /\ es.toList = xs.map (fun x => ⟨x.1.E7 w, .ref x.2.1, x.2.2⟩) /\ xs.map (·.1) = ds /\ xs.map (fun x => V.ref x.2.1) = vs /\ ∀ (i : Nat) x, xs[i]? = some x -> ∃ t, x.2.2 = .int i t
variable (K : PySem.W.Frag) (CL : Str -> Addr)
mutual
inductive aU (Z : Hp) : D -> V -> Prop where
 | non : aU Z .non .non
 | bl (b : Bool) : aU Z (.bl b) (.bl b)
 | int (i : Int) : aU Z (.int i) (.int i)
 | str (x : Str) : aU Z (.str x) (.str x)
 | any (v : V) : aU Z .any v
 | val (v : V) : aU Z (.val v) v
 | tup {a : Addr} {vs : List V} {ds : List D} : kN K Z a vs -> ay Z ds vs -> aU Z (.tup ds) (.ref a)
 | lst {a : Addr} {vs : List V} {ds : List D} : k6 K Z a vs -> ay Z ds vs -> aU Z (.lst ds) (.ref a)
 | ins {a dx : Addr} {c : Str} {gs : List (Str × V)} {fs : List (Str × D)} : Z a = some (.ins (CL c) dx gs) -> gM Z fs gs -> aU Z (.ins c fs) (.ref a)
 | oA {a : Addr} {gs : List (Key × V)} {fs : List (Key × D)} : Z a = some (.dK gs) -> b5 Z fs gs -> aU Z (.oA fs) (.ref a)
 | dct {a : Addr} {gs : List (List Key × V)} {fs : List (List Key × D)} : Rd Z a (.dT gs) -> bN Z fs gs -> aU Z (.dct fs) (.ref a)
 | gq {a : Addr} {w : World} {vs : List V} {ds : List D} : Z a = some (.ext (zR w a ds vs)) -> ay Z ds vs -> aU Z (.gq w ds) (.ref a)
inductive ay (Z : Hp) : List D -> List V -> Prop where
 | nil : ay Z [] []
 | cons {d : D} {v : V} {ds : List D} {vs : List V} : aU Z d v -> ay Z ds vs -> ay Z (d :: ds) (v :: vs)
inductive gM (Z : Hp) : List (Str × D) -> List (Str × V) -> Prop where
 | nil : gM Z [] []
 | cons {x : Str} {d : D} {v : V} {ds : List (Str × D)} {vs : List (Str × V)} : aU Z d v -> gM Z ds vs -> gM Z ((x, d) :: ds) ((x, v) :: vs)
inductive b5 (Z : Hp) : List (Key × D) -> List (Key × V) -> Prop where
 | nil : b5 Z [] []
 | cons {x : Key} {d : D} {v : V} {ds : List (Key × D)} {vs : List (Key × V)} : aU Z d v -> b5 Z ds vs -> b5 Z ((x, d) :: ds) ((x, v) :: vs)
inductive bN (Z : Hp) : List (List Key × D) -> List (List Key × V) -> Prop where
 | nil : bN Z [] []
 | cons {x : List Key} {d : D} {v : V} {ds : List (List Key × D)} {vs : List (List Key × V)} : aU Z d v -> bN Z ds vs -> bN Z ((x, d) :: ds) ((x, v) :: vs)
end
mutual
inductive aV (H Z : Hp) : T -> V -> List Addr -> Prop where
 | sh {d : D} {v : V} : aU K CL Z d v -> aV H Z (.sh d) v []
 | tup {a : Addr} {vs : List V} {ts : List T} {fp : List Addr} : Z a = some (.tup vs) -> aJ H Z ts vs fp -> aV H Z (.tup ts) (.ref a) fp
 | lst {a : Addr} {vs : List V} {ts : List T} {fp : List Addr} : H a = some (.lst vs) -> aJ H Z ts vs fp -> aV H Z (.lst ts) (.ref a) (a :: fp)
 | ins {a dx : Addr} {c : Str} {gs : List (Str × V)} {fs : List (Str × T)} {fp : List Addr} : H a = some (.ins (CL c) dx gs) -> cH H Z fs gs fp -> aV H Z (.ins c fs) (.ref a) (a :: fp)
 | oA {a : Addr} {gs : List (Key × V)} {kvs : List (Key × D)} : H a = some (.dK gs) -> b5 K CL Z kvs gs -> aV H Z (.oA kvs) (.ref a) [a]
 | dct {a : Addr} {gs : List (List Key × V)} {kvs : List (List Key × T)} {fp : List Addr} : H a = some (.dT gs) -> bH H Z kvs gs fp -> aV H Z (.dct kvs) (.ref a) (a :: fp)
 | pin {x : Addr} {t : T} {fp : List Addr} : aV H Z t (.ref x) fp -> aV H Z (.pin x t) (.ref x) fp
 | gq {a : Addr} {w : World} {vs : List V} {ds : List D} : H a = some (.ext (zR w a ds vs)) -> ay K CL Z ds vs -> aV H Z (.gq w ds) (.ref a) [a]
inductive aJ (H Z : Hp) : List T -> List V -> List Addr -> Prop where
 | nil : aJ H Z [] [] []
 | cons {t : T} {v : V} {ts : List T} {vs : List V} {fp gp : List Addr} : aV H Z t v fp -> aJ H Z ts vs gp -> aJ H Z (t :: ts) (v :: vs) (fp ++ gp)
inductive cH (H Z : Hp) : List (Str × T) -> List (Str × V) -> List Addr -> Prop where
 | nil : cH H Z [] [] []
 | cons {x : Str} {t : T} {v : V} {ts : List (Str × T)} {vs : List (Str × V)} {fp gp : List Addr} : aV H Z t v fp -> cH H Z ts vs gp -> cH H Z ((x, t) :: ts) ((x, v) :: vs) (fp ++ gp)
inductive bH (H Z : Hp) : List (List Key × T) -> List (List Key × V) -> List Addr -> Prop where
 | nil : bH H Z [] [] []
 | cons {x : List Key} {t : T} {v : V} {ts : List (List Key × T)} {vs : List (List Key × V)} {fp gp : List Addr} : aV H Z t v fp -> bH H Z ts vs gp -> bH H Z ((x, t) :: ts) ((x, v) :: vs) (fp ++ gp)
end
inductive eU (H Z : Hp) : List (Option T) -> L2.St -> List Addr -> Prop where
 | nil : eU H Z [] [] []
 | skip {o : Option V} {δ : List (Option T)} {σ : L2.St} {fp : List Addr} : eU H Z δ σ fp -> eU H Z (none :: δ) (o :: σ) fp
 | cons {t : T} {v : V} {δ : List (Option T)} {σ : L2.St} {fp gp : List Addr} : aV K CL H Z t v fp -> eU H Z δ σ gp -> eU H Z (some t :: δ) (some v :: σ) (fp ++ gp)
section
variable {K : PySem.W.Frag} {CL : Str -> Addr}
theorem Rd.mono {H H' : Hp} {a : Addr} {u : HO} (e : aA H H') (h : Rd H a u) : Rd H' a u := h.imp (e _ _) fun ⟨o, q⟩ => ⟨o, e _ _ q⟩
theorem aA.rS {H H' : Hp} {a : Addr} {xs : List V} (e : aA H H') (h : kN K H a xs) : kN K H' a xs := by
 rcases h with (h | ⟨o, h⟩) | h
 . exact .inl (.inl (e _ _ h))
 . exact .inl (.inr ⟨o, e _ _ h⟩)
 . exact .inr h
theorem aU.mono {Z Z' : Hp} (e : aA Z Z') {d : D} {v : V} (h : aU K CL Z d v) : aU K CL Z' d v :=
 aU.rec (motive_1 := fun d v _ => aU K CL Z' d v) (motive_2 := fun d v _ => ay K CL Z' d v) (motive_3 := fun d v _ => gM K CL Z' d v) (motive_4 := fun d v _ => b5 K CL Z' d v) (motive_5 := fun d v _ => bN K CL Z' d v)
   .non .bl .int .str .any .val (fun h _ r => .tup (aA.rS e h) r) (fun h _ r => .lst (e.seq h) r) (fun h _ r => .ins (e _ _ h) r) (fun h _ r => .oA (e _ _ h) r) (fun h _ r => .dct (Rd.mono e h) r) (fun h _ r => .gq (e _ _ h) r) .nil (fun _ _ h r => .cons h r) .nil (fun _ _ h r => .cons h r) .nil (fun _ _ h r => .cons h r) .nil (fun _ _ h r => .cons h r) h
theorem ay.mono {Z Z' : Hp} (e : aA Z Z') {d : List D} {v : List V} (h : ay K CL Z d v) : ay K CL Z' d v :=
 ay.rec (motive_1 := fun d v _ => aU K CL Z' d v) (motive_2 := fun d v _ => ay K CL Z' d v) (motive_3 := fun d v _ => gM K CL Z' d v) (motive_4 := fun d v _ => b5 K CL Z' d v) (motive_5 := fun d v _ => bN K CL Z' d v)
   .non .bl .int .str .any .val (fun h _ r => .tup (aA.rS e h) r) (fun h _ r => .lst (e.seq h) r) (fun h _ r => .ins (e _ _ h) r) (fun h _ r => .oA (e _ _ h) r) (fun h _ r => .dct (Rd.mono e h) r) (fun h _ r => .gq (e _ _ h) r) .nil (fun _ _ h r => .cons h r) .nil (fun _ _ h r => .cons h r) .nil (fun _ _ h r => .cons h r) .nil (fun _ _ h r => .cons h r) h
theorem b5.mono {Z Z' : Hp} (e : aA Z Z') {d : List (Key × D)} {v : List (Key × V)} (h : b5 K CL Z d v) : b5 K CL Z' d v :=
 b5.rec (motive_1 := fun d v _ => aU K CL Z' d v) (motive_2 := fun d v _ => ay K CL Z' d v) (motive_3 := fun d v _ => gM K CL Z' d v) (motive_4 := fun d v _ => b5 K CL Z' d v) (motive_5 := fun d v _ => bN K CL Z' d v)
   .non .bl .int .str .any .val (fun h _ r => .tup (aA.rS e h) r) (fun h _ r => .lst (e.seq h) r) (fun h _ r => .ins (e _ _ h) r) (fun h _ r => .oA (e _ _ h) r) (fun h _ r => .dct (Rd.mono e h) r) (fun h _ r => .gq (e _ _ h) r) .nil (fun _ _ h r => .cons h r) .nil (fun _ _ h r => .cons h r) .nil (fun _ _ h r => .cons h r) .nil (fun _ _ h r => .cons h r) h
theorem bN.mono {Z Z' : Hp} (e : aA Z Z') {d : List (List Key × D)} {v : List (List Key × V)} (h : bN K CL Z d v) : bN K CL Z' d v :=
 bN.rec (motive_1 := fun d v _ => aU K CL Z' d v) (motive_2 := fun d v _ => ay K CL Z' d v) (motive_3 := fun d v _ => gM K CL Z' d v) (motive_4 := fun d v _ => b5 K CL Z' d v) (motive_5 := fun d v _ => bN K CL Z' d v)
   .non .bl .int .str .any .val (fun h _ r => .tup (aA.rS e h) r) (fun h _ r => .lst (e.seq h) r) (fun h _ r => .ins (e _ _ h) r) (fun h _ r => .oA (e _ _ h) r) (fun h _ r => .dct (Rd.mono e h) r) (fun h _ r => .gq (e _ _ h) r) .nil (fun _ _ h r => .cons h r) .nil (fun _ _ h r => .cons h r) .nil (fun _ _ h r => .cons h r) .nil (fun _ _ h r => .cons h r) h
theorem aV.mono {H H' Z Z' : Hp} (e : aA Z Z') {t : T} {v : V} {fp : List Addr} (k : ∀ a ∈ fp, H' a = H a) (h : aV K CL H Z t v fp) : aV K CL H' Z' t v fp :=
 aV.rec (motive_1 := fun t v fp _ => (∀ a ∈ fp, H' a = H a) -> aV K CL H' Z' t v fp) (motive_2 := fun t v fp _ => (∀ a ∈ fp, H' a = H a) -> aJ K CL H' Z' t v fp) (motive_3 := fun t v fp _ => (∀ a ∈ fp, H' a = H a) -> cH K CL H' Z' t v fp) (motive_4 := fun t v fp _ => (∀ a ∈ fp, H' a = H a) -> bH K CL H' Z' t v fp)
   (fun h _ => .sh (h.mono e)) (fun h _ r k => .tup (e _ _ h) (r k)) (fun h _ r k => .lst ((k _ afP).trans h) (r fun a ha => k a (afS _ ha))) (fun h _ r k => .ins ((k _ afP).trans h) (r fun a ha => k a (afS _ ha))) (fun h f k => .oA ((k _ afP).trans h) (b5.mono e f)) (fun h _ r k => .dct ((k _ afP).trans h) (r fun a ha => k a (afS _ ha))) (fun _ r k => .pin (r k)) (fun h f k => .gq ((k _ afP).trans h) (ay.mono e f)) (fun _ => .nil) (fun _ _ h r k => .cons (h fun a ha => k a (afU _ ha)) (r fun a ha => k a (afQ _ ha))) (fun _ => .nil) (fun _ _ h r k => .cons (h fun a ha => k a (afU _ ha)) (r fun a ha => k a (afQ _ ha))) (fun _ => .nil) (fun _ _ h r k => .cons (h fun a ha => k a (afU _ ha)) (r fun a ha => k a (afQ _ ha))) h k
theorem aJ.mono {H H' Z Z' : Hp} (e : aA Z Z') {t : List T} {v : List V} {fp : List Addr} (k : ∀ a ∈ fp, H' a = H a) (h : aJ K CL H Z t v fp) : aJ K CL H' Z' t v fp :=
 aJ.rec (motive_1 := fun t v fp _ => (∀ a ∈ fp, H' a = H a) -> aV K CL H' Z' t v fp) (motive_2 := fun t v fp _ => (∀ a ∈ fp, H' a = H a) -> aJ K CL H' Z' t v fp) (motive_3 := fun t v fp _ => (∀ a ∈ fp, H' a = H a) -> cH K CL H' Z' t v fp) (motive_4 := fun t v fp _ => (∀ a ∈ fp, H' a = H a) -> bH K CL H' Z' t v fp)
   (fun h _ => .sh (h.mono e)) (fun h _ r k => .tup (e _ _ h) (r k)) (fun h _ r k => .lst ((k _ afP).trans h) (r fun a ha => k a (afS _ ha))) (fun h _ r k => .ins ((k _ afP).trans h) (r fun a ha => k a (afS _ ha))) (fun h f k => .oA ((k _ afP).trans h) (b5.mono e f)) (fun h _ r k => .dct ((k _ afP).trans h) (r fun a ha => k a (afS _ ha))) (fun _ r k => .pin (r k)) (fun h f k => .gq ((k _ afP).trans h) (ay.mono e f)) (fun _ => .nil) (fun _ _ h r k => .cons (h fun a ha => k a (afU _ ha)) (r fun a ha => k a (afQ _ ha))) (fun _ => .nil) (fun _ _ h r k => .cons (h fun a ha => k a (afU _ ha)) (r fun a ha => k a (afQ _ ha))) (fun _ => .nil) (fun _ _ h r k => .cons (h fun a ha => k a (afU _ ha)) (r fun a ha => k a (afQ _ ha))) h k
theorem cH.mono {H H' Z Z' : Hp} (e : aA Z Z') {t : List (Str × T)} {v : List (Str × V)} {fp : List Addr} (k : ∀ a ∈ fp, H' a = H a) (h : cH K CL H Z t v fp) : cH K CL H' Z' t v fp :=
 cH.rec (motive_1 := fun t v fp _ => (∀ a ∈ fp, H' a = H a) -> aV K CL H' Z' t v fp) (motive_2 := fun t v fp _ => (∀ a ∈ fp, H' a = H a) -> aJ K CL H' Z' t v fp) (motive_3 := fun t v fp _ => (∀ a ∈ fp, H' a = H a) -> cH K CL H' Z' t v fp) (motive_4 := fun t v fp _ => (∀ a ∈ fp, H' a = H a) -> bH K CL H' Z' t v fp)
   (fun h _ => .sh (h.mono e)) (fun h _ r k => .tup (e _ _ h) (r k)) (fun h _ r k => .lst ((k _ afP).trans h) (r fun a ha => k a (afS _ ha))) (fun h _ r k => .ins ((k _ afP).trans h) (r fun a ha => k a (afS _ ha))) (fun h f k => .oA ((k _ afP).trans h) (b5.mono e f)) (fun h _ r k => .dct ((k _ afP).trans h) (r fun a ha => k a (afS _ ha))) (fun _ r k => .pin (r k)) (fun h f k => .gq ((k _ afP).trans h) (ay.mono e f)) (fun _ => .nil) (fun _ _ h r k => .cons (h fun a ha => k a (afU _ ha)) (r fun a ha => k a (afQ _ ha))) (fun _ => .nil) (fun _ _ h r k => .cons (h fun a ha => k a (afU _ ha)) (r fun a ha => k a (afQ _ ha))) (fun _ => .nil) (fun _ _ h r k => .cons (h fun a ha => k a (afU _ ha)) (r fun a ha => k a (afQ _ ha))) h k
theorem bH.mono {H H' Z Z' : Hp} (e : aA Z Z') {t : List (List Key × T)} {v : List (List Key × V)} {fp : List Addr} (k : ∀ a ∈ fp, H' a = H a) (h : bH K CL H Z t v fp) : bH K CL H' Z' t v fp :=
 bH.rec (motive_1 := fun t v fp _ => (∀ a ∈ fp, H' a = H a) -> aV K CL H' Z' t v fp) (motive_2 := fun t v fp _ => (∀ a ∈ fp, H' a = H a) -> aJ K CL H' Z' t v fp) (motive_3 := fun t v fp _ => (∀ a ∈ fp, H' a = H a) -> cH K CL H' Z' t v fp) (motive_4 := fun t v fp _ => (∀ a ∈ fp, H' a = H a) -> bH K CL H' Z' t v fp)
   (fun h _ => .sh (h.mono e)) (fun h _ r k => .tup (e _ _ h) (r k)) (fun h _ r k => .lst ((k _ afP).trans h) (r fun a ha => k a (afS _ ha))) (fun h _ r k => .ins ((k _ afP).trans h) (r fun a ha => k a (afS _ ha))) (fun h f k => .oA ((k _ afP).trans h) (b5.mono e f)) (fun h _ r k => .dct ((k _ afP).trans h) (r fun a ha => k a (afS _ ha))) (fun _ r k => .pin (r k)) (fun h f k => .gq ((k _ afP).trans h) (ay.mono e f)) (fun _ => .nil) (fun _ _ h r k => .cons (h fun a ha => k a (afU _ ha)) (r fun a ha => k a (afQ _ ha))) (fun _ => .nil) (fun _ _ h r k => .cons (h fun a ha => k a (afU _ ha)) (r fun a ha => k a (afQ _ ha))) (fun _ => .nil) (fun _ _ h r k => .cons (h fun a ha => k a (afU _ ha)) (r fun a ha => k a (afQ _ ha))) h k
theorem aV.there {H Z : Hp} {t : T} {v : V} {fp : List Addr} (h : aV K CL H Z t v fp) : ∀ a ∈ fp, ∃ o, H a = some o :=
 aV.rec (motive_1 := fun t v fp _ => ∀ a ∈ fp, ∃ o, H a = some o) (motive_2 := fun t v fp _ => ∀ a ∈ fp, ∃ o, H a = some o) (motive_3 := fun t v fp _ => ∀ a ∈ fp, ∃ o, H a = some o) (motive_4 := fun t v fp _ => ∀ a ∈ fp, ∃ o, H a = some o)
   (fun _ a ha => absurd ha af9) (fun _ _ r => r) (fun h _ r a ha => (afX.mp ha).elim (fun q => ⟨_, q ▸ h⟩) (r a)) (fun h _ r a ha => (afX.mp ha).elim (fun q => ⟨_, q ▸ h⟩) (r a)) (fun h _ a ha => (afX.mp ha).elim (fun q => ⟨_, q ▸ h⟩) (fun q => absurd q af9)) (fun h _ r a ha => (afX.mp ha).elim (fun q => ⟨_, q ▸ h⟩) (r a)) (fun _ r => r) (fun h _ a ha => (afX.mp ha).elim (fun q => ⟨_, q ▸ h⟩) (fun q => absurd q af9)) (fun a ha => absurd ha af9) (fun _ _ h r a ha => (af0.mp ha).elim (h a) (r a)) (fun a ha => absurd ha af9) (fun _ _ h r a ha => (af0.mp ha).elim (h a) (r a)) (fun a ha => absurd ha af9) (fun _ _ h r a ha => (af0.mp ha).elim (h a) (r a)) h
theorem aJ.there {H Z : Hp} {t : List T} {v : List V} {fp : List Addr} (h : aJ K CL H Z t v fp) : ∀ a ∈ fp, ∃ o, H a = some o :=
 aJ.rec (motive_1 := fun t v fp _ => ∀ a ∈ fp, ∃ o, H a = some o) (motive_2 := fun t v fp _ => ∀ a ∈ fp, ∃ o, H a = some o) (motive_3 := fun t v fp _ => ∀ a ∈ fp, ∃ o, H a = some o) (motive_4 := fun t v fp _ => ∀ a ∈ fp, ∃ o, H a = some o)
   (fun _ a ha => absurd ha af9) (fun _ _ r => r) (fun h _ r a ha => (afX.mp ha).elim (fun q => ⟨_, q ▸ h⟩) (r a)) (fun h _ r a ha => (afX.mp ha).elim (fun q => ⟨_, q ▸ h⟩) (r a)) (fun h _ a ha => (afX.mp ha).elim (fun q => ⟨_, q ▸ h⟩) (fun q => absurd q af9)) (fun h _ r a ha => (afX.mp ha).elim (fun q => ⟨_, q ▸ h⟩) (r a)) (fun _ r => r) (fun h _ a ha => (afX.mp ha).elim (fun q => ⟨_, q ▸ h⟩) (fun q => absurd q af9)) (fun a ha => absurd ha af9) (fun _ _ h r a ha => (af0.mp ha).elim (h a) (r a)) (fun a ha => absurd ha af9) (fun _ _ h r a ha => (af0.mp ha).elim (h a) (r a)) (fun a ha => absurd ha af9) (fun _ _ h r a ha => (af0.mp ha).elim (h a) (r a)) h
theorem aV.bK {H Z Z' : Hp} (e : aA Z Z') {t : T} {v : V} {fp : List Addr} (k : ∀ a ∈ fp, Z' a = H a) (h : aV K CL H Z t v fp) : aU K CL Z' t.bK v :=
 aV.rec (motive_1 := fun t v fp _ => (∀ a ∈ fp, Z' a = H a) -> aU K CL Z' t.bK v) (motive_2 := fun t v fp _ => (∀ a ∈ fp, Z' a = H a) -> ay K CL Z' (T.d9 t) v) (motive_3 := fun t v fp _ => (∀ a ∈ fp, Z' a = H a) -> gM K CL Z' (T.tF t) v) (motive_4 := fun t v fp _ => (∀ a ∈ fp, Z' a = H a) -> bN K CL Z' (T.uV t) v)
   (fun h _ => by rw [T.bK]; exact h.mono e) (fun h _ r k => by rw [T.bK]; exact .tup (kN.of (e _ _ h)) (r k)) (fun h _ r k => by rw [T.bK]; exact .lst (k6.of ((k _ afP).trans h)) (r fun a ha => k a (afS _ ha))) (fun h _ r k => by rw [T.bK]; exact .ins ((k _ afP).trans h) (r fun a ha => k a (afS _ ha))) (fun h f k => by rw [T.bK]; exact .oA ((k _ afP).trans h) (b5.mono e f)) (fun h _ r k => by rw [T.bK]; exact .dct (.inl ((k _ afP).trans h)) (r fun a ha => k a (afS _ ha))) (fun _ r k => by rw [T.bK]; exact r k) (fun h f k => by rw [T.bK]; exact .gq ((k _ afP).trans h) (ay.mono e f)) (fun _ => by rw [T.d9]; exact .nil) (fun _ _ h r k => by rw [T.d9]; exact .cons (h fun a ha => k a (afU _ ha)) (r fun a ha => k a (afQ _ ha))) (fun _ => by rw [T.tF]; exact .nil) (fun _ _ h r k => by rw [T.tF]; exact .cons (h fun a ha => k a (afU _ ha)) (r fun a ha => k a (afQ _ ha))) (fun _ => by rw [T.uV]; exact .nil) (fun _ _ h r k => by rw [T.uV]; exact .cons (h fun a ha => k a (afU _ ha)) (r fun a ha => k a (afQ _ ha))) h k
theorem ay.ind {Z : Hp} {P : List D -> List V -> Prop} (n : P [] []) (c : ∀ {d : D} {v : V} {ds : List D} {vs : List V}, aU K CL Z d v -> ay K CL Z ds vs -> P ds vs -> P (d :: ds) (v :: vs)) {ds : List D} {vs : List V} (h : ay K CL Z ds vs) : P ds vs :=
 ay.rec (motive_1 := fun _ _ _ => True) (motive_2 := fun d v _ => P d v) (motive_3 := fun _ _ _ => True) (motive_4 := fun _ _ _ => True) (motive_5 := fun _ _ _ => True)
   trivial (fun _ => trivial) (fun _ => trivial) (fun _ => trivial) (fun _ => trivial) (fun _ => trivial) (fun _ _ _ => trivial) (fun _ _ _ => trivial) (fun _ _ _ => trivial) (fun _ _ _ => trivial) (fun _ _ _ => trivial) (fun _ _ _ => trivial) n (fun a b _ i => c a b i) trivial (fun _ _ _ _ => trivial) trivial (fun _ _ _ _ => trivial) trivial (fun _ _ _ _ => trivial) h
theorem b5.ind {Z : Hp} {P : List (Key × D) -> List (Key × V) -> Prop} (n : P [] []) (c : ∀ {x : Key} {d : D} {v : V} {ds : List (Key × D)} {vs : List (Key × V)}, aU K CL Z d v -> b5 K CL Z ds vs -> P ds vs -> P ((x, d) :: ds) ((x, v) :: vs)) {ds : List (Key × D)} {vs : List (Key × V)} (h : b5 K CL Z ds vs) : P ds vs :=
 b5.rec (motive_1 := fun _ _ _ => True) (motive_2 := fun _ _ _ => True) (motive_3 := fun _ _ _ => True) (motive_4 := fun d v _ => P d v) (motive_5 := fun _ _ _ => True)
   trivial (fun _ => trivial) (fun _ => trivial) (fun _ => trivial) (fun _ => trivial) (fun _ => trivial) (fun _ _ _ => trivial) (fun _ _ _ => trivial) (fun _ _ _ => trivial) (fun _ _ _ => trivial) (fun _ _ _ => trivial) (fun _ _ _ => trivial) trivial (fun _ _ _ _ => trivial) trivial (fun _ _ _ _ => trivial) n (fun a b _ i => c a b i) trivial (fun _ _ _ _ => trivial) h
theorem bN.ind {Z : Hp} {P : List (List Key × D) -> List (List Key × V) -> Prop} (n : P [] []) (c : ∀ {x : List Key} {d : D} {v : V} {ds : List (List Key × D)} {vs : List (List Key × V)}, aU K CL Z d v -> bN K CL Z ds vs -> P ds vs -> P ((x, d) :: ds) ((x, v) :: vs)) {ds : List (List Key × D)} {vs : List (List Key × V)} (h : bN K CL Z ds vs) : P ds vs :=
 bN.rec (motive_1 := fun _ _ _ => True) (motive_2 := fun _ _ _ => True) (motive_3 := fun _ _ _ => True) (motive_4 := fun _ _ _ => True) (motive_5 := fun d v _ => P d v)
   trivial (fun _ => trivial) (fun _ => trivial) (fun _ => trivial) (fun _ => trivial) (fun _ => trivial) (fun _ _ _ => trivial) (fun _ _ _ => trivial) (fun _ _ _ => trivial) (fun _ _ _ => trivial) (fun _ _ _ => trivial) (fun _ _ _ => trivial) trivial (fun _ _ _ _ => trivial) trivial (fun _ _ _ _ => trivial) trivial (fun _ _ _ _ => trivial) n (fun a b _ i => c a b i) h
theorem aJ.ind {H Z : Hp} {P : List T -> List V -> List Addr -> Prop} (n : P [] [] []) (c : ∀ {t : T} {v : V} {ts : List T} {vs : List V} {fp gp : List Addr}, aV K CL H Z t v fp -> aJ K CL H Z ts vs gp -> P ts vs gp -> P (t :: ts) (v :: vs) (fp ++ gp)) {ts : List T} {vs : List V} {fp : List Addr} (h : aJ K CL H Z ts vs fp) : P ts vs fp :=
 aJ.rec (motive_1 := fun _ _ _ _ => True) (motive_2 := fun d v f _ => P d v f) (motive_3 := fun _ _ _ _ => True) (motive_4 := fun _ _ _ _ => True)
   (fun _ => trivial) (fun _ _ _ => trivial) (fun _ _ _ => trivial) (fun _ _ _ => trivial) (fun _ _ => trivial) (fun _ _ _ => trivial) (fun _ _ => trivial) (fun _ _ => trivial) n (fun a b _ i => c a b i) trivial (fun _ _ _ _ => trivial) trivial (fun _ _ _ _ => trivial) h
theorem cH.ind {H Z : Hp} {P : List (Str × T) -> List (Str × V) -> List Addr -> Prop} (n : P [] [] []) (c : ∀ {x : Str} {t : T} {v : V} {ts : List (Str × T)} {vs : List (Str × V)} {fp gp : List Addr}, aV K CL H Z t v fp -> cH K CL H Z ts vs gp -> P ts vs gp -> P ((x, t) :: ts) ((x, v) :: vs) (fp ++ gp)) {ts : List (Str × T)} {vs : List (Str × V)} {fp : List Addr} (h : cH K CL H Z ts vs fp) : P ts vs fp :=
 cH.rec (motive_1 := fun _ _ _ _ => True) (motive_2 := fun _ _ _ _ => True) (motive_3 := fun d v f _ => P d v f) (motive_4 := fun _ _ _ _ => True)
   (fun _ => trivial) (fun _ _ _ => trivial) (fun _ _ _ => trivial) (fun _ _ _ => trivial) (fun _ _ => trivial) (fun _ _ _ => trivial) (fun _ _ => trivial) (fun _ _ => trivial) trivial (fun _ _ _ _ => trivial) n (fun a b _ i => c a b i) trivial (fun _ _ _ _ => trivial) h
theorem bH.ind {H Z : Hp} {P : List (List Key × T) -> List (List Key × V) -> List Addr -> Prop} (n : P [] [] []) (c : ∀ {x : List Key} {t : T} {v : V} {ts : List (List Key × T)} {vs : List (List Key × V)} {fp gp : List Addr}, aV K CL H Z t v fp -> bH K CL H Z ts vs gp -> P ts vs gp -> P ((x, t) :: ts) ((x, v) :: vs) (fp ++ gp)) {ts : List (List Key × T)} {vs : List (List Key × V)} {fp : List Addr} (h : bH K CL H Z ts vs fp) : P ts vs fp :=
 bH.rec (motive_1 := fun _ _ _ _ => True) (motive_2 := fun _ _ _ _ => True) (motive_3 := fun _ _ _ _ => True) (motive_4 := fun d v f _ => P d v f)
   (fun _ => trivial) (fun _ _ _ => trivial) (fun _ _ _ => trivial) (fun _ _ _ => trivial) (fun _ _ => trivial) (fun _ _ _ => trivial) (fun _ _ => trivial) (fun _ _ => trivial) trivial (fun _ _ _ _ => trivial) trivial (fun _ _ _ _ => trivial) n (fun a b _ i => c a b i) h
theorem ay.length {Z : Hp} {d : List D} {v : List V} (h : ay K CL Z d v) : d.length = v.length :=
 ay.ind (P := fun d v => d.length = v.length) rfl (fun _ _ i => congrArg (· + 1) i) h
theorem aJ.length {H Z : Hp} {d : List T} {v : List V} {fp : List Addr} (h : aJ K CL H Z d v fp) : d.length = v.length :=
 aJ.ind (P := fun d v _ => d.length = v.length) rfl (fun _ _ i => congrArg (· + 1) i) h
theorem eU.length {H Z : Hp} {d : List (Option T)} {v : L2.St} {fp : List Addr} (h : eU K CL H Z d v fp) : d.length = v.length := by
 induction h with
 | nil => rfl
 | skip _ i => exact congrArg (· + 1) i
 | cons _ _ i => exact congrArg (· + 1) i
theorem ay.get {Z : Hp} : ∀ {ds : List D} {vs : List V} {i : Nat} {d : D}, ay K CL Z ds vs -> ds[i]? = some d -> ∃ v, vs[i]? = some v /\ aU K CL Z d v
 | _, _, _, _, .nil, e => by simp at e
 | _, _, 0, _, .cons r _, e => by simp at e; subst e; exact ⟨_, rfl, r⟩
 | _, _, i + 1, d, .cons _ t, e => by
   obtain ⟨u, h1, h2⟩ := ay.get (i := i) (d := d) t (by simpa using e)
   exact ⟨u, by simpa using h1, h2⟩
theorem ay.SV {Z : Hp} : ∀ {ds : List D} {vs : List V} {i : Nat} {v : V}, ay K CL Z ds vs -> vs[i]? = some v -> ∃ d, ds[i]? = some d /\ aU K CL Z d v
 | _, _, _, _, .nil, e => by simp at e
 | _, _, 0, _, .cons r _, e => by simp at e; subst e; exact ⟨_, rfl, r⟩
 | _, _, i + 1, d, .cons _ t, e => by
   obtain ⟨u, h1, h2⟩ := ay.SV (i := i) (v := d) t (by simpa using e)
   exact ⟨u, by simpa using h1, h2⟩
theorem eU.get {H Z : Hp} : ∀ {δ : List (Option T)} {σ : L2.St} {fp : List Addr} {i : Nat} {t : T}, eU K CL H Z δ σ fp -> δ[i]? = some (some t) →
   ∃ v f1 f2 f3, σ[i]? = some (some v) /\ fp = f1 ++ (f2 ++ f3) /\ aV K CL H Z t v f2 ∧
     (∀ {H' Z' : Hp} {t' : T} {v' : V} {g : List Addr}, aA Z Z' -> (∀ a ∈ f1 ++ f3, H' a = H a) -> aV K CL H' Z' t' v' g -> eU K CL H' Z' (δ.set i (some t')) (σ.set i (some v')) (f1 ++ (g ++ f3))) ∧
     (∀ {o : Option V}, eU K CL H Z (δ.set i none) (σ.set i o) (f1 ++ f3)) := by
 intro δ σ fp i t h
 have mono : ∀ {H H' Z Z' : Hp} {δ : List (Option T)} {σ : L2.St} {fp : List Addr}, aA Z Z' -> (∀ a ∈ fp, H' a = H a) -> eU K CL H Z δ σ fp -> eU K CL H' Z' δ σ fp := by
   intro H H' Z Z' δ σ fp e k r
   induction r with
   | nil => exact .nil
   | skip _ ih => exact .skip (ih k)
   | cons r _ ih => exact .cons (r.mono e fun a ha => k a (afU _ ha)) (ih fun a ha => k a (afQ _ ha))
 induction h generalizing i with
 | nil => intro e; simp at e
 | @skip o δ σ fp r ih =>
   cases i with
   | zero => intro e; simp at e
   | succ i =>
     intro e
     obtain ⟨v, f1, f2, f3, h1, h2, h3, h4, h5⟩ := ih (i := i) (by simpa using e)
     exact ⟨v, f1, f2, f3, by simpa using h1, h2, h3, fun e k q => .skip (h4 e k q), .skip h5⟩
 | @cons t0 v0 δ σ fp gp r0 r ih =>
   cases i with
   | zero =>
     intro e
     simp at e
     subst e
     refine ⟨v0, [], fp, gp, rfl, rfl, r0, fun {H' Z' t' v' g} e k q => eU.cons (fp := g) (gp := gp) q (mono (fp := gp) e (fun a ha => k a (by simpa using ha)) r), .skip (by simpa using r)⟩
   | succ i =>
     intro e
     obtain ⟨v, f1, f2, f3, h1, h2, h3, h4, h5⟩ := ih (i := i) (by simpa using e)
     refine ⟨v, fp ++ f1, f2, f3, by simpa using h1, by rw [h2, List.append_assoc], h3, fun {H' Z' t' v' g} e k q => ?_, fun {o} => ?_⟩
     . rw [afW]
       exact .cons (r0.mono e fun a ha => k a (by simp [ha])) (h4 e (fun a ha => k a (by rw [afW]; exact afQ _ ha)) q)
     . rw [afW]
       exact .cons r0 h5
theorem eU.mono {H H' Z Z' : Hp} {δ : List (Option T)} {σ : L2.St} {fp : List Addr} (e : aA Z Z') (k : ∀ a ∈ fp, H' a = H a) (r : eU K CL H Z δ σ fp) : eU K CL H' Z' δ σ fp := by
 induction r with
 | nil => exact .nil
 | skip _ ih => exact .skip (ih k)
 | cons r _ ih => exact .cons (r.mono e fun a ha => k a (afU _ ha)) (ih fun a ha => k a (afQ _ ha))
theorem eU.there {H Z : Hp} {δ : List (Option T)} {σ : L2.St} {fp : List Addr} (r : eU K CL H Z δ σ fp) : ∀ a ∈ fp, ∃ o, H a = some o := by
 induction r with
 | nil => intro a ha; cases ha
 | skip _ ih => exact ih
 | cons r _ ih => exact fun a ha => (af0.mp ha).elim (r.there a) (ih a)
theorem eU.put {H Z : Hp} {δ : List (Option T)} {σ : L2.St} {fp : List Addr} (r : eU K CL H Z δ σ fp) {t : T} {v : V} {g : List Addr} (q : aV K CL H Z t v g) :
   ∀ {i : Nat}, i < δ.length -> ∃ f, eU K CL H Z (δ.set i (some t)) (σ.set i (some v)) f /\ ∃ f', f'.Sublist fp /\ f.Perm (g ++ f') := by
 induction r with
 | nil => intro i hi; simp at hi
 | @skip o δ σ fp r ih =>
   intro i hi
   cases i with
   | zero => exact ⟨g ++ fp, .cons q r, fp, agz _, ah9 _⟩
   | succ i =>
     obtain ⟨f, h1, f', h2, h3⟩ := ih (i := i) (by simpa using hi)
     exact ⟨f, .skip h1, f', h2, h3⟩
 | @cons t0 v0 δ σ fp gp r0 r ih =>
   intro i hi
   cases i with
   | zero => exact ⟨g ++ gp, .cons q r, gp, ag3 _ _, ah9 _⟩
   | succ i =>
     obtain ⟨f, h1, f', h2, h3⟩ := ih (i := i) (by simpa using hi)
     refine ⟨fp ++ f, .cons r0 h1, fp ++ f', agC (agz _) h2, ?_⟩
     refine (agy fp h3).trans ?_
     rw [← afW, ← afW]
     exact List.Perm.append_right f' agE
end
noncomputable def Br (X : Cx) (e : Expr) : TE := fun σ H Q => ∀ (pins : List (Addr × Obj)) (s : Shared), Inv X pins σ H s -> wpAny (model X.prog X.w) X.A (eval e X.env) (EP X pins σ Q) X.xe s
noncomputable def MN (X : Cx) (e : Expr) : TT := fun σ H Q => ∀ (pins : List (Addr × Obj)) (s : Shared), Inv X pins σ H s -> wpAny (model X.prog X.w) X.A (isTrue e X.env (eval e X.env)) (TP X pins σ Q) X.xe s
noncomputable def MP (X : Cx) (es : List Expr) : TA := fun σ H Q => ∀ (pos : Pos) (pins : List (Addr × Obj)) (s : Shared), Inv X pins σ H s -> wpAny (model X.prog X.w) X.A (spliced (backTo pos (starEach es X.env))) (AP X pins σ Q) X.xe s
noncomputable def HR (X : Cx) (st : Stmt) : TS := fun D σ H => ∀ (pins : List (Addr × Obj)) (s : Shared), Inv X pins σ H s -> wpAny (model X.prog X.w) X.A (exec st X.env) (SP X pins D) X.xe s
noncomputable def SW (X : Cx) (st : List Stmt) : TS := fun D σ H => ∀ (pins : List (Addr × Obj)) (s : Shared), Inv X pins σ H s -> wpAny (model X.prog X.w) X.A (execs st X.env) (SP X pins D) X.xe s
section
variable {X : Cx}
theorem b6 {e : Expr} : PE X e (Br X e) := fun pins s _ _ _ I h => h pins s I
theorem SX {e : Expr} : PT X e (MN X e) := fun pins s _ _ _ I h => h pins s I
theorem QI {e : List Expr} : PA X e (MP X e) := fun pos pins s _ _ _ I h => h pos pins s I
theorem psS {e : Stmt} : PS X e (HR X e) := fun pins s _ _ _ I h => h pins s I
theorem LZ {e : List Stmt} : C3 X e (SW X e) := fun pins s _ _ _ I h => h pins s I
theorem bO {e : Expr} {t : TE} (h : PE X e t) {σ : L2.St} {H : Hp} {Q : VK} (q : t σ H Q) : Br X e σ H Q := fun pins s I => h pins s σ H Q I q
theorem wU {e : Expr} {t : TT} (h : PT X e t) {σ : L2.St} {H : Hp} {Q : Bool -> Hp -> Prop} (q : t σ H Q) : MN X e σ H Q := fun pins s I => h pins s σ H Q I q
theorem MQ {e : List Expr} {t : TA} (h : PA X e t) {σ : L2.St} {H : Hp} {Q : List V -> Hp -> Prop} (q : t σ H Q) : MP X e σ H Q := fun pos pins s I => h pos pins s σ H Q I q
theorem kT {e : Stmt} {t : TS} (h : PS X e t) {σ : L2.St} {H : Hp} {D : Ends} (q : t D σ H) : HR X e D σ H := fun pins s I => h pins s σ H D I q
theorem XO {e : List Stmt} {t : TS} (h : C3 X e t) {σ : L2.St} {H : Hp} {D : Ends} (q : t D σ H) : SW X e D σ H := fun pins s I => h pins s σ H D I q
end
noncomputable def notStar : Expr -> Bool
 | .Starred _ _ => false
 | _ => true
theorem bD {e : Expr} {es : List Expr} {env : Env} (h : notStar e = true) : starEach (e :: es) env = (false, eval e env) :: starEach es env := by
 cases e <;> first | rfl | (cases h)
structure Bx where
 B : Hp
 Z : Hp
noncomputable def jj : HO -> Bool
 | .tup _ => true
 | .bK _ _ => true
 | _ => false
noncomputable def Dm (x : Str) : Bool := x.cps[0]? == some 35
noncomputable def abe (x : Str) : Str := ⟨x.cps.extract 1 x.cps.size⟩
noncomputable def lg (CL : Str -> Addr) (Z : Hp) : Prop := ∀ x, Dm x = true -> CL x ≠ 0 -> Z (CL x) = some (.tabs (abe x))
structure bf (K : PySem.W.Frag) (CL : Str -> Addr) (b : Bx) (H Z : Hp) (δ : List (Option T)) (σ : L2.St) (ts : List T) (vs : List V) : Prop where
 rep : ∃ fp gp, eU K CL H Z δ σ fp /\ aJ K CL H Z ts vs gp /\ (fp ++ gp).Nodup /\ ∀ a ∈ fp ++ gp, Z a = none /\ b.B a = none
 bh : aA b.B H
 zz : aA b.Z Z
 zh : aA Z H
 new : ∀ a o, Z a = some o -> b.Z a = none -> b.B a = none
 tp : ∀ a o, H a = some o -> jj o = true -> Z a = some o
 tab : lg CL b.Z
section
variable {K : PySem.W.Frag} {CL : Str -> Addr} {b : Bx} {H Z Z' : Hp} {δ : List (Option T)} {σ : L2.St} {ts : List T} {vs : List V} {t : T} {v : V}
theorem lg.mono {A B : Hp} (h : lg CL A) (e : aA A B) : lg CL B := fun x hx h0 => e _ _ (h x hx h0)
theorem bf.XQ (S : bf K CL b H Z δ σ ts vs) : lg CL Z := S.tab.mono S.zz
theorem bf.SY (S : bf K CL b H Z δ σ ts vs) : lg CL H := S.XQ.mono S.zh
theorem S6 {A B : Hp} (e : aA A B) {a : Addr} (h : B a = none) : A a = none := e.free h
theorem aA.upd {H : Hp} {p : Addr} {o : HO} (h : H p = none) : aA H (upd H p o) := fun b u e => by rw [ao (bu e h)]; exact e
theorem bf.view (S : bf K CL b H Z δ σ (t :: ts) (v :: vs)) : aU K CL H t.bK v := by
 obtain ⟨fp, gp, _, r, _, _⟩ := S.rep
 cases r with
 | cons r _ => exact r.bK S.zh fun _ _ => rfl
theorem bf.pop (S : bf K CL b H Z δ σ (t :: ts) (v :: vs)) : bf K CL b H Z δ σ ts vs := by
 obtain ⟨fp, gp, e, r, nd, k⟩ := S.rep
 cases r with
 | @cons _ _ _ _ f1 f2 r1 r2 =>
   refine ⟨⟨fp, f2, e, r2, nd.sublist (agC (agz _) (ag3 _ _)), fun a ha => k a ?_⟩, S.bh, S.zz, S.zh, S.new, S.tp, S.tab⟩
   rcases af0.mp ha with h | h
   . exact afU _ h
   . exact afQ _ (afQ _ h)
theorem bf.push {d : D} (S : bf K CL b H Z δ σ ts vs) (r : aU K CL Z d v) : bf K CL b H Z δ σ (.sh d :: ts) (v :: vs) := by
 obtain ⟨fp, gp, e, r2, nd, k⟩ := S.rep
 exact ⟨⟨fp, [] ++ gp, e, .cons (.sh r) r2, nd, k⟩, S.bh, S.zz, S.zh, S.new, S.tp, S.tab⟩
theorem bf.wV (S : bf K CL b H Z δ σ (t :: ts) (v :: vs)) : ∃ Z', aA Z Z' /\ bf K CL b H Z' δ σ (.sh t.bK :: ts) (v :: vs) := by
 classical
 obtain ⟨fp, gp, e, r, nd, k⟩ := S.rep
 cases r with
 | @cons _ _ _ _ f1 f2 r1 r2 =>
   have nZ : ∀ a ∈ f1, Z a = none /\ b.B a = none := fun a ha => k a (afQ _ (afU _ ha))
   have sz : aA Z (fun a => if a ∈ f1 then H a else Z a) := fun a o q => by
     by_cases ha : a ∈ f1
     . rw [(nZ a ha).1] at q; cases q
     . show (if a ∈ f1 then H a else Z a) = some o
       rw [af1 ha]; exact q
   have XR := agD.mp nd
   have dj : ∀ a ∈ fp ++ f2, a ∉ f1 := fun a ha h1 => by
     rcases af0.mp ha with h | h
     . exact XR.2.2 a h a (afU _ h1) rfl
     . exact (agD.mp XR.2.1).2.2 a h1 a h rfl
   refine ⟨fun a => if a ∈ f1 then H a else Z a, sz, ⟨⟨fp, [] ++ f2, e.mono sz (fun _ _ => rfl), .cons (.sh (r1.bK sz fun a ha => agb ha)) (r2.mono sz fun _ _ => rfl), ?_, fun a ha => ?_⟩, S.bh, S.zz.trans sz, fun a o q => ?_, fun a o q z => ?_, fun a o q i => ?_, S.tab⟩⟩
   . exact nd.sublist (agC (agz _) (ag3 _ _))
   . have S7 : a ∈ fp ++ f2 := ha
     refine ⟨?_, (k a ?_).2⟩
     . show (if a ∈ f1 then H a else Z a) = none
       rw [af1 (dj a S7)]
       refine (k a ?_).1
       rcases af0.mp S7 with h | h
       . exact afU _ h
       . exact afQ _ (afQ _ h)
     . rcases af0.mp S7 with h | h
       . exact afU _ h
       . exact afQ _ (afQ _ h)
   . have q' : (if a ∈ f1 then H a else Z a) = some o := q
     by_cases ha : a ∈ f1
     . rw [agb ha] at q'; exact q'
     . rw [af1 ha] at q'; exact S.zh a o q'
   . have q' : (if a ∈ f1 then H a else Z a) = some o := q
     by_cases ha : a ∈ f1
     . exact (nZ a ha).2
     . rw [af1 ha] at q'; exact S.new a o q' z
   . exact sz a o (S.tp a o q i)
theorem bf.move {i : Nat} (S : bf K CL b H Z δ σ ts vs) (hi : δ[i]? = some (some t)) : ∃ v, σ[i]? = some (some v) /\ bf K CL b H Z (δ.set i none) σ (t :: ts) (v :: vs) := by
 obtain ⟨fp, gp, e, r, nd, k⟩ := S.rep
 obtain ⟨v, f1, f2, f3, hv, nI, rt, _, del⟩ := e.get hi
 subst nI
 have abf : σ.set i (some v) = σ := by
   apply aid
   intro j
   rw [List.getElem?_set]
   split
   . rename_i h; subst h
     split
     . exact hv.symm
     . rename_i h2; rw [agN (by omega)]
   . rfl
 have hp : ((f1 ++ (f2 ++ f3)) ++ gp).Perm ((f1 ++ f3) ++ (f2 ++ gp)) := by
   have h1 : (f2 ++ f3).Perm (f3 ++ f2) := agE
   have h2 := (agy f1 h1).append_right gp
   simp only [afW] at h2 ⊢
   exact h2
 refine ⟨v, hv, ⟨⟨f1 ++ f3, f2 ++ gp, ?_, .cons rt r, hp.nodup_iff.mp nd, fun a ha => k a (hp.mem_iff.mpr ha)⟩, S.bh, S.zz, S.zh, S.new, S.tp, S.tab⟩⟩
 have := del (o := some v)
 rwa [abf] at this
theorem bf.look {i : Nat} (S : bf K CL b H Z δ σ ts vs) (hi : δ[i]? = some (some t)) : ∃ v, σ[i]? = some (some v) /\ aU K CL H t.bK v := by
 obtain ⟨fp, gp, e, r, nd, k⟩ := S.rep
 obtain ⟨v, f1, f2, f3, hv, nI, rt, _, _⟩ := e.get hi
 exact ⟨v, hv, rt.bK S.zh fun _ _ => rfl⟩
theorem bf.QJ {i : Nat} {d : D} (S : bf K CL b H Z δ σ ts vs) (hi : δ[i]? = some (some (.sh d))) : ∃ v, σ[i]? = some (some v) /\ aU K CL Z d v := by
 obtain ⟨fp, gp, e, r, nd, k⟩ := S.rep
 obtain ⟨v, f1, f2, f3, hv, nI, rt, _, _⟩ := e.get hi
 cases rt with
 | sh h => exact ⟨v, hv, h⟩
theorem bf.set {i : Nat} (S : bf K CL b H Z δ σ (t :: ts) (v :: vs)) (hi : i < δ.length) : bf K CL b H Z (δ.set i (some t)) (σ.set i (some v)) ts vs := by
 obtain ⟨fp, gp, e, r, nd, k⟩ := S.rep
 cases r with
 | @cons _ _ _ _ f1 f2 r1 r2 =>
   obtain ⟨f, h1, f', h2, h3⟩ := e.put r1 hi
   have hp : (f ++ f2).Perm (f' ++ (f1 ++ f2)) := by
     refine (h3.append_right f2).trans ?_
     rw [← afW]
     exact agE.append_right f2
   have HS : (f' ++ (f1 ++ f2)).Sublist (fp ++ (f1 ++ f2)) := agC h2 (agz _)
   exact ⟨⟨f, f2, h1, r2, hp.nodup_iff.mpr (nd.sublist HS), fun a ha => k a (HS.subset (hp.mem_iff.mp ha))⟩, S.bh, S.zz, S.zh, S.new, S.tp, S.tab⟩
end
mutual
noncomputable def D.iF : D -> Bool
 | .tup ds => D.aY ds
 | .lst _ => false
 | .ins _ _ => false
 | .oA _ => false
 | .dct _ => false
 | .any => false
 | .gq _ _ => false
 | _ => true
noncomputable def D.aY : List D -> Bool
 | [] => true
 | d :: ds => d.iF && D.aY ds
end
mutual
noncomputable def T.clean : T -> Bool
 | .sh d => d.iF
 | .tup ts => T.dz ts
 | .lst ts => T.dz ts
 | .ins _ fs => T.gy fs
 | .oA kvs => D.aY (kvs.map (·.2))
 | .dct kvs => T.jP kvs
 | .pin _ t => t.clean
 | .gq _ _ => false
noncomputable def T.dz : List T -> Bool
 | [] => true
 | t :: ts => t.clean && T.dz ts
noncomputable def T.gy : List (Str × T) -> Bool
 | [] => true
 | (_, t) :: ts => t.clean && T.gy ts
noncomputable def T.jP : List (List Key × T) -> Bool
 | [] => true
 | (_, t) :: ts => t.clean && T.jP ts
end
noncomputable def bG (X : Cx) (CL : Str -> Addr) (b : Bx) (e : Expr) (δ : List (Option T)) (t : T) (δ' : List (Option T)) : Prop :=
 ∀ (H Z : Hp) (σ : L2.St) (ts : List T) (vs : List V) (Q : VK), bf X.K CL b H Z δ σ ts vs -> (∀ v H' Z', aA Z Z' -> aA H H' -> bf X.K CL b H' Z' δ' σ (t :: ts) (v :: vs) -> Q v H') -> Br X e σ H Q
noncomputable def cL (X : Cx) (CL : Str -> Addr) (b : Bx) (e : Expr) (δ : List (Option T)) (d : D) (δ' : List (Option T)) : Prop :=
 ∀ (H Z : Hp) (σ : L2.St) (ts : List T) (vs : List V) (Q : VK), bf X.K CL b H Z δ σ ts vs -> (∀ v H' Z', aA Z Z' -> aA H H' -> bf X.K CL b H' Z' δ' σ ts vs -> aU X.K CL H' d v -> Q v H') -> Br X e σ H Q
noncomputable def oS (X : Cx) (CL : Str -> Addr) (b : Bx) (e : Expr) (δ : List (Option T)) (p : Bool) (δ' : List (Option T)) : Prop :=
 ∀ (H Z : Hp) (σ : L2.St) (ts : List T) (vs : List V) (Q : Bool -> Hp -> Prop), bf X.K CL b H Z δ σ ts vs -> (∀ H' Z', aA Z Z' -> aA H H' -> bf X.K CL b H' Z' δ' σ ts vs -> Q p H') -> MN X e σ H Q
noncomputable def Dn (X : Cx) (CL : Str -> Addr) (b : Bx) (es : List Expr) (δ : List (Option T)) (tl : List T) (δ' : List (Option T)) : Prop :=
 ∀ (H Z : Hp) (σ : L2.St) (ts : List T) (vs : List V) (Q : List V -> Hp -> Prop), bf X.K CL b H Z δ σ ts vs →
   (∀ us H' Z', us.length = tl.length -> aA Z Z' -> aA H H' -> bf X.K CL b H' Z' δ' σ (tl.reverse ++ ts) (us.reverse ++ vs) -> Q us H') -> MP X es σ H Q
noncomputable def L1 (X : Cx) (CL : Str -> Addr) (b : Bx) (es : List Expr) (δ : List (Option T)) (ds : List D) (δ' : List (Option T)) : Prop :=
 ∀ (H Z : Hp) (σ : L2.St) (ts : List T) (vs : List V) (Q : List V -> Hp -> Prop), bf X.K CL b H Z δ σ ts vs →
   (∀ us H' Z', aA Z Z' -> aA H H' -> bf X.K CL b H' Z' δ' σ ts vs -> ay X.K CL H' ds us -> Q us H') -> MP X es σ H Q
structure dH where
 nx : List (Option T) -> Prop
 rt : T -> List (Option T) -> Prop
 bk : List (Option T) -> Prop := fun _ => False
 ct : List (Option T) -> Prop := fun _ => False
structure Meets (K : PySem.W.Frag) (CL : Str -> Addr) (b : Bx) (Z : Hp) (ts : List T) (vs : List V) (D : dH) (E : Ends) : Prop where
 nx : ∀ δ' σ' H' Z', aA Z Z' -> bf K CL b H' Z' δ' σ' ts vs -> D.nx δ' -> E.nx σ' H'
 rt : ∀ t v H' Z' δ' σ', aA Z Z' -> bf K CL b H' Z' δ' σ' (t :: ts) (v :: vs) -> D.rt t δ' -> E.rt v H'
 bk : ∀ δ' σ' H' Z', aA Z Z' -> bf K CL b H' Z' δ' σ' ts vs -> D.bk δ' -> E.bk σ' H'
 ct : ∀ δ' σ' H' Z', aA Z Z' -> bf K CL b H' Z' δ' σ' ts vs -> D.ct δ' -> E.ct σ' H'
noncomputable def L4 (X : Cx) (CL : Str -> Addr) (b : Bx) (st : Stmt) (δ : List (Option T)) (D : dH) : Prop :=
 ∀ (H Z : Hp) (σ : L2.St) (ts : List T) (vs : List V) (E : Ends), bf X.K CL b H Z δ σ ts vs -> Meets X.K CL b Z ts vs D E -> HR X st E σ H
noncomputable def dw (X : Cx) (CL : Str -> Addr) (b : Bx) (st : List Stmt) (δ : List (Option T)) (D : dH) : Prop :=
 ∀ (H Z : Hp) (σ : L2.St) (ts : List T) (vs : List V) (E : Ends), bf X.K CL b H Z δ σ ts vs -> Meets X.K CL b Z ts vs D E -> SW X st E σ H
section
variable {K : PySem.W.Frag} {CL : Str -> Addr} {b : Bx} {H H' Z Z' : Hp} {δ : List (Option T)} {σ : L2.St} {ts : List T} {vs : List V} {t : T} {v : V}
theorem Meets.mono {D : dH} {E : Ends} (M : Meets K CL b Z ts vs D E) (e : aA Z Z') : Meets K CL b Z' ts vs D E :=
 ⟨fun _ _ _ _ s => M.nx _ _ _ _ (e.trans s), fun _ _ _ _ _ _ s => M.rt _ _ _ _ _ _ (e.trans s), fun _ _ _ _ s => M.bk _ _ _ _ (e.trans s), fun _ _ _ _ s => M.ct _ _ _ _ (e.trans s)⟩
theorem Dp {a : Addr} {xs : List V} (zh : ∀ a o, H a = some o -> jj o = true -> Z a = some o) (h : kN K H a xs) : kN K Z a xs := by
 rcases h with (h | ⟨o, h⟩) | h
 . exact .inl (.inl (zh _ _ h rfl))
 . exact .inl (.inr ⟨o, zh _ _ h rfl⟩)
 . exact .inr h
theorem aU.iF (zh : ∀ a o, H a = some o -> jj o = true -> Z a = some o) {d : D} {v : V} (k : d.iF = true) (h : aU K CL H d v) : aU K CL Z d v :=
 aU.rec (motive_1 := fun d v _ => d.iF = true -> aU K CL Z d v) (motive_2 := fun d v _ => D.aY d = true -> ay K CL Z d v) (motive_3 := fun d v _ => True) (motive_4 := fun d v _ => True) (motive_5 := fun d v _ => True)
   (fun _ => .non) (fun b _ => .bl b) (fun b _ => .int b) (fun b _ => .str b) (fun _ k => by rw [D.iF] at k; cases k) (fun b _ => .val b) (fun h _ r k => .tup (Dp zh h) (r (by rw [D.iF] at k; exact k))) (fun _ _ _ k => by rw [D.iF] at k; cases k) (fun _ _ _ k => by rw [D.iF] at k; cases k) (fun _ _ _ k => by rw [D.iF] at k; cases k) (fun _ _ _ k => by rw [D.iF] at k; cases k) (fun _ _ _ k => by rw [D.iF] at k; cases k) (fun _ => .nil) (fun _ _ h r k => by rw [D.aY, agk] at k; exact .cons (h k.1) (r k.2)) trivial (fun _ _ _ _ => trivial) trivial (fun _ _ _ _ => trivial) trivial (fun _ _ _ _ => trivial) h k
theorem ay.iF (zh : ∀ a o, H a = some o -> jj o = true -> Z a = some o) {d : List D} {v : List V} (k : D.aY d = true) (h : ay K CL H d v) : ay K CL Z d v :=
 ay.rec (motive_1 := fun d v _ => d.iF = true -> aU K CL Z d v) (motive_2 := fun d v _ => D.aY d = true -> ay K CL Z d v) (motive_3 := fun d v _ => True) (motive_4 := fun d v _ => True) (motive_5 := fun d v _ => True)
   (fun _ => .non) (fun b _ => .bl b) (fun b _ => .int b) (fun b _ => .str b) (fun _ k => by rw [D.iF] at k; cases k) (fun b _ => .val b) (fun h _ r k => .tup (Dp zh h) (r (by rw [D.iF] at k; exact k))) (fun _ _ _ k => by rw [D.iF] at k; cases k) (fun _ _ _ k => by rw [D.iF] at k; cases k) (fun _ _ _ k => by rw [D.iF] at k; cases k) (fun _ _ _ k => by rw [D.iF] at k; cases k) (fun _ _ _ k => by rw [D.iF] at k; cases k) (fun _ => .nil) (fun _ _ h r k => by rw [D.aY, agk] at k; exact .cons (h k.1) (r k.2)) trivial (fun _ _ _ _ => trivial) trivial (fun _ _ _ _ => trivial) trivial (fun _ _ _ _ => trivial) h k
theorem b5.clean {Z1 : Hp} (zi : ∀ {d : D} {v : V}, d.iF = true -> aU K CL Z1 d v -> aU K CL Z d v) {kvs : List (Key × D)} {gs : List (Key × V)} (k : D.aY (kvs.map (·.2)) = true) (h : b5 K CL Z1 kvs gs) : b5 K CL Z kvs gs :=
 b5.ind (P := fun kvs gs => D.aY (kvs.map (·.2)) = true -> b5 K CL Z kvs gs) (fun _ => .nil) (fun h _ i k => by rw [agd, D.aY, agk] at k; exact .cons (zi k.1 h) (i k.2)) h k
theorem aV.clean {Z1 : Hp} (zh : ∀ a xs, Z1 a = some (.tup xs) -> Z a = some (.tup xs)) (zi : ∀ {d : D} {v : V}, d.iF = true -> aU K CL Z1 d v -> aU K CL Z d v) {t : T} {v : V} {fp : List Addr} (k : t.clean = true) (h : aV K CL H Z1 t v fp) : aV K CL H Z t v fp :=
 aV.rec (motive_1 := fun t v fp _ => t.clean = true -> aV K CL H Z t v fp) (motive_2 := fun t v fp _ => T.dz t = true -> aJ K CL H Z t v fp) (motive_3 := fun t v fp _ => T.gy t = true -> cH K CL H Z t v fp) (motive_4 := fun t v fp _ => T.jP t = true -> bH K CL H Z t v fp)
   (fun h k => .sh (zi (by rw [T.clean] at k; exact k) h)) (fun h _ r k => .tup (zh _ _ h) (r (by rw [T.clean] at k; exact k))) (fun h _ r k => .lst h (r (by rw [T.clean] at k; exact k))) (fun h _ r k => .ins h (r (by rw [T.clean] at k; exact k))) (fun h f k => .oA h (b5.clean zi (by rw [T.clean] at k; exact k) f)) (fun h _ r k => .dct h (r (by rw [T.clean] at k; exact k))) (fun _ r k => .pin (r (by rw [T.clean] at k; exact k))) (fun _ _ k => by rw [T.clean] at k; cases k) (fun _ => .nil) (fun _ _ h r k => by rw [T.dz, agk] at k; exact .cons (h k.1) (r k.2)) (fun _ => .nil) (fun _ _ h r k => by rw [T.gy, agk] at k; exact .cons (h k.1) (r k.2)) (fun _ => .nil) (fun _ _ h r k => by rw [T.jP, agk] at k; exact .cons (h k.1) (r k.2)) h k
theorem bf.back {W W' : Hp} {fp : List Addr} (S : bf K CL b H Z δ σ ts vs) (hh : aA H H') (zw : aA Z W) (ww : aA W W') (wh : aA W' H') (new : ∀ a o, W' a = some o -> W a = none -> H a = none)
   (tp : ∀ a o, H' a = some o -> jj o = true -> W' a = some o) (r : aV K CL H' W' t v fp) (nd : fp.Nodup) (own : ∀ a ∈ fp, W' a = none /\ H a = none) (c : W = Z \/ t.clean = true) :
   ∃ Z', aA Z Z' /\ bf K CL b H' Z' δ σ (t :: ts) (v :: vs) := by
 classical
 let Z' : Hp := fun a => if (H a).isSome = true then Z a else W' a
 have zs : ∀ {a : Addr} {o : HO}, H a = some o -> Z' a = Z a := fun {a o} e => by
   show (if (H a).isSome = true then Z a else W' a) = Z a
   rw [agb (by rw [e]; rfl)]
 have zn : ∀ {a : Addr}, H a = none -> Z' a = W' a := fun {a} e => by
   show (if (H a).isSome = true then Z a else W' a) = W' a
   rw [af1 (by rw [e]; simp)]
 have sz : aA Z Z' := fun a o q => by rw [zs (S.zh a o q)]; exact q
 have zw' : ∀ a o, Z' a = some o -> W' a = some o := fun a o q => by
   cases e : H a with
   | none => rw [zn e] at q; exact q
   | some u => rw [zs e] at q; exact ww a o (zw a o q)
 have ztp : ∀ a o, H' a = some o -> jj o = true -> Z' a = some o := fun a o q i => by
   cases e : H a with
   | none => rw [zn e]; exact tp a o q i
   | some u =>
     rw [zs e]
     have := hh a u e
     rw [q] at this; cases this
     exact S.tp a o e i
 have r' : aV K CL H' Z' t v fp := by
   rcases c with c | c
   . have : Z' = W' := by
       funext a
       cases e : H a with
       | none => exact zn e
       | some u =>
         rw [zs e]
         cases q : W' a with
         | none =>
           cases q2 : Z a with
           | none => rfl
           | some o => rw [ww a o (zw a o q2)] at q; cases q
         | some o =>
           cases q2 : W a with
           | none => rw [new a o q q2] at e; cases e
           | some o2 =>
             have := ww a o2 q2
             rw [q] at this; cases this
             rw [← c]; exact q2
     rw [this]; exact r
   . refine aV.clean (fun a xs h => ?_) (fun {d v} k h => ?_) c r
     . exact ztp a _ (wh a _ h) rfl
     . exact aU.iF (H := H') ztp k (h.mono wh)
 obtain ⟨f0, g0, e0, r0, XS, k0⟩ := S.rep
 have old : ∀ a ∈ f0 ++ g0, ∃ o, H a = some o := fun a ha => (af0.mp ha).elim (e0.there a) (r0.there a)
 have keep : ∀ a ∈ f0 ++ g0, H' a = H a := fun a ha => by
   obtain ⟨o, e⟩ := old a ha
   rw [e]; exact hh a o e
 refine ⟨Z', sz, ⟨⟨f0, fp ++ g0, e0.mono sz (fun a ha => keep a (afU _ ha)), .cons r' (r0.mono sz fun a ha => keep a (afQ _ ha)), ?_, fun a ha => ?_⟩, S.bh.trans hh, S.zz.trans sz, fun a o q => wh a o (zw' a o q), fun a o q z => ?_, ztp, S.tab⟩⟩
 . have hp : (f0 ++ (fp ++ g0)).Perm (fp ++ (f0 ++ g0)) := by
     rw [← afW, ← afW]
     exact agE.append_right g0
   refine hp.nodup_iff.mpr (agD.mpr ⟨nd, XS, fun a ha c hc e => ?_⟩)
   subst e
   obtain ⟨o, q⟩ := old a hc
   rw [(own a ha).2] at q; cases q
 . have : a ∈ f0 ++ g0 \/ a ∈ fp := by
     simp only [af0] at ha ⊢
     rcases ha with h | h | h
     . exact .inl (.inl h)
     . exact .inr h
     . exact .inl (.inr h)
   rcases this with h | h
   . obtain ⟨o, q⟩ := old a h
     exact ⟨by rw [zs q]; exact (k0 a h).1, (k0 a h).2⟩
   . exact ⟨by rw [zn (own a h).2]; exact (own a h).1, S.bh.free (own a h).2⟩
 . cases e : H a with
   | none => exact S.bh.free e
   | some u => rw [zs e] at q; exact S.new a o q z
end
section
variable {X : Cx} {CL : Str -> Addr} {b : Bx} {δ δ1 δ2 : List (Option T)} {e e1 e2 : Expr} {t : T} {d d1 d2 : D} {pos : Pos}
theorem QK (h : bG X CL b e δ t δ1) : cL X CL b e δ t.bK δ1 := fun H Z σ ts vs Q S k => h H Z σ ts vs Q S fun v H' Z' z s S' => k v H' Z' z s S'.pop S'.view
theorem ah (h : bG X CL b e δ (.sh d) δ1) : cL X CL b e δ d δ1 := by have := QK h; rwa [T.bK] at this
theorem gX (h : cL X CL b e δ d δ1) (i : d.iF = true) : bG X CL b e δ (.sh d) δ1 := fun H Z σ ts vs Q S k => h H Z σ ts vs Q S fun v H' Z' z s S' r => k v H' Z' z s (S'.push (aU.iF S'.tp i r))
theorem Bs (h : bG X CL b e δ t δ1) : bG X CL b e δ (.sh t.bK) δ1 := fun H Z σ ts vs Q S k => h H Z σ ts vs Q S fun v H' Z' z s S' => by
 obtain ⟨Z2, z2, S2⟩ := S'.wV
 exact k v H' Z2 (z.trans z2) s S2
theorem aj {i : Int} {j : Nat} : bG X CL b (.Constant (.int i) j pos) δ (.sh (.int i)) δ := fun H Z σ ts vs Q S k => bO RK (k _ _ Z (.refl _) (.refl _) (S.push (.int i)))
theorem Dq {i : Bool} {j : Nat} : bG X CL b (.Constant (.bool i) j pos) δ (.sh (.bl i)) δ := fun H Z σ ts vs Q S k => bO WZ (k _ _ Z (.refl _) (.refl _) (S.push (.bl i)))
theorem cS {x : Str} {j : Nat} : bG X CL b (.Constant (.str x) j pos) δ (.sh (.str x)) δ := fun H Z σ ts vs Q S k => bO RL (k _ _ Z (.refl _) (.refl _) (S.push (.str x)))
section
variable (i : Nat) {x : Str} (hi : X.N[i]? = some x := by rfl) (hv : Wx X.env.scope x := by first | exact Or.inl rfl | exact Or.inr (Or.inl rfl) | exact Or.inr (Or.inr rfl)) (hd : (x == ("__debug__" : Str)) = false := by decide) (kK : (x == ("__classdict__" : Str)) = false := by decide)
include hi hv hd kK
theorem S8 (h : δ[i]? = some (some (.sh d)) := by rfl) : bG X CL b (.Name x pos) δ (.sh d) δ := fun H Z σ ts vs Q S k => by
 obtain ⟨v, e, r⟩ := S.QJ h
 exact bO (gW hi hv hd kK) ⟨v, e, k v H Z (.refl _) (.refl _) (S.push r)⟩
theorem MR (h : δ[i]? = some (some t) := by rfl) : bG X CL b (.Name x pos) δ t (δ.set i none) := fun H Z σ ts vs Q S k => by
 obtain ⟨v, e, S'⟩ := S.move h
 exact bO (gW hi hv hd kK) ⟨v, e, k v H Z (.refl _) (.refl _) S'⟩
theorem S9 (h : δ[i]? = some (some t) := by rfl) : cL X CL b (.Name x pos) δ t.bK δ := fun H Z σ ts vs Q S k => by
 obtain ⟨v, e, r⟩ := S.look h
 exact bO (gW hi hv hd kK) ⟨v, e, k v H Z (.refl _) (.refl _) S r⟩
end
noncomputable def Tc : D -> Option V
 | .non => some .non
 | .bl b => some (.bl b)
 | .int i => some (.int i)
 | .str x => some (.str x)
 | _ => none
theorem aU.sc {K : PySem.W.Frag} {Z : Hp} {d : D} {v w : V} (r : aU K CL Z d v) (h : Tc d = some w) : v = w := by
 cases r <;> first | (exact agf h) | (cases h)
theorem MS {K : PySem.W.Frag} {Z : Hp} {d : D} {w : V} (h : Tc d = some w) : aU K CL Z d w := by
 cases d <;> first | (cases h; constructor) | (cases h)
theorem nS {op : Operator} {r : R2} {w1 w2 w : V} (ho : kY X (binaryOp op) r) (h1 : cL X CL b e1 δ d1 δ1) (h2 : cL X CL b e2 δ1 d2 δ2) (s1 : Tc d1 = some w1) (s2 : Tc d2 = some w2) (s3 : Tc d = some w)
   (hr : ∀ (H : Hp) (Q : VK), Q w H -> r w1 w2 H Q) : bG X CL b (.BinOp e1 op e2 pos) δ (.sh d) δ2 := fun H Z σ ts vs Q S k => by
 refine bO (sX ho b6 b6) (h1 H Z σ ts vs _ S fun v1 H1 Z1 z1 k1 S1 r1 => h2 H1 Z1 σ ts vs _ S1 fun v2 H2 Z2 z2 k2 S2 r2 => ?_)
 rw [r1.sc s1, r2.sc s2]
 exact hr H2 Q (k w H2 Z2 (z1.trans z2) (k1.trans k2) (S2.push (MS s3)))
theorem bz {i j : Int} (h1 : cL X CL b e1 δ (.int i) δ1) (h2 : cL X CL b e2 δ1 (.int j) δ2) : bG X CL b (.BinOp e1 .Add e2 pos) δ (.sh (.int (i + j))) δ2 := nS Sg h1 h2 rfl rfl rfl fun _ _ q => ⟨i, j, rfl, rfl, q⟩
theorem wW {i j : Int} (h1 : cL X CL b e1 δ (.int i) δ1) (h2 : cL X CL b e2 δ1 (.int j) δ2) : bG X CL b (.BinOp e1 .Sub e2 pos) δ (.sh (.int (i - j))) δ2 := nS Sh h1 h2 rfl rfl rfl fun _ _ q => ⟨i, j, rfl, rfl, q⟩
theorem jk {i j : Int} (h1 : cL X CL b e1 δ (.int i) δ1) (h2 : cL X CL b e2 δ1 (.int j) δ2) (c : Mu i j) : bG X CL b (.BinOp e1 .Mult e2 pos) δ (.sh (.int (i * j))) δ2 := nS Si h1 h2 rfl rfl rfl fun _ _ q => ⟨i, j, rfl, rfl, c, q⟩
theorem bq {i j : Int} (h1 : cL X CL b e1 δ (.int i) δ1) (h2 : cL X CL b e2 δ1 (.int j) δ2) (c : 0 < j) : bG X CL b (.BinOp e1 .Mod e2 pos) δ (.sh (.int (i % j))) δ2 := nS Sj h1 h2 rfl rfl rfl fun _ _ q => ⟨i, j, rfl, rfl, c, q⟩
theorem dJ {i j : Int} (h1 : cL X CL b e1 δ (.int i) δ1) (h2 : cL X CL b e2 δ1 (.int j) δ2) (c : Xg i j) : bG X CL b (.BinOp e1 .FloorDiv e2 pos) δ (.sh (.int (i / j))) δ2 := nS Mv h1 h2 rfl rfl rfl fun _ _ q => ⟨i, j, rfl, rfl, c, q⟩
theorem HV {i j : Int} (h1 : cL X CL b e1 δ (.int i) δ1) (h2 : cL X CL b e2 δ1 (.int j) δ2) (c : Xh i j) : bG X CL b (.BinOp e1 .Pow e2 pos) δ (.sh (.int (i ^ j.toNat))) δ2 := nS Sl h1 h2 rfl rfl rfl fun _ _ q => ⟨i, j, rfl, rfl, c, q⟩
theorem nT {x y : Str} (h1 : cL X CL b e1 δ (.str x) δ1) (h2 : cL X CL b e2 δ1 (.str y) δ2) (c : x.length + y.length <= sizeLine) : bG X CL b (.BinOp e1 .Add e2 pos) δ (.sh (.str (x ++ y))) δ2 := nS Bc h1 h2 rfl rfl rfl fun _ _ q => ⟨x, y, rfl, rfl, c, q⟩
theorem Dr {op : CmpOp} {r : R2} {p : Bool} {w1 w2 : V} (ho : kY X (compareOp op) r) (h1 : cL X CL b e1 δ d1 δ1) (h2 : cL X CL b e2 δ1 d2 δ2) (s1 : Tc d1 = some w1) (s2 : Tc d2 = some w2)
   (hr : ∀ (H : Hp) (Q : VK), Q (.bl p) H -> r w1 w2 H Q) (hm : behindInMarks op e2 = false) : oS X CL b (.Compare e1 [op] [e2] pos) δ p δ2 /\ bG X CL b (.Compare e1 [op] [e2] pos) δ (.sh (.bl p)) δ2 := by
 constructor
 . intro H Z σ ts vs Q S k
   refine wU (oG ho b6 b6 hm) (h1 H Z σ ts vs _ S fun v1 H1 Z1 z1 k1 S1 r1 => h2 H1 Z1 σ ts vs _ S1 fun v2 H2 Z2 z2 k2 S2 r2 => ?_)
   rw [r1.sc s1, r2.sc s2]
   exact hr H2 _ ⟨p, rfl, k H2 Z2 (z1.trans z2) (k1.trans k2) S2⟩
 . intro H Z σ ts vs Q S k
   refine bO (oF ho b6 b6 hm) (h1 H Z σ ts vs _ S fun v1 H1 Z1 z1 k1 S1 r1 => h2 H1 Z1 σ ts vs _ S1 fun v2 H2 Z2 z2 k2 S2 r2 => ?_)
   rw [r1.sc s1, r2.sc s2]
   exact hr H2 _ (k _ H2 Z2 (z1.trans z2) (k1.trans k2) (S2.push (.bl p)))
theorem fS {i j : Int} (h1 : cL X CL b e1 δ (.int i) δ1) (h2 : cL X CL b e2 δ1 (.int j) δ2) : oS X CL b (.Compare e1 [.Eq] [e2] pos) δ (decide (i = j)) δ2 /\ bG X CL b (.Compare e1 [.Eq] [e2] pos) δ (.sh (.bl (decide (i = j)))) δ2 :=
 Dr Xj h1 h2 rfl rfl (fun _ _ q => ⟨rfl, by rw [show decide (V.int i = V.int j) = decide (i = j) by simp]; exact q⟩) (k8 _)
theorem Bt {i j : Int} (h1 : cL X CL b e1 δ (.int i) δ1) (h2 : cL X CL b e2 δ1 (.int j) δ2) : oS X CL b (.Compare e1 [.NotEq] [e2] pos) δ (!decide (i = j)) δ2 /\ bG X CL b (.Compare e1 [.NotEq] [e2] pos) δ (.sh (.bl (!decide (i = j)))) δ2 :=
 Dr Xk h1 h2 rfl rfl (fun _ _ q => ⟨rfl, by rw [show decide (V.int i = V.int j) = decide (i = j) by simp]; exact q⟩) (k8 _)
theorem XT {i j : Int} (h1 : cL X CL b e1 δ (.int i) δ1) (h2 : cL X CL b e2 δ1 (.int j) δ2) : oS X CL b (.Compare e1 [.Lt] [e2] pos) δ (decide (i < j)) δ2 /\ bG X CL b (.Compare e1 [.Lt] [e2] pos) δ (.sh (.bl (decide (i < j)))) δ2 := Dr Xl h1 h2 rfl rfl (fun _ _ q => ⟨i, j, rfl, rfl, q⟩) (k8 _)
theorem QL {i j : Int} (h1 : cL X CL b e1 δ (.int i) δ1) (h2 : cL X CL b e2 δ1 (.int j) δ2) : oS X CL b (.Compare e1 [.Gt] [e2] pos) δ (decide (j < i)) δ2 /\ bG X CL b (.Compare e1 [.Gt] [e2] pos) δ (.sh (.bl (decide (j < i)))) δ2 := Dr Xm h1 h2 rfl rfl (fun _ _ q => ⟨i, j, rfl, rfl, q⟩) (k8 _)
end
section
variable {K : PySem.W.Frag} {CL : Str -> Addr} {H Z : Hp}
theorem aJ.split : ∀ {as bs : List T} {us ws : List V} {gp : List Addr}, as.length = us.length -> aJ K CL H Z (as ++ bs) (us ++ ws) gp -> ∃ g1 g2, gp = g1 ++ g2 /\ aJ K CL H Z as us g1 /\ aJ K CL H Z bs ws g2
 | [], _, [], _, gp, _, r => ⟨[], gp, rfl, .nil, r⟩
 | [], _, _ :: _, _, _, h, _ => by simp at h
 | _ :: _, _, [], _, _, h, _ => by simp at h
 | a :: as, bs, u :: us, ws, gp, h, r => by
   cases r with
   | @cons _ _ _ _ f1 f2 r1 r2 =>
     obtain ⟨g1, g2, e, h1, h2⟩ := aJ.split (as := as) (us := us) (by simpa using h) r2
     exact ⟨f1 ++ g1, g2, by rw [e, afW], .cons r1 h1, h2⟩
theorem aJ.app {as bs : List T} {us ws : List V} {g1 g2 : List Addr} (h : aJ K CL H Z as us g1) (q : aJ K CL H Z bs ws g2) : aJ K CL H Z (as ++ bs) (us ++ ws) (g1 ++ g2) :=
 aJ.ind (P := fun as us g1 => aJ K CL H Z (as ++ bs) (us ++ ws) (g1 ++ g2)) q (fun r _ i => by rw [afW]; exact .cons r i) h
theorem aJ.rev : ∀ {as : List T} {us : List V} {g : List Addr}, aJ K CL H Z as.reverse us.reverse g -> ∃ g', aJ K CL H Z as us g' /\ g'.Perm g
 | [], [], g, r => by
   have r' : aJ K CL H Z [] [] g := r
   cases r'
   exact ⟨[], .nil, ah9 _⟩
 | [], u :: us, g, r => by have := r.length; simp at this
 | a :: as, [], g, r => by have := r.length; simp at this
 | a :: as, u :: us, g, r => by
   rw [aho, aho] at r
   have hl := r.length
   obtain ⟨g1, g2, e, r1, r2⟩ := aJ.split (by simp at hl ⊢; omega) r
   subst e
   obtain ⟨g', r', p⟩ := aJ.rev r1
   cases r2 with
   | @cons _ _ _ _ f1 f2 q1 q2 =>
     cases q2
     refine ⟨f1 ++ g', .cons q1 r', ?_⟩
     rw [agF]
     exact (agy f1 p).trans agE
theorem aJ.ofF : ∀ {ds : List D} {us : List V}, ay K CL Z ds us -> aJ K CL H Z (ds.map T.sh) us []
 | _, _, .nil => .nil
 | _, _, .cons r t => .cons (fp := []) (gp := []) (.sh r) (aJ.ofF t)
theorem aJ.toF : ∀ {ds : List D} {us : List V} {g : List Addr}, aJ K CL H Z (ds.map T.sh) us g -> ay K CL Z ds us /\ g = []
 | [], _, _, r => by
   have r' : aJ K CL H Z [] _ _ := r
   cases r'
   exact ⟨.nil, rfl⟩
 | d :: ds, _, _, r => by
   have r' : aJ K CL H Z (T.sh d :: ds.map T.sh) _ _ := r
   cases r' with
   | cons r1 r2 =>
     cases r1 with
     | sh h =>
       obtain ⟨q, e⟩ := aJ.toF r2
       exact ⟨.cons h q, by rw [e]; rfl⟩
theorem ia : ∀ (ds : List D), T.d9 (ds.map T.sh) = ds
 | [] => rfl
 | d :: ds => by rw [agd, T.d9, ia ds, T.bK]
end
section
variable {K : PySem.W.Frag} {CL : Str -> Addr} {b : Bx} {H Z : Hp} {δ : List (Option T)} {σ : L2.St} {ts tl : List T} {vs us : List V}
theorem bf.wX {p : Addr} (S : bf K CL b H Z δ σ (tl.reverse ++ ts) (us.reverse ++ vs)) (hl : us.length = tl.length) (hp : H p = none) :
   aA Z (upd Z p (.tup us)) /\ aA H (upd H p (.tup us)) /\ bf K CL b (upd H p (.tup us)) (upd Z p (.tup us)) δ σ (.tup tl :: ts) (.ref p :: vs) := by
 obtain ⟨fp, gp, e, r, nd, k⟩ := S.rep
 obtain ⟨g1, g2, eg, r1, r2⟩ := aJ.split (by simp [hl]) r
 subst eg
 obtain ⟨g', r', pm⟩ := r1.rev
 have zp : Z p = none := S.zh.free hp
 have sz : aA Z (upd Z p (.tup us)) := aA.upd zp
 have sh : aA H (upd H p (.tup us)) := aA.upd hp
 have keep : ∀ a ∈ fp ++ (g1 ++ g2), a ≠ p := fun a ha => by
   have : ∃ o, H a = some o := by
     rcases af0.mp ha with h | h
     . exact e.there a h
     . exact r.there a h
   obtain ⟨o, q⟩ := this
   exact bu q hp
 have QM : (fp ++ (g' ++ g2)).Perm (fp ++ (g1 ++ g2)) := (pm.append_right g2).append_left fp
 have kk : ∀ a ∈ fp ++ (g' ++ g2), a ≠ p := fun a ha => keep a (QM.mem_iff.mp ha)
 refine ⟨sz, sh, ⟨⟨fp, g' ++ g2, e.mono sz (fun a ha => ao (keep a (afU _ ha))), .cons (.tup az (r'.mono sz fun a ha => ao (kk a (by simp [ha])))) (r2.mono sz fun a ha => ao (keep a (by simp [ha]))), QM.nodup_iff.mpr nd, fun a ha => ?_⟩, S.bh.trans sh, S.zz.trans sz, fun a o q => ?_, fun a o q z => ?_, fun a o q i => ?_, S.tab⟩⟩
 . exact ⟨by rw [ao (kk a ha)]; exact (k a (QM.mem_iff.mp ha)).1, (k a (QM.mem_iff.mp ha)).2⟩
 . by_cases ha : a = p
   . subst ha; rw [az] at q ⊢; exact q
   . rw [ao ha] at q ⊢; exact S.zh a o q
 . by_cases ha : a = p
   . subst ha; exact S.bh.free hp
   . rw [ao ha] at q; exact S.new a o q z
 . by_cases ha : a = p
   . subst ha; rw [az] at q ⊢; exact q
   . rw [ao ha] at q ⊢; exact S.tp a o q i
theorem bf.qu {p : Addr} {g0 : List Addr} (S : bf K CL b H Z δ σ (tl.reverse ++ ts) (us.reverse ++ vs)) (hl : us.length = tl.length) (hp : H p = none) :
   aA H (upd H p (.lst us)) /\ bf K CL b (upd H p (.lst us)) Z δ σ (.lst tl :: ts) (.ref p :: vs) := by
 obtain ⟨fp, gp, e, r, nd, k⟩ := S.rep
 obtain ⟨g1, g2, eg, r1, r2⟩ := aJ.split (by simp [hl]) r
 subst eg
 obtain ⟨g', r', pm⟩ := r1.rev
 have zp : Z p = none := S.zh.free hp
 have sh : aA H (upd H p (.lst us)) := aA.upd hp
 have keep : ∀ a ∈ fp ++ (g1 ++ g2), a ≠ p := fun a ha => by
   have : ∃ o, H a = some o := by
     rcases af0.mp ha with h | h
     . exact e.there a h
     . exact r.there a h
   obtain ⟨o, q⟩ := this
   exact bu q hp
 have QM : (fp ++ (g' ++ g2)).Perm (fp ++ (g1 ++ g2)) := (pm.append_right g2).append_left fp
 have kk : ∀ a ∈ fp ++ (g' ++ g2), a ≠ p := fun a ha => keep a (QM.mem_iff.mp ha)
 have pm3 : (fp ++ ((p :: g') ++ g2)).Perm (p :: (fp ++ (g' ++ g2))) := by
   rw [agq]; exact agY
 refine ⟨sh, ⟨⟨fp, (p :: g') ++ g2, e.mono (.refl _) (fun a ha => ao (keep a (afU _ ha))), .cons (.lst az (r'.mono (.refl _) fun a ha => ao (kk a (by simp [ha])))) (r2.mono (.refl _) fun a ha => ao (keep a (by simp [ha]))), ?_, fun a ha => ?_⟩, S.bh.trans sh, S.zz, S.zh.trans sh, S.new, fun a o q i => ?_, S.tab⟩⟩
 . refine pm3.nodup_iff.mpr (agB.mpr ⟨fun h => kk p h rfl, QM.nodup_iff.mpr nd⟩)
 . rcases afX.mp (pm3.mem_iff.mp ha) with h | h
   . subst h; exact ⟨zp, S.bh.free hp⟩
   . exact k a (QM.mem_iff.mp h)
 . by_cases ha : a = p
   . subst ha; rw [az] at q; cases q; cases i
   . rw [ao ha] at q; exact S.tp a o q i
end
section
variable {X : Cx} {CL : Str -> Addr} {b : Bx} {δ δ1 δ2 : List (Option T)} {e e1 e2 : Expr} {es : List Expr} {t : T} {d : D} {tl : List T} {ds : List D} {p q : Bool} {pos : Pos}
theorem dP : Dn X CL b [] δ [] δ := fun H Z σ ts vs Q S k => MQ dW (k [] H Z rfl (.refl _) (.refl _) S)
theorem bY (h1 : bG X CL b e δ t δ1) (h2 : Dn X CL b es δ1 tl δ2) (hs : starEach (e :: es) X.env = (false, eval e X.env) :: starEach es X.env := by exact bD rfl) : Dn X CL b (e :: es) δ (t :: tl) δ2 := fun H Z σ ts vs Q S k =>
 MQ (cu b6 QI hs) (h1 H Z σ ts vs _ S fun v H1 Z1 z1 k1 S1 => h2 H1 Z1 σ _ _ _ S1 fun us H2 Z2 hl z2 k2 S2 => k (v :: us) H2 Z2 (by simp [hl]) (z1.trans z2) (k1.trans k2) (by
   rw [aho, aho, afW, afW]
   exact S2))
theorem aE : L1 X CL b [] δ [] δ := fun H Z σ ts vs Q S k => MQ dW (k [] H Z (.refl _) (.refl _) S .nil)
theorem ai (h1 : cL X CL b e δ d δ1) (h2 : L1 X CL b es δ1 ds δ2) (hs : starEach (e :: es) X.env = (false, eval e X.env) :: starEach es X.env := by exact bD rfl) : L1 X CL b (e :: es) δ (d :: ds) δ2 := fun H Z σ ts vs Q S k =>
 MQ (cu b6 QI hs) (h1 H Z σ ts vs _ S fun v H1 Z1 z1 k1 S1 r1 => h2 H1 Z1 σ _ _ _ S1 fun us H2 Z2 z2 k2 S2 r2 => k (v :: us) H2 Z2 (z1.trans z2) (k1.trans k2) S2 (.cons (r1.mono k2) r2))
theorem jQ {j : Nat} (h : Dn X CL b es δ tl δ1) (hl : tl.length <= sizeLine) : bG X CL b (.Tuple es j pos) δ (.tup tl) δ1 := fun H Z σ ts vs Q S k =>
 bO (Ss QI) (h H Z σ ts vs _ S fun us H1 Z1 hu z1 k1 S1 => ⟨by rw [hu]; exact hl, fun p hp => by
   obtain ⟨a, c, S2⟩ := S1.wX hu hp
   exact k _ _ _ (z1.trans a) (k1.trans c) S2⟩)
theorem aG {j : Nat} (h : Dn X CL b es δ (ds.map T.sh) δ1) (hl : ds.length <= sizeLine) : bG X CL b (.Tuple es j pos) δ (.sh (.tup ds)) δ1 := by
 have := Bs (jQ (pos := pos) (j := j) h (by simpa using hl))
 rwa [T.bK, ia] at this
theorem iK (h : Dn X CL b es δ tl δ1) (hl : tl.length <= sizeLine) : bG X CL b (.List es pos) δ (.lst tl) δ1 := fun H Z σ ts vs Q S k =>
 bO (Sv QI) (h H Z σ ts vs _ S fun us H1 Z1 hu z1 k1 S1 => ⟨by rw [hu]; exact hl, fun p hp => by
   obtain ⟨c, S2⟩ := S1.qu (g0 := []) hu hp
   exact k _ _ _ z1 (k1.trans c) S2⟩)
theorem lq (h : bG X CL b e δ (.sh (.bl p)) δ1) (he : ∀ whole, isTrue e X.env whole = (do let v ← whole; standAt e.pos; holding [v] (truthy v)) := by intro _; rfl) : oS X CL b e δ p δ1 := fun H Z σ ts vs Q S k =>
 wU (RN b6 he) (h H Z σ ts vs _ S fun v H1 Z1 z1 k1 S1 => ⟨p, by have := S1.view; rw [T.bK] at this; exact this.sc rfl, k H1 Z1 z1 k1 S1.pop⟩)
theorem lu (h : oS X CL b e δ p δ1) : oS X CL b (.UnaryOp .Not e pos) δ (!p) δ1 := fun H Z σ ts vs Q S k => wU (RT SX) (h H Z σ ts vs _ S fun H1 Z1 z1 k1 S1 => k H1 Z1 z1 k1 S1)
noncomputable def Td (X : Cx) (e : Expr) : TT := fun σ H Q => ∀ (whole : Sem Value) (pins : List (Addr × Obj)) (s : Shared), Inv X pins σ H s -> wpAny (model X.prog X.w) X.A (isTrue e X.env whole) (TP X pins σ Q) X.xe s
theorem pwS {e : Expr} : PW X e (Td X e) := fun whole pins s _ _ _ I h => h whole pins s I
noncomputable def Te (X : Cx) (CL : Str -> Addr) (b : Bx) (e : Expr) (δ : List (Option T)) (p : Bool) (δ' : List (Option T)) : Prop :=
 ∀ (H Z : Hp) (σ : L2.St) (ts : List T) (vs : List V) (Q : Bool -> Hp -> Prop), bf X.K CL b H Z δ σ ts vs -> (∀ H' Z', aA Z Z' -> aA H H' -> bf X.K CL b H' Z' δ' σ ts vs -> Q p H') -> Td X e σ H Q
theorem MT {t : TT} (h : PW X e t) {σ : L2.St} {H : Hp} {Q : Bool -> Hp -> Prop} (q : t σ H Q) : Td X e σ H Q := fun whole pins s I => h whole pins s σ H Q I q
theorem uW (h : Te X CL b e δ p δ1) : oS X CL b e δ p δ1 := fun H Z σ ts vs Q S k pins s I => h H Z σ ts vs Q S k _ pins s I
theorem Ds (h : oS X CL b e δ p δ1) : Te X CL b (.BoolOp .And [e] pos) δ p δ1 := fun H Z σ ts vs Q S k => MT (Mq SX) (h H Z σ ts vs _ S k)
theorem ly (h : oS X CL b e δ p δ1) : Te X CL b (.BoolOp .Or [e] pos) δ p δ1 := fun H Z σ ts vs Q S k => MT (RP SX) (h H Z σ ts vs _ S k)
theorem HW (h : oS X CL b e δ p δ1) (h2 : p = true -> Te X CL b (.BoolOp .And (e2 :: es) pos) δ1 q δ1) : Te X CL b (.BoolOp .And (e :: e2 :: es) pos) δ (p && q) δ1 := fun H Z σ ts vs Q S k =>
 MT (RQ SX pwS) (h H Z σ ts vs _ S fun H1 Z1 z1 k1 S1 => by
   cases p with
   | true => exact Fb (h2 rfl H1 Z1 σ ts vs _ S1 fun H2 Z2 z2 k2 S2 => k H2 Z2 (z1.trans z2) (k1.trans k2) S2)
   | false => exact E9 (k H1 Z1 z1 k1 S1))
theorem oU (h : oS X CL b e δ p δ1) (h2 : p = false -> Te X CL b (.BoolOp .Or (e2 :: es) pos) δ1 q δ1) : Te X CL b (.BoolOp .Or (e :: e2 :: es) pos) δ (p || q) δ1 := fun H Z σ ts vs Q S k =>
 MT (W0 SX pwS) (h H Z σ ts vs _ S fun H1 Z1 z1 k1 S1 => by
   cases p with
   | true => exact Fb (k H1 Z1 z1 k1 S1)
   | false => exact E9 (h2 rfl H1 Z1 σ ts vs _ S1 fun H2 Z2 z2 k2 S2 => k H2 Z2 (z1.trans z2) (k1.trans k2) S2))
theorem Bu {op : BoolOp} (h : bG X CL b e δ t δ1) : bG X CL b (.BoolOp op [e] pos) δ t δ1 := fun H Z σ ts vs Q S k => bO (RV b6) (h H Z σ ts vs _ S k)
theorem HX (h : bG X CL b e δ (.sh (.bl p)) δ1) (h2 : p = true -> bG X CL b (.BoolOp .And (e2 :: es) pos) δ1 (.sh (.bl q)) δ1) : bG X CL b (.BoolOp .And (e :: e2 :: es) pos) δ (.sh (.bl (p && q))) δ1 := fun H Z σ ts vs Q S k =>
 bO (RW b6 b6) (h H Z σ ts vs _ S fun v H1 Z1 z1 k1 S1 => by
   have hv : v = .bl p := by have := S1.view; rw [T.bK] at this; exact this.sc rfl
   refine ⟨p, hv, ?_⟩
   cases p with
   | true => exact Fb (h2 rfl H1 Z1 σ ts vs _ S1.pop fun v H2 Z2 z2 k2 S2 => k v H2 Z2 (z1.trans z2) (k1.trans k2) S2)
   | false => exact E9 (k _ H1 Z1 z1 k1 (S1.pop.push (.bl false))))
theorem XU (h : bG X CL b e δ (.sh (.bl p)) δ1) (h2 : p = false -> bG X CL b (.BoolOp .Or (e2 :: es) pos) δ1 (.sh (.bl q)) δ1) : bG X CL b (.BoolOp .Or (e :: e2 :: es) pos) δ (.sh (.bl (p || q))) δ1 := fun H Z σ ts vs Q S k =>
 bO (W4 b6 b6) (h H Z σ ts vs _ S fun v H1 Z1 z1 k1 S1 => by
   have hv : v = .bl p := by have := S1.view; rw [T.bK] at this; exact this.sc rfl
   refine ⟨p, hv, ?_⟩
   cases p with
   | true => exact Fb (k _ H1 Z1 z1 k1 (S1.pop.push (.bl true)))
   | false => exact E9 (h2 rfl H1 Z1 σ ts vs _ S1.pop fun v H2 Z2 z2 k2 S2 => k v H2 Z2 (z1.trans z2) (k1.trans k2) S2))
theorem Tf (h : bG X CL b e δ (.sh (.bl p)) δ1) : bG X CL b (.UnaryOp .Not e pos) δ (.sh (.bl (!p))) δ1 := fun H Z σ ts vs Q S k =>
 bO (L2.RX b6) (h H Z σ ts vs _ S fun v H1 Z1 z1 k1 S1 => ⟨p, by have := S1.view; rw [T.bK] at this; exact this.sc rfl, k _ H1 Z1 z1 k1 (S1.pop.push (.bl (!p)))⟩)
theorem rT {K : PySem.W.Frag} {Z : Hp} {vs : List V} {k : Int} (r : ay K CL Z ds vs) (h : oJ ds k = some d) : ∃ v, oJ vs k = some v /\ aU K CL Z d v := by
 unfold oJ at h ⊢
 rw [← r.length]
 cases e : Dg ds.length k with
 | none => rw [e] at h; cases h
 | some j =>
   rw [e] at h
   exact r.get h
theorem gA {k : Int} (h1 : cL X CL b e1 δ (.tup ds) δ1) (h2 : cL X CL b e2 δ1 (.int k) δ2) (hk : oJ ds k = some d) (hs : jO e2 := by exact fun _ _ => rfl) : cL X CL b (.Subscript e1 e2 pos) δ d δ2 := fun H Z σ ts vs Q S kk =>
 bO (vF HD b6 b6 hs) (h1 H Z σ ts vs _ S fun v1 H1 Z1 z1 k1 S1 r1 => h2 H1 Z1 σ ts vs _ S1 fun v2 H2 Z2 z2 k2 S2 r2 => by
   have Fg := r1.mono k2
   cases Fg with
   | tup hq rr =>
     obtain ⟨v, hv, rv⟩ := rT rr hk
     exact ⟨_, _, k, v, rfl, r2.sc rfl, hq, hv, kk v H2 Z2 (z1.trans z2) (k1.trans k2) S2 rv⟩)
theorem cC {k : Int} (h1 : cL X CL b e1 δ (.lst ds) δ1) (h2 : cL X CL b e2 δ1 (.int k) δ2) (hk : oJ ds k = some d) (hs : jO e2 := by exact fun _ _ => rfl) : cL X CL b (.Subscript e1 e2 pos) δ d δ2 := fun H Z σ ts vs Q S kk =>
 bO (vF wJ b6 b6 hs) (h1 H Z σ ts vs _ S fun v1 H1 Z1 z1 k1 S1 r1 => h2 H1 Z1 σ ts vs _ S1 fun v2 H2 Z2 z2 k2 S2 r2 => by
   have Fg := r1.mono k2
   cases Fg with
   | lst hq rr =>
     obtain ⟨v, hv, rv⟩ := rT rr hk
     exact ⟨_, _, k, v, rfl, r2.sc rfl, hq, hv, kk v H2 Z2 (z1.trans z2) (k1.trans k2) S2 rv⟩)
theorem HY {k : Int} {x : Str} {c : Nat} (h1 : cL X CL b e1 δ (.str x) δ1) (h2 : cL X CL b e2 δ1 (.int k) δ2) (hl : x.length <= sizeLine) (hk : oJ x.cps.toList k = some c) (hs : jO e2 := by exact fun _ _ => rfl) : bG X CL b (.Subscript e1 e2 pos) δ (.sh (.str ⟨#[c]⟩)) δ2 := fun H Z σ ts vs Q S kk =>
 bO (vF SD b6 b6 hs) (h1 H Z σ ts vs _ S fun v1 H1 Z1 z1 k1 S1 r1 => h2 H1 Z1 σ ts vs _ S1 fun v2 H2 Z2 z2 k2 S2 r2 =>
   ⟨x, k, c, r1.sc rfl, r2.sc rfl, hl, hk, kk _ H2 Z2 (z1.trans z2) (k1.trans k2) (S2.push (.str _))⟩)
theorem Bv {k : Int} (h1 : bG X CL b e1 δ (.sh (.tup ds)) δ1) (h2 : cL X CL b e2 δ1 (.int k) δ2) (hk : oJ ds k = some d) (hs : jO e2 := by exact fun _ _ => rfl) : bG X CL b (.Subscript e1 e2 pos) δ (.sh d) δ2 := fun H Z σ ts vs Q S kk =>
 bO (vF HD b6 b6 hs) (h1 H Z σ ts vs _ S fun v1 H1 Z1 z1 k1 S1 => h2 H1 Z1 σ _ _ _ S1 fun v2 H2 Z2 z2 k2 S2 r2 => by
   obtain ⟨fp, gp, _, r, _, _⟩ := S2.rep
   cases r with
   | cons r _ =>
     cases r with
     | sh r =>
       cases r with
       | tup hq rr =>
         obtain ⟨v, hv, rv⟩ := rT rr hk
         exact ⟨_, _, k, v, rfl, r2.sc rfl, aA.rS S2.zh hq, hv, kk v H2 Z2 (z1.trans z2) (k1.trans k2) (S2.pop.push rv)⟩)
theorem fu {k : Int} (h1 : bG X CL b e1 δ (.sh (.lst ds)) δ1) (h2 : cL X CL b e2 δ1 (.int k) δ2) (hk : oJ ds k = some d) (hs : jO e2 := by exact fun _ _ => rfl) : bG X CL b (.Subscript e1 e2 pos) δ (.sh d) δ2 := fun H Z σ ts vs Q S kk =>
 bO (vF wJ b6 b6 hs) (h1 H Z σ ts vs _ S fun v1 H1 Z1 z1 k1 S1 => h2 H1 Z1 σ _ _ _ S1 fun v2 H2 Z2 z2 k2 S2 r2 => by
   obtain ⟨fp, gp, _, r, _, _⟩ := S2.rep
   cases r with
   | cons r _ =>
     cases r with
     | sh r =>
       cases r with
       | lst hq rr =>
         obtain ⟨v, hv, rv⟩ := rT rr hk
         exact ⟨_, _, k, v, rfl, r2.sc rfl, S2.zh.seq hq, hv, kk v H2 Z2 (z1.trans z2) (k1.trans k2) (S2.pop.push rv)⟩)
end
section
variable {K : PySem.W.Frag} {CL : Str -> Addr} {b : Bx} {H Z : Hp} {δ : List (Option T)} {σ : L2.St} {ts : List T} {vs us : List V} {t : T} {v : V}
theorem bf.oV : ∀ {ds : List D} {us : List V} {ts : List T} {vs : List V}, ay K CL Z ds us -> bf K CL b H Z δ σ ts vs -> bf K CL b H Z δ σ ((ds.map T.sh).reverse ++ ts) (us.reverse ++ vs)
 | _, _, _, _, .nil, S => S
 | _, _, ts, vs, .cons (d := d) (v := v) (ds := ds) (vs := us) r t, S => by
   rw [agd, aho, aho, afW, afW]
   exact bf.oV t (S.push r)
end
section
variable {X : Cx} {CL : Str -> Addr} {b : Bx} {δ δ1 : List (Option T)} {e : Expr} {es : List Expr} {t : T} {ds : List D} {p q : Bool} {pos pp : Pos}
theorem Dt (hm : X.mg "len" = none) (h : cL X CL b e δ (.lst ds) δ1) (hg : Gl X "len" := by rfl) (hs : starEach [e] X.env = (false, eval e X.env) :: starEach [] X.env := by exact bD rfl) (hpl : (backTo pos (starEach ([] : List Expr) X.env)).any (·.1) = false := by rfl) : bG X CL b (.Call (.Name "len" pp) [e] [] pos) δ (.sh (.int ds.length)) δ1 := fun H Z σ ts vs Q S k =>
 bO (iJ wL hg hm PySem.boot_len (cu b6 dW hs) (he := hs)) (h H Z σ ts vs _ S fun v H1 Z1 z1 k1 S1 r => by
   cases r with
   | lst hq rr => exact ⟨_, _, rfl, .inl hq, by rw [← rr.length]; exact k _ H1 Z1 z1 k1 (S1.push (.int _))⟩)
theorem fU (hm : X.mg "list" = none) (h : cL X CL b e δ (.lst ds) δ1) (hi : D.aY ds = true) (hg : Gl X "list" := by rfl) (hv : bootBuiltins "list" = some (.type "list") := by rfl) (hs : starEach [e] X.env = (false, eval e X.env) :: starEach [] X.env := by exact bD rfl) : bG X CL b (.Call (.Name "list" pp) [e] [] pos) δ (.lst (ds.map T.sh)) δ1 := fun H Z σ ts vs Q S k =>
 bO (gu wM hg hm hv (cu b6 dW hs) (he := hs)) (h H Z σ ts vs _ S fun v H1 Z1 z1 k1 S1 r => by
   cases r with
   | lst hq rr =>
     refine ⟨_, _, rfl, .inl hq, fun l hl => ?_⟩
     obtain ⟨c, S2⟩ := (bf.oV (ay.iF S1.tp hi rr) S1).qu (g0 := []) (by simp [rr.length]) hl
     exact k _ _ _ z1 (k1.trans c) S2)
noncomputable def GZ (K : PySem.W.Frag) (CL : Str -> Addr) {A : Type} (n : Nat) (arg : A -> List D) (Pre : A -> Prop) (res : A -> T) : Sp := fun vs H Q _ =>
 ∃ (W : Hp) (a : A), aA W H /\ (∀ c o, H c = some o -> jj o = true -> W c = some o) /\ ay K CL W (arg a) vs /\ (arg a).length = n /\ Pre a /\ lg CL W ∧
   ∀ v H' W' fp, aA H H' -> aA W W' -> aA W' H' -> (∀ c o, W' c = some o -> W c = none -> H c = none) -> (∀ c o, H' c = some o -> jj o = true -> W' c = some o) →
     aV K CL H' W' (res a) v fp -> fp.Nodup -> (∀ c ∈ fp, W' c = none /\ H c = none) -> Q v H'
section
variable {A : Type} {k n : Nat} {f : Addr} {fd : FuncData} {ps : List Str} {arg : A -> List D} {Pre : A -> Prop} {res : A -> T} {x : Str}
theorem MV (a : A) (F : g9 X.prog X.w X.K X.mg X.base vI k f fd ps (GZ X.K CL n arg Pre res)) (hr : fc k X.A) (hm : X.mg x = some (.ref f)) (hk : PySem.W.keepIn X.K (.ref f) = true) (hb : Binds X.K fd ps [])
   (h : L1 X CL b (e :: es) δ (arg a) δ1) (hn : (arg a).length = n) (hp : Pre a) (hc : (res a).clean = true) (hg : Gl X x)
   (sZ : (x == ("__debug__" : Str)) = false := by decide) (he : starEach (e :: es) X.env = (false, eval e X.env) :: starEach es X.env := by exact bD rfl) (hpl : (backTo pos (starEach es X.env)).any (·.1) = false := by rfl) :
   bG X CL b (.Call (.Name x pp) (e :: es) [] pos) δ (res a) δ1 := fun H Z σ ts vs Q S kk =>
 bO (My F hr hg hm hk hb .nil HK QI sZ he hpl) (h H Z σ ts vs _ S fun us H1 Z1 z1 k1 S1 r => by
   rw [agF]
   refine ⟨H1, a, .refl _, fun _ _ q _ => q, r, hn, hp, S1.SY, fun v H' W' fp hh ww wh nw tp rt nd own => ?_⟩
   obtain ⟨Z', z', S'⟩ := S1.back hh S1.zh ww wh nw tp rt nd own (.inr hc)
   exact kk v H' Z' (z1.trans z') (k1.trans hh) S')
end
variable {D D' : dH} {st : Stmt} {eo XW : List Stmt}
theorem Meets.to {K : PySem.W.Frag} {Z : Hp} {ts : List T} {vs : List V} {E : Ends} (M : Meets K CL b Z ts vs D E) (h1 : ∀ δ, D'.nx δ -> D.nx δ) (h2 : ∀ t δ, D'.rt t δ -> D.rt t δ) (h3 : ∀ δ, D'.bk δ -> D.bk δ) (h4 : ∀ δ, D'.ct δ -> D.ct δ) : Meets K CL b Z ts vs D' E :=
 ⟨fun _ _ _ _ s S k => M.nx _ _ _ _ s S (h1 _ k), fun _ _ _ _ _ _ s S k => M.rt _ _ _ _ _ _ s S (h2 _ _ k), fun _ _ _ _ s S k => M.bk _ _ _ _ s S (h3 _ k), fun _ _ _ _ s S k => M.ct _ _ _ _ s S (h4 _ k)⟩
theorem aF (h : D.nx δ) : dw X CL b [] δ D := fun H Z σ ts vs E S M => XO Mr (M.nx δ σ H Z (.refl _) S h)
theorem bW (h : L4 X CL b st δ { D with nx := fun δ1 => dw X CL b eo δ1 D }) : dw X CL b (st :: eo) δ D := fun H Z σ ts vs E S M =>
 XO (Hg psS LZ) (h H Z σ ts vs _ S ⟨fun δ' σ' H' Z' s S' k => k H' Z' σ' ts vs E S' (M.mono s), M.rt, M.bk, M.ct⟩)
theorem Tg (h : bG X CL b e δ t δ1) (k : D.rt t δ1) : L4 X CL b (.Return (some e) pos) δ D := fun H Z σ ts vs E S M => kT (RZ b6) (h H Z σ ts vs _ S fun v H1 Z1 z1 k1 S1 => M.rt t v H1 Z1 δ1 σ z1 S1 k)
theorem XY (h : oS X CL b e δ p δ1) (h1 : p = true -> dw X CL b eo δ1 D) (h2 : p = false -> dw X CL b XW δ1 D) : L4 X CL b (.If e eo XW pos) δ D := fun H Z σ ts vs E S M =>
 kT (W7 SX LZ LZ) (h H Z σ ts vs _ S fun H1 Z1 z1 k1 S1 => by
   cases p with
   | true => exact Fb (h1 rfl H1 Z1 σ ts vs E S1 (M.mono z1))
   | false => exact E9 (h2 rfl H1 Z1 σ ts vs E S1 (M.mono z1)))
theorem HZ (i : Nat) {x : Str} {pos' : Pos} (h : bG X CL b e δ t δ1) (k : D.nx (δ1.set i (some t))) (hl : i < δ1.length := by decide) (hN : X.N.Nodup := by assumption) (hi : X.N[i]? = some x := by rfl) (hx : Loc X.env.scope x := by first | exact .inl rfl | exact .inr rfl)
   (hs : swapsWith e (some (.Name x pos')) pos.line X.env = pure false := by rfl) (hf : X.fn x = true \/ X.env.scope.names.lookup x = some .local := by first | exact .inl rfl | exact .inr rfl | assumption) : L4 X CL b (.Assign [.Name x pos'] e pos) δ D := fun H Z σ ts vs E S M =>
 kT (R9 hN hi hx b6 hs hf) (h H Z σ ts vs _ S fun v H1 Z1 z1 k1 S1 => M.nx _ _ H1 Z1 z1 (S1.set hl) k)
end
noncomputable def entry (N : List Str) (ds : List D) : List (Option T) := ds.map (fun d => some (T.sh d)) ++ List.replicate (N.length - ds.length) none
theorem jR {K : PySem.W.Frag} {CL : Str -> Addr} {H Z : Hp} : ∀ {ds : List D} {vs : List V} (n : Nat), ay K CL Z ds vs -> eU K CL H Z (ds.map (fun d => some (T.sh d)) ++ List.replicate n none) (vs.map some ++ List.replicate n none) []
 | _, _, 0, .nil => .nil
 | _, _, n + 1, .nil => .skip (jR (ds := []) (vs := []) n .nil)
 | _, _, n, .cons r t => .cons (fp := []) (gp := []) (.sh r) (jR n t)
theorem Du {P : Program} {w : World} {K : PySem.W.Frag} {mg : Str -> Option Value} {base : Heap} {CL : Str -> Addr} {x qual : Str} {st : Stmt} {f : Addr} {fd : FuncData} {N ps : List Str} {k : Nat} {A : Type} {arg : A -> List D} {Pre : A -> Prop} {res : A -> T} (F : jM K x qual st f fd) (S : aQ N ps (au st))
   (hb : ∀ (ji : Value) (Ar : Around) (outer : List Env) (s : Shared) (H : Hp) (E : XK) (b : Bx) (a : A), fc k (Ar.deeper (envOfC qual (au st) s.heap.objs.size f ji)) -> Pre a →
     dw (uT vI P w K mg base N qual (au st) f ji Ar outer s H E).Qw CL b (fQ st) (entry N (arg a)) { nx := fun _ => res a = .sh .non, rt := fun t _ => t = res a }) :
   g9 P w K mg base vI (k + 1) f fd ps (GZ K CL ps.length arg Pre res) := by
 refine F.ok S (fun vs H Q E h => ?_) (fun ji Ar outer s H vs Q E hr h => ?_)
 . obtain ⟨W, a, _, _, r, hl, _⟩ := h
   rw [← r.length]; exact hl
 . obtain ⟨W, a, wh, tp, r, hl, hp, tb, kk⟩ := h
   refine ⟨_, LZ, hb ji Ar outer s H E ⟨H, W⟩ a hr hp H W _ [] [] _ ⟨⟨[], [], ?_, .nil, ahi, fun a ha => by cases ha⟩, .refl _, .refl _, wh, fun a o q z => ?_, tp, tb⟩ ⟨fun δ' σ' H' Z' s' S' e => ?_, fun t v H' Z' δ' σ' s' S' e => ?_, fun _ _ _ _ _ _ e => e.elim, fun _ _ _ _ _ _ e => e.elim⟩⟩
   . unfold entry L2.start
     rw [← r.length]
     exact jR _ r
   . have q' : W a = some o := q
     have z' : W a = none := z
     rw [q'] at z'; cases z'
   . exact kk .non H' Z' [] S'.bh S'.zz S'.zh S'.new S'.tp (by rw [show res a = .sh .non from e]; exact .sh .non) ahi fun a ha => by cases ha
   . have e' : t = res a := e
     subst e'
     obtain ⟨fp, gp, _, r', nd, own⟩ := S'.rep
     cases r' with
     | @cons _ _ _ _ f1 f2 r1 r2 =>
       have h1 := (agD.mp nd).2.1
       exact kk v H' Z' f1 S'.bh S'.zz S'.zh S'.new S'.tp r1 (agD.mp h1).1 fun a ha => own a (afQ _ (afU _ ha))
section
variable {prog : Program} {w : World} {A : Around} {R : Result -> Shared -> Prop} {s : Shared}
theorem wY {elt target iter : Expr} {ifs : List Expr} {scope : Scope} {pos : Pos} {it acc : Value} {env : Env} (I : Nat -> Shared -> Prop)
   (turn : ∀ n s, I n s -> wpAny (model prog w) A (pyNext it) (fun r s₁ => match r with
     | none => R (.ok .next) s₁
     | some v => wpAny (model prog w) A (letOwnedTupleGo target it v) (fun _ QN => wpAny (model prog w) A (assign target env v) (fun _ s₂ =>
         wpAny (model prog w) A (forIn ifs true fun c r => if r = true then do let ok ← isTrue c env (eval c env); pure (ForInStep.yield ok) else pure (ForInStep.yield r)) (fun ok s₃ =>
           if ok = true then wpAny (model prog w) A (eval elt env) (fun x s₄ =>
             wpAny (model prog w) A (call (.builtin "list.append") [acc, x]) (fun _ s₅ => ∃ m, m < n /\ I m s₅) (fun _ _ => False) s₄) (fun _ _ => False) s₃
           else ∃ m, m < n /\ I m s₃) (fun _ _ => False) s₂) (fun _ _ => False) QN) (fun _ _ => False) s₁) (fun _ _ => False) s)
   (n : Nat) (h : I n s) :
   codeAny (model prog w) A (.compLoop (.ListComp elt [⟨target, iter, ifs, 0⟩] scope pos) 0 it acc env) R s := by
 refine codeAny_loop rfl I (fun n s hI => ?_) n h
 show wpAny _ A ((compTurn (.ListComp elt [⟨target, iter, ifs, 0⟩] scope pos) 0 it acc env).onRaise (fun x => do noteFrame x env; theTreesLotGoes x)) _ _ s
 refine wpAny_noted ?_
 rw [compTurn_list]
 refine afN (wpAny_standAt (afN (ag7 (turn n s hI) (fun r s₁ h₁ => ?_) fun _ _ h' => h'.elim)))
 cases r with
 | none => exact afT h₁
 | some v =>
   refine afN (ag7 h₁ (fun _ QN XZ => ?_) fun _ _ h' => h'.elim)
   refine afN (ag7 XZ (fun _ s₂ h₂ => afN (ag7 h₂ (fun ok s₃ h₃ => ?_) fun _ _ h' => h'.elim)) fun _ _ h' => h'.elim)
   cases ok with
   | false => exact afT ⟨rfl, h₃⟩
   | true =>
     exact afN (afN (ag7 h₃ (fun x s₄ h₄ => afN (ag7 h₄ (fun _ s₅ h₅ => afT (afT ⟨rfl, h₅⟩)) fun _ _ h' => h'.elim)) fun _ _ h' => h'.elim))
end
noncomputable def fV (env : Env) : List (Str × NameKind) -> List (Str × Addr) -> List (Str × Addr)
 | [], cs => cs
 | (n, k) :: r, cs => fV env r (if k == .free then (n, (env.cells.lookup n).getD 0) :: cs else cs)
theorem uX {scope : Scope} {env : Env} (h : ∀ x ∈ scope.names, x.2 = .free -> ∃ c, env.cells.lookup x.1 = some c) : closureFor scope env = pure (fV env scope.names []) := by
 have go : ∀ (l : List (Str × NameKind)) (cs : List (Str × Addr)), (∀ x ∈ l, x.2 = .free -> ∃ c, env.cells.lookup x.1 = some c) →
     (forIn l cs fun x r => match x with | (name, kind) => if (kind == NameKind.free) = true then do let a ← cellOf env name; pure (ForInStep.yield ((name, a) :: r)) else pure (ForInStep.yield r) : Sem (List (Str × Addr))) = pure (fV env l cs) := by
   intro l
   induction l with
   | nil => intro cs _; rfl
   | cons x r ih =>
     intro cs hx
     obtain ⟨n, k⟩ := x
     rw [List.forIn_cons]
     by_cases hk : k = .free
     . subst hk
       obtain ⟨c, hc⟩ := hx (n, .free) afP rfl
       have e : cellOf env n = pure c := by unfold cellOf; rw [hc]
       simp only [ahg, ahS, e, pure_bind]
       rw [ih _ fun y hy => hx y (afS _ hy)]
       simp only [fV, ahg, ahS]
       rw [hc]; rfl
     . have hb : (k == NameKind.free) = false := by simpa using hk
       simp only [hb, ahj, ahl, pure_bind]
       rw [ih _ fun y hy => hx y (afS _ hy)]
       simp only [fV, hb, ahj, ahl]
 unfold closureFor
 have := go scope.names [] h
 simp only [bind_pure] at this ⊢
 exact this
theorem nU {env : Env} : ∀ {l : List (Str × NameKind)} {cs : List (Str × Addr)} {y : Str} {c : Addr}, (∀ x ∈ l, x.2 = .free -> ∃ c, env.cells.lookup x.1 = some c) -> (∀ y c, cs.lookup y = some c -> env.cells.lookup y = some c) →
   (fV env l cs).lookup y = some c -> env.cells.lookup y = some c
 | [], cs, y, c, _, h, e => h y c e
 | (n, k) :: r, cs, y, c, hx, h, e => by
   refine nU (l := r) (fun z hz => hx z (afS _ hz)) (fun z d hz => ?_) e
   by_cases hk : k = .free
   . subst hk
     obtain ⟨c', hc⟩ := hx (n, .free) afP rfl
     simp only [ahg, ahS, hc, Option.getD_some, agn] at hz
     by_cases hzn : (z == n) = true
     . rw [hzn] at hz
       have : z = n := by simpa using hzn
       subst this
       cases hz
       exact hc
     . have : (z == n) = false := by simpa using hzn
       rw [this] at hz
       exact h z d hz
   . have hb : (k == NameKind.free) = false := by simpa using hk
     rw [hb] at hz
     exact h z d hz
theorem qW {env : Env} {y : Str} : ∀ {l : List (Str × NameKind)} {cs : List (Str × Addr)}, (∃ c, cs.lookup y = some c) -> ∃ c, (fV env l cs).lookup y = some c
 | [], cs, h => h
 | (n, k) :: r, cs, h => by
   refine qW (l := r) ?_
   by_cases hk : (k == NameKind.free) = true
   . rw [agb hk, agn]
     by_cases hy : (y == n) = true
     . rw [hy]; exact ⟨_, rfl⟩
     . have : (y == n) = false := by simpa using hy
       rw [this]; exact h
   . rw [af1 hk]; exact h
theorem nV {env : Env} {y : Str} : ∀ {l : List (Str × NameKind)} {cs : List (Str × Addr)}, l.lookup y = some .free -> ∃ c, (fV env l cs).lookup y = some c
 | [], _, h => by simp at h
 | (n, k) :: r, cs, h => by
   rw [agn] at h
   by_cases hy : (y == n) = true
   . rw [hy] at h
     cases h
     refine qW (l := r) ?_
     rw [agb (by rfl), agn, hy]
     exact ⟨_, rfl⟩
   . have : (y == n) = false := by simpa using hy
     rw [this] at h
     exact nV (l := r) h
noncomputable def dB (X : Cx) (scope : Scope) (Nc : List Str) (C : Addr) (s : Shared) (H : Hp) (fp : List Addr) : Cx where
 prog := X.prog
 w := X.w
 K := X.K
 mg := X.mg
 base := X.base
 A := X.A
 N := Nc
 s₀ := s
 H₀ := H
 env := compEnvC scope (fV X.env scope.names []) C X.env
 outer := X.stack
 stack := X.stack
 ex := fp
 fn := fun _ => false
 calm := X.calm
 pn := []
 xe := fun _ _ => False
structure jA (X : Cx) (scope : Scope) (x : Str) (Nc : List Str) (ix : List Nat) : Prop where
 kind : scope.kind = .function
 wZ : ∀ y ∈ scope.names, y.2 ≠ .cell
 nd : Nc.Nodup
 names : ∀ y ∈ scope.names, y.2 = .local -> scope.names.lookup y.1 = some .local
 own : scope.names.lookup x = some .local
 frees : ∀ y ∈ scope.names, y.2 = .free -> scope.names.lookup y.1 = some .free /\ (X.env.kindOf y.1 = some .cell \/ X.env.kindOf y.1 = some .free)
 hd : Nc = x :: ix.filterMap (X.N[·]?)
 X3 : ∀ i ∈ ix, ∃ y, X.N[i]? = some y /\ scope.names.lookup y = some .free
theorem e7 {env : Env} : ∀ {names : List (Str × NameKind)} {x : Str} {k : NameKind}, names.lookup x = some k -> 
   (names.map fun (n, k) => if (k == NameKind.free && env.scope.kind == .function && env.kindOf n == some .cell) then (n, NameKind.cell) else (n, k)).lookup x = some (if (k == NameKind.free && env.scope.kind == .function && env.kindOf x == some .cell) then .cell else k)
 | [], _, _, h => by simp at h
 | (n, k') :: r, x, k, h => by
   have ih := @e7 env r x k
   show List.lookup x ((if (k' == NameKind.free && env.scope.kind == .function && env.kindOf n == some .cell) = true then (n, NameKind.cell) else (n, k')) :: _) = _
   cases hx : x == n with
   | true =>
     simp only [agn, hx] at h
     cases h
     have e : x = n := by simpa using hx
     subst e
     split <;> simp [agn]
   | false =>
     simp only [agn, hx] at h
     split
     . simp only [agn, hx]; exact ih h
     . simp only [agn, hx]; exact ih h
theorem g5 {env : Env} : ∀ {names : List (Str × NameKind)} {x : Str}, names.lookup x = none -> 
   (names.map fun (n, k) => if (k == NameKind.free && env.scope.kind == .function && env.kindOf n == some .cell) then (n, NameKind.cell) else (n, k)).lookup x = none
 | [], _, _ => rfl
 | (n, k') :: r, x, h => by
   have ih := @g5 env r x
   show List.lookup x ((if (k' == NameKind.free && env.scope.kind == .function && env.kindOf n == some .cell) = true then (n, NameKind.cell) else (n, k')) :: _) = _
   cases hx : x == n with
   | true => simp only [agn, hx] at h; cases h
   | false =>
     simp only [agn, hx] at h
     split
     . simp only [agn, hx]; exact ih h
     . simp only [agn, hx]; exact ih h
section
variable {X : Cx} {scope : Scope} {Nc : List Str} {pins : List (Addr × Obj)} {σ : L2.St} {H : Hp} {s : Shared}
theorem Fi {fp : List Addr} {C2 : List (Addr × Obj)} {σ' : L2.St} {H' : Hp} {s' : Shared} {WC : Heap} (I : Inv X pins σ H s) (nI : ∀ b ∈ fp, rB X pins H b)
   (J : Inv (dB X scope Nc s.heap.objs.size s H fp) C2 σ' H' s') (hs : Heap.SameBut s.heap.objs.size s'.heap WC) : Inv X pins σ H' { s' with heap := WC } := by
 have un : Un (GV X.stack) fp H H' s.heap s'.heap := J.base
 have un2 : Un (GV X.stack) fp H H' s.heap WC := by
   have ne : ∀ b o, s.heap.get? b = some o -> b ≠ s.heap.objs.size := fun b o e => agG (agj e)
   refine ⟨fun b o e n hb hx => (hs.2 b (ne b o e)).trans (un.keep b o e n hb hx), fun b o e n hb hx => ?_, un.free, fun b o e hx => ?_, un.uQ, un.d9, un.uR⟩
   . obtain ⟨sl, q⟩ := un.slot b o e n hb hx
     exact ⟨sl, (hs.2 b (ne b o e)).trans q⟩
   . obtain ⟨o', q⟩ := un.there b o e hx
     exact ⟨o', (hs.2 b (ne b o e)).trans q⟩
 have nC : H' s.heap.objs.size = none := J.free
 have c6 : oz X.prog X.w H' WC := fun b u e => by
   refine (J.c6 b u e).uP (fun c v hc q => (hs.2 c ?_).trans q) (fun _ q => q) fun _ _ q => q
   rintro rfl
   rcases hc with z | z
   . subst z; rw [nC] at e; cases e
   . rw [nC] at z; cases z
 obtain ⟨hh, g, d, t, Wz⟩ := s'
 obtain rfl : Wz = s.os := J.os
 show L2.Inv X pins σ H' { s with heap := WC, gens := g, drawn := d, toks := t }
 exact I.call (h' := WC) (g' := g) (d' := d) (t' := t) (ch := fp) un2 c6 J.bare fun b hb => ⟨(nI b hb).2.2.2.1, (nI b hb).2.1, (nI b hb).2.2.2.2.1, (nI b hb).2.2.2.2.2⟩
noncomputable def Ti (X : Cx) : List Expr -> TT
 | [] => fun _ H Q => Q true H
 | [c] => MN X c
 | _ => fun _ _ _ => False
theorem Ic {ifs : List Expr} {Q : Bool -> Hp -> Prop} (I : Inv X pins σ H s) (h : Ti X ifs σ H Q) (hx : X.xe = fun _ _ => False) :
   wpAny (model X.prog X.w) X.A (forIn ifs true fun c r => if r = true then do let ok ← isTrue c X.env (eval c X.env); pure (ForInStep.yield ok) else pure (ForInStep.yield r)) (TP X pins σ Q) (fun _ _ => False) s := by
 match ifs, h with
 | [], h => exact wpAny_tests_nil ⟨H, I, h⟩
 | [c], h =>
   have := h pins s I
   rw [hx] at this
   exact wpAny_tests_one this
end
noncomputable def ZV (X : Cx) (CL : Str -> Addr) (b : Bx) (ifs : List Expr) (δ : List (Option T)) (p : Bool) : Prop :=
 match ifs with
 | [] => p = true
 | [c] => oS X CL b c δ p δ
 | _ => False
theorem ZV.sem {X : Cx} {CL : Str -> Addr} {b : Bx} {ifs : List Expr} {δ : List (Option T)} {p : Bool} (h : ZV X CL b ifs δ p) {H Z : Hp} {σ : L2.St} {Q : Bool -> Hp -> Prop} (S : bf X.K CL b H Z δ σ [] [])
   (k : ∀ H' Z', aA Z Z' -> aA H H' -> bf X.K CL b H' Z' δ σ [] [] -> Q p H') : Ti X ifs σ H Q := by
 match ifs, h with
 | [], h =>
   have e : p = true := h
   subst e
   exact k H Z (.refl _) (.refl _) S
 | [c], h => exact (show oS X CL b c δ p δ from h) H Z σ [] [] Q S k
theorem vK {ts : List T} : (T.lst ts).clean = T.dz ts := by rw [T.clean]
theorem tG {g : D -> T} : ∀ {ds : List D}, (∀ d ∈ ds, (g d).clean = true) -> T.dz (ds.map g) = true
 | [], _ => by rw [ahC, T.dz]
 | d :: ds, h => by
   rw [agd, T.dz, h d afP, tG fun e he => h e (afS _ he)]
   rfl
section
variable {K : PySem.W.Frag} {CL : Str -> Addr} {b : Bx} {H H' Z : Hp} {δ : List (Option T)} {σ : L2.St} {ts tl : List T} {vs us : List V} {t : T} {v : V}
theorem aJ.at : ∀ {tl : List T} {us : List V} {fp : List Addr} {j : Nat} {t : T}, aJ K CL H Z tl us fp -> tl[j]? = some t -> ∃ v f1 f2 f3, us[j]? = some v /\ fp = f1 ++ (f2 ++ f3) /\ aV K CL H Z t v f2 ∧
   ∀ {H' : Hp} {t' : T} {v' : V} {g : List Addr}, (∀ a ∈ f1 ++ f3, H' a = H a) -> aV K CL H' Z t' v' g -> aJ K CL H' Z (tl.set j t') (us.set j v') (f1 ++ (g ++ f3))
 | _, _, _, _, _, .nil, e => by simp at e
 | _, _, _, 0, _, .cons (fp := fp) (gp := gp) r q, e => by
   simp at e
   subst e
   exact ⟨_, [], fp, gp, rfl, rfl, r, fun {H' t' v' g} k r' => aJ.cons (fp := g) (gp := gp) r' (aJ.mono (fp := gp) (.refl _) (fun a ha => k a (by simpa using ha)) q)⟩
 | _, _, _, j + 1, t, .cons (fp := fp) (gp := gp) r q, e => by
   obtain ⟨v, f1, f2, f3, h1, h2, h3, h4⟩ := aJ.at (j := j) (t := t) q (by simpa using e)
   refine ⟨v, fp ++ f1, f2, f3, by simpa using h1, by rw [h2, List.append_assoc], h3, fun k r' => ?_⟩
   rw [afW]
   exact .cons (r.mono (.refl _) fun a ha => k a (by simp [ha])) (h4 (fun a ha => k a (by rw [afW]; exact afQ _ ha)) r')
theorem fz {α : Type} {l : List α} {i : Nat} {x : α} (h : l[i]? = some x) : l.set i x = l := by
 apply aid
 intro j
 rw [List.getElem?_set]
 split
 . rename_i e; subst e
   split
   . exact h.symm
   . rename_i h2; rw [agN (by omega)]
 . rfl
theorem bf.write {a : Addr} {xs : List V} {f1 f2 f3 g gp Dv : List Addr} {δ2 : List (Option T)} (S : bf K CL b H Z δ σ ts vs) (nd : ((f1 ++ (f2 ++ f3)) ++ gp).Nodup) (own : ∀ c ∈ (f1 ++ (f2 ++ f3)) ++ gp, Z c = none /\ b.B c = none) (ha : a ∈ f2)
   (hH : ∃ o, H a = some o) (e' : eU K CL (upd H a (.lst xs)) Z δ2 σ (f1 ++ (g ++ f3))) (r' : aJ K CL (upd H a (.lst xs)) Z tl us Dv) (pm : ((f1 ++ (g ++ f3)) ++ Dv).Nodup) (sub : ∀ c ∈ (f1 ++ (g ++ f3)) ++ Dv, c ∈ (f1 ++ (f2 ++ f3)) ++ gp) :
   bf K CL b (upd H a (.lst xs)) Z δ2 σ tl us := by
 have oa := own a (by simp [ha])
 refine ⟨⟨_, _, e', r', pm, fun c hc => own c (sub c hc)⟩, fun c o q => ?_, S.zz, fun c o q => ?_, S.new, fun c o q i => ?_, S.tab⟩
 . rw [ao (bu q oa.2)]; exact S.bh c o q
 . rw [ao (bu q oa.1)]; exact S.zh c o q
 . by_cases hc : c = a
   . subst hc; rw [az] at q; cases q; cases i
   . rw [ao hc] at q; exact S.tp c o q i
theorem bf.append {i : Nat} (S : bf K CL b H Z δ σ (t :: ts) (v :: vs)) (hi : δ[i]? = some (some (.lst tl))) :
   ∃ a us, σ[i]? = some (some (.ref a)) /\ H a = some (.lst us) /\ us.length = tl.length /\ bf K CL b (upd H a (.lst (us ++ [v]))) Z (δ.set i (some (.lst (tl ++ [t])))) σ ts vs := by
 obtain ⟨fp, gp, e, r, nd, k⟩ := S.rep
 obtain ⟨v0, f1, f2, f3, hv, nI, rt, put, _⟩ := e.get hi
 subst nI
 cases rt with
 | @lst a us _ g ha rs =>
   cases r with
   | @cons _ _ _ _ ft gr q1 q2 =>
     have ne : ∀ c ∈ (f1 ++ (g ++ f3)) ++ (ft ++ gr), c ≠ a := fun c hc e => by
       subst e
       have hp : ((f1 ++ ((c :: g) ++ f3)) ++ (ft ++ gr)).Perm (c :: ((f1 ++ (g ++ f3)) ++ (ft ++ gr))) := by
         rw [agq, ← agq]
         exact (agY.append_right _)
       exact (agB.mp (hp.nodup_iff.mp nd)).1 hc
     refine ⟨a, us, hv, ha, rs.length.symm, ?_⟩
     have r1 : aV K CL (upd H a (.lst (us ++ [v]))) Z (.lst (tl ++ [t])) (.ref a) (a :: (g ++ (ft ++ []))) :=
       .lst az (aJ.app (rs.mono (.refl _) fun c hc => ao (ne c (by simp [hc]))) (.cons (q1.mono (.refl _) fun c hc => ao (ne c (by simp [hc]))) .nil))
     have e2 := put (H' := upd H a (.lst (us ++ [v]))) (.refl _) (fun c hc => ao (ne c (by
       rcases af0.mp hc with h | h
       . simp [h]
       . simp [h]))) r1
     rw [fz hv] at e2
     have hp : ((f1 ++ ((a :: (g ++ (ft ++ []))) ++ f3)) ++ gr).Perm ((f1 ++ ((a :: g) ++ f3)) ++ (ft ++ gr)) := by
       simp only [agF, agq, afW]
       refine agy f1 (List.Perm.cons a (agy g ?_))
       rw [← afW, ← afW]
       exact agE.append_right gr
     exact S.write nd k (afP) ⟨_, ha⟩ e2 (q2.mono (.refl _) fun c hc => ao (ne c (by simp [hc]))) (hp.nodup_iff.mpr nd) fun c hc => hp.mem_iff.mp hc
theorem bf.setAt {i j : Nat} (S : bf K CL b H Z δ σ (t :: ts) (v :: vs)) (hi : δ[i]? = some (some (.lst tl))) (hj : j < tl.length) :
   ∃ a us, σ[i]? = some (some (.ref a)) /\ H a = some (.lst us) /\ us.length = tl.length /\ bf K CL b (upd H a (.lst (us.set j v))) Z (δ.set i (some (.lst (tl.set j t)))) σ ts vs := by
 obtain ⟨fp, gp, e, r, nd, k⟩ := S.rep
 obtain ⟨v0, f1, f2, f3, hv, nI, rt, put, _⟩ := e.get hi
 subst nI
 cases rt with
 | @lst a us _ g ha rs =>
   cases r with
   | @cons _ _ _ _ ft gr q1 q2 =>
     have ne : ∀ c ∈ (f1 ++ (g ++ f3)) ++ (ft ++ gr), c ≠ a := fun c hc e => by
       subst e
       have hp : ((f1 ++ ((c :: g) ++ f3)) ++ (ft ++ gr)).Perm (c :: ((f1 ++ (g ++ f3)) ++ (ft ++ gr))) := by
         rw [agq, ← agq]
         exact (agY.append_right _)
       exact (agB.mp (hp.nodup_iff.mp nd)).1 hc
     refine ⟨a, us, hv, ha, rs.length.symm, ?_⟩
     obtain ⟨vj, g1, g2, g3, _, hg, _, set⟩ := rs.at (afR hj)
     subst hg
     have r1 : aV K CL (upd H a (.lst (us.set j v))) Z (.lst (tl.set j t)) (.ref a) (a :: (g1 ++ (ft ++ g3))) :=
       .lst az (set (fun c hc => ao (ne c (by
         rcases af0.mp hc with h | h
         . simp [h]
         . simp [h]))) (q1.mono (.refl _) fun c hc => ao (ne c (by simp [hc]))))
     have e2 := put (H' := upd H a (.lst (us.set j v))) (.refl _) (fun c hc => ao (ne c (by
       rcases af0.mp hc with h | h
       . simp [h]
       . simp [h]))) r1
     rw [fz hv] at e2
     have hp : ((f1 ++ ((a :: (g1 ++ (ft ++ g3))) ++ f3)) ++ gr).Perm ((f1 ++ ((a :: (g1 ++ g3)) ++ f3)) ++ (ft ++ gr)) := by
       simp only [agq, afW]
       refine agy f1 (List.Perm.cons a (agy g1 ?_))
       have := (agE (l₁ := ft) (l₂ := g3 ++ f3)).append_right gr
       simp only [afW] at this
       exact this
     have sb : ((f1 ++ ((a :: (g1 ++ g3)) ++ f3)) ++ (ft ++ gr)).Sublist ((f1 ++ ((a :: (g1 ++ (g2 ++ g3))) ++ f3)) ++ (ft ++ gr)) := by
       refine agC (agC (agz _) (agC (List.Sublist.cons₂ a ?_) (agz _))) (agz _)
       exact agC (agz _) (ag3 _ _)
     exact S.write nd k (afP) ⟨_, ha⟩ e2 (q2.mono (.refl _) fun c hc => ao (ne c (by simp [hc]))) (hp.nodup_iff.mpr (nd.sublist sb)) fun c hc => sb.subset (hp.mem_iff.mp hc)
end
section
variable {X : Cx} {CL : Str -> Addr} {b : Bx} {δ δ1 : List (Option T)} {e : Expr} {t : T} {tl Tj : List T} {D : dH} {pos pp pa pb : Pos}
theorem Tp (i : Nat) {x : Str} (h0 : δ[i]? = some (some (.lst Tj))) (h : bG X CL b e δ t δ1) (h1 : δ1[i]? = some (some (.lst tl))) (hl : tl.length < sizeLine) (k : D.nx (δ1.set i (some (.lst (tl ++ [t])))))
   (hi : X.N[i]? = some x := by rfl) (hv : Wx X.env.scope x := by first | exact Or.inl rfl | exact Or.inr (Or.inl rfl) | exact Or.inr (Or.inr rfl)) (hd : (x == ("__debug__" : Str)) = false := by decide) (kK : (x == ("__classdict__" : Str)) = false := by decide)
   (fP : attributeBase (.Name x pp) "append" X.env (eval (.Name x pp) X.env) = eval (.Name x pp) X.env := by rfl)
   (nQ : ((backTo pb (starEach [e] X.env)).all (fun x => !x.1) && (backToKw pb (keywordEach [] X.env)).all (fun x => x.1.isSome) && decide ([e].length + ([] : List Keyword).length + (if ([] : List Keyword).isEmpty then 0 else 1) < 30)) = true := by rfl)
   (hline : (pa.endLine == pb.line) = true := by rfl) (hs : starEach [e] X.env = (false, eval e X.env) :: starEach [] X.env := by exact bD rfl) (zS : swapsWith (.Call (.Attribute (.Name x pp) "append" pa) [e] [] pb) none pos.line X.env = pure false := by rfl) :
   L4 X CL b (.Expr (.Call (.Attribute (.Name x pp) "append" pa) [e] [] pb) pos) δ D := fun H Z σ ts vs E S M =>
 kT (rP (Dh aib PySem.F.slot_list_append PySem.F.type_list_append qq (gW hi hv hd kK) (cu b6 dW hs) fP nQ hline hs rfl) zS) (by
   obtain ⟨v0, e0, r0⟩ := S.look h0
   refine ⟨v0, e0, ?_, ?_⟩
   . rw [T.bK] at r0
     cases r0 with
     | lst hq _ => exact .inl ⟨rfl, _, hq⟩
   . refine h H Z σ ts vs _ S fun v H1 Z1 z1 k1 S1 => ?_
     obtain ⟨a, us, ea, ha, hu, S2⟩ := S1.append h1
     rw [e0] at ea
     cases ea
     exact ⟨a, us, v, rfl, rfl, ha, by rw [hu]; exact hl, M.nx _ σ _ Z1 z1 S2 k⟩)
end
noncomputable def X4 : Option (Option T) -> Option T
 | some (some t) => some (.sh t.bK)
 | _ => none
noncomputable def shO : Option (Option T) -> Option T
 | some (some (T.sh d)) => some (.sh d)
 | _ => none
noncomputable def zT (δ : List (Option T)) (ix : List Nat) : List (Option T) := ix.map fun i => X4 δ[i]?
noncomputable def zU (δ : List (Option T)) (ix : List Nat) : List (Option T) := ix.map fun i => shO δ[i]?
section
variable {K : PySem.W.Frag} {CL : Str -> Addr} {b : Bx} {H Z : Hp} {δ : List (Option T)} {σ : L2.St} {ts : List T} {vs : List V}
theorem zV (S : bf K CL b H Z δ σ ts vs) : ∀ (ix : List Nat) (H' : Hp), eU K CL H' H (zT δ ix) (ix.map fun i => (σ[i]?).getD none) []
 | [], _ => .nil
 | i :: r, H' => by
   have ih := zV S r H'
   show eU K CL H' H (X4 δ[i]? :: zT δ r) (((σ[i]?).getD none) :: r.map fun i => (σ[i]?).getD none) []
   cases e : δ[i]? with
   | none => exact .skip ih
   | some o =>
     cases o with
     | none => exact .skip ih
     | some t =>
       obtain ⟨v, hv, rv⟩ := S.look e
       rw [hv]
       exact .cons (fp := []) (gp := []) (.sh rv) ih
theorem zW (S : bf K CL b H Z δ σ ts vs) : ∀ (ix : List Nat) (H' : Hp), eU K CL H' Z (zU δ ix) (ix.map fun i => (σ[i]?).getD none) []
 | [], _ => .nil
 | i :: r, H' => by
   have ih := zW S r H'
   show eU K CL H' Z (shO δ[i]? :: zU δ r) (((σ[i]?).getD none) :: r.map fun i => (σ[i]?).getD none) []
   cases e : δ[i]? with
   | none => exact .skip ih
   | some o =>
     cases o with
     | none => exact .skip ih
     | some t =>
       cases t with
       | sh d =>
         obtain ⟨v, hv, rv⟩ := S.QJ e
         rw [hv]
         exact .cons (fp := []) (gp := []) (.sh rv) ih
       | tup _ => exact .skip ih
       | lst _ => exact .skip ih
       | ins _ _ => exact .skip ih
       | oA _ => exact .skip ih
       | dct _ => exact .skip ih
       | pin _ _ => exact .skip ih
       | gq _ _ => exact .skip ih
end
section
variable {X : Cx} {CL : Str -> Addr} {b : Bx} {δ δ1 : List (Option T)} {scope : Scope} {x : Str} {Nc : List Str} {elt iter : Expr} {ifs : List Expr} {pos : Pos} {ds : List D}
structure Comes (X : Cx) (CL : Str -> Addr) (b : Bx) (δ1 : List (Option T)) (σ : L2.St) (ts : List T) (vs : List V) (Z H : Hp) (ds : List D) (J : It) (H1 : Hp) : Prop where
 ex : ∃ Z1 us, aA Z Z1 /\ aA H H1 /\ bf X.K CL b H1 Z1 δ1 σ ts vs /\ ay X.K CL Z1 ds us /\ (∀ i H2, aA Z1 H2 -> i < ds.length -> J.go i H2) ∧
   (∀ i H2 x H', aA Z1 H2 -> i < ds.length -> J.Qx i H2 x H' -> H' = H2 /\ us[i]? = some x) /\ (∀ H2, aA Z1 H2 -> J.stop ds.length H2)
noncomputable def QO (X : Cx) (CL : Str -> Addr) (b : Bx) (tg e : Expr) (δ : List (Option T)) (ds : List D) (δ1 : List (Option T)) : Prop :=
 ∃ wi, PI X tg e wi /\ ∀ (H Z : Hp) (σ : L2.St) (ts : List T) (vs : List V) (R : It -> Hp -> Prop), bf X.K CL b H Z δ σ ts vs -> (∀ J H1, Comes X CL b δ1 σ ts vs Z H ds J H1 -> R J H1) -> wi σ H R
theorem e9 {tg : Expr} (h : bG X CL b iter δ (.sh (.lst ds)) δ1) : QO X CL b tg iter δ ds δ1 := by
 refine ⟨_, Ms b6, fun H Z σ ts vs R S k => h H Z σ ts vs _ S fun v H1 Z1 z1 k1 S1 => ?_⟩
 obtain ⟨fp, gp, _, r, _, _⟩ := S1.rep
 cases r with
 | cons r _ =>
   cases r with
   | sh r =>
     cases r with
     | @lst a us _ hq rr =>
       refine ⟨a, rfl, ⟨us, S1.zh.seq hq⟩, k _ _ ⟨Z1, us, z1, k1, S1.pop, rr, fun i H2 s hi => ?_, fun i H2 y H' s hi hy => ⟨hy.1, hy.2 us (s.seq hq)⟩, fun H2 s => ⟨us, s.seq hq, by rw [rr.length]; exact af3 _⟩⟩⟩
       have X5 : i < us.length := by rw [← rr.length]; exact hi
       exact ⟨us, us[i], s.seq hq, by simp [X5]⟩
theorem Ie {tg : Expr} (h : bG X CL b iter δ (.sh (.tup ds)) δ1) : QO X CL b tg iter δ ds δ1 := by
 refine ⟨_, Sd b6, fun H Z σ ts vs R S k => h H Z σ ts vs _ S fun v H1 Z1 z1 k1 S1 => ?_⟩
 obtain ⟨fp, gp, _, r, _, _⟩ := S1.rep
 cases r with
 | cons r _ =>
   cases r with
   | sh r =>
     cases r with
     | @tup a us _ hq rr =>
       refine ⟨a, rfl, ⟨us, aA.rS S1.zh hq⟩, k _ _ ⟨Z1, us, z1, k1, S1.pop, rr, fun i H2 s hi => ?_, fun i H2 y H' s hi hy => ⟨hy.1, hy.2 us (aA.rS s hq)⟩, fun H2 s => ⟨us, aA.rS s hq, by rw [rr.length]; exact af3 _⟩⟩⟩
       have X5 : i < us.length := by rw [← rr.length]; exact hi
       exact ⟨us, us[i], aA.rS s hq, by simp [X5]⟩
noncomputable def b7 (lo : Int) (n : Nat) : List D := (List.range n).map fun (i : Nat) => D.int (lo + i)
theorem Ig {K : PySem.W.Frag} {Z : Hp} (lo : Int) (n : Nat) : ay K CL Z (b7 lo n) ((List.range n).map fun (i : Nat) => V.int (lo + i)) := by
 unfold b7
 generalize List.range n = l
 induction l with
 | nil => exact .nil
 | cons i r ih => exact .cons (.int _) ih
theorem cI {tg : Expr} {pr pc : Pos} {n : Int} (hm : X.mg "range" = none) (h : cL X CL b iter δ (.int n) δ1) (hn : -(2 ^ 62) <= n /\ n < 2 ^ 62) (hg : Gl X "range") (R5 : starEach [iter] X.env = [(false, eval iter X.env)] := by rfl) (abj : starEach [iter] X.env = (false, eval iter X.env) :: starEach [] X.env := by exact bD rfl) :
   QO X CL b tg (.Call (.Name "range" pr) [iter] [] pc) δ (b7 0 n.toNat) δ1 := by
 refine ⟨_, EV hg hm (cu b6 dW abj) R5, fun H Z σ ts vs R S k => h H Z σ ts vs _ S fun v H1 Z1 z1 k1 S1 r => ⟨n, by rw [r.sc rfl], hn.1, hn.2, k _ _ ⟨Z1, _, z1, k1, S1, Ig 0 n.toNat, fun i H2 s hi => ?_, fun i H2 y H' s hi hy => ?_, fun H2 s => ?_⟩⟩⟩
 . show i < n.toNat
   have : (b7 0 n.toNat).length = n.toNat := by simp [b7]
   omega
 . have X5 : i < n.toNat := by simpa [b7] using hi
   refine ⟨hy.1, ?_⟩
   rw [af2, ag1 X5, hy.2]
   rfl
 . show n.toNat <= (b7 0 n.toNat).length
   simp [b7]
theorem Tq {D : dH} {eo : List Stmt} (i : Nat) {pos' : Pos} (P : Nat -> List (Option T) -> Prop) (h : QO X CL b (.Name x pos') iter δ ds δ1) (h0 : P 0 δ1) (hl : ∀ j δ, P j δ -> i < δ.length)
   (hs : ∀ j d δ, ds[j]? = some d -> P j δ -> dw X CL b eo (δ.set i (some (.sh d))) { nx := P (j + 1), rt := D.rt, bk := D.nx, ct := P (j + 1) }) (hd : ∀ δ, P ds.length δ -> D.nx δ)
   (hp : PassesOwn (model X.prog X.w) X.A X.env X.xe) (hc : X.calm = true) (hN : X.N.Nodup) (hi : X.N[i]? = some x) (hx : Loc X.env.scope x) (hf : X.fn x = true \/ X.env.scope.names.lookup x = some .local) (hq : ∀ x, foldedSetIterable iter X.env x = pure x := by intro _; rfl) :
   L4 X CL b (.For (.Name x pos') iter eo [] pos) δ D := fun H Z σ ts vs E S M => by
 obtain ⟨wi, pi, hw⟩ := h
 refine kT (wC hp hc pi (iU hN hi hx hf) LZ hq) (hw H Z σ ts vs _ S fun J H1 zz => ?_)
 obtain ⟨Z1, us, z1, k1, S1, rr, go, yl, st⟩ := zz
 refine ⟨fun j m σ H2 => m = ds.length - j /\ j <= ds.length /\ ∃ Z2 δ2, aA Z1 Z2 /\ bf X.K CL b H2 Z2 δ2 σ ts vs /\ P j δ2, ⟨_, rfl, agr _, Z1, δ1, .refl _, S1, h0⟩, ?_⟩
 rintro j m σ H2 ⟨rfl, hj, Z2, δ2, s, S2, p2⟩
 by_cases g6 : j < ds.length
 . refine .inr ⟨go j H2 (s.trans S2.zh) g6, fun σ' H' => ∃ Z2 δ2, aA Z1 Z2 /\ bf X.K CL b H' Z2 δ2 σ' ts vs /\ P (j + 1) δ2, fun σ' H' h => ⟨ds.length - (j + 1), by omega, rfl, g6, h⟩, fun y H' hy => ?_⟩
   obtain ⟨e, hu⟩ := yl j H2 y H' (s.trans S2.zh) g6 hy
   subst e
   obtain ⟨d, wu, rd⟩ := rr.SV hu
   have S3 := (S2.push (rd.mono s)).set (hl j δ2 p2)
   exact hs j d δ2 wu p2 _ Z2 _ ts vs _ S3 ⟨fun δ' σ' H' Z' s' S' k => ⟨Z', δ', s.trans s', S', k⟩, fun t v H' Z' δ' σ' s' S' k => M.rt t v H' Z' δ' σ' (z1.trans (s.trans s')) S' k, fun δ' σ' H' Z' s' S' k => M.nx δ' σ' H' Z' (z1.trans (s.trans s')) S' k, fun δ' σ' H' Z' s' S' k => ⟨Z', δ', s.trans s', S', k⟩⟩
 . have e : j = ds.length := by omega
   subst e
   exact .inl ⟨st H2 (s.trans S2.zh), M.nx δ2 σ H2 Z2 (z1.trans s) S2 (hd δ2 p2)⟩
noncomputable def Block (X : Cx) (CL : Str -> Addr) (scope : Scope) (Nc : List Str) (ifs : List Expr) (elt : Expr) (δc : List (Option T)) (ds : List D) (p : D -> Bool) (g : D -> T) : Prop :=
 ∀ C s0 H0 f0 b' d, d ∈ ds -> ZV (dB X scope Nc C s0 H0 f0) CL b' ifs (some (.sh d) :: δc) (p d) /\ (p d = true -> bG (dB X scope Nc C s0 H0 f0) CL b' elt (some (.sh d) :: δc) (g d) (some (.sh d) :: δc))
variable {p : D -> Bool} {g : D -> T} {δc : List (Option T)}
end
section
variable {X : Cx} {CL : Str -> Addr} {b : Bx} {δ δ1 : List (Option T)} {pos : Pos}
noncomputable def isD : L3.D -> String -> Option Bool
 | .non, n => if n = "int" \/ n = "str" \/ n = "list" \/ n = "tuple" \/ n = "bool" \/ n = "dict" then some false else none
 | .bl _, n => if n = "int" \/ n = "bool" then some true else if n = "str" \/ n = "list" \/ n = "tuple" \/ n = "dict" then some false else none
 | .int _, n => if n = "int" then some true else if n = "str" \/ n = "list" \/ n = "tuple" \/ n = "bool" \/ n = "dict" then some false else none
 | .str _, n => if n = "str" then some true else if n = "int" \/ n = "list" \/ n = "tuple" \/ n = "bool" \/ n = "dict" then some false else none
 | .lst _, n => if n = "list" then some true else if n = "int" \/ n = "str" \/ n = "tuple" \/ n = "bool" \/ n = "dict" then some false else none
 | .tup _, n => if n = "tuple" then some true else if n = "int" \/ n = "str" \/ n = "list" \/ n = "bool" \/ n = "dict" then some false else none
 | _, _ => none
noncomputable def Tr (t n : String) : Option Bool := if (Value.type t == Value.type n) = true then some true else if PySem.W.kitMeta n = true then (fastBuiltinMro t).map (·.contains (.type n)) else none
theorem jB {K : PySem.W.Frag} {t n : String} : PySem.W.kitOne K (.type t) (.type n) = Tr t n := rfl
theorem Ih : (["NoneType", "bool", "int", "str", "list", "tuple"].all fun t => ["int", "str", "list", "tuple", "bool", "dict"].all fun n => Tr t n == some (t == n || (t == "bool" && n == "int"))) = true := by decide +kernel
theorem mw {t n : String} (ht : t ∈ ["NoneType", "bool", "int", "str", "list", "tuple"]) (hn : n ∈ ["int", "str", "list", "tuple", "bool", "dict"]) : Tr t n = some (t == n || (t == "bool" && n == "int")) := by
 have := Ih
 rw [ahD] at this
 have h := this t ht
 rw [ahD] at h
 simpa using h n hn
noncomputable def X6 : L3.D -> Option String
 | .non => some "NoneType"
 | .bl _ => some "bool"
 | .int _ => some "int"
 | .str _ => some "str"
 | .lst _ => some "list"
 | .tup _ => some "tuple"
 | _ => none
theorem Fj : iH X (.builtin "isinstance") (fun xs H Q => ∃ y n d t, xs = [y, .ty n] /\ aU X.K CL H d y /\ X6 d = some t /\ n ∈ ["int", "str", "list", "tuple", "bool", "dict"] /\ Q (.bl (t == n || (t == "bool" && n == "int"))) H) := by
 intro pins s σ H xs us Q I r h
 obtain ⟨y, n, d, t, rfl, rd, ht, hn, q⟩ := h
 obtain ⟨u, u2, rfl, ru, ru2⟩ := r.two
 cases (show u2 = Value.type n from ru2)
 have fin : ∀ tk, EP X pins σ Q (.bool (t == n || (t == "bool" && n == "int"))) { s with toks := tk } := fun tk => ⟨.bl _, H, I.tok tk, rfl, q⟩
 cases rd with
 | non => cases ht; cases (show u = Value.none from ru); exact ahO PySem.W.kitx_none I.zx True.intro (jB.trans (mw (by decide) hn)) (fun z => nomatch z) fin
 | bl c => cases ht; cases (show u = Value.bool c from ru); exact ahO PySem.W.kitx_bool I.zx True.intro (jB.trans (mw (by decide) hn)) (fun z => nomatch z) fin
 | int c => cases ht; obtain ⟨tt, e⟩ := (show ∃ t, u = Value.int c t from ru); cases e; exact ahO PySem.W.kitx_int I.zx True.intro (jB.trans (mw (by decide) hn)) (fun z => nomatch z) fin
 | str c => cases ht; obtain ⟨tt, e⟩ := (show ∃ t, u = Value.str c t from ru); cases e; exact ahO PySem.W.kitx_str I.zx True.intro (jB.trans (mw (by decide) hn)) (fun z => nomatch z) fin
 | @lst a ws _ hq rr =>
   cases ht
   cases (show u = Value.ref a from ru)
   obtain ⟨its, _, pl, _⟩ := I.list hq
   obtain ⟨o, n', e, c, _⟩ := pl
   exact ahO PySem.W.kitx_list I.zx ⟨o, e, c⟩ (jB.trans (mw (by decide) hn)) (fun z => nomatch z) fin
 | @tup a ws _ hq rr =>
   cases ht
   cases (show u = Value.ref a from ru)
   obtain ⟨its, _, pl, _⟩ := I.tuple hq
   obtain ⟨o, e, c, _⟩ := pl
   exact ahO PySem.W.kitx_tuple I.zx ⟨o, e, c⟩ (jB.trans (mw (by decide) hn)) (fun z => nomatch z) fin
 | ins _ _ => cases ht
 | any _ => cases ht
 | val _ => cases ht
 | oA _ _ => cases ht
 | dct _ _ => cases ht
 | gq _ _ => cases ht
theorem w4 {e : Expr} {d : L3.D} {t n : String} {nm : Str} {pp pq : Pos} (hm : X.mg "isinstance" = none) (Tt : X.mg nm = none) (hg : Gl X "isinstance") (Tv : Gl X nm) (hbn : bootBuiltins nm = some (.type n)) (hnm : nm ≠ "__name__") (QS : (nm == ("__debug__" : Str)) = false) (h : cL X CL b e δ d δ1) (ht : X6 d = some t) (hn : n ∈ ["int", "str", "list", "tuple", "bool", "dict"])
   (hs : starEach [e, .Name nm pq] X.env = (false, eval e X.env) :: starEach [.Name nm pq] X.env := by exact bD rfl) :
   bG X CL b (.Call (.Name "isinstance" pp) [e, .Name nm pq] [] pos) δ (.sh (.bl (t == n || (t == "bool" && n == "int")))) δ1 := fun H Z σ ts vs Q S k =>
 bO (iJ (Fj (CL := CL)) hg hm boot_isinstance (cu b6 (cu (Mp Tv Tt hbn (v := .ty n) rfl hnm QS) dW) hs) (he := hs)) (h H Z σ ts vs _ S fun v H1 Z1 z1 k1 S1 r =>
   ⟨v, n, d, t, rfl, r, ht, hn, k _ H1 Z1 z1 k1 (S1.push (.bl _))⟩)
end
theorem aq {n : Nat} (h : Nat.ble n 1000 = true) : n <= sizeLine := ahd (gw (afV h))
structure Vn (X : Cx) (i : Nat) (x : Str) : Prop where
 hi : X.N[i]? = some x
 hv : Wx X.env.scope x
 hd : (x == ("__debug__" : Str)) = false
 kK : (x == ("__classdict__" : Str)) = false
structure Ln (X : Cx) (i : Nat) (x : Str) : Prop extends Vn X i x where
 loc : Loc X.env.scope x
 hf : X.fn x = true \/ X.env.scope.names.lookup x = some .local
structure Gx (X : Cx) : Prop where
 nd : X.N.Nodup
 calm : X.calm = true
 xe : PassesOwn (model X.prog X.w) X.A X.env X.xe
structure Fc (X : Cx) (CL : Str -> Addr) (x : Str) (k n : Nat) {A : Type} (arg : A -> List D) (Pre : A -> Prop) (res : A -> T) : Prop where
 ex : ∃ f fd ps, g9 X.prog X.w X.K X.mg X.base vI k f fd ps (GZ X.K CL n arg Pre res) /\ X.mg x = some (.ref f) /\ PySem.W.keepIn X.K (.ref f) = true /\ Binds X.K fd ps []
 room : fc k X.A
section
variable {X : Cx} {CL : Str -> Addr} {b : Bx} {δ δ1 δ2 : List (Option T)} {e : Expr} {es : List Expr} {d : L3.D} {t : T} {i : Nat} {x : Str} {pos pp : Pos} {D : dH} {eo : List Stmt} {ds : List L3.D}
theorem v_ (n : Vn X i x) (h : δ[i]? = some (some (.sh d)) := by rfl) : bG X CL b (.Name x pos) δ (.sh d) δ := S8 i n.hi n.hv n.hd n.kK h
theorem vM (n : Vn X i x) (h : δ[i]? = some (some t) := by rfl) : bG X CL b (.Name x pos) δ t (δ.set i none) := MR i n.hi n.hv n.hd n.kK h
theorem vB (n : Vn X i x) (h : δ[i]? = some (some t) := by rfl) : cL X CL b (.Name x pos) δ t.bK δ := S9 i n.hi n.hv n.hd n.kK h
theorem gY {k : Int} (h : cL X CL b e δ (.int k) δ1) : bG X CL b (.UnaryOp .USub e pos) δ (.sh (.int (-k))) δ1 := fun H Z σ ts vs Q S kk =>
 bO (Xe Sn b6) (h H Z σ ts vs _ S fun v H1 Z1 z1 k1 S1 r => ⟨k, r.sc rfl, kk _ H1 Z1 z1 k1 (S1.push (.int _))⟩)
theorem vL (n : Vn X i x) (h : δ[i]? = some (some (.lst (ds.map T.sh))) := by rfl) : cL X CL b (.Name x pos) δ (.lst ds) δ := by
 have := vB (CL := CL) (b := b) (pos := pos) n h
 rwa [T.bK, ia] at this
theorem c_ {k n : Nat} {A : Type} {arg : A -> List L3.D} {Pre : A -> Prop} {res : A -> T} (a : A) (F : Fc X CL x k n arg Pre res) (hg : Gl X x) (h : L1 X CL b (e :: es) δ (arg a) δ1) (hp : Pre a) (hc : (res a).clean = true) (hn : (arg a).length = n := by rfl)
   (sZ : (x == ("__debug__" : Str)) = false := by decide) (he : starEach (e :: es) X.env = (false, eval e X.env) :: starEach es X.env := by exact bD rfl) (hpl : (backTo pos (starEach es X.env)).any (·.1) = false := by rfl) :
   bG X CL b (.Call (.Name x pp) (e :: es) [] pos) δ (res a) δ1 := by
 obtain ⟨f, fd, ps, F1, m, k, b⟩ := F.ex
 exact MV a F1 F.room m k b h hn hp hc hg sZ he hpl
theorem aR {pos' : Pos} (g : Gx X) (n : Ln X i x) (h : bG X CL b e δ t δ1) (k : dw X CL b eo (δ1.set i (some t)) D) (hl : i < δ1.length := by exact afV rfl) (hs : swapsWith e (some (.Name x pos')) pos.line X.env = pure false := by rfl) :
   dw X CL b (.Assign [.Name x pos'] e pos :: eo) δ D := bW (HZ i h k hl g.nd n.hi n.loc hs n.hf)
theorem bX (h : bG X CL b e δ t δ1) (k : D.rt t δ1) : dw X CL b (.Return (some e) pos :: eo) δ D := bW (Tg h k)
theorem jC {p : Bool} {a c : List Stmt} (h : oS X CL b e δ p δ1) (h1 : p = true -> dw X CL b a δ1 { D with nx := fun δ2 => dw X CL b eo δ2 D }) (h2 : p = false -> dw X CL b c δ1 { D with nx := fun δ2 => dw X CL b eo δ2 D }) : dw X CL b (.If e a c pos :: eo) δ D := bW (XY h h1 h2)
theorem dw.to {D' : dH} (h : dw X CL b eo δ D') (h1 : ∀ δ, D'.nx δ -> D.nx δ) (h2 : ∀ t δ, D'.rt t δ -> D.rt t δ) (h3 : ∀ δ, D'.bk δ -> D.bk δ) (h4 : ∀ δ, D'.ct δ -> D.ct δ) : dw X CL b eo δ D := fun H Z σ ts vs E S M => h H Z σ ts vs E S (M.to h1 h2 h3 h4)
theorem tH {p : Bool} {a c : List Stmt} (J : List (Option T) -> Prop) (h : oS X CL b e δ p δ1) (h1 : p = true -> dw X CL b a δ1 { D with nx := J }) (h2 : p = false -> dw X CL b c δ1 { D with nx := J }) (k : ∀ δ2, J δ2 -> dw X CL b eo δ2 D) : dw X CL b (.If e a c pos :: eo) δ D :=
 jC h (fun hp => dw.to (h1 hp) k (fun _ _ q => q) (fun _ q => q) (fun _ q => q)) (fun hp => dw.to (h2 hp) k (fun _ _ q => q) (fun _ q => q) (fun _ q => q))
theorem g7 {body : List Stmt} {pos' : Pos} (g : Gx X) (n : Ln X i x) (P : Nat -> List (Option T) -> Prop) (h : QO X CL b (.Name x pos') e δ ds δ1) (h0 : P 0 δ1) (hl : ∀ j δ, P j δ -> i < δ.length)
   (hs : ∀ j d δ, ds[j]? = some d -> P j δ -> dw X CL b body (δ.set i (some (.sh d))) { nx := P (j + 1), rt := D.rt, bk := fun δ2 => dw X CL b eo δ2 D, ct := P (j + 1) }) (hd : ∀ δ, P ds.length δ -> dw X CL b eo δ D) (hq : ∀ x, foldedSetIterable e X.env x = pure x := by intro _; rfl) :
   dw X CL b (.For (.Name x pos') e body [] pos :: eo) δ D :=
 bW (Tq (D := { D with nx := fun δ1 => dw X CL b eo δ1 D }) i P h h0 hl hs hd g.xe g.calm g.nd n.hi n.loc n.hf hq)
theorem gO {e : Expr} {o : Option Expr} {l : Nat} {env : Env} (h : ∃ c, swapsWith e o l env = pure c) : swapsWith e o l env = pure true \/ swapsWith e o l env = pure false := by
 obtain ⟨c, h⟩ := h
 cases c
 . exact .inr h
 . exact .inl h
theorem ck {scope : Scope} {Nc : List Str} {C : Addr} {s : Shared} {H : Hp} {fp : List Addr} (h1 : Nc[i]? = some x) (h2 : scope.names.lookup x = some .local) (hd : (x == ("__debug__" : Str)) = false := by decide) (kK : (x == ("__classdict__" : Str)) = false := by decide) : Vn (dB X scope Nc C s H fp) i x :=
 ⟨h1, .inl (lookup_relabel_local h2), hd, kK⟩
theorem cJ {scope : Scope} {Nc : List Str} {C : Addr} {s : Shared} {H : Hp} {fp : List Addr} (h1 : Nc[i]? = some x) (h2 : scope.names.lookup x = some .free) (hd : (x == ("__debug__" : Str)) = false := by decide) (kK : (x == ("__classdict__" : Str)) = false := by decide) : Vn (dB X scope Nc C s H fp) i x := by
 refine ⟨h1, ?_, hd, kK⟩
 have q := e7 (env := X.env) h2
 show (relabel scope X.env).names.lookup x = some .local \/ (relabel scope X.env).names.lookup x = some .cell \/ (relabel scope X.env).names.lookup x = some .free
 rw [show (relabel scope X.env).names.lookup x = _ from q]
 split
 . exact .inr (.inl rfl)
 . exact .inr (.inr rfl)
theorem dh {scope : Scope} {Nc : List Str} {C : Addr} {s : Shared} {H : Hp} {fp : List Addr} (h2 : scope.names.lookup x = some .globalImplicit) : Gl (dB X scope Nc C s H fp) x := by
 have q := e7 (env := X.env) h2
 show (relabel scope X.env).names.lookup x = some .globalImplicit
 rw [show (relabel scope X.env).names.lookup x = _ from q]
 rfl
theorem fh {scope : Scope} {Nc : List Str} {C : Addr} {s : Shared} {H : Hp} {fp : List Addr} {k n : Nat} {A : Type} {arg : A -> List L3.D} {Pre : A -> Prop} {res : A -> T} (F : Fc X CL x k n arg Pre res) : Fc (dB X scope Nc C s H fp) CL x k n arg Pre res := ⟨F.ex, F.room⟩
end
section
variable {X : Cx} {CL : Str -> Addr} {b : Bx} {δ δ1 : List (Option T)} {e : Expr} {d : L3.D} {t : String} {pos pp pq : Pos}
theorem Fl : bootBuiltins "int" = some (.type "int") := by decide +kernel
theorem isI (hm : X.mg "isinstance" = none) (Tt : X.mg "int" = none) (hg : Gl X "isinstance") (Tv : Gl X "int") (h : cL X CL b e δ d δ1) (ht : X6 d = some t := by rfl) (hs : starEach [e, .Name "int" pq] X.env = (false, eval e X.env) :: starEach [.Name "int" pq] X.env := by exact bD rfl) :
   bG X CL b (.Call (.Name "isinstance" pp) [e, .Name "int" pq] [] pos) δ (.sh (.bl (t == "int" || (t == "bool" && "int" == "int")))) δ1 := w4 hm Tt hg Tv Fl (by decide) (by decide) h ht (by decide) hs
theorem Bw : bootBuiltins "bool" = some (.type "bool") := by decide +kernel
theorem isB (hm : X.mg "isinstance" = none) (Tt : X.mg "bool" = none) (hg : Gl X "isinstance") (Tv : Gl X "bool") (h : cL X CL b e δ d δ1) (ht : X6 d = some t := by rfl) (hs : starEach [e, .Name "bool" pq] X.env = (false, eval e X.env) :: starEach [.Name "bool" pq] X.env := by exact bD rfl) :
   bG X CL b (.Call (.Name "isinstance" pp) [e, .Name "bool" pq] [] pos) δ (.sh (.bl (t == "bool" || (t == "bool" && "bool" == "int")))) δ1 := w4 hm Tt hg Tv Bw (by decide) (by decide) h ht (by decide) hs
theorem c7 : bootBuiltins "list" = some (.type "list") := by decide +kernel
theorem isL (hm : X.mg "isinstance" = none) (Tt : X.mg "list" = none) (hg : Gl X "isinstance") (Tv : Gl X "list") (h : cL X CL b e δ d δ1) (ht : X6 d = some t := by rfl) (hs : starEach [e, .Name "list" pq] X.env = (false, eval e X.env) :: starEach [.Name "list" pq] X.env := by exact bD rfl) :
   bG X CL b (.Call (.Name "isinstance" pp) [e, .Name "list" pq] [] pos) δ (.sh (.bl (t == "list" || (t == "bool" && "list" == "int")))) δ1 := w4 hm Tt hg Tv c7 (by decide) (by decide) h ht (by decide) hs
theorem qX : bootBuiltins "tuple" = some (.type "tuple") := by decide +kernel
end
noncomputable def kU (sc : Scope) (l : List (Str × NameKind)) : Bool := l.all fun p => sc.names.lookup p.1 == some p.2
theorem cE {sc : Scope} {l : List (Str × NameKind)} (h : kU sc l = true) (i : Nat) {x : Str} {k : NameKind} (hi : l[i]? = some (x, k)) : sc.names.lookup x = some k := by
 unfold kU at h
 rw [ahD] at h
 exact ah8.mp (h _ (af8 hi))
inductive MX (X : Cx) : List Nat -> List Str -> Prop where
 | nil : MX X [] []
 | cons {i : Nat} {y : Str} {ix : List Nat} {ys : List Str} (n : Vn X i y) (k : X.env.kindOf y = some .cell \/ X.env.kindOf y = some .free) (r : MX X ix ys) : MX X (i :: ix) (y :: ys)
noncomputable def Ii (scope : Scope) (x : Str) (zX : List Str) : Bool :=
 scope.kind == .function && scope.names.lookup x == some .local && zX.all (fun y => scope.names.lookup y == some .free) && decide ((x :: zX).Nodup) &&
   scope.names.all fun y => y.2 != .cell && (y.2 != .local || scope.names.lookup y.1 == some .local) && (y.2 != .free || (zX.contains y.1 && scope.names.lookup y.1 == some .free))
theorem bw {X : Cx} {scope : Scope} {x : Str} {ix : List Nat} {zX : List Str} (c : MX X ix zX) (ok : Ii scope x zX = true) : jA X scope x (x :: zX) ix := by
 unfold Ii at ok
 simp only [agk, ahD, decide_eq_true_eq, ah8] at ok
 obtain ⟨⟨⟨⟨h1, h2⟩, h3⟩, h4⟩, h5⟩ := ok
 have kc : ∀ y ∈ zX, X.env.kindOf y = some .cell \/ X.env.kindOf y = some .free := by
   clear h3 h4 h5
   induction c with
   | nil => intro y hy; cases hy
   | cons n k r ih =>
     intro y hy
     rcases afX.mp hy with e | hy
     . subst e; exact k
     . exact ih y hy
 refine ⟨h1, fun y hy e => ?_, h4, fun y hy e => ?_, h2, fun y hy e => ?_, ?_, fun i hi => ?_⟩
 . have := (h5 y hy).1.1
   rw [e] at this
   simp at this
 . have := (h5 y hy).1.2
   rw [e] at this
   simpa using this
 . have := (h5 y hy).2
   rw [e] at this
   simp at this
   exact ⟨this.2, kc _ this.1⟩
 . congr 1
   clear h3 h4 h5 kc
   induction c with
   | nil => rfl
   | cons n k r ih => rw [ahr, n.hi, ← ih]
 . clear h4 h5 kc
   induction c with
   | nil => cases hi
   | @cons i' y ix ys n k r ih =>
     rcases afX.mp hi with e | hi
     . subst e; exact ⟨y, n.hi, h3 y afP⟩
     . exact ih (fun z hz => h3 z (afS _ hz)) hi
noncomputable def D.zA : D -> Int
 | .int i => i
 | _ => 0
noncomputable def D.toS : D -> Str
 | .str x => x
 | _ => Str.empty
theorem Tw {bs : List Int} {k : Int} (h0 : 0 <= k) (h1 : k < bs.length) : oJ (bs.map D.int) k = some (.int (bs.getD k.toNat 0)) := by
 obtain ⟨j, rfl⟩ : ∃ j : Nat, k = j := ⟨k.toNat, by omega⟩
 refine aN ?_
 have hl : j < bs.length := by omega
 rw [af2, afR hl]
 simp [List.getD, hl]
theorem zY : ∀ (bs : List Int), D.aY (bs.map D.int) = true
 | [] => rfl
 | i :: r => by rw [agd, D.aY, zY r]; rfl
theorem gP {lo : Int} {n j : Nat} {d : D} (h : (b7 lo n)[j]? = some d) : d = .int (lo + j) /\ j < n := by
 have hl : j < n := by
   have := (af5.mp h).1
   simpa [b7] using this
 refine ⟨?_, hl⟩
 unfold b7 at h
 rw [af2, ag1 hl] at h
 exact (agf h).symm
theorem dZ {α : Type} (l : List α) : l.filter (fun _ => true) = l := by simp
theorem zZ {K : PySem.W.Frag} {CL : Str -> Addr} {Z : Hp} : ∀ (ns : List Int), ay K CL Z (ns.map D.int) (ns.map V.int)
 | [] => .nil
 | n :: r => .cons (.int n) (zZ r)
theorem Tz {K : PySem.W.Frag} {CL : Str -> Addr} {H : Hp} {a : Addr} {arg : List Int -> List D} {pre : List Int -> Prop} {res : List Int -> T} {ns : List Int} (ha : arg ns = [.lst (ns.map D.int)]) (hp : pre ns) (hr : res ns = .sh (.bl true)) (hS : k6 K H a (ns.map V.int)) (h0 : ∀ x, Dm x = true -> CL x = 0 := by intros; rfl) :
   GZ K CL 1 arg pre res [.ref a] H (fun v _ => v = .bl true) fun _ _ _ => False :=
 ⟨H, ns, .refl _, fun _ _ q _ => q, by rw [ha]; exact .cons (.lst hS (zZ ns)) .nil, by rw [ha]; rfl, hp, fun x hx e => absurd (h0 x hx) e, fun v H' W' fp _ _ _ _ _ r _ _ => by
   rw [hr] at r
   cases r with
   | sh r => exact r.sc rfl⟩
mutual
noncomputable def D.toPy : D -> PyData
 | .non => .none
 | .bl b => .bool b
 | .int i => .int i
 | .str x => .str x
 | .tup ds => .tuple (D.cW ds)
 | .lst ds => .list (D.cW ds)
 | .ins _ _ => .none
 | .oA _ => .none
 | .dct _ => .none
 | .any => .none
 | .val _ => .none
 | .gq _ _ => .none
noncomputable def D.cW : List D -> List PyData
 | [] => []
 | d :: ds => d.toPy :: D.cW ds
end
inductive ic : Nat -> D -> Prop where
 | non (n : Nat) : ic n .non
 | bl (n : Nat) (b : Bool) : ic n (.bl b)
 | int (n : Nat) (i : Int) : ic n (.int i)
 | str (n : Nat) (x : Str) (h : PyData.strOk x = true) : ic n (.str x)
 | tup {n : Nat} {ds : List D} (h : ∀ d ∈ ds, ic n d) : ic (n + 1) (.tup ds)
 | lst {n : Nat} {ds : List D} (h : ∀ d ∈ ds, ic n d) : ic (n + 1) (.lst ds)
noncomputable def tK (a b : D) : Bool := PyData.eqv a.toPy b.toPy
theorem ic.TF {n : Nat} : ∀ {ds : List D}, (∀ d ∈ ds, d.toPy.canLay0 = true /\ d.toPy.depth <= n) -> PyData.canLayAll0 (D.cW ds) = true /\ PyData.depthAll (D.cW ds) <= n
 | [], _ => ⟨by rw [D.cW, PyData.canLayAll0], by rw [D.cW, PyData.depthAll]; exact agr _⟩
 | d :: ds, h => by
   have h1 := h d afP
   have h2 := ic.TF (ds := ds) fun e he => h e (afS _ he)
   rw [D.cW, PyData.canLayAll0, PyData.depthAll, h1.1, h2.1]
   exact ⟨rfl, Nat.max_le.mpr ⟨h1.2, h2.2⟩⟩
theorem ic.lay {n : Nat} {d : D} (h : ic n d) : d.toPy.canLay0 = true /\ d.toPy.depth <= n := by
 induction h with
 | non n => exact ⟨by rw [D.toPy, PyData.canLay0], by rw [D.toPy, PyData.depth]; exact agr _⟩
 | bl n b => exact ⟨by rw [D.toPy, PyData.canLay0], by rw [D.toPy, PyData.depth]; exact agr _⟩
 | int n i => exact ⟨by rw [D.toPy, PyData.canLay0], by rw [D.toPy, PyData.depth]; exact agr _⟩
 | str n x hx => exact ⟨by rw [D.toPy, PyData.canLay0]; exact hx, by rw [D.toPy, PyData.depth]; exact agr _⟩
 | @tup n ds _ ih =>
   have := ic.TF ih
   rw [D.toPy, PyData.canLay0, PyData.depth]
   exact ⟨this.1, by omega⟩
 | @lst n ds _ ih =>
   have := ic.TF ih
   rw [D.toPy, PyData.canLay0, PyData.depth]
   exact ⟨this.1, by omega⟩
theorem iL {n : Nat} {d : D} (h : ic n d) : tK d d = true := SeqAt.eqv_refl _ h.lay.1
section
variable {X : Cx} {CL : Str -> Addr} {pins : List (Addr × Obj)} {σ : L2.St} {H : Hp} {s : Shared}
theorem qv (I : L2.Inv X pins σ H s) {n : Nat} {d : D} {v : V} {u : Value} (hd : ic n d) (q : aU X.K CL H d v) (r : RelV v u) : ∃ as, Reads s.heap u d.toPy as := by
 refine aU.rec (motive_1 := fun d v _ => ∀ (n : Nat) (u : Value), ic n d -> RelV v u -> ∃ as, Reads s.heap u d.toPy as)
   (motive_2 := fun ds vs _ => ∀ (n : Nat) (us : List Value), (∀ d ∈ ds, ic n d) -> Vals vs us -> ∃ as, ReadsAll s.heap us (D.cW ds) as) (motive_3 := fun _ _ _ => True) (motive_4 := fun _ _ _ => True) (motive_5 := fun _ _ _ => True)
   (fun _ _ _ r => ?non) (fun b _ _ _ r => ?bl) (fun i _ _ _ r => ?int) (fun x _ _ _ r => ?str) (fun _ _ _ hd _ => by cases hd) (fun _ _ _ hd _ => by cases hd) (fun hq _ ih n u hd r => ?tup) (fun hq _ ih n u hd r => ?lst) (fun _ _ _ _ _ hd _ => by cases hd) (fun _ _ _ _ _ hd _ => by cases hd) (fun _ _ _ _ _ hd _ => by cases hd) (fun _ _ _ _ _ hd _ => by cases hd)
   (fun _ _ _ r => ?nil) (fun _ _ ih ihs n us h r => ?cons) trivial (fun _ _ _ _ => trivial) trivial (fun _ _ _ _ => trivial) trivial (fun _ _ _ _ => trivial) q n u hd r
 case non => cases r; rw [D.toPy]; exact ⟨[], .none⟩
 case bl => cases r; rw [D.toPy]; exact ⟨[], .bool b⟩
 case int => obtain ⟨t, rfl⟩ := r; rw [D.toPy]; exact ⟨[], .int i t⟩
 case str => obtain ⟨t, rfl⟩ := r; rw [D.toPy]; exact ⟨[], .str x t⟩
 case tup =>
   cases hd with
   | tup hd =>
     cases r
     obtain ⟨its, rv, ⟨o, e, c, k, dt⟩, _⟩ := I.tuple hq
     obtain ⟨as, ra⟩ := ih _ _ hd rv
     rw [D.toPy]
     exact ⟨as, .tuple e c dt (by simpa using ra)⟩
 case lst =>
   cases hd with
   | lst hd =>
     cases r
     obtain ⟨its, rv, ⟨o, k, e, c, _, dt⟩, _⟩ := I.list hq
     obtain ⟨as, ra⟩ := ih _ _ hd rv
     rw [D.toPy]
     exact ⟨_, .list e c dt (by simpa using ra)⟩
 case nil => cases r; rw [D.cW]; exact ⟨[], .nil⟩
 case cons =>
   cases r with
   | cons r rs =>
     obtain ⟨as, ra⟩ := ih n _ (h _ afP) r
     obtain ⟨bs, rb⟩ := ihs n _ (fun e he => h e (afS _ he)) rs
     rw [D.cW]
     exact ⟨as ++ bs, .cons ra rb⟩
end
section
variable {X : Cx} {CL : Str -> Addr} {b : Bx} {δ δ1 δ2 δ3 : List (Option T)} {e e1 e2 : Expr} {d1 d2 : D} {ds : List D} {pos p2 pp : Pos} {n : Nat} {i : Nat} {x : Str} {t : T} {eo : List Stmt} {DD : dH}
theorem TH (hu : X.A.units + 64 < cLine) : kY X (compareOp .Eq) (fun x y H Q => ∃ a c, aU X.K CL H a x /\ aU X.K CL H c y /\ ic 60 a /\ ic 60 c /\ Q (.bl (tK a c)) H) := by
 intro pins s σ H x y v u Q I rx ry h
 obtain ⟨a, c, ra, rc, da, dc, q⟩ := h
 obtain ⟨as, r1⟩ := qv I da ra rx
 obtain ⟨bs, r2⟩ := qv I dc rc ry
 exact SeqAt.rcAt_reads r1 r2 da.lay.1 dc.lay.1 (by have := da.lay.2; omega) X.prog X.w X.xe _ ⟨.bl _, H, I, rfl, q⟩
theorem TJ (hu : X.A.units + 64 < cLine) : kY X (compareOp .NotEq) (fun x y H Q => ∃ a c, aU X.K CL H a x /\ aU X.K CL H c y /\ ic 60 a /\ ic 60 c /\ Q (.bl (!tK a c)) H) := by
 intro pins s σ H x y v u Q I rx ry h
 obtain ⟨a, c, ra, rc, da, dc, q⟩ := h
 obtain ⟨as, r1⟩ := qv I da ra rx
 obtain ⟨bs, r2⟩ := qv I dc rc ry
 exact SeqAt.rcNeAt_reads r1 r2 da.lay.1 dc.lay.1 (by have := da.lay.2; omega) X.prog X.w X.xe _ ⟨.bl _, H, I, rfl, q⟩
theorem X7 {op : CmpOp} {f : Bool -> Bool} (ho : kY X (compareOp op) (fun x y H Q => ∃ a c, aU X.K CL H a x /\ aU X.K CL H c y /\ ic 60 a /\ ic 60 c /\ Q (.bl (f (tK a c))) H)) (h1 : cL X CL b e1 δ d1 δ1) (h2 : cL X CL b e2 δ1 d2 δ2) (k1 : ic 60 d1) (k2 : ic 60 d2)
   (hm : behindInMarks op e2 = false) : oS X CL b (.Compare e1 [op] [e2] pos) δ (f (tK d1 d2)) δ2 /\ bG X CL b (.Compare e1 [op] [e2] pos) δ (.sh (.bl (f (tK d1 d2)))) δ2 := by
 constructor
 . intro H Z σ ts vs Q S k
   refine wU (oG ho b6 b6 hm) (h1 H Z σ ts vs _ S fun v1 H1 Z1 z1 TL S1 r1 => h2 H1 Z1 σ ts vs _ S1 fun v2 H2 Z2 z2 Ij S2 r2 => ?_)
   exact ⟨d1, d2, r1.mono Ij, r2, k1, k2, _, rfl, k H2 Z2 (z1.trans z2) (TL.trans Ij) S2⟩
 . intro H Z σ ts vs Q S k
   refine bO (oF ho b6 b6 hm) (h1 H Z σ ts vs _ S fun v1 H1 Z1 z1 TL S1 r1 => h2 H1 Z1 σ ts vs _ S1 fun v2 H2 Z2 z2 Ij S2 r2 => ?_)
   exact ⟨d1, d2, r1.mono Ij, r2, k1, k2, k _ H2 Z2 (z1.trans z2) (TL.trans Ij) (S2.push (.bl _))⟩
theorem By (hu : X.A.units + 64 < cLine) (h1 : cL X CL b e1 δ d1 δ1) (h2 : cL X CL b e2 δ1 d2 δ2) (k1 : ic 60 d1) (k2 : ic 60 d2) : oS X CL b (.Compare e1 [.Eq] [e2] pos) δ (tK d1 d2) δ2 /\ bG X CL b (.Compare e1 [.Eq] [e2] pos) δ (.sh (.bl (tK d1 d2))) δ2 :=
 X7 (f := fun b => b) (TH hu) h1 h2 k1 k2 (k8 _)
theorem qw (hu : X.A.units + 64 < cLine) (h1 : cL X CL b e1 δ d1 δ1) (h2 : cL X CL b e2 δ1 d2 δ2) (k1 : ic 60 d1) (k2 : ic 60 d2) : oS X CL b (.Compare e1 [.NotEq] [e2] pos) δ (!tK d1 d2) δ2 /\ bG X CL b (.Compare e1 [.NotEq] [e2] pos) δ (.sh (.bl (!tK d1 d2))) δ2 :=
 X7 (f := fun b => !b) (TJ hu) h1 h2 k1 k2 (k8 _)
noncomputable def cutD {α : Type} (xs : List α) (lo hi : Option Int) : List α := (xs.drop (HT.eZ xs.length 0 lo)).take (HT.eZ xs.length xs.length hi - HT.eZ xs.length 0 lo)
theorem ay.drop {K : PySem.W.Frag} {Z : Hp} : ∀ {ds : List L3.D} {vs : List V} (n : Nat), ay K CL Z ds vs -> ay K CL Z (ds.drop n) (vs.drop n)
 | _, _, 0, r => r
 | _, _, _ + 1, .nil => .nil
 | _, _, n + 1, .cons _ t => ay.drop n t
theorem ay.take {K : PySem.W.Frag} {Z : Hp} : ∀ {ds : List L3.D} {vs : List V} (n : Nat), ay K CL Z ds vs -> ay K CL Z (ds.take n) (vs.take n)
 | _, _, 0, _ => .nil
 | _, _, _ + 1, .nil => .nil
 | _, _, n + 1, .cons r t => .cons r (ay.take n t)
theorem ay.cut {K : PySem.W.Frag} {Z : Hp} {ds : List L3.D} {vs : List V} (r : ay K CL Z ds vs) (lo hi : Option Int) : ay K CL Z (cutD ds lo hi) (wH vs lo hi) := by
 unfold cutD wH
 rw [r.length]
 exact (r.drop _).take _
theorem z6 : ∀ {ds : List L3.D}, D.aY ds = true -> ∀ d ∈ ds, d.iF = true
 | [], _, _, h => by cases h
 | d :: ds, k, e, h => by
   rw [D.aY, agk] at k
   rcases afX.mp h with h | h
   . subst h; exact k.1
   . exact z6 k.2 e h
theorem jS : ∀ {ds : List L3.D}, (∀ d ∈ ds, d.iF = true) -> D.aY ds = true
 | [], _ => rfl
 | d :: ds, h => by rw [D.aY, h d afP, jS fun e he => h e (afS _ he)]; rfl
theorem MY {α : Type} {xs : List α} {lo hi : Option Int} {x : α} (h : x ∈ cutD xs lo hi) : x ∈ xs := List.mem_of_mem_drop (ag8 h)
noncomputable def QT (X : Cx) (CL : Str -> Addr) (b : Bx) (e : Option Expr) (δ : List (Option T)) (k : Option Int) (δ' : List (Option T)) : Prop :=
 ∃ t, PO X e t /\ ∀ (H Z : Hp) (σ : L2.St) (ts : List T) (vs : List V) (Q : Option Int -> Hp -> Prop), bf X.K CL b H Z δ σ ts vs -> (∀ H' Z', aA Z Z' -> aA H H' -> bf X.K CL b H' Z' δ' σ ts vs -> Q k H') -> t σ H Q
theorem iV : QT X CL b none δ none δ := ⟨_, MD, fun H Z σ ts vs Q S k => k H Z (.refl _) (.refl _) S⟩
theorem iW {k : Int} (h : cL X CL b e δ (.int k) δ1) : QT X CL b (some e) δ (some k) δ1 := ⟨_, MF b6, fun H Z σ ts vs Q S kk => h H Z σ ts vs _ S fun v H1 Z1 z1 k1 S1 r => ⟨k, r.sc rfl, kk H1 Z1 z1 k1 S1⟩⟩
theorem lz {lo hi : Option Expr} {l h : Option Int} (h1 : cL X CL b e δ (.lst ds) δ1) (hi1 : D.aY ds = true) (h2 : QT X CL b lo δ1 l δ2) (h3 : QT X CL b hi δ2 h δ3) : bG X CL b (.Subscript e (.Slice lo hi none p2) pos) δ (.lst ((cutD ds l h).map T.sh)) δ3 := fun H Z σ ts vs Q S k => by
 obtain ⟨t2, X8, w2⟩ := h2
 obtain ⟨t3, X9, w3⟩ := h3
 refine bO (tD MG b6 X8 X9) (h1 H Z σ ts vs _ S fun v H1 Z1 z1 k1 S1 r => w2 H1 Z1 σ ts vs _ S1 fun H2 Z2 z2 k2 S2 => w3 H2 Z2 σ ts vs _ S2 fun H3 Z3 z3 k3 S3 => ?_)
 have r' := r.mono (k2.trans k3)
 cases r' with
 | lst hq rr =>
   refine ⟨_, _, rfl, hq, fun p hp => ?_⟩
   have rc := ay.iF S3.tp (jS fun d hd => z6 hi1 d (MY hd)) (rr.cut l h)
   obtain ⟨c, S4⟩ := (bf.oV rc S3).qu (g0 := []) (by simp [rc.length]) hp
   exact k _ _ _ (z1.trans (z2.trans z3)) (k1.trans (k2.trans (k3.trans c))) S4
theorem c5 (hm : X.mg "tuple" = none) (h : cL X CL b e δ (.lst ds) δ1) (hi : D.aY ds = true) (hg : Gl X "tuple") (hs : starEach [e] X.env = (false, eval e X.env) :: starEach [] X.env := by exact bD rfl) : bG X CL b (.Call (.Name "tuple" pp) [e] [] pos) δ (.sh (.tup ds)) δ1 := fun H Z σ ts vs Q S k =>
 bO (gu nF hg hm qX (cu b6 dW hs) (he := hs)) (h H Z σ ts vs _ S fun v H1 Z1 z1 k1 S1 r => by
   cases r with
   | lst hq rr =>
     refine ⟨_, _, rfl, .inl ⟨hq, fun l hl => ?_⟩⟩
     obtain ⟨a, c, S2⟩ := (bf.oV (ay.iF S1.tp hi rr) S1).wX (by simp [rr.length]) hl
     obtain ⟨Z3, z3, S3⟩ := S2.wV
     rw [T.bK, ia] at S3
     exact k _ _ Z3 (z1.trans (a.trans z3)) (k1.trans c) S3)
theorem qY {tl Tj : List T} {pa pb : Pos} (n : Vn X i x) (h0 : δ[i]? = some (some (.lst Tj))) (h : bG X CL b e δ t δ1) (h1 : δ1[i]? = some (some (.lst tl))) (hl : tl.length <= 1000000) (k : dw X CL b eo (δ1.set i (some (.lst (tl ++ [t])))) DD)
   (fP : attributeBase (.Name x pp) "append" X.env (eval (.Name x pp) X.env) = eval (.Name x pp) X.env := by rfl)
   (nQ : ((backTo pb (starEach [e] X.env)).all (fun x => !x.1) && (backToKw pb (keywordEach [] X.env)).all (fun x => x.1.isSome) && decide ([e].length + ([] : List Keyword).length + (if ([] : List Keyword).isEmpty then 0 else 1) < 30)) = true := by rfl)
   (hline : (pa.endLine == pb.line) = true := by rfl) (hs : starEach [e] X.env = (false, eval e X.env) :: starEach [] X.env := by exact bD rfl) (zS : swapsWith (.Call (.Attribute (.Name x pp) "append" pa) [e] [] pb) none pos.line X.env = pure false := by rfl) :
   dw X CL b (.Expr (.Call (.Attribute (.Name x pp) "append" pa) [e] [] pb) pos :: eo) δ DD :=
 bW (Tp i h0 h h1 (ahu hl (by rw [age]; decide)) k n.hi n.hv n.hd n.kK fP nQ hline hs zS)
theorem Ik {tl : List T} {k : Int} {j : Nat} {ps : Pos} (n : Vn X i x) (h : bG X CL b e δ t δ1) (h2 : cL X CL b e2 δ1 (.int k) δ1) (h1 : δ1[i]? = some (some (.lst tl))) (hk : Dg tl.length k = some j) (kk : dw X CL b eo (δ1.set i (some (.lst (tl.set j t)))) DD)
   (ha : ∀ v, assign (.Subscript (.Name x pp) e2 ps) X.env v = (do
     let ov ← holding [v] (eval (.Name x pp) X.env)
     let iv ← holding [v, ov] (eval e2 X.env)
     standAt ps
     holding [v, ov, iv] (setItem ov iv v)
     release [v, ov, iv] []) := by intro _; rfl)
   (hs : swapsWithSole [.Subscript (.Name x pp) e2 ps] e pos.line X.env = pure false := by rfl) (hw : swappedStores [.Subscript (.Name x pp) e2 ps] e X.env = pure none := by rfl) (ha1 : (assignEach [.Subscript (.Name x pp) e2 ps] X.env).map (·.2) = [assign (.Subscript (.Name x pp) e2 ps) X.env] := by rfl) :
   dw X CL b (.Assign [.Subscript (.Name x pp) e2 ps] e pos :: eo) δ DD := by
 refine bW fun H Z σ ts vs E S M => kT (R8 b6 (R6 (gW n.hi n.hv n.hd n.kK) b6 set_list ha) hs hw ha1) (h H Z σ ts vs _ S fun v H1 Z1 z1 k1 S1 => ?_)
 have hj : j < tl.length := (rR hk).2.1
 obtain ⟨v0, e0, _⟩ := S1.look h1
 refine ⟨v0, e0, ?_⟩
 refine h2 H1 Z1 σ _ _ _ S1 fun v2 H2 Z2 z2 k2 S2 r2 => ?_
 obtain ⟨a, us, ea, S7, hu, S3⟩ := S2.setAt h1 hj
 rw [e0] at ea
 cases ea
 exact ⟨a, us, k, j, rfl, r2.sc rfl, S7, by rw [hu]; exact hk, M.nx _ σ _ Z2 (z1.trans z2) S3 kk⟩
theorem cy {n : Nat} (hn : ds.length = n) (hm : X.mg "len" = none) (h : cL X CL b e δ (.lst ds) δ1) (hg : Gl X "len") (hs : starEach [e] X.env = (false, eval e X.env) :: starEach [] X.env := by exact bD rfl) : bG X CL b (.Call (.Name "len" pp) [e] [] pos) δ (.sh (.int n)) δ1 := by
 subst hn
 exact Dt hm h hg hs
theorem cD (h : bG X CL b e δ (.lst (ds.map T.sh)) δ1) : cL X CL b e δ (.lst ds) δ1 := by
 have := QK h
 rwa [T.bK, ia] at this
end
theorem qx {α : Type} {f : α -> D} {l : List α} {k : Int} (z : α) (h0 : 0 <= k) (h1 : k < l.length) : oJ (l.map f) k = some (f (l.getD k.toNat z)) := by
 obtain ⟨j, rfl⟩ : ∃ j : Nat, k = j := ⟨k.toNat, by omega⟩
 refine aN ?_
 have hl : j < l.length := by omega
 rw [af2, afR hl]
 simp [List.getD, hl]
theorem gQ {α : Type} {f : α -> D} (h : ∀ a, (f a).iF = true) : ∀ (l : List α), D.aY (l.map f) = true
 | [] => rfl
 | a :: l => by rw [agd, D.aY, h a, gQ h l]; rfl
section
variable {X : Cx} {CL : Str -> Addr} {b : Bx} {δ δ1 δ2 : List (Option T)} {e e1 e2 : Expr} {es : List Expr} {d : D} {pos p2 : Pos} {n : Nat} {i : Nat} {x : Str} {t : T}
theorem vE (n : Vn X i x) (h : δ[i]? = some (some t)) (e : t.bK = d) : cL X CL b (.Name x pos) δ d δ := e ▸ vB n h
theorem oW (x : Str) : ∀ l : List Str, XC (.str x) (l.map V.str) = decide (x ∈ l)
 | [] => by simp [XC]
 | y :: l => by
   have ih := oW x l
   unfold XC at ih ⊢
   rw [agd, ahY, ih]
   have e : ∀ a c : Str, MH (.str a) (.str c) = (a == c) := fun _ _ => rfl
   rw [e]
   by_cases h : y = x
   . subst h; simp
   . have h' : ¬ x = y := fun e => h e.symm
     simp [h, h']
theorem ay.strs {K : PySem.W.Frag} {Z : Hp} : ∀ {l : List Str} {vs : List V}, ay K CL Z (l.map D.str) vs -> vs = l.map V.str
 | [], _, r => by
   have r' : ay K CL Z [] _ := r
   cases r'; rfl
 | y :: l, _, r => by
   have r' : ay K CL Z (D.str y :: l.map D.str) _ := r
   cases r' with
   | cons r1 r2 => rw [r1.sc rfl, ay.strs r2]; rfl
theorem fW : ∀ l : List Str, (l.map V.str).all oK = true
 | [] => rfl
 | y :: l => by rw [agd, List.all_cons, fW l]; rfl
theorem Yb {l : List Str} (h1 : cL X CL b e1 δ (.str x) δ1) (h2 : cL X CL b e2 δ1 (.tup (l.map .str)) δ2) (hm : behindInMarks .In e2 = false) :
   oS X CL b (.Compare e1 [.In] [e2] pos) δ (decide (x ∈ l)) δ2 /\ bG X CL b (.Compare e1 [.In] [e2] pos) δ (.sh (.bl (decide (x ∈ l)))) δ2 := by
 constructor
 . intro H Z σ ts vs Q S k
   refine wU (oG vG b6 b6 hm) (h1 H Z σ ts vs _ S fun v1 H1 Z1 z1 k1 S1 r1 => h2 H1 Z1 σ ts vs _ S1 fun v2 H2 Z2 z2 k2 S2 r2 => ?_)
   cases r2 with
   | tup hq rr =>
     have e := rr.strs
     subst e
     refine ⟨_, _, rfl, .inr hq, by rw [r1.sc rfl]; rfl, fW l, _, rfl, ?_⟩
     rw [af1 af4, r1.sc rfl, oW]
     exact k H2 Z2 (z1.trans z2) (k1.trans k2) S2
 . intro H Z σ ts vs Q S k
   refine bO (oF vG b6 b6 hm) (h1 H Z σ ts vs _ S fun v1 H1 Z1 z1 k1 S1 r1 => h2 H1 Z1 σ ts vs _ S1 fun v2 H2 Z2 z2 k2 S2 r2 => ?_)
   cases r2 with
   | tup hq rr =>
     have e := rr.strs
     subst e
     refine ⟨_, _, rfl, .inr hq, by rw [r1.sc rfl]; rfl, fW l, ?_⟩
     rw [af1 af4, r1.sc rfl, oW]
     exact k _ H2 Z2 (z1.trans z2) (k1.trans k2) (S2.push (.bl _))
theorem Il {l : List Str} {j : Nat} (h1 : cL X CL b e1 δ (.str x) δ1) (h2 : Dn X CL b es δ1 ((l.map D.str).map T.sh) δ2) (hl : (l.map D.str).length <= sizeLine := by exact aq rfl) :
   oS X CL b (.Compare e1 [.In] [.Tuple es j p2] pos) δ (decide (x ∈ l)) δ2 /\ bG X CL b (.Compare e1 [.In] [.Tuple es j p2] pos) δ (.sh (.bl (decide (x ∈ l)))) δ2 := Yb h1 (ah (aG h2 hl)) rfl
noncomputable def tL : Expr -> Option Str
 | .Constant (.str x) _ _ => some x
 | _ => none
noncomputable def qy : List Expr -> Option (List Str)
 | [] => some []
 | e :: es => (tL e).bind fun x => (qy es).map (x :: ·)
theorem z7 {e : Expr} {x : Str} (h : tL e = some x) : ∃ j p, e = .Constant (.str x) j p := by
 unfold tL at h
 split at h
 . cases h; exact ⟨_, _, rfl⟩
 . cases h
theorem oX : ∀ {es : List Expr} {l : List Str}, qy es = some l -> Dn X CL b es δ ((l.map D.str).map T.sh) δ
 | [], l, h => by
   have e : l = [] := (agf h).symm
   subst e
   exact dP
 | e :: es, l, h => by
   rw [qy] at h
   obtain ⟨x, hx, h⟩ := Option.bind_eq_some_iff.mp h
   obtain ⟨l', hl, rfl⟩ := agg.mp h
   obtain ⟨j, p, rfl⟩ := z7 hx
   exact bY cS (oX hl)
end
theorem Im {α : Type} {l : List α} {k : Int} (z : α) (h0 : 0 <= k) (h1 : k < l.length) : oJ l k = some (l.getD k.toNat z) := by
 obtain ⟨j, rfl⟩ : ∃ j : Nat, k = j := ⟨k.toNat, by omega⟩
 refine aN ?_
 have hl : j < l.length := by omega
 rw [afR hl]
 simp [List.getD, hl]
theorem Io {n : Nat} {k : Int} (h0 : 0 <= k) (h1 : k < n) : Dg n k = some k.toNat := by
 unfold Dg
 rw [agb h0, agb h1]
theorem str_len (x y : Str) : (x ++ y).length = x.length + y.length := by
 show (x.cps ++ y.cps).size = _
 rw [Array.size_append]; rfl
theorem BD (x y : Str) (h1 : PyData.strOk x = true) (h2 : PyData.strOk y = true) : PyData.strOk (x ++ y) = true := by
 unfold PyData.strOk at *
 show (x.cps ++ y.cps).all _ = true
 rw [Array.all_append, h1, h2]; rfl
section
variable {K : PySem.W.Frag} {CL : Str -> Addr} {b : Bx} {H H' Z : Hp} {δ : List (Option T)} {σ : L2.St} {ts tl : List T} {vs us : List V} {t : T} {v : V}
theorem gM.get : ∀ {fs : List (Str × D)} {gs : List (Str × V)} {f : Str} {d : D}, gM K CL Z fs gs -> fs.lookup f = some d -> ∃ v, gs.lookup f = some v /\ aU K CL Z d v
 | _, _, _, _, .nil, e => by simp at e
 | _, _, f, d, .cons (x := x) r t, e => by
   rw [agn] at e ⊢
   cases h : f == x with
   | true => rw [h] at e; cases e; exact ⟨_, rfl, r⟩
   | false => rw [h] at e; exact gM.get t e
noncomputable def jT (f : Str) (t : T) : List (Str × T) -> List (Str × T)
 | [] => [(f, t)]
 | (g, x) :: r => if g = f then (g, t) :: r else (g, x) :: jT f t r
theorem cH.length {fs : List (Str × T)} {gs : List (Str × V)} {fp : List Addr} (h : cH K CL H Z fs gs fp) : fs.length = gs.length :=
 cH.ind (P := fun d v _ => d.length = v.length) rfl (fun _ _ i => congrArg (· + 1) i) h
theorem cH.put {f : Str} {g : List Addr} (q : aV K CL H Z t v g) : ∀ {fs : List (Str × T)} {gs : List (Str × V)} {fp : List Addr}, cH K CL H Z fs gs fp →
   ∃ WD f', cH K CL H Z (jT f t fs) (iI f v gs) WD /\ f'.Sublist fp /\ WD.Perm (g ++ f')
 | _, _, _, .nil => ⟨g ++ [], [], .cons q .nil, agz _, ah9 _⟩
 | _, _, _, .cons (x := x) (fp := fp) (gp := gp) r rs => by
   rw [jT, iI]
   by_cases h : x = f
   . rw [agb h, agb h]
     exact ⟨g ++ gp, gp, .cons q rs, ag3 _ _, ah9 _⟩
   . rw [af1 h, af1 h]
     obtain ⟨p, p', h1, h2, h3⟩ := cH.put (f := f) q rs
     refine ⟨fp ++ p, fp ++ p', .cons r h1, agC (agz _) h2, (agy fp h3).trans ?_⟩
     rw [← afW, ← afW]
     exact agE.append_right p'
theorem bf.w9 {a : Addr} {o : HO} {WD gp fp Dv : List Addr} {δ2 : List (Option T)} (hm : jj o = false) (S : bf K CL b H Z δ σ ts vs) (own : ∀ c ∈ fp ++ gp, Z c = none /\ b.B c = none) (ha : a ∈ fp ++ gp)
   (e' : eU K CL (upd H a o) Z δ2 σ WD) (r' : aJ K CL (upd H a o) Z tl us Dv) (pm : (WD ++ Dv).Nodup) (sub : ∀ c ∈ WD ++ Dv, c ∈ fp ++ gp) :
   bf K CL b (upd H a o) Z δ2 σ tl us := by
 have oa := own a ha
 refine ⟨⟨_, _, e', r', pm, fun c hc => own c (sub c hc)⟩, fun c u q => ?_, S.zz, fun c u q => ?_, S.new, fun c u q i => ?_, S.tab⟩
 . rw [ao (bu q oa.2)]; exact S.bh c u q
 . rw [ao (bu q oa.1)]; exact S.zh c u q
 . by_cases hc : c = a
   . subst hc; rw [az] at q; cases q; rw [hm] at i; cases i
   . rw [ao hc] at q; exact S.tp c u q i
theorem bf.setField {i : Nat} {x : Addr} {c f : Str} {fs : List (Str × T)} (S : bf K CL b H Z δ σ (t :: ts) (v :: vs)) (hi : δ[i]? = some (some (.pin x (.ins c fs)))) :
   ∃ dx gs, σ[i]? = some (some (.ref x)) /\ H x = some (.ins (CL c) dx gs) /\ gs.length = fs.length /\ bf K CL b (upd H x (.ins (CL c) dx (iI f v gs))) Z (δ.set i (some (.pin x (.ins c (jT f t fs))))) σ ts vs := by
 obtain ⟨fp, gp, e, r, nd, k⟩ := S.rep
 obtain ⟨v0, f1, f2, f3, hv, nI, rt, put, _⟩ := e.get hi
 subst nI
 cases rt with
 | pin rt =>
 cases rt with
 | @ins a dx _ gs _ g ha rs =>
   cases r with
   | @cons _ _ _ _ ft gr q1 q2 =>
     have ne : ∀ c ∈ (f1 ++ (g ++ f3)) ++ (ft ++ gr), c ≠ x := fun c hc e => by
       subst e
       have hp : ((f1 ++ ((c :: g) ++ f3)) ++ (ft ++ gr)).Perm (c :: ((f1 ++ (g ++ f3)) ++ (ft ++ gr))) := by
         rw [agq, ← agq]
         exact (agY.append_right _)
       exact (agB.mp (hp.nodup_iff.mp nd)).1 hc
     refine ⟨dx, gs, hv, ha, rs.length.symm, ?_⟩
     have q1' := q1.mono (H' := upd H x (.ins (CL c) dx (iI f v gs))) (.refl _) fun c hc => ao (ne c (by simp [hc]))
     have rs' := rs.mono (H' := upd H x (.ins (CL c) dx (iI f v gs))) (.refl _) fun c hc => ao (ne c (by simp [hc]))
     obtain ⟨p, p', h1, h2, h3⟩ := cH.put (f := f) q1' rs'
     have r1 : aV K CL (upd H x (.ins (CL c) dx (iI f v gs))) Z (.pin x (.ins c (jT f t fs))) (.ref x) (x :: p) := .pin (.ins az h1)
     have e2 := put (H' := upd H x (.ins (CL c) dx (iI f v gs))) (.refl _) (fun c hc => ao (ne c (by
       rcases af0.mp hc with h | h
       . simp [h]
       . simp [h]))) r1
     rw [fz hv] at e2
     have hp : ((f1 ++ ((x :: p) ++ f3)) ++ gr).Perm ((f1 ++ ((x :: p') ++ f3)) ++ (ft ++ gr)) := by
       have h4 : ((f1 ++ ((x :: p) ++ f3)) ++ gr).Perm ((f1 ++ ((x :: (ft ++ p')) ++ f3)) ++ gr) := ((h3.cons x).append_right f3).append_left f1 |>.append_right gr
       refine h4.trans ?_
       simp only [agq, afW]
       refine agy f1 (List.Perm.cons x ?_)
       have := (agE (l₁ := ft) (l₂ := p' ++ f3)).append_right gr
       simp only [afW] at this
       exact this
     have sb : ((f1 ++ ((x :: p') ++ f3)) ++ (ft ++ gr)).Sublist ((f1 ++ ((x :: g) ++ f3)) ++ (ft ++ gr)) :=
       agC (agC (agz _) (agC (List.Sublist.cons₂ x h2) (agz _))) (agz _)
     exact S.w9 rfl k (by simp) e2 (q2.mono (.refl _) fun c hc => ao (ne c (by simp [hc]))) (hp.nodup_iff.mpr (nd.sublist sb)) fun c hc => sb.subset (hp.mem_iff.mp hc)
end
section
variable {X : Cx} {CL : Str -> Addr} {b : Bx} {δ δ1 : List (Option T)} {e : Expr} {t : T} {d : D} {c f x : Str} {fs : List (Str × D)} {pos : Pos} {DD : dH} {i : Nat}
theorem qz (hc : wG X.K (CL c)) (n : bU X.K (CL c) f) (h : cL X CL b e δ (.ins c fs) δ1) (hl : fs.lookup f = some d) (hb : attributeBase e f X.env (eval e X.env) = eval e X.env := by rfl) :
   cL X CL b (.Attribute e f pos) δ d δ1 := fun H Z σ ts vs Q S k =>
 bO (Bf b6 hb) (h H Z σ ts vs _ S fun v H' Z' z s S' r => by
   cases r with
   | @ins a dx _ gs _ ha rf =>
     obtain ⟨w, hw, zN⟩ := rf.get hl
     exact ⟨a, CL c, dx, gs, w, rfl, ha, hc, n, hw, k w H' Z' z s S' zN⟩)
theorem xg (hc : wG X.K (CL c)) (n : bU X.K (CL c) f) (h : bG X CL b e δ (.sh (.ins c fs)) δ1) (hl : fs.lookup f = some d) (hb : attributeBase e f X.env (eval e X.env) = eval e X.env := by rfl) :
   bG X CL b (.Attribute e f pos) δ (.sh d) δ1 := fun H Z σ ts vs Q S k =>
 bO (Bf b6 hb) (h H Z σ ts vs _ S fun v H' Z' z s S' => by
   obtain ⟨fp, gp, _, r, _, _⟩ := S'.rep
   cases r with
   | cons r _ =>
     cases r with
     | sh r =>
       cases r with
       | @ins a dx _ gs _ ha rf =>
         obtain ⟨w, hw, zN⟩ := rf.get hl
         exact ⟨a, CL c, dx, gs, w, rfl, S'.zh _ _ ha, hc, n, hw, k w H' Z' z s (S'.pop.push zN)⟩)
theorem z8 {eo : List Stmt} {a : Addr} {gs : List (Str × T)} {pa pb pc : Pos} (hc : wG X.K (CL c)) (n : bU X.K (CL c) f) (nm : Vn X i x) (h : bG X CL b e δ t δ1) (h1 : δ1[i]? = some (some (.pin a (.ins c gs)))) (hl : gs.length < 1000)
   (k : dw X CL b eo (δ1.set i (some (.pin a (.ins c (jT f t gs))))) DD) (hs : swapsWith e (some (.Attribute (.Name x pa) f pb)) pc.line X.env = pure false := by rfl) :
   dw X CL b (.Assign [.Attribute (.Name x pa) f pb] e pc :: eo) δ DD := bW fun H Z σ ts vs E S M =>
 kT (Sq (gW nm.hi nm.hv nm.hd nm.kK) b6 hs) (h H Z σ ts vs _ S fun v H' Z' z s S' => by
   obtain ⟨dx, ws, hv, hx, hlen, S2⟩ := S'.setField (f := f) h1
   exact ⟨.ref a, hv, a, CL c, dx, ws, rfl, hx, hc, n, by rw [hlen]; exact hl, M.nx _ σ _ Z' z S2 k⟩)
end
noncomputable def ZW (K : PySem.W.Frag) (CL : Str -> Addr) {A : Type} (c : Str) (n : Nat) (arg : A -> List D) (Pre : A -> Prop) (res : A -> List (Str × T)) : Sp := fun vs H Q _ =>
 ∃ (W H0 : Hp) (a : A) (x dx : Addr) (us : List V), vs = .ref x :: us /\ H0 x = none /\ H0 dx = none /\ dx ≠ x /\ H = upd (upd H0 dx (.own x)) x (.ins (CL c) dx []) ∧
   aA W H0 /\ (∀ c o, H0 c = some o -> jj o = true -> W c = some o) /\ ay K CL W (arg a) us /\ (arg a).length + 1 = n /\ Pre a /\ lg CL W ∧
   ∀ H' W' fp, aA H0 H' -> aA W W' -> aA W' H' -> (∀ c o, W' c = some o -> W c = none -> H0 c = none) -> (∀ c o, H' c = some o -> jj o = true -> W' c = some o) →
     aV K CL H' W' (.ins c (res a)) (.ref x) fp -> fp.Nodup -> (∀ c ∈ fp, W' c = none /\ H0 c = none) -> Q .non H'
section
variable {X : Cx} {CL : Str -> Addr} {b : Bx} {δ δ1 : List (Option T)} {e : Expr} {es : List Expr} {pos pp : Pos}
variable {A : Type} {k n : Nat} {f : Addr} {fd : FuncData} {ps : List Str} {arg : A -> List D} {Pre : A -> Prop} {x c : Str}
theorem MZ {res : A -> List (Str × T)} (a : A) (M : Mk X.K (CL c) f) (F : g9 X.prog X.w X.K X.mg X.base vI k f fd ps (ZW X.K CL c n arg Pre res)) (hr : fc (k + 1) X.A) (hm : X.mg x = some (.ref (CL c))) (hb : Binds X.K fd ps [])
   (h : L1 X CL b (e :: es) δ (arg a) δ1) (hn : (arg a).length + 1 = n) (hp : Pre a) (hc : T.gy (res a) = true) (hg : Gl X x)
   (sZ : (x == ("__debug__" : Str)) = false := by decide) (he : starEach (e :: es) X.env = (false, eval e X.env) :: starEach es X.env := by exact bD rfl) (hpl : (backTo pos (starEach es X.env)).any (·.1) = false := by rfl) :
   bG X CL b (.Call (.Name x pp) (e :: es) [] pos) δ (.ins c (res a)) δ1 := fun H Z σ ts vs Q S kk =>
 bO (Mz M F hr hg hm hb .nil HK QI sZ he hpl) (h H Z σ ts vs _ S fun us H1 Z1 z1 k1 S1 r x dx hx hdx ne => by
   rw [agF]
   refine ⟨H1, H1, a, x, dx, us, rfl, hx, hdx, ne, rfl, .refl _, fun _ _ q _ => q, r, hn, hp, S1.SY, fun H' W' fp hh ww wh nw tp rt nd own => ⟨rfl, ?_⟩⟩
   obtain ⟨Z', z', S'⟩ := S1.back hh S1.zh ww wh nw tp rt nd own (.inr (by rw [T.clean]; exact hc))
   exact kk _ H' Z' (z1.trans z') (k1.trans hh) S')
end
theorem M0 {P : Program} {w : World} {K : PySem.W.Frag} {mg : Str -> Option Value} {base : Heap} {CL : Str -> Addr} {x qual c : Str} {st : Stmt} {f : Addr} {fd : FuncData} {N ps : List Str} {k : Nat} {A : Type} {arg : A -> List D} {Pre : A -> Prop} {res : A -> List (Str × T)} (F : jM K x qual st f fd) (S : aQ N ps (au st))
   (hb : ∀ (ji : Value) (Ar : Around) (outer : List Env) (s : Shared) (H : Hp) (E : XK) (b : Bx) (a : A) (y : Addr), fc k (Ar.deeper (envOfC qual (au st) s.heap.objs.size f ji)) -> Pre a →
     dw (uT vI P w K mg base N qual (au st) f ji Ar outer s H E).Qw CL b (fQ st) (some (.pin y (.ins c [])) :: ((arg a).map (fun d => some (T.sh d)) ++ List.replicate (N.length - ((arg a).length + 1)) none))
       { nx := fun δ => δ[0]? = some (some (.pin y (.ins c (res a)))), rt := fun _ _ => False }) :
   g9 P w K mg base vI (k + 1) f fd ps (ZW K CL c ps.length arg Pre res) := by
 refine F.ok S (fun vs H Q E h => ?_) (fun ji Ar outer s H vs Q E hr h => ?_)
 . obtain ⟨W, H0, a, y, dx, us, rfl, _, _, _, _, _, _, r, hl, _⟩ := h
   rw [agS, ← r.length]; exact hl
 . obtain ⟨W, H0, a, y, dx, us, rfl, hy, hdx, ne, rfl, wh, tp, r, hl, hp, tb, kk⟩ := h
   have old : ∀ {d : Addr} {o : HO}, H0 d = some o -> upd (upd H0 dx (.own y)) y (.ins (CL c) dx []) d = some o := fun {d o} q => by
     rw [ao (bu q hy), ao (bu q hdx)]; exact q
   refine ⟨_, LZ, hb ji Ar outer s _ E ⟨H0, W⟩ a y hr hp _ W _ [] [] _ ⟨⟨[y] ++ [], [], ?_, .nil, by simp, fun d hd => ?_⟩, fun d o q => old q, .refl _, fun d o q => old (wh d o q), fun d o q z => ?_, fun d o q i => ?_, tb⟩ ⟨fun δ' σ' H' Z' s' S' e => ?_, fun t v H' Z' δ' σ' s' S' e => e.elim, fun _ _ _ _ _ _ e => e.elim, fun _ _ _ _ _ _ e => e.elim⟩⟩
   . unfold L2.start
     rw [agd, agS, agq, ← r.length]
     exact .cons (.pin (.ins az .nil)) (jR _ r)
   . have : d = y := by simpa using hd
     subst this
     exact ⟨S6 wh hy, hy⟩
   . have q' : W d = some o := q
     have z' : W d = none := z
     rw [q'] at z'; cases z'
   . by_cases h1 : d = y
     . subst h1; rw [az] at q; cases q; cases i
     . rw [ao h1] at q
       by_cases h2 : d = dx
       . subst h2; rw [az] at q; cases q; cases i
       . rw [ao h2] at q; exact tp d o q i
   . obtain ⟨fp, gp, eE, _, nd, own⟩ := S'.rep
     obtain ⟨v, f1, f2, f3, hv, nI, rt, _, _⟩ := eE.get e
     subst nI
     cases rt with
     | pin rt =>
       refine kk H' Z' f2 S'.bh S'.zz S'.zh S'.new S'.tp rt ?_ fun d hd => own d (by simp [hd])
       have h1 := (agD.mp nd).1
       exact (agD.mp (agD.mp h1).2.1).1
section
variable {X : Cx} {CL : Str -> Addr} {b : Bx} {δ δ1 δ2 : List (Option T)} {e e1 e2 : Expr} {t : T} {ds nJ : List D} {x : Str} {pos pp : Pos} {DD : dH} {i : Nat} {eo body : List Stmt}
theorem Dw (g : Gx X) (P : Nat -> List (Option T) -> Prop) (m : Nat) (h0 : P m δ)
   (hs : ∀ m δ, P m δ -> ∃ p δ1, oS X CL b e δ p δ1 ∧
     (p = true -> dw X CL b body δ1 { nx := fun δ2 => ∃ m', m' < m /\ P m' δ2, rt := DD.rt, bk := fun δ2 => dw X CL b eo δ2 DD, ct := fun δ2 => ∃ m', m' < m /\ P m' δ2 }) /\ (p = false -> dw X CL b eo δ1 DD)) :
   dw X CL b (.While e body [] pos :: eo) δ DD := bW fun H Z σ ts vs E S M =>
 kT (Hi g.xe SX LZ) (by
   refine ⟨fun m σ H => ∃ Z2 δ2, aA Z Z2 /\ bf X.K CL b H Z2 δ2 σ ts vs /\ P m δ2, ⟨m, Z, δ, .refl _, S, h0⟩, ?_⟩
   rintro m σ H ⟨Z2, δ2, z2, S2, p2⟩
   obtain ⟨p, δ3, ht, h1, h2⟩ := hs m δ2 p2
   refine ht H Z2 σ ts vs _ S2 fun H3 Z3 z3 k3 S3 => ?_
   cases p with
   | true =>
     rw [agb rfl]
     refine ⟨fun σ' H' => ∃ m', m' < m /\ ∃ Z2 δ2, aA Z Z2 /\ bf X.K CL b H' Z2 δ2 σ' ts vs /\ P m' δ2, fun σ' H' q => q, ?_⟩
     refine h1 rfl H3 Z3 σ ts vs _ S3 ⟨fun δ' σ' H' Z' s' S' ⟨m', l, q⟩ => ⟨m', l, Z', δ', z2.trans (z3.trans s'), S', q⟩, fun t v H' Z' δ' σ' s' S' q => M.rt t v H' Z' δ' σ' (z2.trans (z3.trans s')) S' q,
       fun δ' σ' H' Z' s' S' q => M.nx δ' σ' H' Z' (z2.trans (z3.trans s')) S' q, fun δ' σ' H' Z' s' S' ⟨m', l, q⟩ => ⟨m', l, Z', δ', z2.trans (z3.trans s'), S', q⟩⟩
   | false =>
     rw [af1 (by decide)]
     exact M.nx δ3 σ H3 Z3 (z2.trans z3) S3 (h2 rfl))
noncomputable def Yc (K : PySem.W.Frag) : R2 := fun x y H Q => ∃ l b xs zs, x = .ref l /\ y = .ref b /\ k6 K H l xs /\ k6 K H b zs /\ xs.length + zs.length <= sizeLine /\ ∀ p, H p = none -> Q (.ref p) (upd H p (.lst (xs ++ zs)))
theorem M3 : kY X (binaryOp .Add) (Yc X.K) := by
 intro pins s σ H x y v u Q I rx ry h
 obtain ⟨l, b, xs, zs, rfl, rfl, hH, hB, hz, q⟩ := h
 cases rx
 cases ry
 obtain ⟨its, r, pl, _⟩ := I.list hH
 obtain ⟨tE, r2, pl2, _⟩ := I.list hB
 have e1 := r.length
 have e2 := r2.length
 obtain ⟨⟨c1, dd, da1, sl⟩, ho, hc, n, hd⟩ := pl.isList
 obtain ⟨⟨c2, QF, da2, WB⟩, GY, Sx, n2, hd2⟩ := pl2.isList
 cases hc; cases Sx; cases hd; cases hd2
 refine concat_meets ⟨_, ho, rfl⟩ ⟨_, GY, rfl⟩ noFill_list_add seq_list_add PySem.F.slot_list_add PySem.F.entry_list_add (PySem.F.args_list_add_2 (Value.ref l) (Value.ref b))
   (list_addW l b its.toArray tE.toArray n n2 dd QF sl WB (by rw [agi, agi]; omega)) ⟨ho, GY, ?_⟩
 have ea : its.toArray ++ tE.toArray = (its ++ tE).toArray := by simp
 rw [ea]
 exact ⟨.ref _, _, I.XE (t' := s.toks) (r.append r2) (by rw [afY]; omega), rfl, q _ I.fresh⟩
theorem ay.app {K : PySem.W.Frag} {Z : Hp} {ds nJ : List L3.D} {vs vs2 : List V} (h : ay K CL Z ds vs) (r2 : ay K CL Z nJ vs2) : ay K CL Z (ds ++ nJ) (vs ++ vs2) :=
 ay.ind (P := fun ds vs => ay K CL Z (ds ++ nJ) (vs ++ vs2)) r2 (fun r _ i => .cons r i) h
theorem rV (h1 : cL X CL b e1 δ (.lst ds) δ1) (h2 : cL X CL b e2 δ1 (.lst nJ) δ2) (i1 : D.aY ds = true) (i2 : D.aY nJ = true) (hz : ds.length + nJ.length <= sizeLine) :
   bG X CL b (.BinOp e1 .Add e2 pos) δ (.lst ((ds ++ nJ).map T.sh)) δ2 := fun H Z σ ts vs Q S k =>
 bO (sX M3 b6 b6) (h1 H Z σ ts vs _ S fun v1 H1 Z1 z1 k1 S1 r1 => h2 H1 Z1 σ ts vs _ S1 fun v2 H2 Z2 z2 k2 S2 r2 => by
   have Fg := r1.mono k2
   cases Fg with
   | lst Ip z9 =>
     cases r2 with
     | lst M4 A5 =>
       refine ⟨_, _, _, _, rfl, rfl, Ip, M4, by rw [← z9.length, ← A5.length]; exact hz, fun p hp => ?_⟩
       have rc := ay.app (ay.iF S2.tp i1 z9) (ay.iF S2.tp i2 A5)
       obtain ⟨c, S4⟩ := (bf.oV rc S2).qu (g0 := []) (by simp [rc.length, z9.length, A5.length]) hp
       exact k _ _ _ (z1.trans z2) (k1.trans (k2.trans c)) S4)
theorem boot_min : bootBuiltins "min" = some (.builtin "min") := by decide +kernel
theorem boot_max : bootBuiltins "max" = some (.builtin "max") := by decide +kernel
theorem boot_str : bootBuiltins "str" = some (.type "str") := by decide +kernel
theorem M5 {i j : Int} (g : Gx X) (hm : X.mg "min" = none) (hg : Gl X "min") (h : L1 X CL b [e1, e2] δ [.int i, .int j] δ1) (hs : starEach [e1, e2] X.env = (false, eval e1 X.env) :: starEach [e2] X.env := by exact bD rfl) (hpl : (backTo pos (starEach [e2] X.env)).any (·.1) = false := by rfl) :
   bG X CL b (.Call (.Name "min" pp) [e1, e2] [] pos) δ (.sh (.int (if j < i then j else i))) δ1 := fun H Z σ ts vs Q S k =>
 bO (iJ (EY g.calm) hg hm boot_min QI (he := hs) (hpl := hpl)) (h H Z σ ts vs _ S fun us H1 Z1 z1 k1 S1 r => by
   cases r with
   | cons r1 r =>
     cases r with
     | cons r2 r =>
       cases r
       rw [r1.sc rfl, r2.sc rfl]
       exact ⟨i, j, rfl, k _ H1 Z1 z1 k1 (S1.push (.int _))⟩)
theorem xh {i j : Int} (g : Gx X) (hm : X.mg "max" = none) (hg : Gl X "max") (h : L1 X CL b [e1, e2] δ [.int i, .int j] δ1) (hs : starEach [e1, e2] X.env = (false, eval e1 X.env) :: starEach [e2] X.env := by exact bD rfl) (hpl : (backTo pos (starEach [e2] X.env)).any (·.1) = false := by rfl) :
   bG X CL b (.Call (.Name "max" pp) [e1, e2] [] pos) δ (.sh (.int (if j > i then j else i))) δ1 := fun H Z σ ts vs Q S k =>
 bO (iJ (EX g.calm) hg hm boot_max QI (he := hs) (hpl := hpl)) (h H Z σ ts vs _ S fun us H1 Z1 z1 k1 S1 r => by
   cases r with
   | cons r1 r =>
     cases r with
     | cons r2 r =>
       cases r
       rw [r1.sc rfl, r2.sc rfl]
       exact ⟨i, j, rfl, k _ H1 Z1 z1 k1 (S1.push (.int _))⟩)
theorem M6 {i : Int} (hm : X.mg "str" = none) (hg : Gl X "str") (h : cL X CL b e δ (.int i) δ1) (hi : i.natAbs.log2 < 1920) (hs : starEach [e] X.env = (false, eval e X.env) :: starEach [] X.env := by exact bD rfl) :
   bG X CL b (.Call (.Name "str" pp) [e] [] pos) δ (.sh (.str (toString i))) δ1 := fun H Z σ ts vs Q S k =>
 bO (gu wF hg hm boot_str (cu b6 dW hs) (he := hs)) (h H Z σ ts vs _ S fun v H1 Z1 z1 k1 S1 r => by
   rw [r.sc rfl]
   exact ⟨i, rfl, hi, k _ H1 Z1 z1 k1 (S1.push (.str _))⟩)
end
structure Fm (X : Cx) (CL : Str -> Addr) (x : Str) (k n : Nat) {A : Type} (arg : A -> List D) (Pre : A -> Prop) (res : A -> List (Str × T)) : Prop where
 ex : ∃ f fd ps, Mk X.K (CL x) f /\ g9 X.prog X.w X.K X.mg X.base vI k f fd ps (ZW X.K CL x n arg Pre res) /\ X.mg x = some (.ref (CL x)) /\ Binds X.K fd ps []
 room : fc (k + 1) X.A
noncomputable def TN (N : List Str) (y : Addr) (c : Str) (ds : List D) : List (Option T) := some (.pin y (.ins c [])) :: (ds.map (fun d => some (T.sh d)) ++ List.replicate (N.length - (ds.length + 1)) none)
theorem TQ {K : PySem.W.Frag} {CL CL' : Str -> Addr} {arg : List Int -> List D} {pre : List Int -> Prop} {res : List Int -> T} (ha : ∀ a, arg a = [.lst (a.map .int)]) (hr : ∀ a, res a = .sh (.bl true)) (h0 : ∀ x, Dm x = true -> CL x = 0) :
   ∀ (vs : List V) (H : Hp) (Q : VK) (E : XK), GZ K CL' 1 arg pre res vs H Q E -> GZ K CL 1 arg pre res vs H Q E := by
 rintro vs H Q E ⟨W, a, h1, h2, h3, h4, h5, _, k⟩
 have TV : ∀ {l : List Int} {us : List V}, ay K CL' W (l.map .int) us -> ay K CL W (l.map .int) us := by
   intro l
   induction l with
   | nil => intro us r; cases r; exact .nil
   | cons i l ih =>
     intro us r
     cases r with
     | cons r t => cases r; exact .cons (.int i) (ih t)
 refine ⟨W, a, h1, h2, ?_, h4, h5, fun x hx e => absurd (h0 x hx) e, fun v H' W' fp a1 a2 a3 a4 a5 r nd own => k v H' W' fp a1 a2 a3 a4 a5 ?_ nd own⟩
 . rw [ha] at h3 ⊢
   cases h3 with
   | cons r t =>
     cases t
     cases r with
     | lst q rr => exact .cons (.lst q (TV rr)) .nil
 . rw [hr] at r ⊢
   cases r with
   | sh r => cases r; exact .sh (.bl _)
section
variable {X : Cx} {CL : Str -> Addr} {b : Bx} {δ δ1 : List (Option T)} {e : Expr} {es : List Expr} {x m : Str} {pos pp : Pos} {D : dH}
theorem mk_ {k n : Nat} {A : Type} {arg : A -> List L3.D} {Pre : A -> Prop} {res : A -> List (Str × T)} (a : A) (F : Fm X CL x k n arg Pre res) (hg : Gl X x) (h : L1 X CL b (e :: es) δ (arg a) δ1) (hp : Pre a) (hc : T.gy (res a) = true) (hn : (arg a).length + 1 = n := by rfl)
   (sZ : (x == ("__debug__" : Str)) = false := by decide) (he : starEach (e :: es) X.env = (false, eval e X.env) :: starEach es X.env := by exact bD rfl) (hpl : (backTo pos (starEach es X.env)).any (·.1) = false := by rfl) :
   bG X CL b (.Call (.Name x pp) (e :: es) [] pos) δ (.ins x (res a)) δ1 := by
 obtain ⟨f, fd, ps, M, F1, m, b⟩ := F.ex
 exact MZ a M F1 F.room m b h hn hp hc hg sZ he hpl
end
theorem mz {α : Type} {f : Str} {d : α} {fs : List (Str × α)} : ((f, d) :: fs).lookup f = some d := by
 rw [agn, ahg]
theorem eW {α : Type} {f g : Str} {d : α} {fs : List (Str × α)} (h : (f == g) = false) : ((g, d) :: fs).lookup f = fs.lookup f := by
 rw [agn, h]
theorem lA {f : Str} {t : T} : jT f t [] = [(f, t)] := rfl
theorem cM {f g : Str} {t u : T} {fs : List (Str × T)} (h : ¬ g = f) : jT f t ((g, u) :: fs) = (g, u) :: jT f t fs := by
 rw [jT, af1 h]
theorem Fo {f : Str} {t u : T} {fs : List (Str × T)} : jT f t ((f, u) :: fs) = (f, t) :: fs := by
 rw [jT, agb rfl]
section
variable {X : Cx} {CL : Str -> Addr} {b : Bx} {δ δ1 δ2 : List (Option T)} {e1 e2 : Expr} {x : Str} {pos : Pos} {d : L3.D}
noncomputable def Iq (d : L3.D) : Option (List L3.D) := match d with
 | .lst ds => some ds
 | .tup ds => some ds
 | _ => none
theorem aU.Iq {K : PySem.W.Frag} {Z : Hp} {v : V} {ds : List L3.D} (r : aU K CL Z d v) (h : L3.Iq d = some ds) : ∃ p us, v = .ref p /\ (k6 K Z p us \/ kN K Z p us) /\ ay K CL Z ds us := by
 cases r with
 | tup hq rr => cases h; exact ⟨_, _, rfl, .inr hq, rr⟩
 | lst hq rr => cases h; exact ⟨_, _, rfl, .inl hq, rr⟩
 | non => cases h
 | bl => cases h
 | int => cases h
 | str => cases h
 | any => cases h
 | val => cases h
 | oA => cases h
 | dct => cases h
 | ins => cases h
 | gq => cases h
theorem Dy {l : List Str} (h1 : cL X CL b e1 δ (.str x) δ1) (h2 : cL X CL b e2 δ1 d δ2) (hd : L3.Iq d = some (l.map .str)) (hm : behindInMarks .NotIn e2 = false) :
   oS X CL b (.Compare e1 [.NotIn] [e2] pos) δ (!decide (x ∈ l)) δ2 /\ bG X CL b (.Compare e1 [.NotIn] [e2] pos) δ (.sh (.bl (!decide (x ∈ l)))) δ2 := by
 constructor
 . intro H Z σ ts vs Q S k
   refine wU (oG oN b6 b6 hm) (h1 H Z σ ts vs _ S fun v1 H1 Z1 z1 k1 S1 r1 => h2 H1 Z1 σ ts vs _ S1 fun v2 H2 Z2 z2 k2 S2 r2 => ?_)
   obtain ⟨p, us, rfl, hq, rr⟩ := aU.Iq r2 hd
   have e := rr.strs
   subst e
   refine ⟨_, _, rfl, hq, by rw [r1.sc rfl]; rfl, fW l, _, rfl, ?_⟩
   rw [agb rfl, r1.sc rfl, oW]
   exact k H2 Z2 (z1.trans z2) (k1.trans k2) S2
 . intro H Z σ ts vs Q S k
   refine bO (oF oN b6 b6 hm) (h1 H Z σ ts vs _ S fun v1 H1 Z1 z1 k1 S1 r1 => h2 H1 Z1 σ ts vs _ S1 fun v2 H2 Z2 z2 k2 S2 r2 => ?_)
   obtain ⟨p, us, rfl, hq, rr⟩ := aU.Iq r2 hd
   have e := rr.strs
   subst e
   refine ⟨_, _, rfl, hq, by rw [r1.sc rfl]; rfl, fW l, ?_⟩
   rw [agb rfl, r1.sc rfl, oW]
   exact k _ H2 Z2 (z1.trans z2) (k1.trans k2) (S2.push (.bl _))
end
section
variable {X : Cx} {CL : Str -> Addr} {b : Bx} {δ δ1 δ2 : List (Option T)} {e : Expr} {es : List Expr} {d : L3.D} {ds : List L3.D} {t : T} {pos : Pos}
theorem aI : Dn X CL b [] δ (([] : List L3.D).map T.sh) δ := dP
theorem ak (h1 : bG X CL b e δ (.sh d) δ1) (h2 : Dn X CL b es δ1 (ds.map T.sh) δ2) (hs : starEach (e :: es) X.env = (false, eval e X.env) :: starEach es X.env := by exact bD rfl) : Dn X CL b (e :: es) δ ((d :: ds).map T.sh) δ2 := bY h1 h2 hs
theorem gE (h : Dn X CL b es δ (ds.map T.sh) δ1) (hl : ds.length <= sizeLine) : bG X CL b (.List es pos) δ (.lst (ds.map T.sh)) δ1 := iK h (by simpa using hl)
theorem dX (l : List Str) : D.aY (l.map L3.D.str) = true := gQ (fun _ => rfl) _
theorem M7 (h : bG X CL b e δ (.lst (ds.map T.sh)) δ1) : bG X CL b e δ (.sh (.lst ds)) δ1 := by
 have := Bs h
 rwa [T.bK, ia] at this
theorem rW (h : bG X CL b e δ t δ1) (q : t.bK = d) : bG X CL b e δ (.sh d) δ1 := q ▸ Bs h
theorem Dz {d2 : L3.D} (h : cL X CL b e δ d δ1) (q : d = d2) : cL X CL b e δ d2 δ1 := q ▸ h
theorem aB {t2 : T} (h : bG X CL b e δ t δ1) (q : t = t2) : bG X CL b e δ t2 δ1 := q ▸ h
end
structure xj (Z H Z' H' : Hp) : Prop where
 z : aA Z Z'
 h : aA H H'
 zh : aA Z' H'
 new : ∀ a o, Z' a = some o -> Z a = none -> H a = none
 tp : ∀ a o, H' a = some o -> jj o = true -> Z' a = some o
theorem xj.refl {Z H : Hp} (zh : aA Z H) (tp : ∀ a o, H a = some o -> jj o = true -> Z a = some o) : xj Z H Z H := ⟨.refl _, .refl _, zh, fun a o q z => (by rw [q] at z; cases z), tp⟩
theorem xj.tup {Z H : Hp} {p : Addr} {xs : List V} (zh : aA Z H) (tp : ∀ a o, H a = some o -> jj o = true -> Z a = some o) (hp : H p = none) : xj Z H (upd Z p (.tup xs)) (upd H p (.tup xs)) := by
 have zp : Z p = none := zh.free hp
 refine ⟨aA.upd zp, aA.upd hp, fun a o q => ?_, fun a o q z => ?_, fun a o q i => ?_⟩
 . by_cases e : a = p
   . subst e; rw [az] at q ⊢; exact q
   . rw [ao e] at q ⊢; exact zh a o q
 . by_cases e : a = p
   . subst e; exact hp
   . rw [ao e, z] at q; cases q
 . by_cases e : a = p
   . subst e; rw [az] at q ⊢; exact q
   . rw [ao e] at q ⊢; exact tp a o q i
section
variable {K : PySem.W.Frag} {CL : Str -> Addr} {b : Bx} {H H' Z Z' : Hp} {δ : List (Option T)} {σ : L2.St} {ts : List T} {vs : List V}
theorem bf.grow (S : bf K CL b H Z δ σ ts vs) (g : xj Z H Z' H') : bf K CL b H' Z' δ σ ts vs := by
 obtain ⟨fp, gp, e, r, nd, k⟩ := S.rep
 have old : ∀ a ∈ fp ++ gp, ∃ o, H a = some o := fun a ha => (af0.mp ha).elim (e.there a) (r.there a)
 have keep : ∀ a ∈ fp ++ gp, H' a = H a := fun a ha => by
   obtain ⟨o, q⟩ := old a ha
   rw [q]; exact g.h a o q
 refine ⟨⟨fp, gp, e.mono g.z (fun a ha => keep a (afU _ ha)), r.mono g.z (fun a ha => keep a (afQ _ ha)), nd, fun a ha => ⟨?_, (k a ha).2⟩⟩, S.bh.trans g.h, S.zz.trans g.z, g.zh, fun a o q z => ?_, g.tp, S.tab⟩
 . cases q : Z' a with
   | none => rfl
   | some o =>
     obtain ⟨u, hu⟩ := old a ha
     rw [g.new a o q (k a ha).1] at hu; cases hu
 . cases e2 : Z a with
   | none => exact S.bh.free (g.new a o q e2)
   | some u =>
     have := g.z a u e2
     rw [q] at this; cases this
     exact S.new a o e2 z
noncomputable def DB (δ : List (Option T)) : List Nat -> List D -> List (Option T)
 | i :: is, d :: ds => DB (δ.set i (some (.sh d))) is ds
 | _, _ => δ
noncomputable def tM (σ : L2.St) : List Nat -> List V -> L2.St
 | i :: is, v :: vs => tM (σ.set i (some v)) is vs
 | _, _ => σ
theorem bf.sets {ps : List D} {ys : List V} : ∀ {is : List Nat} {δ : List (Option T)} {σ : L2.St}, bf K CL b H Z δ σ ts vs -> ay K CL Z ps ys -> (∀ i ∈ is, i < δ.length) -> bf K CL b H Z (DB δ is ps) (tM σ is ys) ts vs := by
 intro is
 induction is generalizing ps ys with
 | nil =>
   intro δ σ S r _
   cases ps <;> cases ys <;> exact S
 | cons i is ih =>
   intro δ σ S r hl
   cases r with
   | nil => exact S
   | cons r rr => exact ih ((S.push r).set (hl i afP)) rr (fun j hj => by rw [ah2]; exact hl j (afS _ hj))
end
section
variable {X : Cx} {CL : Str -> Addr} {b : Bx} {δ δ1 : List (Option T)} {ds : List D} {iter tg : Expr} {pos : Pos}
structure xm (X : Cx) (CL : Str -> Addr) (b : Bx) (δ1 : List (Option T)) (σ : L2.St) (ts : List T) (vs : List V) (Z H : Hp) (ds : List D) (J : It) (H1 : Hp) : Prop where
 ex : ∃ Z1, aA Z Z1 /\ aA H H1 /\ bf X.K CL b H1 Z1 δ1 σ ts vs /\ (∀ i H2, aA Z1 H2 -> i < ds.length -> J.go i H2) ∧
   (∀ i Z2 H2 x H', aA Z1 Z2 -> aA Z2 H2 -> (∀ a o, H2 a = some o -> jj o = true -> Z2 a = some o) -> i < ds.length -> J.Qx i H2 x H' -> ∃ Z3 d, ds[i]? = some d /\ xj Z2 H2 Z3 H' /\ aU X.K CL Z3 d x) /\ (∀ H2, aA Z1 H2 -> J.stop ds.length H2)
noncomputable def WG (X : Cx) (CL : Str -> Addr) (b : Bx) (tg e : Expr) (δ : List (Option T)) (ds : List D) (δ1 : List (Option T)) : Prop :=
 ∃ wi, PI X tg e wi /\ ∀ (H Z : Hp) (σ : L2.St) (ts : List T) (vs : List V) (R : It -> Hp -> Prop), bf X.K CL b H Z δ σ ts vs -> (∀ J H1, xm X CL b δ1 σ ts vs Z H ds J H1 -> R J H1) -> wi σ H R
theorem Ir (h : QO X CL b tg iter δ ds δ1) : WG X CL b tg iter δ ds δ1 := by
 obtain ⟨wi, pi, hw⟩ := h
 refine ⟨wi, pi, fun H Z σ ts vs R S k => hw H Z σ ts vs R S fun J H1 zz => ?_⟩
 obtain ⟨Z1, us, z1, k1, S1, rr, go, yl, st⟩ := zz
 refine k J H1 ⟨Z1, z1, k1, S1, go, fun i Z2 H2 x H' s1 s2 tp hi hy => ?_, st⟩
 obtain ⟨e, hu⟩ := yl i H2 x H' (s1.trans s2) hi hy
 subst e
 obtain ⟨d, hd, rd⟩ := rr.SV hu
 exact ⟨Z2, d, hd, .refl s2 tp, rd.mono s1⟩
noncomputable def Yd (X : Cx) (CL : Str -> Addr) (tg : Expr) (is : List Nat) (parts : D -> Option (List D)) : Prop :=
 ∃ t : TG, PG X tg t /\ ∀ (Z H : Hp) (d : D) (ps : List D) (x : V) (σ : L2.St) (Q : L2.St -> Hp -> Prop), aA Z H -> aU X.K CL Z d x -> parts d = some ps -> (∀ ys, ay X.K CL Z ps ys -> Q (tM σ is ys) H) -> t x σ H Q
noncomputable def part1 (d : D) : Option (List D) := some [d]
noncomputable def part2 : D -> Option (List D)
 | .tup [a, c] => some [a, c]
 | _ => none
theorem Fp {d : D} {ps : List D} (h : part2 d = some ps) : ∃ d1 d2, d = .tup [d1, d2] /\ ps = [d1, d2] := by
 unfold part2 at h
 split at h
 . cases h; exact ⟨_, _, rfl, rfl⟩
 . cases h
theorem BE {K : PySem.W.Frag} {i j : Nat} {Z H : Hp} {d : D} {ps : List D} {x : V} {σ : L2.St} {Q : L2.St -> Hp -> Prop} (zh : aA Z H) (r : aU K CL Z d x) (e : part2 d = some ps) (k : ∀ ys, ay K CL Z ps ys -> Q (tM σ [i, j] ys) H) : R4 K 2 (zK (qR i) (zK (qR j) R3)) x σ H Q := by
 obtain ⟨d1, d2, rfl, rfl⟩ := Fp e
 cases r with
 | tup hq rr =>
   cases rr with
   | cons r1 rr =>
     cases rr with
     | cons r2 rr =>
       cases rr
       exact ⟨_, _, rfl, aA.rS zh hq, rfl, _, _, rfl, _, _, rfl, rfl, k _ (.cons r1 (.cons r2 .nil))⟩
theorem Iu {i : Nat} {x : Str} {px : Pos} (hN : X.N.Nodup) (n : Ln X i x) : Yd X CL (.Name x px) [i] part1 :=
 ⟨qR i, iU hN n.hi n.loc n.hf, fun Z H d ps x σ Q zh r e k => by
   cases e
   exact k [x] (.cons r .nil)⟩
theorem M8 {i j k : Nat} {x y : Str} {px py pt : Pos} (hN : X.N.Nodup) (hc : X.calm = true) (n : Ln X i x) (m : Ln X j y) (hs : (assignEach [.Name x px, .Name y py] X.env).map (·.2) = assign (.Name x px) X.env :: (assignEach [.Name y py] X.env).map (·.2) := by rfl) (Ht : (assignEach [.Name y py] X.env).map (·.2) = assign (.Name y py) X.env :: (assignEach [] X.env).map (·.2) := by rfl)
   (hn : (assignEach [.Name x px, .Name y py] X.env).length = 2 := by rfl) (R5 : (assignEach [.Name x px, .Name y py] X.env).findIdx? (·.1) = none := by rfl) : Yd X CL (.Tuple [.Name x px, .Name y py] k pt) [i, j] part2 :=
 ⟨R4 X.K 2 (zK (qR i) (zK (qR j) R3)), Hh hc (oB (iU hN n.hi n.loc n.hf) (oB (iU hN m.hi m.loc m.hf) C4 Ht) hs) hn R5, fun Z H d ps x σ Q zh r e k => BE zh r e k⟩
theorem M9 {D : dH} {eo : List Stmt} (is : List Nat) (parts : L3.D -> Option (List L3.D)) (P : Nat -> List (Option T) -> Prop) (h : WG X CL b tg iter δ ds δ1) (ht : Yd X CL tg is parts) (h0 : P 0 δ1) (hl : ∀ j δ, P j δ -> ∀ i ∈ is, i < δ.length)
   (hs : ∀ j d δ, ds[j]? = some d -> P j δ -> ∃ ps, parts d = some ps /\ dw X CL b eo (DB δ is ps) { nx := P (j + 1), rt := D.rt, bk := D.nx, ct := P (j + 1) }) (hd : ∀ δ, P ds.length δ -> D.nx δ)
   (hp : PassesOwn (model X.prog X.w) X.A X.env X.xe) (hc : X.calm = true) (hq : ∀ x, foldedSetIterable iter X.env x = pure x := by intro _; rfl) :
   L4 X CL b (.For tg iter eo [] pos) δ D := fun H Z σ ts vs E S M => by
 obtain ⟨wi, pi, hw⟩ := h
 obtain ⟨t, pg, ht⟩ := ht
 refine kT (wC hp hc pi pg LZ hq) (hw H Z σ ts vs _ S fun J H1 zz => ?_)
 obtain ⟨Z1, z1, k1, S1, go, yl, st⟩ := zz
 refine ⟨fun j m σ H2 => m = ds.length - j /\ j <= ds.length /\ ∃ Z2 δ2, aA Z1 Z2 /\ bf X.K CL b H2 Z2 δ2 σ ts vs /\ P j δ2, ⟨_, rfl, agr _, Z1, δ1, .refl _, S1, h0⟩, ?_⟩
 rintro j m σ H2 ⟨rfl, hj, Z2, δ2, s, S2, p2⟩
 by_cases g6 : j < ds.length
 . refine .inr ⟨go j H2 (s.trans S2.zh) g6, fun σ' H' => ∃ Z2 δ2, aA Z1 Z2 /\ bf X.K CL b H' Z2 δ2 σ' ts vs /\ P (j + 1) δ2, fun σ' H' h => ⟨ds.length - (j + 1), by omega, rfl, g6, h⟩, fun y H' hy => ?_⟩
   obtain ⟨Z3, d, wu, gr, rd⟩ := yl j Z2 H2 y H' s S2.zh S2.tp g6 hy
   obtain ⟨ps, hps, hb⟩ := hs j d δ2 wu p2
   have S3 := S2.grow gr
   refine ht Z3 H' d ps y σ _ S3.zh rd hps fun ys ZX => ?_
   have S4 := S3.sets (is := is) ZX (hl j δ2 p2)
   have s3 := s.trans gr.z
   exact hb _ Z3 _ ts vs _ S4 ⟨fun δ' σ' H' Z' s' S' k => ⟨Z', δ', s3.trans s', S', k⟩, fun t v H' Z' δ' σ' s' S' k => M.rt t v H' Z' δ' σ' (z1.trans (s3.trans s')) S' k, fun δ' σ' H' Z' s' S' k => M.nx δ' σ' H' Z' (z1.trans (s3.trans s')) S' k, fun δ' σ' H' Z' s' S' k => ⟨Z', δ', s3.trans s', S', k⟩⟩
 . have e : j = ds.length := by omega
   subst e
   exact .inl ⟨st H2 (s.trans S2.zh), M.nx δ2 σ H2 Z2 (z1.trans s) S2 (hd δ2 p2)⟩
theorem TX {D : dH} {body eo : List Stmt} {is : List Nat} {parts : L3.D -> Option (List L3.D)} (g : Gx X) (ht : Yd X CL tg is parts) (P : Nat -> List (Option T) -> Prop) (h : WG X CL b tg iter δ ds δ1) (h0 : P 0 δ1) (hl : ∀ j δ, P j δ -> ∀ i ∈ is, i < δ.length)
   (hs : ∀ j d δ, ds[j]? = some d -> P j δ -> ∃ ps, parts d = some ps /\ dw X CL b body (DB δ is ps) { nx := P (j + 1), rt := D.rt, bk := fun δ2 => dw X CL b eo δ2 D, ct := P (j + 1) }) (hd : ∀ δ, P ds.length δ -> dw X CL b eo δ D) (hq : ∀ x, foldedSetIterable iter X.env x = pure x := by intro _; rfl) :
   dw X CL b (.For tg iter body [] pos :: eo) δ D :=
 bW (M9 (D := { D with nx := fun δ1 => dw X CL b eo δ1 D }) is parts P h ht h0 hl hs hd g.xe g.calm hq)
end
structure lB (X : Cx) (scope : Scope) (xs : List Str) (Nc : List Str) (ix : List Nat) : Prop where
 kind : scope.kind = .function
 wZ : ∀ y ∈ scope.names, y.2 ≠ .cell
 nd : Nc.Nodup
 names : ∀ y ∈ scope.names, y.2 = .local -> scope.names.lookup y.1 = some .local
 own : ∀ x ∈ xs, scope.names.lookup x = some .local
 frees : ∀ y ∈ scope.names, y.2 = .free -> scope.names.lookup y.1 = some .free /\ (X.env.kindOf y.1 = some .cell \/ X.env.kindOf y.1 = some .free)
 hd : Nc = xs ++ ix.filterMap (X.N[·]?)
 X3 : ∀ i ∈ ix, ∃ y, X.N[i]? = some y /\ scope.names.lookup y = some .free
noncomputable def Fq (σ : L2.St) (ix : List Nat) (os : List (Option V)) : L2.St := os ++ ix.map fun i => (σ[i]?).getD none
section
variable {X : Cx} {scope : Scope} {xs : List Str} {Nc : List Str} {ix : List Nat} {pins : List (Addr × Obj)} {σ : L2.St} {H : Hp} {s : Shared}
theorem Aa {fp : List Addr} (sc : lB X scope xs Nc ix) (I : Inv X pins σ H s) (nI : ∀ b ∈ fp, rB X pins H b /\ b < s.heap.objs.size) {h' : Heap} {m : Str -> Option Value} {tk : Nat}
   (hn : h'.Ns s.heap.objs.size m) (hk : ∀ b o, s.heap.get? b = some o -> h'.get? b = some o) :
   Inv (dB X scope Nc s.heap.objs.size s H fp) [] (Fq σ ix (List.replicate xs.length none)) H { s with heap := h', toks := tk } := by
 have frees : ∀ y ∈ scope.names, y.2 = .free -> ∃ c, X.env.cells.lookup y.1 = some c := fun y hy e => I.ok.has y.1 (sc.frees y hy e).2
 have sub : ∀ {y : Str} {c : Addr}, (fV X.env scope.names []).lookup y = some c -> X.env.cells.lookup y = some c := fun {y c} e => nU frees (fun _ _ z => by cases z) e
 have hlen : (Fq σ ix (List.replicate xs.length none)).length = Nc.length := by
   have all : ∀ l : List Nat, (∀ i ∈ l, ∃ y, X.N[i]? = some y /\ scope.names.lookup y = some .free) -> (l.filterMap (X.N[·]?)).length = l.length := by
     intro l
     induction l with
     | nil => intro _; rfl
     | cons i r ih =>
       intro h
       obtain ⟨y, e, _⟩ := h i afP
       rw [ahr, e]
       show _ + 1 = _ + 1
       rw [ih fun j hj => h j (afS _ hj)]
   unfold Fq
   rw [sc.hd, afY, afY, afO, agx, all ix sc.X3]
 have C0 : s.heap.get? s.heap.objs.size = none := Heap.get?_none_of_le (af3 _)
 refine ⟨⟨I.ok.mod, sc.kind, I.ok.glob, I.ok.blt, af3 _, fun y z c h1 h2 => I.ok.inj y z c (sub h1) (sub h2), fun y hy => ?_, fun y c hf _ => (by cases (show false = true from hf)), I.ok.hd, I.ok.frames, .inl rfl, fun b hb => ⟨agG (nI b hb).2, fun y c e => (nI b hb).1.2.2.2.2.1 y c (sub e)⟩, I.bs, agH I.ok.LY I.sz, fun b o e hb => ?_, fun b hb hf => ?_, I.stack, I.C1⟩,
   rfl, I.bare, Un.kept hk, ⟨m, hn, fun i y v h1 h2 h3 => ?_⟩, fun y c e => ?_, I.c6.fresh (af3 _), fun y c e => I.kM y c (sub e), fun p hp => absurd (show p ∈ ([] : List (Addr × Obj)) from hp) (by simp), I.c6.kept hk, hlen⟩
 . 
   have hy' : (relabel scope X.env).names.lookup y = some .cell \/ (relabel scope X.env).names.lookup y = some .free := hy
   cases e : scope.names.lookup y with
   | none => 
     have := g5 (env := X.env) e
     rcases hy' with q | q <;> (rw [show (relabel scope X.env).names.lookup y = none from this] at q; cases q)
   | some k =>
     have q := e7 (env := X.env) e
     have hk : k = .free := by
       by_cases hk : k = .free
       . exact hk
       . have hb : (k == NameKind.free) = false := by simpa using hk
         rw [af1 (by rw [hb]; simp)] at q
         have nc : k ≠ .cell := fun z => by
           subst z
           exact sc.wZ _ (ahc e) rfl
         rcases hy' with z | z
         . rw [show (relabel scope X.env).names.lookup y = some k from q] at z
           exact absurd (agf z) nc
         . rw [show (relabel scope X.env).names.lookup y = some k from q] at z
           exact absurd (agf z) hk
     subst hk
     exact nV e
 . 
   rcases (nI b hb).1.2.2.2.1 with z | z
   . exact I.ok.G8 b o e z
   . exact absurd (agA (agj e) (agH I.ok.LY z)) (ahX _)
 . rcases afX.mp (I.wA b hf) with z | z
   . exact (nI b hb).1.2.1 z
   . exact (nI b hb).1.2.2.1 z
 . 
   unfold Fq at h2
   by_cases hi : i < xs.length
   . rw [ago (by rw [agx]; exact hi), List.getElem?_replicate, agb hi] at h2
     cases h2
   . obtain ⟨n, rfl⟩ : ∃ n, i = xs.length + n := ⟨i - xs.length, by omega⟩
     rw [ahZ (by rw [agx]; omega), agx, Nat.add_sub_cancel_left, af2] at h2
     cases ei : ix[n]? with
     | none => rw [ei] at h2; cases h2
     | some j =>
       rw [ei] at h2
       have ZY : (σ[j]?).getD none = some v := agf h2
       have hj : σ[j]? = some (some v) := by
         cases q : σ[j]? with
         | none => rw [q] at ZY; cases ZY
         | some o => rw [q] at ZY; exact congrArg some ZY
       obtain ⟨y', hy1, hy2⟩ := sc.X3 j (af8 ei)
       have hNc : Nc[xs.length + n]? = some y' := by
         have all : ∀ (l : List Nat) (i : Nat), (∀ j ∈ l, ∃ y, X.N[j]? = some y /\ scope.names.lookup y = some .free) -> l[i]? = some j -> (l.filterMap (X.N[·]?))[i]? = some y' := by
           intro l
           induction l with
           | nil => intro i _ h; simp at h
           | cons a r ih =>
             intro i h hi
             obtain ⟨ya, ea, _⟩ := h a afP
             rw [ahr, ea]
             cases i with
             | zero =>
               simp at hi
               subst hi
               rw [hy1] at ea
               cases ea
               rfl
             | succ i => exact ih i (fun j hj => h j (List.mem_cons_of_mem _ hj)) (by simpa using hi)
         rw [sc.hd, ahZ (by omega), Nat.add_sub_cancel_left]
         exact all ix n sc.X3 ei
       have ey : y' = y := by
         have h1' : Nc[xs.length + n]? = some y := h1
         rw [hNc] at h1'
         exact agf h1'
       subst ey
       have Dc := (sc.frees (y', .free) (ahc hy2) rfl).2
       have abp : Wx X.env.scope y' := Dc.elim (fun z => .inr (.inl z)) (fun z => .inr (.inr z))
       obtain ⟨m0, hn0, hl0⟩ := I.loc
       obtain ⟨u, ru, lk⟩ := hl0 j y' v hy1 hj abp
       refine ⟨u, ru, ?_⟩
       rcases lk with ⟨kk, _⟩ | ⟨_, c, hc, vv⟩
       . rcases Dc with z | z
         . rw [kk] at z; cases z
         . rw [kk] at z; cases z
       . obtain ⟨c', RJ⟩ := nV (env := X.env) (cs := []) hy2
         have : c' = c := by
           have := sub RJ
           rw [hc] at this
           exact (agf this).symm
         subst this
         obtain ⟨o, ho, hd⟩ := vv
         refine .inr ⟨?_, c', RJ, o, hk _ _ ho, hd⟩
         have q := e7 (env := X.env) hy2
         show (relabel scope X.env).names.lookup y' = some .cell \/ (relabel scope X.env).names.lookup y' = some .free
         rw [show (relabel scope X.env).names.lookup y' = _ from q]
         split
         . exact .inl rfl
         . exact .inr rfl
 . obtain ⟨v, o, ho, hd⟩ := I.cell y c (sub e)
   exact ⟨v, o, hk _ _ ho, hd⟩
noncomputable def Iv (X : Cx) (tg elt : Expr) (ifs : List Expr) (n : Nat) (σ : L2.St) (ix : List Nat) (D : Addr) (N : Hp -> Prop) (xv : V) (os : List (Option V)) (H3 : Hp) : Prop :=
 ∃ t : TG, PG X tg t /\ t xv (Fq σ ix os) H3 fun σ8 H4 => ∃ Wz, Wz.length = n /\ σ8 = Fq σ ix Wz /\ Ti X ifs σ8 H4 fun ok H5 =>
   if ok = true then Br X elt σ8 H5 fun y H6 => ∃ acc, H6 D = some (.lst acc) /\ acc.length < sizeLine /\ N (upd H6 D (.lst (acc ++ [y]))) else N H5
theorem BF {elt iter tg : Expr} {pos : Pos} {ifs : List Expr} {J : It} {fp : List Addr} {it : Addr} {tn : Nat -> Heap -> Prop} {G : Addr -> Hp -> Prop} {RR : Value -> Addr -> Result -> Shared -> Prop} {E : Value -> Shared -> Prop}
   (sc : lB X scope xs Nc ix) (hc : X.calm = true) (I : Inv X pins σ H s) (Tn : Turn X.prog X.w X.K tg J fp it tn) (st : tn 0 s.heap) (hf : ∀ b ∈ fp, rB X pins H b)
   (loop : ∀ D, H D = none -> ∃ W : Nat -> Nat -> Hp -> Prop, (∃ m, W 0 m (upd H D (.lst []))) /\ ∀ i m H2, W i m H2 -> (J.stop i H2 /\ G D H2) ∨
     (J.go i H2 /\ ∃ N : Hp -> Prop, (∀ H', N H' -> ∃ m', m' < m /\ W (i + 1) m' H') /\ ∀ xv H3, J.Qx i H2 xv H3 -> ∀ C s0 H0 f0 os, os.length = xs.length -> Iv (dB X scope Nc C s0 H0 f0) tg elt ifs xs.length σ ix D N xv os H3))
   (hRR : ∀ D C s' H', (∃ m, s'.heap.Ns C m) -> (∃ o, s'.heap.get? C = some o /\ ∀ v, o.data ≠ .cell v) -> H' C = none -> (C ≠ X.env.locals /\ C ∉ X.fs /\ X.s₀.heap.objs.size <= C /\ (∀ y c, X.env.cells.lookup y = some c -> c ≠ C) /\ ∀ q ∈ X.pn ++ pins, q.1 ≠ C) -> (∀ h', Heap.SameBut C s'.heap h' -> Inv X pins σ H' { s' with heap := h' }) -> G D H' -> RR (.ref D) C (.ok .next) s') :
   wpAny (model X.prog X.w) X.A (newList []) (fun acc s₃ => wpAny (model X.prog X.w) X.A (newFunctionEnv scope X.env.globals (fV X.env scope.names []) [] X.env.qual none .none (some X.env)) (fun Iw s₄ =>
     codeAny (model X.prog X.w) X.A (.compStart (.ListComp elt [⟨tg, iter, ifs, 0⟩] scope pos) 0 (.ref it) acc { Iw with scope := relabel scope X.env }) (RR acc Iw.locals) s₄) E s₃) E s := by
 refine agP ?_
 have I3 : Inv X pins σ (upd H s.heap.objs.size (.lst [])) { s with heap := s.heap.push { cls := .type "list", dict := none, data := .seq ([] : List Value).toArray } } :=
   I.laid (t' := s.toks) (fun b u e => af7 _ e) (af3 _) ⟨by show 0 <= sizeLine; exact agr _, [], 0, .nil, agl _ rfl⟩
 have hD : H s.heap.objs.size = none := I.c6.fresh (af3 _)
 obtain ⟨W, ⟨m0, w0⟩, turn⟩ := loop _ hD
 have Iz : ∀ b ∈ fp, rB X pins (upd H s.heap.objs.size (.lst [])) b /\ b < (s.heap.push { cls := .type "list", dict := none, data := .seq ([] : List Value).toArray }).objs.size := fun b hb => by
   obtain ⟨f0, f1⟩ := hf b hb
   obtain ⟨o, ho, _⟩ := Tn.obj 0 _ st b hb
   have g6 := agj ho
   refine ⟨⟨by rw [ao (agG g6)]; exact f0, f1⟩, ?_⟩
   rw [Heap.size_push]; exact Nat.lt_succ_of_lt g6
 have Xd : tn 0 (s.heap.push { cls := .type "list", dict := none, data := .seq ([] : List Value).toArray }) := Tn.keep 0 _ _ st fun b _ o e => af7 _ e
 generalize hs3 : ({ s with heap := s.heap.push { cls := .type "list", dict := none, data := .seq ([] : List Value).toArray } } : Shared) = s3 at I3 ⊢
 have TY : s3.heap = s.heap.push { cls := .type "list", dict := none, data := .seq ([] : List Value).toArray } := by rw [← hs3]
 rw [← TY] at Iz Xd
 refine wpAny_newFunctionEnv sc.wZ (by intro y hy; simp at hy) (fun h₁ T3 T4 => ?_) sc.kind
 have old : ∀ b o, s3.heap.get? b = some o -> h₁.get? b = some o := fun b o e => (T4.2 b (agG (agj e))).trans (af7 _ e)
 have J0 := Aa (tk := s3.toks + ([] : List (Str × Value)).length) sc I3 Iz T3 old
 have st4 : tn 0 h₁ := Tn.keep 0 _ _ Xd fun b _ o e => old b o e
 have QV : ∀ s4 : Shared, s4 = { s3 with heap := h₁, toks := s3.toks + ([] : List (Str × Value)).length } -> codeAny (model X.prog X.w) X.A (.compLoop (.ListComp elt [⟨tg, iter, ifs, 0⟩] scope pos) 0 (.ref it) (.ref s.heap.objs.size) (compEnvC scope (fV X.env scope.names []) s3.heap.objs.size X.env)) (RR (.ref s.heap.objs.size) s3.heap.objs.size) s4 := by
   rintro s4 rfl
   have stat : ∀ {H' : Hp}, (∀ b ∈ fp, H' b = none) -> ∀ b ∈ fp, rB (dB X scope Nc s3.heap.objs.size s3 (upd H s.heap.objs.size (.lst [])) fp) [] H' b := fun {H'} hn b hb => by
     obtain ⟨⟨f0, f1, f2, f3, f4, f5⟩, g6⟩ := Iz b hb
     refine ⟨hn b hb, agG g6, fun z => ?_, .inl hb, fun y c e => f4 y c (nU (fun y hy e => I.ok.has y.1 (sc.frees y hy e).2) (fun _ _ z => by cases z) e), fun p hp => absurd (show p ∈ ([] : List (Addr × Obj)) from hp) (by simp)⟩
     rcases afX.mp (I3.wA b z) with q | q
     . exact f1 q
     . exact f2 q
   refine wY (fun n s' => ∃ i o H', o.length = xs.length /\ Inv (dB X scope Nc s3.heap.objs.size s3 (upd H s.heap.objs.size (.lst [])) fp) [] (Fq σ ix o) H' s' /\ tn i s'.heap /\ (∀ b ∈ fp, H' b = none) /\ W i n H') ?_ m0 ⟨0, _, _, agx, J0, st4, fun b hb => (Iz b hb).1.1, w0⟩
   rintro n s5 ⟨i, o5, H5, ol5, I5, Wy, ZP, w5⟩
   rcases turn i n H5 w5 with ⟨stop, g⟩ | ⟨go, N, hN, step⟩
   . refine cR (Tn.done (dB X scope Nc s3.heap.objs.size s3 (upd H s.heap.objs.size (.lst [])) fp) rfl rfl rfl hc i [] s5 _ H5 _ I5 (stat ZP) Wy stop) fun r s6 zz => ?_
     obtain ⟨hr, I6⟩ := zz
     subst hr
     obtain ⟨m6, hn6, _⟩ := I6.loc
     obtain ⟨oc, esc, epc, ZK, hdc, _⟩ := id hn6
     have ZZ := I3.A9 (af3 s3.heap.objs.size) (H' := fun _ => none) rfl
     refine hRR _ _ s6 H5 ⟨m6, hn6⟩ ⟨oc, ZK, fun v z => by rw [hdc] at z; cases z⟩ I6.free ⟨ZZ.2.1, ZZ.2.2.1, ?_, ZZ.2.2.2.2.1, ZZ.2.2.2.2.2⟩ (fun h' Ab => Fi I3 (fun b hb => (Iz b hb).1) I6 Ab) g
     exact I3.sz
   . refine cR (Tn.item (dB X scope Nc s3.heap.objs.size s3 (upd H s.heap.objs.size (.lst [])) fp) rfl rfl rfl hc i [] s5 _ H5 _ I5 (stat ZP) Wy go) fun r s6 zz => ?_
     obtain ⟨u, hr, h6⟩ := zz
     subst hr
     refine cR h6 fun _ s7 zz => ?_
     obtain ⟨xv, H7, I7, r7, y7, G0, fr7⟩ := zz
     have I7' := I7.pinned (stat fr7) (Tn.obj _ _ G0)
     obtain ⟨t, hg, ht⟩ := step xv _ y7 s3.heap.objs.size s3 (upd H s.heap.objs.size (.lst [])) fp o5 ol5
     refine cR (hg _ s7 _ H7 xv u _ I7' r7 ht) fun _ s8 zz => ?_
     obtain ⟨σ8, H8, I8, os8, ol8, e8, h8⟩ := zz
     subst e8
     refine cR (Ic I8 h8 rfl) fun ok s9 zz => ?_
     obtain ⟨H9, I9, q9⟩ := zz
     have again : ∀ {Ha : Hp} {sa : Shared}, Inv (dB X scope Nc s3.heap.objs.size s3 (upd H s.heap.objs.size (.lst [])) fp) ([] ++ sW fp s7.heap) (Fq σ ix os8) Ha sa -> N Ha -> ∃ m, m < n /\ ∃ i o H', o.length = xs.length /\ Inv (dB X scope Nc s3.heap.objs.size s3 (upd H s.heap.objs.size (.lst [])) fp) [] (Fq σ ix o) H' sa /\ tn i sa.heap /\ (∀ b ∈ fp, H' b = none) /\ W i m H' := fun {Ha sa} Ia na => by
       obtain ⟨m', hm, wa⟩ := hN Ha na
       refine ⟨m', hm, i + 1, os8, Ha, ol8, Ia.oE, Tn.keep _ _ _ G0 fun b hb o e => (Ia.pin (b, o) (afQ _ (afQ _ (jN hb e)))).1, fun b hb => ?_, wa⟩
       obtain ⟨o, e, d⟩ := Tn.obj _ _ G0 b hb
       exact (Ia.pin (b, o) (afQ _ (afQ _ (jN hb e)))).2.1
     cases ok with
     | false =>
       rw [af1 af4] at q9 ⊢
       exact again I9 q9
     | true =>
       rw [agb rfl] at q9 ⊢
       refine cR (q9 _ s9 I9) fun v sa zz => ?_
       obtain ⟨y, Ha, Ia, ra, acc, abr, hlen, na⟩ := zz
       refine cR (qq (X := dB X scope Nc s3.heap.objs.size s3 (upd H s.heap.objs.size (.lst [])) fp) _ sa _ Ha (.ref s.heap.objs.size) [y] (.ref s.heap.objs.size) [v] (fun _ Hb => Hb = upd Ha s.heap.objs.size (.lst (acc ++ [y]))) Ia rfl (.cons ra .nil) ⟨_, acc, y, rfl, rfl, abr, hlen, rfl⟩) fun _ sb zz => ?_
       obtain ⟨_, Hb, Ib, _, eb⟩ := zz
       subst eb
       exact again Ib na
 exact codeAny_compStart_list (QV _ rfl) (Tn.self _ 0 _ _ _ st4 (QV _ rfl))
end
noncomputable def Ft (ps : List D) : List (Option T) := ps.map fun p => some (.sh p)
theorem vN : ∀ {ys : List V} {os : List (Option V)} {pre r : L2.St}, os.length = ys.length -> tM (pre ++ (os ++ r)) (List.range' pre.length ys.length) ys = pre ++ (ys.map some ++ r)
 | [], os, pre, r, h => by
   have : os = [] := List.length_eq_zero_iff.mp h
   subst this
   rfl
 | y :: ys, os, pre, r, h => by
   match os, h with
   | o :: os, h =>
     show tM ((pre ++ (o :: (os ++ r))).set pre.length (some y)) (List.range' (pre.length + 1) ys.length) ys = _
     rw [List.set_append_right _ _ (af3 _), Nat.sub_self, List.set_cons_zero]
     have := vN (ys := ys) (os := os) (pre := pre ++ [some y]) (r := r) (by simpa using h)
     simp only [afY, agS, List.length_nil, afW, List.singleton_append] at this
     rw [this]
     simp
theorem Nb {K : PySem.W.Frag} {CL : Str -> Addr} {H Z : Hp} : ∀ {ps : List D} {ys : List V} {δc : List (Option T)} {σc : L2.St}, ay K CL Z ps ys -> eU K CL H Z δc σc [] -> eU K CL H Z (Ft ps ++ δc) (ys.map some ++ σc) [] := fun {ps ys δc σc} h e =>
 ay.ind (P := fun ps ys => eU K CL H Z (Ft ps ++ δc) (ys.map some ++ σc) []) e (fun r _ i => .cons (fp := []) (gp := []) (.sh r) i) h
section
variable {X : Cx} {CL : Str -> Addr} {b : Bx} {H Z W1 : Hp} {δ δc : List (Option T)} {σ : L2.St} {ts : List T} {vs : List V} {ds : List D} {scope : Scope} {Nc : List Str} {n : Nat} {ix : List Nat} {elt tg : Expr} {ifs : List Expr} {p : D -> Bool} {g : D -> T} {J : It} {parts : D -> Option (List D)}
noncomputable def qA (X : Cx) (CL : Str -> Addr) (scope : Scope) (Nc : List Str) (n : Nat) (tg : Expr) (parts : D -> Option (List D)) (ifs : List Expr) (elt : Expr) (δc : List (Option T)) (ds : List D) (p : D -> Bool) (g : D -> T) : Prop :=
 ∀ C s0 H0 f0 b', Yd (dB X scope Nc C s0 H0 f0) CL tg (List.range' 0 n) parts /\ ∀ d, d ∈ ds -> ∃ ps, parts d = some ps /\ ps.length = n /\ ZV (dB X scope Nc C s0 H0 f0) CL b' ifs (Ft ps ++ δc) (p d) /\ (p d = true -> bG (dB X scope Nc C s0 H0 f0) CL b' elt (Ft ps ++ δc) (g d) (Ft ps ++ δc))
structure GW (K : PySem.W.Frag) (CL : Str -> Addr) (H W1 : Hp) (D : Addr) (l : List T) (k : Nat) (H2 Z2 : Hp) (A6 : List V) (fp : List Addr) : Prop where
 a1 : aA H H2
 a2 : aA W1 Z2
 a3 : aA Z2 H2
 a4 : Z2 D = none
 a5 : ∀ a o, Z2 a = some o -> W1 a = none -> H a = none
 a6 : ∀ a o, H2 a = some o -> jj o = true -> Z2 a = some o
 a7 : H2 D = some (.lst A6)
 a8 : aJ K CL H2 Z2 l A6 fp
 a9 : fp.Nodup
 b1 : D ∉ fp
 b2 : ∀ a ∈ fp, Z2 a = none /\ H a = none
 b3 : A6.length <= k
theorem tN (S : bf X.K CL b H Z δ σ ts vs) (zw : aA Z W1) (wh : aA W1 H) (tp : ∀ a o, H a = some o -> jj o = true -> W1 a = some o)
   (cap : ∀ H', eU X.K CL H' W1 δc (ix.map fun i => (σ[i]?).getD none) []) (inner : qA X CL scope Nc n tg parts ifs elt δc ds p g)
   (hgo : ∀ i H2, aA W1 H2 -> i < ds.length -> J.go i H2)
   (hy : ∀ i Z2 H2 x H', aA W1 Z2 -> aA Z2 H2 -> (∀ a o, H2 a = some o -> jj o = true -> Z2 a = some o) -> i < ds.length -> J.Qx i H2 x H' -> ∃ Z3 d, ds[i]? = some d /\ xj Z2 H2 Z3 H' /\ aU X.K CL Z3 d x)
   (R5 : ∀ H2, aA W1 H2 -> J.stop ds.length H2) (hlen : ds.length <= sizeLine) (c : W1 = Z \/ ∀ d ∈ ds, (g d).clean = true) :
   ∀ D, H D = none -> ∃ W : Nat -> Nat -> Hp -> Prop, (∃ m, W 0 m (upd H D (.lst []))) /\ ∀ i m H2, W i m H2 -> (J.stop i H2 /\ ∃ Z2, aA Z Z2 /\ aA H H2 /\ bf X.K CL b H2 Z2 δ σ (.lst ((ds.filter p).map g) :: ts) (.ref D :: vs)) ∨
     (J.go i H2 /\ ∃ N : Hp -> Prop, (∀ H', N H' -> ∃ m', m' < m /\ W (i + 1) m' H') /\ ∀ xv H3, J.Qx i H2 xv H3 -> ∀ C s0 H0 f0 os, os.length = n -> Iv (dB X scope Nc C s0 H0 f0) tg elt ifs n σ ix D N xv os H3) := by
 intro D hD
 have wD : W1 D = none := wh.free hD
 refine ⟨fun i m H2 => m = ds.length - i /\ i <= ds.length /\ ∃ Z2 A6 fp, GW X.K CL H W1 D (((ds.take i).filter p).map g) i H2 Z2 A6 fp, ⟨ds.length, rfl, agr _, W1, [], [], aA.upd hD, .refl _, wh.trans (aA.upd hD), wD, fun a o q z => ?_, fun a o q i => ?_, az, .nil, ahi, by simp, by simp, by simp⟩, ?_⟩
 . rw [q] at z; cases z
 . by_cases ha : a = D
   . subst ha; rw [az] at q; cases q; cases i
   . rw [ao ha] at q; exact tp a o q i
 . rintro i m H2 ⟨rfl, hi, Z2, A6, fp, hh, wz, zh, zD, nw, tp2, Z6, ra, nd, nD, own, hav⟩
   by_cases g6 : i < ds.length
   . refine .inr ⟨hgo i H2 (wz.trans zh) g6, fun H' => ∃ Z2 A6 fp, GW X.K CL H W1 D (((ds.take (i + 1)).filter p).map g) (i + 1) H' Z2 A6 fp, fun H' h => ⟨ds.length - (i + 1), by omega, rfl, g6, h⟩, fun xv H3 y C s0 H0 f0 os MB => ?_⟩
     obtain ⟨Z3, d, hd, gr, rd⟩ := hy i Z2 H2 xv H3 wz zh tp2 g6 y
     have T5 : ∀ a, Z2 a = none -> (∃ o, H2 a = some o) -> Z3 a = none := fun a e ⟨o, e2⟩ => by
       cases q : Z3 a with
       | none => rfl
       | some u => rw [gr.new a u q e] at e2; cases e2
     have nw3 : ∀ a o, Z3 a = some o -> W1 a = none -> H a = none := fun a o q z => by
       cases e : Z2 a with
       | none => exact hh.free (gr.new a o q e)
       | some u =>
         have := gr.z a u e
         rw [q] at this; cases this
         exact nw a o e z
     have T6 : aJ X.K CL H3 Z3 (((ds.take i).filter p).map g) A6 fp := ra.mono gr.z fun a ha => by
       obtain ⟨o, e⟩ := ra.there a ha
       rw [e]; exact gr.h a o e
     have Z7 : ∀ a ∈ fp, Z3 a = none /\ H a = none := fun a ha => ⟨T5 a (own a ha).1 (ra.there a ha), (own a ha).2⟩
     have zD3 : Z3 D = none := T5 D zD ⟨_, Z6⟩
     have QW : H3 D = some (.lst A6) := gr.h D _ Z6
     have TY := hh.trans gr.h
     have Z8 := wz.trans gr.z
     have zh3 := gr.zh
     have tp3 := gr.tp
     clear own nw ra zD Z6 hh wz zh tp2 gr T5
     have Fv : d ∈ ds := af8 hd
     have htk : ds.take (i + 1) = ds.take i ++ [d] := by rw [agJ, hd]; rfl
     obtain ⟨tgt, uY⟩ := inner C s0 H0 f0 ⟨H3, Z3⟩
     obtain ⟨ps, hps, hpl, it, ie⟩ := uY d Fv
     obtain ⟨t, pg, ht⟩ := tgt
     refine ⟨t, pg, ht Z3 H3 d ps xv _ _ zh3 rd hps fun ys ZX => ?_⟩
     have hyl : ys.length = n := by rw [← ZX.length]; exact hpl
     have es : tM (Fq σ ix os) (List.range' 0 n) ys = Fq σ ix (ys.map some) := by
       have := vN (ys := ys) (os := os) (pre := []) (r := ix.map fun i => (σ[i]?).getD none) (by rw [MB, hyl])
       rw [hyl] at this
       exact this
     refine ⟨ys.map some, by rw [afO]; exact hyl, es, ?_⟩
     rw [es]
     have S0 : bf X.K CL ⟨H3, Z3⟩ H3 Z3 (Ft ps ++ δc) (Fq σ ix (ys.map some)) [] [] :=
       ⟨⟨[], [], Nb ZX ((cap H3).mono Z8 fun a ha => by cases ha), .nil, ahi, fun a ha => by cases ha⟩, .refl _, .refl _, zh3, fun a o q z => (by have z' : Z3 a = none := z; rw [show Z3 a = some o from q] at z'; cases z'), tp3, (S.XQ.mono zw).mono Z8⟩
     refine it.sem S0 fun H4 Z4 z4 k4 S4 => ?_
     have abw : ∀ a ∈ fp, H4 a = H3 a := fun a ha => by
       obtain ⟨o, e⟩ := T6.there a ha
       rw [e]; exact k4 a o e
     have IA : ∀ a, Z3 a = none -> (∃ o, H3 a = some o) -> Z4 a = none := fun a e ⟨o, e2⟩ => by
       cases q : Z4 a with
       | none => rfl
       | some u =>
         have := S4.new a u q e
         rw [show H3 a = none from this] at e2; cases e2
     cases hp : p d with
     | false =>
       refine E9 ⟨Z4, A6, fp, TY.trans k4, Z8.trans z4, S4.zh, IA D zD3 ⟨_, QW⟩, fun a o q z => ?_, S4.tp, k4 D _ QW, ?_, nd, nD, fun a ha => ⟨IA a (Z7 a ha).1 (T6.there a ha), (Z7 a ha).2⟩, by omega⟩
       . cases e : Z3 a with
         | none => exact TY.free (S4.new a o q e)
         | some u => 
           have := z4 a u e
           rw [q] at this; cases this
           exact nw3 a o e z
       . rw [htk, List.filter_append, List.filter_cons_of_neg (by simp [hp]), List.filter_nil, agF]
         exact T6.mono z4 abw
     | true =>
       refine Fb ((ie hp) H4 Z4 (Fq σ ix (ys.map some)) [] [] _ S4 fun yv H5 Z5 z5 k5 S5 => ⟨A6, k5 D _ (k4 D _ QW), by omega, ?_⟩)
       obtain ⟨f1, g1, e1, r1, XR, Ye⟩ := S5.rep
       cases r1 with
       | @cons _ _ _ _ fy fn ry rn =>
         cases rn
         rw [agF] at XR Ye
         have ndy : fy.Nodup := (agD.mp XR).2.1
         have Nf : ∀ a ∈ fy, Z5 a = none /\ H3 a = none := fun a ha => Ye a (afQ _ ha)
         have BG : ∀ a, Z3 a = none -> (∃ o, H3 a = some o) -> Z5 a = none := fun a e ⟨o, e2⟩ => by
           cases q : Z5 a with
           | none => rfl
           | some u =>
             have := S5.new a u q e
             rw [show H3 a = none from this] at e2; cases e2
         have yD : ∀ a ∈ fy, a ≠ D := fun a ha e => by
           subst e
           rw [(Nf a ha).2] at QW; cases QW
         have h5D : H5 D = some (.lst A6) := k5 D _ (k4 D _ QW)
         have sD : aA H (upd H5 D (.lst (A6 ++ [yv]))) := fun a o q => by
           rw [ao (bu q hD)]
           exact k5 a o (k4 a o (TY a o q))
         refine ⟨Z5, A6 ++ [yv], fp ++ fy, sD, Z8.trans (z4.trans z5), fun a o q => ?_, BG D zD3 ⟨_, QW⟩, fun a o q z => ?_, fun a o q im => ?_, az, ?_, ?_, ?_, fun a ha => ?_, ?_⟩
         . rw [ao (bu q (BG D zD3 ⟨_, QW⟩))]; exact S5.zh a o q
         . cases e : Z3 a with
           | none => exact TY.free (S5.new a o q e)
           | some u =>
             have := z5 a u (z4 a u e)
             rw [q] at this; cases this
             exact nw3 a o e z
         . by_cases ha : a = D
           . subst ha; rw [az] at q; cases q; cases im
           . rw [ao ha] at q; exact S5.tp a o q im
         . rw [htk, List.filter_append, List.filter_cons_of_pos hp, List.filter_nil, aga]
           refine aJ.app (T6.mono (z4.trans z5) fun a ha => ?_) (by
             have := aJ.cons (fp := fy) (gp := []) (ry.mono (.refl _) fun a ha => ao (yD a ha)) (aJ.nil (H := upd H5 D (.lst (A6 ++ [yv]))) (Z := Z5))
             rwa [agF] at this)
           have : a ≠ D := fun e => nD (e ▸ ha)
           rw [ao this]
           obtain ⟨o, e⟩ := T6.there a ha
           rw [e]; exact k5 a o (k4 a o e)
         . refine agD.mpr ⟨nd, ndy, fun a ha a' S7 e => ?_⟩
           subst e
           obtain ⟨o, e⟩ := T6.there a ha
           rw [(Nf a S7).2] at e; cases e
         . intro h
           rcases af0.mp h with h | h
           . exact nD h
           . exact yD D h rfl
         . rcases af0.mp ha with h | h
           . exact ⟨BG a (Z7 a h).1 (T6.there a h), (Z7 a h).2⟩
           . exact ⟨(Nf a h).1, TY.free (Nf a h).2⟩
         . rw [afY, List.length_singleton]; omega
   . have e : i = ds.length := by omega
     subst e
     refine .inl ⟨R5 H2 (wz.trans zh), ?_⟩
     rw [ag5] at ra
     obtain ⟨Z', z', S'⟩ := S.back (H' := H2) (W := W1) (W' := Z2) (t := .lst ((ds.filter p).map g)) (v := .ref D) (fp := D :: fp) hh zw wz zh nw tp2 (.lst Z6 ra) (agB.mpr ⟨nD, nd⟩) (fun a ha => by
       rcases afX.mp ha with h | h
       . subst h; exact ⟨zD, hD⟩
       . exact own a h) (c.imp id fun c => by
         rw [vK]
         exact tG fun d hd => c d (ahK.mp hd).1)
     exact ⟨Z', z', hh, S'⟩
end
section
variable {X : Cx} {CL : Str -> Addr} {b : Bx} {δ δ1 : List (Option T)} {scope : Scope} {xs : List Str} {Nc : List Str} {ix : List Nat} {elt iter tg : Expr} {ifs : List Expr} {pos : Pos} {ds : List D} {p : D -> Bool} {g : D -> T} {δc : List (Option T)} {parts : D -> Option (List D)}
theorem vO {J : It} {fp : List Addr} {it : Addr} {tn : Nat -> Heap -> Prop} {pins : List (Addr × Obj)} {σ : L2.St} {H H1 Z : Hp} {s : Shared} {ts : List T} {vs : List V} {RR : Value -> Addr -> Result -> Shared -> Prop} {E : Value -> Shared -> Prop}
   (sc : lB X scope xs Nc ix) (hc : X.calm = true) (C : xm X CL b δ1 σ ts vs Z H ds J H1) (I : L2.Inv X pins σ H1 s) (Tn : Turn X.prog X.w X.K tg J fp it tn) (st : tn 0 s.heap) (hf : ∀ b ∈ fp, rB X pins H1 b)
   (hb : (δc = zT δ1 ix /\ ∀ d ∈ ds, (g d).clean = true) \/ δc = zU δ1 ix) (inner : qA X CL scope Nc xs.length tg parts ifs elt δc ds p g) (hlen : ds.length <= sizeLine)
   (hRR : ∀ D C s' H' Z', (∃ m, s'.heap.Ns C m) -> (∃ o, s'.heap.get? C = some o /\ ∀ v, o.data ≠ .cell v) -> H' C = none -> (C ≠ X.env.locals /\ C ∉ X.fs /\ X.s₀.heap.objs.size <= C /\ (∀ y c, X.env.cells.lookup y = some c -> c ≠ C) /\ ∀ q ∈ X.pn ++ pins, q.1 ≠ C) -> (∀ h', Heap.SameBut C s'.heap h' -> L2.Inv X pins σ H' { s' with heap := h' }) -> aA Z Z' -> aA H H' -> bf X.K CL b H' Z' δ1 σ (.lst ((ds.filter p).map g) :: ts) (.ref D :: vs) -> RR (.ref D) C (.ok .next) s') :
   wpAny (model X.prog X.w) X.A (newList []) (fun acc s₃ => wpAny (model X.prog X.w) X.A (newFunctionEnv scope X.env.globals (fV X.env scope.names []) [] X.env.qual none .none (some X.env)) (fun Iw s₄ =>
     codeAny (model X.prog X.w) X.A (.compStart (.ListComp elt [⟨tg, iter, ifs, 0⟩] scope pos) 0 (.ref it) acc { Iw with scope := relabel scope X.env }) (RR acc Iw.locals) s₄) E s₃) E s := by
 obtain ⟨Z1, z1, k1, S1, go, yl, stp⟩ := C.ex
 have lp : ∀ D, H1 D = none -> ∃ W : Nat -> Nat -> Hp -> Prop, (∃ m, W 0 m (upd H1 D (.lst []))) /\ ∀ i m H2, W i m H2 -> (J.stop i H2 /\ ∃ Z2, aA Z1 Z2 /\ aA H1 H2 /\ bf X.K CL b H2 Z2 δ1 σ (.lst ((ds.filter p).map g) :: ts) (.ref D :: vs)) ∨
     (J.go i H2 /\ ∃ N : Hp -> Prop, (∀ H', N H' -> ∃ m', m' < m /\ W (i + 1) m' H') /\ ∀ xv H3, J.Qx i H2 xv H3 -> ∀ C s0 H0 f0 os, os.length = xs.length -> Iv (dB X scope Nc C s0 H0 f0) tg elt ifs xs.length σ ix D N xv os H3) := by
   rcases hb with ⟨e, cl⟩ | e
   . subst e
     exact tN (W1 := H1) S1 S1.zh (.refl _) (fun _ _ q _ => q) (zV S1 ix) inner (fun i H2 s => go i H2 (S1.zh.trans s)) (fun i Z2 H2 y H' s => yl i Z2 H2 y H' (S1.zh.trans s)) (fun H2 s => stp H2 (S1.zh.trans s)) hlen (.inr cl)
   . subst e
     exact tN (W1 := Z1) S1 (.refl _) S1.zh S1.tp (zW S1 ix) inner go yl stp hlen (.inl rfl)
 exact BF sc hc I Tn st hf lp fun D C s' H' m io nC ch ci ⟨Z', z', k', S'⟩ => hRR D C s' H' Z' m io nC ch ci (z1.trans z') (k1.trans k') S'
theorem qZ (sc : lB X scope xs Nc ix) {pins : List (Addr × Obj)} {σ : L2.St} {H : Hp} {s : Shared} (I : L2.Inv X pins σ H s) : closureFor scope X.env = pure (fV X.env scope.names []) :=
 uX fun y hy e => I.ok.has y.1 (sc.frees y hy e).2
theorem Ac (sc : lB X scope xs Nc ix) (hc : X.calm = true) (h : WG X CL b tg iter δ ds δ1) (hb : (δc = zT δ1 ix /\ ∀ d ∈ ds, (g d).clean = true) \/ δc = zU δ1 ix) (inner : qA X CL scope Nc xs.length tg parts ifs elt δc ds p g) (hlen : ds.length <= sizeLine)
   (hs : ∀ x, foldedSetIterable iter X.env x = pure x := by intro _; rfl) : bG X CL b (.ListComp elt [⟨tg, iter, ifs, 0⟩] scope pos) δ (.lst ((ds.filter p).map g)) δ1 := fun H Z σ ts vs Q S k pins s I => by
 obtain ⟨wi, pi, hw⟩ := h
 rw [eval_ListComp]
 refine wpAny_comprehension_free (use := none) rfl hs (qZ sc I) sc.kind sc.names ?_
 refine cR (pi pins s σ H _ I (hw H Z σ ts vs (fun J H1 => xm X CL b δ1 σ ts vs Z H ds J H1) S fun J H1 C => C)) fun v s1 h1 => cR h1 fun ZO s2 zz => ?_
 obtain ⟨it, fp, tn, J, H1, e, I1, Tn, st, hf, C⟩ := zz
 subst e
 refine vO (RR := fun acc C => compPost (model X.prog X.w) X.A X.xe none (EP X pins σ Q) acc C) sc hc C I1 Tn st hf hb inner hlen fun D C' s' H' Z' m io nC ch ci z' k' S' => ?_
 obtain ⟨m, hn⟩ := m
 exact ⟨m, hn, fun h' Ab => ⟨.ref D, H', ci h' Ab, rfl, k _ H' Z' z' k' S'⟩⟩
theorem Ng {D : dH} {y : Str} {py Yg : Pos} (i : Nat) (sc : lB X scope xs Nc ix) (hc : X.calm = true) (h : WG X CL b tg iter δ ds δ1) (hb : (δc = zT δ1 ix /\ ∀ d ∈ ds, (g d).clean = true) \/ δc = zU δ1 ix) (inner : qA X CL scope Nc xs.length tg parts ifs elt δc ds p g) (hlen : ds.length <= sizeLine)
   (k : D.nx (δ1.set i (some (.lst ((ds.filter p).map g))))) (hl : i < δ1.length) (hN : X.N.Nodup) (hi : X.N[i]? = some y) (hx : Loc X.env.scope y) (hf' : X.fn y = true \/ X.env.scope.names.lookup y = some .local)
   (zS : swapsWith (.ListComp elt [⟨tg, iter, ifs, 0⟩] scope pos) (some (.Name y py)) Yg.line X.env = pure true)
   (hs : ∀ x, foldedSetIterable iter X.env x = pure x := by intro _; rfl) : L4 X CL b (.Assign [.Name y py] (.ListComp elt [⟨tg, iter, ifs, 0⟩] scope pos) Yg) δ D := fun H Z σ ts vs E S M pins s I => by
 obtain ⟨wi, pi, hw⟩ := h
 rw [exec_Assign_Name_used _ _ _ _ zS]
 refine afN (wpAny_standAt (afN ?_))
 show wpAny _ X.A (do let _ ← comprehension (.ListComp elt [⟨tg, iter, ifs, 0⟩] scope pos) scope X.env _ (newList []) false (eval iter X.env) (some (assign (.Name y py) X.env))) _ _ s
 refine afN (ag7 (wpAny_comprehension_free (use := some (assign (.Name y py) X.env)) (Q := fun _ s' => SP X pins E .next s') rfl hs (qZ sc I) sc.kind sc.names ?_) (fun _ s' hq => afT (afT hq)) fun _ _ e => e)
 refine cR (pi pins s σ H _ I (hw H Z σ ts vs (fun J H1 => xm X CL b δ1 σ ts vs Z H ds J H1) S fun J H1 C => C)) fun v s1 h1 => cR h1 fun ZO s2 zz => ?_
 obtain ⟨it, fp, tn, J, H1, e, I1, Tn, st, hf, C⟩ := zz
 subst e
 refine vO (RR := fun acc C => compPost (model X.prog X.w) X.A X.xe (some (assign (.Name y py) X.env)) (fun _ s' => SP X pins E .next s') acc C) sc hc C I1 Tn st hf hb inner hlen fun D' C' s' H' Z' m io nC ch ci z' k' S' => ?_
 obtain ⟨m, hn⟩ := m
 obtain ⟨o, ho, vv⟩ := io
 have I' : L2.Inv X pins σ H' s' := ci s'.heap (.refl ..)
 have I2 : L2.Inv X (pins ++ [(C', o)]) σ H' s' := I'.rN fun q hq => by
   rcases af0.mp hq with z | z
   . exact I'.pin q (afQ _ z)
   . have e : q = (C', o) := by simpa using z
     subst e
     exact ⟨ho, nC, ch.1, ch.2.1, vv⟩
 show wpAny _ X.A (assign (.Name y py) X.env (.ref D')) _ _ s'
 have hg : PG X (.Name y py) (qR i) := iU hN hi hx hf'
 refine cR (hg _ s' σ H' (.ref D') (.ref D') (fun σ8 H8 => σ8 = σ.set i (some (.ref D')) /\ H8 = H') I2 rfl ⟨rfl, rfl⟩) fun _ s8 zz => ?_
 obtain ⟨σ8, H8, I8, e8, e8'⟩ := zz
 subst e8
 subst e8'
 obtain ⟨hC8, nC8, _⟩ := I8.pin (C', o) (afQ _ (afQ _ (by simp)))
 refine ⟨m, hn.at' fun o' e' => by rw [ho] at e'; cases e'; exact hC8, fun h' Ab => ?_⟩
 have I9 : L2.Inv X pins (σ.set i (some (.ref D'))) _ s8 := I8.rN fun q hq => I8.pin q (afQ _ (afU _ hq))
 have I10 := I9.turned (it := C') (h' := h') (t' := s8.toks) (fun b o hb e => (Ab.2 b hb).trans e) nC8 ch.1.symm.symm (.inr ch.2.2.1) ch.2.2.2.1 ch.2.2.2.2
 exact ⟨_, _, I10, M.nx _ _ _ Z' z' (S'.set hl) k⟩
theorem T7 {D : dH} {eo : List Stmt} {i : Nat} {x : Str} {pos' pc : Pos} (gx : Gx X) (n : Ln X i x) (sc : lB X scope xs Nc ix) (h : WG X CL b tg iter δ ds δ1)
   (hb : (δc = zT δ1 ix /\ ∀ d ∈ ds, (g d).clean = true) \/ δc = zU δ1 ix) (inner : qA X CL scope Nc xs.length tg parts ifs elt δc ds p g) (hlen : ds.length <= sizeLine) (k : dw X CL b eo (δ1.set i (some (.lst ((ds.filter p).map g)))) D) (hl : i < δ1.length)
   (zS : swapsWith (.ListComp elt [⟨tg, iter, ifs, 0⟩] scope pc) (some (.Name x pos')) pos.line X.env = pure true \/ swapsWith (.ListComp elt [⟨tg, iter, ifs, 0⟩] scope pc) (some (.Name x pos')) pos.line X.env = pure false) (hs : ∀ x, foldedSetIterable iter X.env x = pure x := by intro _; rfl) :
   dw X CL b (.Assign [.Name x pos'] (.ListComp elt [⟨tg, iter, ifs, 0⟩] scope pc) pos :: eo) δ D := by
 rcases zS with zS | zS
 . exact bW (Ng i sc gx.calm h hb inner hlen k hl gx.nd n.hi n.loc n.hf zS hs)
 . exact bW (HZ i (Ac sc gx.calm h hb inner hlen hs) k hl gx.nd n.hi n.loc zS n.hf)
theorem T8 {i : Nat} {x : Str} {C : Addr} {s : Shared} {H : Hp} {fp : List Addr} (h1 : Nc[i]? = some x) (h2 : scope.names.lookup x = some .local) (hd : (x == ("__debug__" : Str)) = false := by decide) (kK : (x == ("__classdict__" : Str)) = false := by decide) : Ln (dB X scope Nc C s H fp) i x :=
 ⟨ck h1 h2 hd kK, .inl (lookup_relabel_local h2), .inr (lookup_relabel_local h2)⟩
end
noncomputable def insI (x : Int) : List Int -> List Int
 | [] => [x]
 | y :: l => if x <= y then x :: y :: l else y :: insI x l
theorem insI_perm (x : Int) : ∀ l, (insI x l).Perm (x :: l)
 | [] => .refl _
 | y :: l => by
   rw [insI]
   split
   . exact .refl _
   . exact ((insI_perm x l).cons y).trans (.swap x y l)
section
variable {CL : Str -> Addr} {e : Expr}
theorem qB {K : PySem.W.Frag} {Z : Hp} {l : List Int} {us : List V} (h : ay K CL Z (l.map D.int) us) : us = l.map V.int := by
 refine ay.ind (P := fun ds us => ∀ l : List Int, ds = l.map D.int -> us = l.map V.int) ?_ ?_ h l rfl
 . intro l e
   cases l with
   | nil => rfl
   | cons => cases e
 . intro d v ds vs r _ i l e
   cases l with
   | nil => cases e
   | cons a l =>
     injection e with e1 e2
     subst e1
     rw [i l e2]
     cases r
     rfl
theorem ints_rep {K : PySem.W.Frag} {Z : Hp} : ∀ (l : List Int), ay K CL Z (l.map D.int) (l.map V.int)
 | [] => .nil
 | _ :: l => .cons (.int _) (ints_rep l)
end
noncomputable def D.L5 : L3.D -> L3.D
 | .tup (a :: _) => a
 | d => d
theorem q8 : ∀ (l r : List Int), PyData.eqvAll (D.cW (l.map L3.D.int)) (D.cW (r.map L3.D.int)) = decide (l = r)
 | [], [] => by rw [ahC, D.cW, PyData.eqvAll]; rfl
 | [], _ :: _ => by rw [ahC, agd, D.cW, D.cW, PyData.eqvAll]; rfl
 | _ :: _, [] => by rw [ahC, agd, D.cW, D.cW, PyData.eqvAll]; rfl
 | x :: l, y :: r => by
   rw [agd, agd, D.cW, D.cW, PyData.eqvAll, q8 l r, D.toPy, D.toPy, PyData.eqv]
   by_cases e : x = y
   . subst e
     simp
   . have : (x == y) = false := by simpa using e
     rw [this, Bool.false_and, agm (by simp [e])]
theorem Ad (l r : List Int) : tK (.lst (l.map .int)) (.lst (r.map .int)) = decide (l = r) := by
 unfold tK
 rw [D.toPy, D.toPy, PyData.eqv, q8]
section
variable {K : PySem.W.Frag} {CL : Str -> Addr} {b : Bx} {H Z : Hp} {δ : List (Option T)} {σ : L2.St} {ts tl QX : List T} {vs : List V} {v : V}
theorem bf.extend {i : Nat} (S : bf K CL b H Z δ σ (.lst QX :: ts) (v :: vs)) (hi : δ[i]? = some (some (.lst tl))) :
   ∃ a us a2 Nh, σ[i]? = some (some (.ref a)) /\ H a = some (.lst us) /\ us.length = tl.length /\ v = .ref a2 /\ H a2 = some (.lst Nh) /\ Nh.length = QX.length /\ bf K CL b (upd H a (.lst (us ++ Nh))) Z (δ.set i (some (.lst (tl ++ QX)))) σ ts vs := by
 obtain ⟨fp, gp, e, r, nd, k⟩ := S.rep
 obtain ⟨v0, f1, f2, f3, hv, nI, rt, put, _⟩ := e.get hi
 subst nI
 cases rt with
 | @lst a us _ g ha rs =>
   cases r with
   | @cons _ _ _ _ ft gr q1 q2 =>
     cases q1 with
     | @lst a2 Nh _ g2 ha2 rs2 =>
       have ne : ∀ c ∈ (f1 ++ (g ++ f3)) ++ (g2 ++ gr), c ≠ a := fun c hc e => by
         subst e
         have hp : ((f1 ++ ((c :: g) ++ f3)) ++ ((a2 :: g2) ++ gr)).Perm (c :: ((f1 ++ (g ++ f3)) ++ ((a2 :: g2) ++ gr))) := by
           rw [agq, ← agq]
           exact (agY.append_right _)
         refine (agB.mp (hp.nodup_iff.mp nd)).1 ?_
         rcases af0.mp hc with z | z
         . exact afU _ z
         . exact afQ _ (afS _ z)
       refine ⟨a, us, a2, Nh, hv, ha, rs.length.symm, rfl, ha2, rs2.length.symm, ?_⟩
       have r1 : aV K CL (upd H a (.lst (us ++ Nh))) Z (.lst (tl ++ QX)) (.ref a) (a :: (g ++ g2)) :=
         .lst az (aJ.app (rs.mono (.refl _) fun c hc => ao (ne c (by simp [hc]))) (rs2.mono (.refl _) fun c hc => ao (ne c (by simp [hc]))))
       have e2 := put (H' := upd H a (.lst (us ++ Nh))) (.refl _) (fun c hc => ao (ne c (by
         rcases af0.mp hc with h | h
         . simp [h]
         . simp [h]))) r1
       rw [fz hv] at e2
       have hp : ((f1 ++ ((a :: (g ++ g2)) ++ f3)) ++ gr).Perm ((f1 ++ ((a :: g) ++ f3)) ++ (g2 ++ gr)) := by
         simp only [agq, afW]
         refine agy f1 (List.Perm.cons a (agy g ?_))
         rw [← afW, ← afW]
         exact agE.append_right gr
       have sb : ((f1 ++ ((a :: g) ++ f3)) ++ (g2 ++ gr)).Sublist ((f1 ++ ((a :: g) ++ f3)) ++ ((a2 :: g2) ++ gr)) :=
         agC (agz _) (by rw [agq]; exact List.sublist_cons_self _ _)
       exact S.write nd k (afP) ⟨_, ha⟩ e2 (q2.mono (.refl _) fun c hc => ao (ne c (by simp [hc]))) (hp.nodup_iff.mpr (nd.sublist sb)) fun c hc => sb.subset (hp.mem_iff.mp hc)
end
section
variable {X : Cx} {CL : Str -> Addr} {b : Bx} {δ δ1 : List (Option T)} {e : Expr} {tl Tj QX : List T} {D : dH} {pos pp pa pb : Pos} {i : Nat} {x : Str} {eo : List Stmt}
theorem Yh (n : Vn X i x) (h0 : δ[i]? = some (some (.lst Tj))) (h : bG X CL b e δ (.lst QX) δ1) (h1 : δ1[i]? = some (some (.lst tl))) (hl : tl.length + QX.length <= 1000000) (k : dw X CL b eo (δ1.set i (some (.lst (tl ++ QX)))) D)
   (fP : attributeBase (.Name x pp) "extend" X.env (eval (.Name x pp) X.env) = eval (.Name x pp) X.env := by rfl)
   (nQ : ((backTo pb (starEach [e] X.env)).all (fun x => !x.1) && (backToKw pb (keywordEach [] X.env)).all (fun x => x.1.isSome) && decide ([e].length + ([] : List Keyword).length + (if ([] : List Keyword).isEmpty then 0 else 1) < 30)) = true := by rfl)
   (hline : (pa.endLine == pb.line) = true := by rfl) (hs : starEach [e] X.env = (false, eval e X.env) :: starEach [] X.env := by exact bD rfl)
   (zS : swapsWith (.Call (.Attribute (.Name x pp) "extend" pa) [e] [] pb) none pos.line X.env = pure false := by rfl) :
   dw X CL b (.Expr (.Call (.Attribute (.Name x pp) "extend" pa) [e] [] pb) pos :: eo) δ D := bW fun H Z σ ts vs E S M =>
 kT (rP (Dh aib PySem.F.slot_list_extend PySem.F.type_list_extend E4 (gW n.hi n.hv n.hd n.kK) (cu b6 dW hs) fP nQ hline hs rfl) zS) (by
   obtain ⟨v0, e0, r0⟩ := S.look h0
   refine ⟨v0, e0, ?_, ?_⟩
   . rw [T.bK] at r0
     cases r0 with
     | lst hq _ => exact .inl ⟨rfl, _, hq⟩
   . refine h H Z σ ts vs _ S fun v H1 Z1 z1 k1 S1 => ?_
     obtain ⟨a, us, a2, Nh, ea, ha, hu, rfl, ha2, hu2, S2⟩ := S1.extend h1
     rw [e0] at ea
     cases ea
     exact ⟨a, a2, us, Nh, rfl, rfl, ha, ha2, by rw [hu, hu2]; exact ahd (ahu hl (by rw [age]; decide)), M.nx _ σ _ Z1 z1 S2 k⟩)
end
section
variable {X : Cx} {CL : Str -> Addr} {b : Bx} {e1 e2 : Expr} {δ δ1 δ2 : List (Option T)} {ds : List L3.D} {pos : Pos}
noncomputable def Yi (K : PySem.W.Frag) : R2 := fun x y H Q => ∃ l k xs, x = .ref l /\ y = .int k /\ k6 K H l xs /\ -(2 ^ 63) <= k /\ k < 2 ^ 63 /\ xs.length * k.toNat <= sizeLine ∧
 ∀ p, H p = none -> Q (.ref p) (upd H p (.lst (List.replicate k.toNat xs).flatten))
theorem Ni : kY X (binaryOp .Mult) (Yi X.K) := by
 intro pins s σ H x y v u Q I rx ry h
 obtain ⟨l, k, xs, rfl, rfl, hH, h1, h2, hz, q⟩ := h
 cases rx
 obtain ⟨t, rfl⟩ := ry
 obtain ⟨its, r, pl, _⟩ := I.list hH
 have hl := r.length
 obtain ⟨⟨c1, dd, da1, sl⟩, e, hc, n, hd⟩ := pl.isList
 cases hc; cases hd
 have hlen : its.toArray.size * k.toNat <= sizeLine := by rw [agi, ← hl]; exact hz
 have aby : ¬ its.toArray.size * k.toNat > (2 ^ 63 - 1) / 8 := by
   have : (sizeLine : Nat) <= (2 ^ 63 - 1) / 8 := by decide
   omega
 have abz : ¬ (!Builtin.List.listFitsIndex k) = true := by
   rw [fitsIndex_both h1 h2]
   exact af4
 have HG : ¬ Builtin.List.listTooLong (its.toArray.size * k.toNat) = true := by
   rw [zO hlen]
   exact af4
 have T9 : List.foldl (fun x1 x2 => x1 ++ x2) #[] (List.replicate (if its.toArray.isEmpty = true then 0 else k.toNat) its.toArray) = (List.replicate k.toNat its).flatten.toArray := by
   have f0 : ∀ m : Nat, List.foldl (fun x1 x2 => x1 ++ x2) #[] (List.replicate m its.toArray) = (List.replicate m its).flatten.toArray := fun m => by
     have := foldl_rep its m []
     rw [ahy] at this
     exact this
   rw [f0]
   cases its with
   | nil => simp
   | cons a r' => rw [af1 (by simp)]
 refine wpAny_binaryOp_repeat_ref (T := "list") (U := "int") (by decide) ⟨_, e, rfl⟩ (fun s' => typeIs_int s' k t) noFill_list_mul F.fills_int_mul F.slot_int_rmul repeat_list F.slot_int_index.lookup
   (call_meets F.slot_int_rmul (typeIs_int s k t) F.entry_int_rmul (F.args_int_rmul_2 _ _) (lm_int_rmul_list_any k t l its.toArray n dd sl)
     ⟨e, rfl, ⟨_, e, rfl⟩, call_meets F.slot_list_mul ⟨_, e, rfl⟩ F.entry_list_mul (F.args_list_mul_2 _ _) (lm_list_mul_any l its.toArray n dd sl k t abz aby HG) ⟨e, ?_⟩⟩)
 rw [T9]
 exact ⟨.ref _, _, I.XE (t' := s.toks) (r.rep k.toNat) (by rw [len_rep, Nat.mul_comm]; exact hz), rfl, q _ I.fresh⟩
theorem ay.rep {K : PySem.W.Frag} {Z : Hp} {ds : List L3.D} {vs : List V} (r : ay K CL Z ds vs) : ∀ k : Nat, ay K CL Z (List.replicate k ds).flatten (List.replicate k vs).flatten
 | 0 => .nil
 | k + 1 => by
   rw [agO, agO, aha, aha]
   exact ay.app r (ay.rep r k)
theorem DC {k : Int} (h1 : cL X CL b e1 δ (.lst ds) δ1) (h2 : cL X CL b e2 δ1 (.int k) δ2) (i1 : D.aY ds = true) (k1 : -(2 ^ 63) <= k) (k2 : k < 2 ^ 63) (hz : ds.length * k.toNat <= sizeLine) :
   bG X CL b (.BinOp e1 .Mult e2 pos) δ (.lst ((List.replicate k.toNat ds).flatten.map T.sh)) δ2 := fun H Z σ ts vs Q S kk =>
 bO (sX Ni b6 b6) (h1 H Z σ ts vs _ S fun v1 H1 Z1 z1 q1 S1 r1 => h2 H1 Z1 σ ts vs _ S1 fun v2 H2 Z2 z2 q2 S2 r2 => by
   have Fg := r1.mono q2
   cases Fg with
   | lst Ip z9 =>
     cases r2 with
     | int =>
       refine ⟨_, _, _, rfl, rfl, Ip, k1, k2, by rw [← z9.length]; exact hz, fun p hp => ?_⟩
       have rc := ay.rep (ay.iF S2.tp i1 z9) k.toNat
       obtain ⟨c, S4⟩ := (bf.oV rc S2).qu (g0 := []) (by rw [afO, rc.length]) hp
       exact kk _ _ _ (z1.trans z2) (q1.trans (q2.trans c)) S4)
end
section
variable {X : Cx} {CL : Str -> Addr} {b : Bx} {δ : List (Option T)} {x : Str} {pos : Pos}
theorem ay.QY {K : PySem.W.Frag} {Z : Hp} : ∀ l : List Str, ay K CL Z (l.map .str) (l.map V.str)
 | [] => .nil
 | x :: l => .cons (.str x) (ay.QY l)
noncomputable def GT (X : Cx) (x : Str) (l : List Str) : Prop := ∃ a, X.mg x = some (.ref a) /\ ∀ H : Hp, kN X.K H a (l.map V.str)
theorem IB {l : List Str} (hm : GT X x l) (hg : Gl X x) (hd : (x == ("__debug__" : Str)) = false := by decide) : bG X CL b (.Name x pos) δ (.sh (.tup (l.map .str))) δ := fun H Z σ ts vs Q S kk => by
 obtain ⟨a, hm, hs⟩ := hm
 exact bO (Mm (v := .ref a) hg hm rfl hd) (kk _ H Z (.refl _) (.refl _) (S.push (.tup (hs Z) (ay.QY l))))
theorem Yj {l : List Str} {a : Addr} {od : Option Addr} {its : Array Value} {n : Nat} {sl : Array (Option Value)} (h1 : X.mg x = some (.ref a)) (h2 : X.K.lookup a = some ⟨.type "tuple", od, .seq its n, sl⟩) (h3 : its.size <= sizeLine) (h4 : Vals (l.map V.str) its.toList) : GT X x l :=
 ⟨a, h1, fun H => .inr ⟨_, its, n, h2, rfl, rfl, h3, h4⟩⟩
end
section
noncomputable def QZ (x y : Str) : Bool := !(Builtin.Str.occurrences y x 0 y.length 1).isEmpty
end
section
variable {X : Cx} {CL : Str -> Addr} {b : Bx} {e : Expr} {δ δ1 δ2 δ3 : List (Option T)} {pos p2 : Pos}
noncomputable def abA : V -> Option Int -> Option Int -> Hp -> VK -> Prop := fun x lo hi H Q => ∃ z, x = .str z /\ z.length <= sizeLine /\ Q (.str (Txt.slice z lo hi)) H
theorem Ua : Xy X abA := by
 intro pins s σ H x v vl vu lo hi sl Q I rx hs pl pu h
 obtain ⟨z, rfl, hz, q⟩ := h
 obtain ⟨t, rfl⟩ := rx
 obtain ⟨o, ho, hc, hd⟩ := hs
 have fin : ∀ t' k, EP X pins σ Q (.str (Txt.slice z lo hi) t') { s with toks := k } := fun t' k => ⟨.str _, H, I.tok k, ⟨t', rfl⟩, q⟩
 refine ⟨"str", _, F.slot_str_getitem.lookup, typeIs_str _ _ _, ?_⟩
 cases pl with
 | none =>
   cases pu with
   | none => exact ahI (l := none) (u := none) (st := none) ⟨o, ho, hc, hd⟩ rfl (post_val_or_str ⟨agH (Txt.slice_le z _ _) hz, fin⟩)
   | int j uj => exact ahI (l := none) (u := some (j, uj)) (st := none) ⟨o, ho, hc, hd⟩ rfl (post_val_or_str ⟨agH (Txt.slice_le z _ _) hz, fin⟩)
 | int i ui =>
   cases pu with
   | none => exact ahI (l := some (i, ui)) (u := none) (st := none) ⟨o, ho, hc, hd⟩ rfl (post_val_or_str ⟨agH (Txt.slice_le z _ _) hz, fin⟩)
   | int j uj => exact ahI (l := some (i, ui)) (u := some (j, uj)) (st := none) ⟨o, ho, hc, hd⟩ rfl (post_val_or_str ⟨agH (Txt.slice_le z _ _) hz, fin⟩)
theorem Fw {lo hi : Option Expr} {l h : Option Int} {z : Str} (h1 : cL X CL b e δ (.str z) δ1) (hz : z.length <= sizeLine) (h2 : QT X CL b lo δ1 l δ2) (h3 : QT X CL b hi δ2 h δ3) : bG X CL b (.Subscript e (.Slice lo hi none p2) pos) δ (.sh (.str (Txt.slice z l h))) δ3 := fun H Z σ ts vs Q S k => by
 obtain ⟨t2, X8, w2⟩ := h2
 obtain ⟨t3, X9, w3⟩ := h3
 refine bO (tD Ua b6 X8 X9) (h1 H Z σ ts vs _ S fun v H1 Z1 z1 k1 S1 r => w2 H1 Z1 σ ts vs _ S1 fun H2 Z2 z2 k2 S2 => w3 H2 Z2 σ ts vs _ S2 fun H3 Z3 z3 k3 S3 => ?_)
 exact ⟨z, r.sc rfl, hz, k _ H3 Z3 (z1.trans (z2.trans z3)) (k1.trans (k2.trans k3)) (S3.push (.str _))⟩
end
section
variable {X : Cx} {CL : Str -> Addr} {b : Bx} {δ : List (Option T)} {pos pp : Pos} {x : Str}
theorem c0 {k n : Nat} {A : Type} {arg : A -> List L3.D} {Pre : A -> Prop} {res : A -> T} (a : A) (F : Fc X CL x k n arg Pre res) (hg : Gl X x) (ha : arg a = []) (hp : Pre a) (hc : (res a).clean = true) (hn : (arg a).length = n := by rfl)
   (sZ : (x == ("__debug__" : Str)) = false := by decide) : bG X CL b (.Call (.Name x pp) [] [] pos) δ (res a) δ := by
 obtain ⟨f, fd, ps, F1, m, kk, bb⟩ := F.ex
 intro H Z σ ts vs Q S k
 refine bO (Hx F1 F.room hg m kk bb .nil HK sZ) ?_
 refine ⟨H, a, .refl _, fun _ _ q _ => q, by rw [ha]; exact .nil, hn, hp, S.SY, fun v H' W' fp hh ww wh nw tp rt nd own => ?_⟩
 obtain ⟨Z', z', S'⟩ := S.back hh S.zh ww wh nw tp rt nd own (.inr hc)
 exact k v H' Z' z' hh S'
end
noncomputable def BH : Key -> D
 | .inl i => .int i
 | .inr x => .str x
section
variable {K : PySem.W.Frag} {CL : Str -> Addr} {Z : Hp} {v : V} {kvs : List (Key × D)} {gs : List (Key × V)}
theorem b5.length {kvs : List (Key × D)} {gs : List (Key × V)} (h : b5 K CL Z kvs gs) : kvs.length = gs.length :=
 b5.ind (P := fun kvs gs => kvs.length = gs.length) rfl (fun _ _ i => congrArg (· + 1) i) h
theorem aU.key {k : Key} (r : aU K CL Z (BH k) v) : v = kV k := by
 cases k with
 | inl i => exact r.sc rfl
 | inr x => exact r.sc rfl
theorem Nj {Z : Hp} (k : Key) : aU K CL Z (BH k) (kV k) := by
 cases k with
 | inl i => exact .int i
 | inr x => exact .str x
theorem tO {Z : Hp} : ∀ ks : List Key, ay K CL Z (ks.map BH) (ks.map kV)
 | [] => .nil
 | k :: ks => .cons (Nj k) (tO ks)
end
namespace Rv
theorem Fx : Manifest.owners.lookup (String.ofList ['d', 'e', 's', 'r', 'e', 'v', 'e', 'r'].reverse) = some Manifest.sig_reversed := by kernel_rfl
theorem Fy : PySem.Slot "reversed" "__init__" "object.__init__" :=
 .of (owner := "object") (n := "__init__") (by rw [typeLookup_type, builtinLookup_eq_fast]; kernel_rfl) (by decide +kernel) (by decide +kernel) (by decide +kernel)
   (by first | exact .inl (by decide +kernel) | exact .inr (by decide +kernel)) (by rw [isSubtype_type]; kernel_rfl)
theorem called : TypeCalled "reversed" "reversed.__new__" "object.__init__" :=
 ⟨by decide +kernel, by decide +kernel, ⟨_, _, PySem.F.mro_reversed⟩, PySem.F.made_reversed, by decide +kernel, PySem.F.sub_reversed_self, Fy⟩
theorem slot_next : PySem.Slot "reversed" "__next__" "reversed.__next__" :=
 .of (owner := "reversed") (n := "__next__") (by rw [typeLookup_type, builtinLookup_eq_fast]; kernel_rfl) (by decide +kernel) (by decide +kernel) (by decide +kernel)
   (by first | exact .inl (by decide +kernel) | exact .inr (by decide +kernel)) (by rw [isSubtype_type]; kernel_rfl)
theorem entry_next : entryFor table "reversed.__next__" = some Builtin.«reversed.__next__» := entryFor_of_tree (by kernel_rfl)
theorem args_next (a : Value) : argsOk "reversed.__next__" ⟨[a], []⟩ := by
 unfold argsOk; rw [signature?_of (id := "reversed.__next__") (n := ['_', '_', 't', 'x', 'e', 'n', '_', '_']) (o := ['d', 'e', 's', 'r', 'e', 'v', 'e', 'r']) (by kernel_rfl) Fx]; kernel_rfl
noncomputable def obj (t : Addr) (i : Int) : Obj := { cls := .type "reversed", data := .fields #[.ref t, rawInt i] }
noncomputable def Is (h : Heap) (a t : Addr) (i : Int) : Prop := ∃ o, h.get? a = some o /\ o.cls = .type "reversed" /\ o.data = .fields #[.ref t, rawInt i]
section
variable {s : Shared}
theorem Is.typeIs {a t : Addr} {i : Int} (x : Is s.heap a t i) : s.TypeIs (.ref a) "reversed" := let ⟨o, ho, hc, _⟩ := x; ⟨o, ho, hc⟩
end
end Rv
namespace Rv
section
variable {prog : Program} {w : World} {A : Around} {E : Value -> Shared -> Prop} {s : Shared}
theorem next_item {it t : Addr} {i : Nat} {items : Array Value} {x : Value} {Q : Option Value -> Shared -> Prop} (hit : Is s.heap it t (i : Int)) (ht : IsTup s.heap t items) (WH : t ≠ it) (hx : items[i]? = some x) (hsz : (items.size : Int) < 2 ^ 63)
   (hQ : ∀ h' tk, Is h' it t ((i : Int) - 1) -> Heap.SameBut it s.heap h' -> Q (some x) { s with heap := h', toks := tk }) : wpAny (model prog w) A (pyNext (.ref it)) Q E s := by
 obtain ⟨o, ho, hc, hd⟩ := id hit
 have hi : i < items.size := (ah0.mp hx).1
 unfold pyNext
 refine afN (ahJ (agW (name := Str.ofString "__next__") hit.typeIs slot_next
   (agI slot_next hit.typeIs entry_next ?_ (args_next _))))
 unfold Builtin.«reversed.__next__»
 refine afN (wpAny_of_eq (a := (Value.ref it, [])) rfl ?_)
 try dsimp only
 refine afN (ahe ho hd (x := .ref t) rfl ?_)
 refine afN (ahe ho hd (x := rawInt (i : Int)) rfl ?_)
 show wpAny _ _ (if (i : Int) < 0 then _ else _) _ _ s
 rw [af1 (by omega)]
 refine afN (ahN ht.typeIs PySem.F.slot_tuple_getitem.lookup ?_)
 rw [af1 (by decide)]
 refine afN (wpAny_mkInt ?_)
 refine afN (ahJ (getItem_tuple (s := { s with toks := s.toks + 1 }) ht (by omega) (by omega) (j := i) (by simp [seqIndex?]; omega) hx ?_))
 try dsimp only
 refine afN (ahe (s := { s with toks := s.toks + 1 }) ho hd (x := rawInt (i : Int)) rfl ?_)
 show wpAny _ _ (setField (.ref it) 1 (rawInt ((i : Int) - 1)) >>= _) _ _ _
 refine afN (ahT (s := { s with toks := s.toks + 1 }) ho hd (by simp) ?_)
 refine afT ⟨x, rfl, afT (hQ _ _ ?_ (ag2 ..))⟩
 exact ⟨_, ahx _ ho (Obj.isFreed_of_fields (ahv hd _)), (Obj.cls_mapFields ..).trans hc, by
   rw [ahv hd]; simp⟩
theorem next_end {it t : Addr} {Q : Option Value -> Shared -> Prop} (hh : A.handled = none) (hit : Is s.heap it t (-1))
   (hQ : ∀ h', Heap.ExtBut it s.heap h' -> Q none { s with heap := h' }) : wpAny (model prog w) A (pyNext (.ref it)) Q E s := by
 obtain ⟨o, ho, hc, hd⟩ := id hit
 unfold pyNext
 refine afN (ahJ (agW (name := Str.ofString "__next__") hit.typeIs slot_next
   (agI slot_next hit.typeIs entry_next ?_ (args_next _))))
 unfold Builtin.«reversed.__next__»
 refine afN (wpAny_of_eq (a := (Value.ref it, [])) rfl ?_)
 try dsimp only
 refine afN (ahe ho hd (x := .ref t) rfl ?_)
 refine afN (ahe ho hd (x := rawInt (-1)) rfl ?_)
 show wpAny _ _ (if (-1 : Int) < 0 then _ else _) _ _ s
 rw [agb (by decide)]
 refine afN (wpAny_rule ?_)
 refine afN ?_
 refine afN (ahT ho hd (by simp) ?_)
 have GY := ahx (Obj.mapFields fun x => x.setIfInBounds 1 (rawInt (-1))) ho (Obj.isFreed_of_fields (ahv hd _))
 have e1 : Heap.ExtBut it s.heap (s.heap.update it (Obj.mapFields fun x => x.setIfInBounds 1 (rawInt (-1)))) := (ag2 ..).extBut
 refine ahT GY (ahv hd _) (by simp) ?_
 refine afN ?_
 show wpAny _ _ (newExc (.type "StopIteration") [] >>= _) _ _ _
 refine afN ?_
 simp only [newExc, newTuple]
 refine afN (agP ?_ (by size_fits))
 refine afN (m := firstArgMember _ _) (wpAny_of_eq (a := Value.none) (by first | rfl | (simp only [firstArgMember]; rfl)) ?_)
 refine agP ?_ (by size_fits)
 simp only [raiseNew]
 refine afN (wpAny_handled ?_)
 first | rw [show A.in1.handled = none from hh] | rw [hh]
 refine afN (afT (wpAny_throw ?_))
 refine afN (ahW (T := "StopIteration") (b := true) ⟨_, agl _ rfl, rfl⟩ isSubtype_stop ?_)
 exact afT (hQ _ fun b o hb e => af7 _ (af7 _ ((Heap.get?_update_other _ _ (Ne.symm hb)).trans (e1 b o hb e))))
end
end Rv
section
variable {X : Cx} {CL : Str -> Addr} {b : Bx} {δ : List (Option T)}
noncomputable def constInt : Expr -> Option Int
 | .Constant (.int i) _ _ => some i
 | .UnaryOp .USub (.Constant (.int i) _ _) _ => some (-i)
 | _ => none
noncomputable def qC : List Expr -> Option (List Int)
 | [] => some []
 | e :: es => (constInt e).bind fun x => (qC es).map (x :: ·)
theorem Fz {e : Expr} {x : Int} (h : constInt e = some x) : bG X CL b e δ (.sh (.int x)) δ := by
 unfold constInt at h
 split at h
 . cases h; exact aj
 . cases h; exact gY (ah aj)
 . cases h
theorem Ae {e : Expr} {x : Int} (h : constInt e = some x) : notStar e = true := by
 unfold constInt at h
 split at h
 . rfl
 . rfl
 . cases h
theorem xo : ∀ {es : List Expr} {l : List Int}, qC es = some l -> Dn X CL b es δ ((l.map D.int).map T.sh) δ
 | [], l, h => by
   have e : l = [] := (agf h).symm
   subst e
   exact dP
 | e :: es, l, h => by
   rw [qC] at h
   obtain ⟨x, hx, h⟩ := Option.bind_eq_some_iff.mp h
   obtain ⟨l', hl, rfl⟩ := agg.mp h
   exact bY (Fz hx) (xo hl) (bD (Ae hx))
end
section
variable {X : Cx} {CL : Str -> Addr} {b : Bx} {δ δ1 δ2 : List (Option T)} {e1 e2 : Expr} {ds nJ : List L3.D} {pos : Pos}
theorem bf.lC {K : PySem.W.Frag} {H Z : Hp} {σ : L2.St} {ts : List T} {v : V} {vs : List V} {d : L3.D} (S : bf K CL b H Z δ σ (.sh d :: ts) (v :: vs)) : aU K CL Z d v := by
 obtain ⟨fp, gp, e0, r0, nd, ow⟩ := S.rep
 cases r0 with
 | cons q1 q2 =>
   cases q1 with
   | sh r => exact r
theorem IC (h1 : bG X CL b e1 δ (.sh (.tup ds)) δ1) (h2 : bG X CL b e2 δ1 (.sh (.tup nJ)) δ2) (n1 : ds ≠ []) (n2 : nJ ≠ []) (hz : ds.length + nJ.length <= sizeLine) :
   bG X CL b (.BinOp e1 .Add e2 pos) δ (.sh (.tup (ds ++ nJ))) δ2 := fun H Z σ ts vs Q S k =>
 bO (sX Df b6 b6) (h1 H Z σ ts vs _ S fun v1 H1 Z1 z1 k1 S1 => h2 H1 Z1 σ _ _ _ S1 fun v2 H2 Z2 z2 k2 S2 => by
   have r2 := S2.lC
   have r1 := S2.pop.lC
   cases r1 with
   | tup Ip z9 =>
     cases r2 with
     | tup M4 A5 =>
       have e1 := z9.length
       have e2 := A5.length
       refine ⟨_, _, _, _, rfl, rfl, aA.rS S2.zh Ip, aA.rS S2.zh M4, fun z => n1 (List.eq_nil_of_length_eq_zero (by rw [e1, z]; rfl)), by omega, fun z => absurd (List.eq_nil_of_length_eq_zero (by rw [e2, z]; rfl)) n2, fun _ p hp => ?_⟩
       have rc := ay.app z9 A5
       obtain ⟨a, c, S4⟩ := (bf.oV rc S2.pop.pop).wX (by simp [rc.length, e1, e2]) hp
       obtain ⟨Z5, z5, S5⟩ := S4.wV
       rw [T.bK, ia] at S5
       exact k _ _ Z5 (z1.trans (z2.trans (a.trans z5))) (k1.trans (k2.trans c)) S5)
end
section
variable {ι : Nat -> Nat}
noncomputable def turned (ι : Nat -> Nat) (i j : Nat) : Nat -> Nat := fun k => if i <= k /\ k < j then ι (i + j - 1 - k) else ι k
end
section
variable {X : Cx} {i : Nat} {x : Str}
theorem mkL (hi : X.N[i]? = some x) (h : X.env.scope.names.lookup x = some .local) (hf : X.fn x = true) (hd : (x == ("__debug__" : Str)) = false := by decide) (hc : (x == ("__classdict__" : Str)) = false := by decide) : Ln X i x := ⟨⟨hi, .inl h, hd, hc⟩, .inl h, .inl hf⟩
theorem mkC (hi : X.N[i]? = some x) (h : X.env.scope.names.lookup x = some .cell) (hf : X.fn x = true) (hd : (x == ("__debug__" : Str)) = false := by decide) (hc : (x == ("__classdict__" : Str)) = false := by decide) : Ln X i x := ⟨⟨hi, .inr (.inl h), hd, hc⟩, .inr h, .inl hf⟩
end
section
variable {X : Cx} {CL : Str -> Addr} {b : Bx} {δ δ1 δc : List (Option T)} {scope : Scope} {y : Str} {Nc : List Str} {ix : List Nat} {elt iter : Expr} {ifs : List Expr} {px pc pos : Pos} {p : L3.D -> Bool} {g : L3.D -> T} {ds : List L3.D}
theorem Yk (sc : jA X scope y Nc ix) : lB X scope [y] Nc ix := ⟨sc.kind, sc.wZ, sc.nd, sc.names, (fun x hx => by rw [agw] at hx; subst hx; exact sc.own), sc.frees, sc.hd, sc.X3⟩
theorem Yl (sc : jA X scope y Nc ix) (h : Block X CL scope Nc ifs elt δc ds p g) (h1 : (y == ("__debug__" : Str)) = false) (h2 : (y == ("__classdict__" : Str)) = false) : qA X CL scope Nc [y].length (.Name y px) part1 ifs elt δc ds p g := fun C s0 H0 f0 b' =>
 ⟨Iu (i := 0) sc.nd (T8 (by rw [sc.hd]; rfl) sc.own h1 h2), fun d hd => ⟨[d], rfl, rfl, (h C s0 H0 f0 b' d hd).1, (h C s0 H0 f0 b' d hd).2⟩⟩
theorem fX (sc : jA X scope y Nc ix) (hc : X.calm = true) (h : QO X CL b (.Name y px) iter δ ds δ1) (hb : (δc = zT δ1 ix /\ ∀ d ∈ ds, (g d).clean = true) \/ δc = zU δ1 ix) (inner : Block X CL scope Nc ifs elt δc ds p g) (hlen : ds.length <= sizeLine)
   (hs : ∀ x, foldedSetIterable iter X.env x = pure x := by intro _; rfl) (h1 : (y == ("__debug__" : Str)) = false := by decide) (h2 : (y == ("__classdict__" : Str)) = false := by decide) : bG X CL b (.ListComp elt [⟨.Name y px, iter, ifs, 0⟩] scope pos) δ (.lst ((ds.filter p).map g)) δ1 :=
 Ac (xs := [y]) (Yk sc) hc (Ir h) hb (Yl sc inner h1 h2) hlen hs
theorem lD {D : dH} {eo : List Stmt} {i : Nat} {x : Str} {pos' : Pos} {gg : L3.D -> T} (g : Gx X) (n : Ln X i x) (sc : jA X scope y Nc ix) (h : QO X CL b (.Name y px) iter δ ds δ1) (hb : (δc = zT δ1 ix /\ ∀ d ∈ ds, (gg d).clean = true) \/ δc = zU δ1 ix) (inner : Block X CL scope Nc ifs elt δc ds p gg)
   (hlen : ds.length <= sizeLine) (k : dw X CL b eo (δ1.set i (some (.lst ((ds.filter p).map gg)))) D) (hl : i < δ1.length)
   (zS : swapsWith (.ListComp elt [⟨.Name y px, iter, ifs, 0⟩] scope pc) (some (.Name x pos')) pos.line X.env = pure true \/ swapsWith (.ListComp elt [⟨.Name y px, iter, ifs, 0⟩] scope pc) (some (.Name x pos')) pos.line X.env = pure false) (hs : ∀ x, foldedSetIterable iter X.env x = pure x := by intro _; rfl)
   (h1 : (y == ("__debug__" : Str)) = false := by decide) (h2 : (y == ("__classdict__" : Str)) = false := by decide) : dw X CL b (.Assign [.Name x pos'] (.ListComp elt [⟨.Name y px, iter, ifs, 0⟩] scope pc) pos :: eo) δ D :=
 T7 (xs := [y]) g n (Yk sc) (Ir h) hb (Yl sc inner h1 h2) hlen k hl zS hs
end
section
variable {X : Cx} {CL : Str -> Addr} {b : Bx} {δ : List (Option T)} {i : Nat} {x : Str} {d : L3.D} {pos : Pos}
theorem aO (n : Ln X i x) (h : δ[i]? = some (some (.sh d)) := by rfl) : cL X CL b (.Name x pos) δ d δ := ah (v_ n.1 h)
end
structure cP (X : Cx) : Prop where
 g : Gx X
 u : X.A.units + 64 < cLine
noncomputable abbrev aD (X : Cx) (CL : Str -> Addr) (b : Bx) (st : Stmt) (N : List Str) (l : List L3.D) (r : T) : Prop := dw X CL b (fQ st) (entry N l) { nx := fun _ => r = .sh .non, rt := fun uZ _ => uZ = r }
noncomputable abbrev aC : NameKind := .globalImplicit
noncomputable abbrev av : NameKind := .local
theorem aZ {N P : List Str} {sc : Scope} (h1 : sc.kind = .function := by rfl) (h2 : sc.isCoroutine = false := by rfl) (h3 : sc.isGenerator = false := by rfl) (h4 : N.Nodup := by decide +kernel) (h5 : N.take P.length = P := by rfl) (h6 : ∀ x ∈ P, sc.names.lookup x = some .local \/ sc.names.lookup x = some .cell := by decide +kernel) (h7 : ∀ y ∈ sc.names, y.2 ≠ .free := by decide +kernel) : aQ N P sc := ⟨h1, h2, h3, h4, h5, h6, h7⟩
section
variable {X : Cx} {i : Nat} {x : Str} {tb : List (Str × NameKind)}
theorem bI (c : kU X.env.scope tb = true) (j : Nat) (hj : tb[j]? = some (x, .local) := by rfl) (hi : X.N[i]? = some x := by rfl) (hf : X.fn x = true := by rfl) (hd : (x == ("__debug__" : Str)) = false := by decide) (hc : (x == ("__classdict__" : Str)) = false := by decide) : Ln X i x := mkL hi (cE c j hj) hf hd hc
theorem zB (c : kU X.env.scope tb = true) (j : Nat) (hj : tb[j]? = some (x, .cell) := by rfl) (hi : X.N[i]? = some x := by rfl) (hf : X.fn x = true := by rfl) (hd : (x == ("__debug__" : Str)) = false := by decide) (hc : (x == ("__classdict__" : Str)) = false := by decide) : Ln X i x := mkC hi (cE c j hj) hf hd hc
theorem dU (c : kU X.env.scope tb = true) (j : Nat) (hj : tb[j]? = some (x, .globalImplicit) := by rfl) : Gl X x := cE c j hj
theorem c9 {CL : Str -> Addr} {k n m : Nat} {A : Type} {arg : A -> List D} {Pre : A -> Prop} {res : A -> T} (F : ∃ f fd ps, g9 X.prog X.w X.K X.mg X.base vI k f fd ps (GZ X.K CL n arg Pre res) /\ X.mg x = some (.ref f) /\ PySem.W.keepIn X.K (.ref f) = true /\ Binds X.K fd ps []) (r : fc m X.A) (h : k <= m := by decide) : Fc X CL x k n arg Pre res := ⟨F, r.mono h⟩
end
section
variable {X : Cx} {CL : Str -> Addr} {b : Bx} {δ δ1 : List (Option T)} {e : Expr} {t : T} {pos : Pos} {D : dH}
noncomputable def TEm (X : Cx) (CL : Str -> Addr) (b : Bx) (e : Expr) (δ : List (Option T)) (t : T) (δ' : List (Option T)) : Prop :=
 ∀ (H Z : Hp) (σ : L2.St) (ts : List T) (vs : List V) (Q : VK), bf X.K CL b H Z δ σ ts vs -> (∀ v H' Z', aA Z Z' -> bf X.K CL b H' Z' δ' σ (t :: ts) (v :: vs) -> Q v H') -> Br X e σ H Q
theorem IE (h : TEm X CL b e δ t δ1) (k : D.nx δ1) (hs : swapsWith e none pos.line X.env = pure false := by rfl) : L4 X CL b (.Expr e pos) δ D := fun H Z σ ts vs E S M => kT (rP b6 hs) (h H Z σ ts vs _ S fun v H1 Z1 z1 S1 => M.nx δ1 σ H1 Z1 z1 S1.pop k)
variable {eo : List Stmt}
theorem Nk (h : TEm X CL b e δ t δ1) (k : dw X CL b eo δ1 D) (hs : swapsWith e none pos.line X.env = pure false := by rfl) : dw X CL b (.Expr e pos :: eo) δ D := bW (IE h k hs)
end
noncomputable def abD (y : Int) : Value -> Bool
 | .int i _ => i == y
 | _ => false
section
variable {X : Cx}
theorem IG : MtR X "list.index" (fun x xs H Q => ∃ (p : Addr) (l : List Int) (y : Int) (j : Nat), x = .ref p /\ xs = [.int y] /\ k6 X.K H p (l.map .int) /\ l[j]? = some y /\ (∀ i, i < j -> l[i]? ≠ some y) /\ Q (.int (j : Int)) H) := by
 intro pins s σ H x xs v us Q I rx rs h
 obtain ⟨p, l, y, j, rfl, rfl, hq, hj, A4, q⟩ := h
 cases rx
 obtain ⟨u, rfl, ru⟩ := rs.one
 obtain ⟨t, rfl⟩ := ru
 obtain ⟨its, r, ⟨⟨oc, od, oda, Hz⟩, n, e, hc, hd, hs⟩, hz⟩ := I.list hq
 dsimp only at hc hd hs
 subst hc hd hs
 have hi := intsAre_of r
 have at' : ∀ {i : Nat} (hi : i < its.toArray.size), ∃ k t, its.toArray[i] = .int k t /\ l[i]? = some k := fun {i} g6 => by
   have abE : i < its.length := by simpa using g6
   have hl : i < l.length := by have := r.length; rw [afO] at this; omega
   obtain ⟨u, e1, e2⟩ := r.get (i := i) (x := .int l[i]) (by rw [af2, afR hl]; rfl)
   obtain ⟨t, rfl⟩ := e2
   refine ⟨l[i], t, ?_, afR hl⟩
   rw [afR abE] at e1
   simpa using Option.some.inj e1
 have DE : j < its.toArray.size := by
   have h1 := (af5.mp hj).1
   have := r.length
   rw [afO] at this
   simp; omega
 have hsz : its.toArray.size <= sizeLine := by
   have := r.length
   rw [agi, ← this]; exact hz
 refine call_meets F.slot_list_index ⟨_, e, rfl⟩ F.entry_list_index (F.args_list_index_2 _ _) (SeqAt.list_indexAt p its.toArray n none Hz (.int y t) (abD y) j DE (by rw [age] at hsz; omega) ?hit fun m hm hmj => ?no) ⟨e, fun w hw => ?eqs, ?_⟩
 case hit =>
   obtain ⟨k, t', e1, e2⟩ := at' DE
   rw [e1]
   rw [hj] at e2
   cases e2
   exact ahg y
 case no =>
   obtain ⟨k, t', e1, e2⟩ := at' hm
   rw [e1]
   exact agZ.mpr fun z => A4 m hmj (by rw [e2, z])
 case eqs =>
   obtain ⟨i, g6, rfl⟩ := Array.mem_iff_getElem.mp hw
   obtain ⟨k, t', e1, e2⟩ := at' g6
   rw [e1]
   exact SeqAt.EqAt.int_int k t' y t
 exact ⟨.int (j : Int), H, I.tok _, ⟨_, rfl⟩, q⟩
end
section
variable {X : Cx} {CL : Str -> Addr} {b : Bx} {δ δ1 δ2 : List (Option T)} {o e : Expr} {apos pos : Pos}
theorem II {l : List Int} {y : Int} {j : Nat} (h1 : cL X CL b o δ (.lst (l.map .int)) δ1) (h2 : cL X CL b e δ1 (.int y) δ2) (hj : l[j]? = some y) (A4 : ∀ i, i < j -> l[i]? ≠ some y)
   (fP : attributeBase o "index" X.env (eval o X.env) = eval o X.env := by rfl) (nQ : ((backTo pos (starEach [e] X.env)).all (fun x => !x.1) && (backToKw pos (keywordEach [] X.env)).all (fun x => x.1.isSome)
     && decide (([e] : List Expr).length + ([] : List Keyword).length + (if ([] : List Keyword).isEmpty then 0 else 1) < 30)) = true := by rfl)
   (hline : (apos.endLine == pos.line) = true := by rfl) (hs : starEach [e] X.env = (false, eval e X.env) :: starEach [] X.env := by exact bD rfl) (nR : (backTo pos (starEach [] X.env)).any (·.1) = false := by rfl) :
   bG X CL b (.Call (.Attribute o "index" apos) [e] [] pos) δ (.sh (.int (j : Int))) δ2 := fun H Z σ ts vs Q S k =>
 bO (Dh (T := "list") (id := "list.index") F.plainAttrs_list F.slot_list_index F.type_list_index IG b6 (cu b6 dW hs) fP nQ hline hs nR) (h1 H Z σ ts vs _ S fun v1 H1 Z1 z1 k1 S1 r1 => by
   cases r1 with
   | @lst a us _ hq rr =>
     have := qB rr
     subst this
     refine ⟨?_, h2 H1 Z1 σ ts vs _ S1 fun v2 H2 Z2 z2 k2 S2 r2 => ?_⟩
     . exact .inl ⟨rfl, _, hq⟩
     . cases r2
       exact ⟨a, l, y, j, rfl, rfl, k2.seq hq, hj, A4, k _ H2 Z2 (z1.trans z2) (k1.trans k2) (S2.push (.int _))⟩)
end
section
variable {X : Cx}
theorem Af : bootBuiltins "range" = some (.type "range") := by decide +kernel
theorem Ag : iH X (.type "range") (fun xs H Q => ∃ n, xs = [.int n] /\ ∀ r, H r = none -> Q (.ref r) (upd H r (.RC 0 n))) := by
 intro pins s σ H xs us Q I r h
 obtain ⟨n, rfl, q⟩ := h
 obtain ⟨u, rfl, ru⟩ := vals1 r
 obtain ⟨t, rfl⟩ := ru
 exact call_range_1 ⟨.ref s.heap.objs.size, _, I.laid (t' := s.toks + 1 + 1) (o := .RC 0 n) (fun b o e => af7 _ e) (af3 _) ⟨_, _, _, agl _ rfl⟩, rfl, q _ (I.c6.fresh (af3 _))⟩
theorem vP : ∀ (l : List Value) (k : Nat), (∀ j v, l[j]? = some v -> ∃ t, v = Value.int ((k + j : Nat) : Int) t) -> Vals ((List.range' k l.length).map fun (i : Nat) => V.int (i : Int)) l
 | [], _, _ => .nil
 | v :: l, k, h => by
   rw [agS, List.range'_succ, agd]
   refine .cons (h 0 v rfl) (vP l (k + 1) fun j w e => ?_)
   obtain ⟨t, ht⟩ := h (j + 1) w (by simpa using e)
   exact ⟨t, by rw [ht]; congr 1; omega⟩
theorem BI {acc : Array Value} {n : Nat} (h : ItemsOf (fun i v => ∃ t, v = Value.int (0 + i * 1) t) acc n) : Vals ((List.range n).map fun (i : Nat) => V.int (i : Int)) acc.toList := by
 have := vP acc.toList 0 fun j v e => by
   rw [ahU] at e
   obtain ⟨t, ht⟩ := h.2 j v e
   exact ⟨t, by rw [ht]; congr 1; omega⟩
 rw [ahs, h.1] at this
 rw [List.range_eq_range']
 exact this
theorem xq (hc : X.calm = true) : iH X (.type "list") (fun xs H Q => ∃ (p : Addr) (n : Nat), xs = [.ref p] /\ H p = some (.RC 0 (n : Int)) /\ n <= 1000 /\ ∀ l, H l = none -> Q (.ref l) (upd H l (.lst ((List.range n).map fun (i : Nat) => V.int (i : Int))))) := by
 intro pins s σ H xs us Q I r h
 obtain ⟨p, n, rfl, hp, hn, q⟩ := h
 obtain ⟨u, rfl, ru⟩ := vals1 r
 cases ru
 obtain ⟨t, u, v, e⟩ := I.c6 p _ hp
 refine call_list_range (n := n) (I.ok.hd hc) e (small_one (by omega) (by omega) (by omega) (by omega)) (by rw [rangeSize_one]; split <;> omega) (by omega) fun h' tk abF c' hk hS' items => ?_
 refine ⟨.ref s.heap.objs.size, _, I.laid (t' := tk) (o := .lst ((List.range n).map fun (i : Nat) => V.int (i : Int))) hk (Nat.le_refl _) ⟨?_, abF.toList, c', BI items, by simpa using hS'⟩, rfl, q _ (I.c6.fresh (Nat.le_refl _))⟩
 rw [afO, agc]
 exact ahd (gw hn)
end
section
variable {X : Cx} {CL : Str -> Addr} {b : Bx} {δ δ1 : List (Option T)} {e : Expr} {pos pp pq pr : Pos}
theorem IJ {n : Nat} (g : Gx X) (hm : X.mg "list" = none) (hmr : X.mg "range" = none) (h : cL X CL b e δ (.int (n : Int)) δ1) (hn : n <= 1000) (hg : Gl X "list") (hgr : Gl X "range") (hs : starEach [e] X.env = (false, eval e X.env) :: starEach [] X.env := by exact bD rfl) :
   bG X CL b (.Call (.Name "list" pp) [.Call (.Name "range" pq) [e] [] pr] [] pos) δ (.lst ((((List.range n).map fun (i : Nat) => (i : Int)).map D.int).map T.sh)) δ1 := fun H Z σ ts vs Q S k =>
 bO (gu (xq g.calm) hg hm c7 (cu (gu Ag hgr hmr Af (cu b6 dW hs) (he := hs)) dW (bD rfl)) (he := bD rfl)) (h H Z σ ts vs _ S fun v H1 Z1 z1 k1 S1 r => by
   cases r
   refine ⟨_, rfl, fun r hr => ⟨r, n, rfl, az, hn, fun p hp => ?_⟩⟩
   have same : aA H1 (upd H1 r (.RC 0 (n : Int))) := aA.upd hr
   obtain ⟨Z', z', S2⟩ := S1.back (t := .sh (.int 0)) (v := .int 0) (fp := []) (W := Z1) (W' := Z1) same (.refl _) (.refl _) (S1.zh.trans same) (fun a o q z => by rw [q] at z; cases z) (fun a o q im => by
     by_cases ha : a = r
     . subst ha; rw [az] at q; cases q; cases im
     . rw [ao ha] at q; exact S1.tp a o q im) (.sh (.int 0)) ahi (fun a ha => by cases ha) (.inl rfl)
   have ev : ((List.range n).map fun (i : Nat) => V.int (i : Int)) = ((List.range n).map fun (i : Nat) => (i : Int)).map V.int := by rw [agh]; rfl
   rw [ev]
   obtain ⟨c, S3⟩ := (bf.oV (ints_rep ((List.range n).map fun (i : Nat) => (i : Int))) S2.pop).qu (g0 := []) (by simp) hp
   exact k _ _ _ (z1.trans z') ((k1.trans same).trans c) S3)
end
noncomputable def vQ (ks : List Key) : D := .tup (ks.map BH)
noncomputable def fB (ks : List Key) : T := .tup ((ks.map BH).map T.sh)
noncomputable def eY {α : Type} (kvs : List (List Key × α)) (k : List Key) : Option α := (kvs.find? fun kv => decide (kv.1 = k)).map (·.2)
theorem fY {α : Type} {p : List Key × α} {r : List (List Key × α)} {k : List Key} (e : p.1 = k) : eY (p :: r) k = some p.2 := by simp [eY, ahm, e]
theorem fC {α : Type} {p : List Key × α} {r : List (List Key × α)} {k : List Key} (e : ¬ p.1 = k) : eY (p :: r) k = eY r k := by simp [eY, ahm, e]
theorem Bp.tr {H : Hp} {a b : Addr} {kvs : List (List Key × V)} {k : List Key} (e : Rd H a (.dT kvs)) (eb : H b = some (.tup (k.map kV))) : Bp H a (.ref b) (fN kvs k) := .inr ⟨kvs, k, b, e, rfl, eb, rfl⟩
section
variable {K : PySem.W.Frag} {CL : Str -> Addr} {b : Bx} {H Z : Hp} {δ : List (Option T)} {σ : L2.St} {ts : List T} {vs : List V} {t : T} {v : V} {d : D}
theorem FD {ks : List Key} {us : List V} {fp : List Addr} (r : aJ K CL H Z ((ks.map BH).map T.sh) us fp) : us = ks.map kV := by
 induction ks generalizing us fp with
 | nil => cases r; rfl
 | cons k ks ih =>
   rw [agd, agd] at r
   cases r with
   | cons r rr =>
     cases r with
     | sh r => rw [r.key, ih rr, agd]
theorem bN.length {kvs : List (List Key × D)} {gs : List (List Key × V)} (h : bN K CL Z kvs gs) : kvs.length = gs.length :=
 bN.ind (P := fun kvs gs => kvs.length = gs.length) rfl (fun _ _ i => congrArg (· + 1) i) h
theorem bN.keys {kvs : List (List Key × D)} {gs : List (List Key × V)} (h : bN K CL Z kvs gs) : kvs.map (·.1) = gs.map (·.1) :=
 bN.ind (P := fun kvs gs => kvs.map (·.1) = gs.map (·.1)) rfl (fun {x _ _ _ _} _ _ i => congrArg (x :: ·) i) h
theorem bN.val {k : List Key} {kvs : List (List Key × D)} {gs : List (List Key × V)} (h : bN K CL Z kvs gs) : (eY kvs k = none /\ fN gs k = none) \/ ∃ d v, eY kvs k = some d /\ fN gs k = some v /\ aU K CL Z d v :=
 bN.ind (P := fun kvs gs => (eY kvs k = none /\ fN gs k = none) \/ ∃ d v, eY kvs k = some d /\ fN gs k = some v /\ aU K CL Z d v) (.inl ⟨rfl, rfl⟩) (fun {x d v _ _} r _ i => by
   by_cases e : x = k
   . exact .inr ⟨d, v, fY e, jy e, r⟩
   . rw [fC (p := (x, d)) e, jz (p := (x, v)) e]
     exact i) h
theorem bH.length {kvs : List (List Key × T)} {gs : List (List Key × V)} {fp : List Addr} (h : bH K CL H Z kvs gs fp) : kvs.length = gs.length :=
 bH.ind (P := fun kvs gs _ => kvs.length = gs.length) rfl (fun _ _ i => congrArg (· + 1) i) h
theorem bH.keys {kvs : List (List Key × T)} {gs : List (List Key × V)} {fp : List Addr} (h : bH K CL H Z kvs gs fp) : kvs.map (·.1) = gs.map (·.1) :=
 bH.ind (P := fun kvs gs _ => kvs.map (·.1) = gs.map (·.1)) rfl (fun {x _ _ _ _ _ _} _ _ i => congrArg (x :: ·) i) h
theorem bH.snoc {k : List Key} {kvs : List (List Key × T)} {gs : List (List Key × V)} {fp ft : List Addr} (h : bH K CL H Z kvs gs fp) (q : aV K CL H Z t v ft) : bH K CL H Z (kvs ++ [(k, t)]) (gs ++ [(k, v)]) (fp ++ (ft ++ [])) :=
 bH.ind (P := fun kvs gs fp => bH K CL H Z (kvs ++ [(k, t)]) (gs ++ [(k, v)]) (fp ++ (ft ++ []))) (by rw [ahy, ahy, ahy]; exact .cons q .nil) (fun r _ i => by
   rw [afW]
   exact .cons r i) h
theorem bf.Ub {p : Addr} (S : bf K CL b H Z δ σ ts vs) (hp : H p = none) : aA H (upd H p (.dT [])) /\ bf K CL b (upd H p (.dT [])) Z δ σ (.dct [] :: ts) (.ref p :: vs) := by
 obtain ⟨fp, gp, e, r, nd, k⟩ := S.rep
 have zp : Z p = none := S.zh.free hp
 have sh : aA H (upd H p (.dT [])) := aA.upd hp
 have keep : ∀ a ∈ fp ++ gp, a ≠ p := fun a ha => by
   have : ∃ o, H a = some o := by
     rcases af0.mp ha with h | h
     . exact e.there a h
     . exact r.there a h
   obtain ⟨o, q⟩ := this
   exact bu q hp
 refine ⟨sh, ⟨⟨fp, [p] ++ gp, e.mono (.refl _) (fun a ha => ao (keep a (afU _ ha))), .cons (.dct az .nil) (r.mono (.refl _) fun a ha => ao (keep a (by simp [ha]))), ?_, fun a ha => ?_⟩, S.bh.trans sh, S.zz, S.zh.trans sh, S.new, fun a o q i => ?_, S.tab⟩⟩
 . refine (agY (l₁ := fp) (l₂ := gp) (a := p)).nodup_iff.mpr (agB.mpr ⟨fun h => keep p h rfl, nd⟩)
 . rcases afX.mp ((agY (l₁ := fp) (l₂ := gp) (a := p)).mem_iff.mp ha) with h | h
   . subst h; exact ⟨zp, S.bh.free hp⟩
   . exact k a h
 . by_cases ha : a = p
   . subst ha; rw [az] at q; cases q; cases i
   . rw [ao ha] at q; exact S.tp a o q i
theorem bf.xr {ks : List Key} (S : bf K CL b H Z δ σ (fB ks :: ts) (v :: vs)) : ∃ a, v = .ref a /\ H a = some (.tup (ks.map kV)) := by
 obtain ⟨fp, gp, e, r, nd, k⟩ := S.rep
 cases r with
 | cons r _ =>
   cases r with
   | tup hz rr => exact ⟨_, rfl, by rw [← FD rr]; exact S.zh _ _ hz⟩
theorem bf.Uc {i : Nat} {k : List Key} {kvs : List (List Key × T)} (S : bf K CL b H Z δ σ (t :: ts) (v :: vs)) (hi : δ[i]? = some (some (.dct kvs))) (hk : k ∉ kvs.map (·.1)) :
   ∃ a gs, σ[i]? = some (some (.ref a)) /\ H a = some (.dT gs) /\ gs.length = kvs.length /\ bf K CL b (upd H a (.dT (putK gs k v))) Z (δ.set i (some (.dct (kvs ++ [(k, t)])))) σ ts vs := by
 obtain ⟨fp, gp, e, r, nd, kk⟩ := S.rep
 obtain ⟨v0, f1, f2, f3, hv, nI, rt, put, _⟩ := e.get hi
 subst nI
 cases rt with
 | @dct a gs _ g ha rs =>
   cases r with
   | @cons _ _ _ _ ft gr q1 q2 =>
     have ne : ∀ c ∈ (f1 ++ (g ++ f3)) ++ (ft ++ gr), c ≠ a := fun c hc e => by
       subst e
       have hp : ((f1 ++ ((c :: g) ++ f3)) ++ (ft ++ gr)).Perm (c :: ((f1 ++ (g ++ f3)) ++ (ft ++ gr))) := by
         rw [agq, ← agq]
         exact (agY.append_right _)
       exact (agB.mp (hp.nodup_iff.mp nd)).1 hc
     have eg : putK gs k v = gs ++ [(k, v)] := by
       unfold putK
       rw [oQ, af1]
       rcases hx : fN gs k with _ | z
       . exact af4
       . exfalso
         refine hk ?_
         rw [rs.keys]
         unfold fN at hx
         cases hf : gs.find? fun kv => decide (kv.1 = k) with
         | none => rw [hf] at hx; cases hx
         | some q =>
           have h1 := List.find?_some hf
           have h2 := List.mem_of_find?_eq_some hf
           have : q.1 = k := agt h1
           rw [← this]
           exact List.mem_map_of_mem h2
     refine ⟨a, gs, hv, ha, rs.length.symm, ?_⟩
     rw [eg]
     have r1 : aV K CL (upd H a (.dT (gs ++ [(k, v)]))) Z (.dct (kvs ++ [(k, t)])) (.ref a) (a :: (g ++ (ft ++ []))) :=
       .dct az (bH.snoc (rs.mono (.refl _) fun c hc => ao (ne c (by simp [hc]))) (q1.mono (.refl _) fun c hc => ao (ne c (by simp [hc]))))
     have e2 := put (H' := upd H a (.dT (gs ++ [(k, v)]))) (.refl _) (fun c hc => ao (ne c (by
       rcases af0.mp hc with h | h
       . simp [h]
       . simp [h]))) r1
     rw [fz hv] at e2
     have hp : ((f1 ++ ((a :: (g ++ (ft ++ []))) ++ f3)) ++ gr).Perm ((f1 ++ ((a :: g) ++ f3)) ++ (ft ++ gr)) := by
       simp only [agF, agq, afW]
       refine agy f1 (List.Perm.cons a (agy g ?_))
       rw [← afW, ← afW]
       exact agE.append_right gr
     exact S.w9 rfl kk (by simp) e2 (q2.mono (.refl _) fun c hc => ao (ne c (by simp [hc]))) (hp.nodup_iff.mpr nd) fun c hc => hp.mem_iff.mp hc
end
section
variable {X : Cx} {CL : Str -> Addr} {b : Bx} {δ δ1 δ2 : List (Option T)} {e e1 e2 : Expr} {t : T} {d : L3.D} {DD : dH} {pos pp ps : Pos} {i : Nat} {x : Str} {eo : List Stmt} {kvs : List (List Key × L3.D)} {k : List Key}
theorem tP : bG X CL b (.Dict [] [] pos) δ (.dct []) δ := fun H Z σ ts vs Q S kk => bO HQ fun p hp => by
 obtain ⟨c, S1⟩ := S.Ub hp
 exact kk _ _ Z (.refl _) c S1
theorem DF {kvs : List (List Key × T)} (k : List Key) (hu : X.A.units + 64 < cLine) (n : Vn X i x) (h : bG X CL b e δ t δ1) (h2 : bG X CL b e2 δ1 (fB k) δ1) (h1 : δ1[i]? = some (some (.dct kvs))) (hk : k ∉ kvs.map (·.1)) (hl : kvs.length <= 1000000) (kk : dw X CL b eo (δ1.set i (some (.dct (kvs ++ [(k, t)])))) DD)
   (hs : swapsWith e (some (.Subscript (.Name x pp) e2 ps)) pos.line X.env = pure false := by rfl) :
   dw X CL b (.Assign [.Subscript (.Name x pp) e2 ps] e pos :: eo) δ DD := bW fun H Z σ ts vs E S M =>
 kT (Dl (by omega) (gW n.hi n.hv n.hd n.kK) b6 b6 hs) (h H Z σ ts vs _ S fun v H1 Z1 z1 k1 S1 => by
   obtain ⟨v0, e0, _⟩ := S1.look h1
   refine ⟨v0, e0, h2 H1 Z1 σ _ _ _ S1 fun v2 H2 Z2 z2 k2 S2 => ?_⟩
   obtain ⟨kb, rfl, hb⟩ := S2.xr
   obtain ⟨a, gs, ea, ha, hg, S3⟩ := S2.pop.Uc h1 hk
   rw [e0] at ea
   cases ea
   exact ⟨a, _, rfl, Fd.t ha hb (by rw [hg]; exact ahu hl (by rw [age]; decide)), M.nx _ σ _ Z2 (z1.trans z2) S3 kk⟩)
theorem IK (k : List Key) (hu : X.A.units + 64 < cLine) (h1 : cL X CL b e1 δ (.dct kvs) δ1) (h2 : bG X CL b e2 δ1 (fB k) δ2) (hk : eY kvs k = some d) (hs : wO e2 := by exact fun _ _ => rfl) : cL X CL b (.Subscript e1 e2 pos) δ d δ2 := fun H Z σ ts vs Q S kk =>
 bO (Dj (by omega) b6 b6 hs) (h1 H Z σ ts vs _ S fun v H1 Z1 z1 k1 S1 r1 => h2 H1 Z1 σ ts vs _ S1 fun v2 H2 Z2 z2 k2 S2 => by
   obtain ⟨kb, rfl, hb⟩ := S2.xr
   cases r1 with
   | @dct a gs _ ha rr =>
     have rr' := rr.mono k2
     rcases rr'.val (k := k) with ⟨h0, _⟩ | ⟨d', v', h0, hv, rd⟩
     . rw [hk] at h0; cases h0
     . rw [hk] at h0; cases h0
       refine ⟨a, v', rfl, ?_, kk v' H2 Z2 (z1.trans z2) (k1.trans k2) S2.pop rd⟩
       rw [← hv]
       exact Bp.tr (Rd.mono k2 ha) hb)
theorem jD (k : List Key) (hu : X.A.units + 64 < cLine) (h1 : bG X CL b e1 δ (.sh (.dct kvs)) δ1) (h2 : bG X CL b e2 δ1 (fB k) δ2) (hk : eY kvs k = some d) (hs : wO e2 := by exact fun _ _ => rfl) : bG X CL b (.Subscript e1 e2 pos) δ (.sh d) δ2 := fun H Z σ ts vs Q S kk =>
 bO (Dj (by omega) b6 b6 hs) (h1 H Z σ ts vs _ S fun v H1 Z1 z1 k1 S1 => h2 H1 Z1 σ _ _ _ S1 fun v2 H2 Z2 z2 k2 S2 => by
   obtain ⟨kb, rfl, hb⟩ := S2.xr
   have r := S2.pop.lC
   cases r with
   | @dct a gs _ ha rr =>
     rcases rr.val (k := k) with ⟨h0, _⟩ | ⟨d', v', h0, hv, rd⟩
     . rw [hk] at h0; cases h0
     . rw [hk] at h0; cases h0
       refine ⟨a, v', rfl, ?_, kk v' H2 Z2 (z1.trans z2) (k1.trans k2) (S2.pop.pop.push rd)⟩
       rw [← hv]
       exact Bp.tr (Rd.mono S2.zh ha) hb)
end
theorem FE : bootBuiltins "set" = some (.type "set") := by decide +kernel
theorem Ah : ∀ {ns : List Int} {us : List Value}, Vals (ns.map V.int) us -> IntsAre us ns
 | [], _, .nil => .nil
 | _ :: _, _, .cons ⟨t, e⟩ r => by subst e; exact .cons _ t (Ah r)
section
variable {X : Cx}
noncomputable def IL (prog : Program) (w : World) (a : Addr) (n : Nat) (h : Heap) : Prop := ∃ S, h.SetOf (intKind prog w) a S n
theorem Ai : iH X (.builtin "len") (fun xs H Q => ∃ (p : Addr) (n : Nat), xs = [.ref p] /\ H p = some (.ext (IL X.prog X.w p n)) /\ n <= 1000 /\ Q (.int n) H) := by
 intro pins s σ H xs us Q I r h
 obtain ⟨p, n, rfl, hp, hn, q⟩ := h
 obtain ⟨u, rfl, ru⟩ := vals1 r
 cases ru
 obtain ⟨⟨S, o, es, ep, t, e, ex, ed, _, _, _, hf, en⟩, _, _⟩ := I.c6 p _ hp
 exact call_len_set e ex ed hf (by rw [en]; omega) ⟨.int n, H, I.tok _, ⟨s.toks + 1, by rw [en]⟩, q⟩
end
section
variable {X : Cx} {CL : Str -> Addr} {b : Bx} {δ δ1 δ2 : List (Option T)} {e1 e2 e3 : Expr} {pos : Pos}
theorem Ym {op op' : CmpOp} {f g : Int -> Int -> Bool} {i j k : Int} (ho : kY X (compareOp op) (Mt fun i j => .bl (f i j))) (CZ : kY X (compareOp op') (Mt fun i j => .bl (g i j))) (h1 : cL X CL b e1 δ (.int i) δ1) (h2 : cL X CL b e2 δ1 (.int j) δ2) (h3 : cL X CL b e3 δ2 (.int k) δ2) (hm : lastMarks [op, op'] [e2, e3] = false) :
   oS X CL b (.Compare e1 [op, op'] [e2, e3] pos) δ (f i j && g j k) δ2 /\ bG X CL b (.Compare e1 [op, op'] [e2, e3] pos) δ (.sh (.bl (f i j && g j k))) δ2 := by
 constructor
 . intro H Z σ ts vs Q S q
   refine wU (Hs ho CZ b6 b6 b6 hm) (h1 H Z σ ts vs _ S fun v1 H1 Z1 z1 k1 S1 r1 => h2 H1 Z1 σ ts vs _ S1 fun v2 H2 Z2 z2 k2 S2 r2 => ?_)
   rw [r1.sc rfl, r2.sc rfl]
   refine ⟨i, j, rfl, rfl, f i j, rfl, ?_⟩
   cases hf : f i j with
   | false => exact ite_ff ⟨false, rfl, by rw [hf] at q; exact q H2 Z2 (z1.trans z2) (k1.trans k2) S2⟩
   | true =>
     refine ite_tt (h3 H2 Z2 σ ts vs _ S2 fun v3 H3 Z3 z3 k3 S3 r3 => ?_)
     rw [r3.sc rfl]
     exact ⟨j, k, rfl, rfl, g j k, rfl, by rw [hf] at q; exact q H3 Z3 ((z1.trans z2).trans z3) ((k1.trans k2).trans k3) S3⟩
 . intro H Z σ ts vs Q S q
   refine bO (Hr ho CZ b6 b6 b6 hm) (h1 H Z σ ts vs _ S fun v1 H1 Z1 z1 k1 S1 r1 => h2 H1 Z1 σ ts vs _ S1 fun v2 H2 Z2 z2 k2 S2 r2 => ?_)
   rw [r1.sc rfl, r2.sc rfl]
   refine ⟨i, j, rfl, rfl, f i j, rfl, ?_⟩
   cases hf : f i j with
   | false => exact ite_ff (by rw [hf] at q; exact q _ H2 Z2 (z1.trans z2) (k1.trans k2) (S2.push (.bl _)))
   | true =>
     refine ite_tt (h3 H2 Z2 σ ts vs _ S2 fun v3 H3 Z3 z3 k3 S3 r3 => ?_)
     rw [r3.sc rfl]
     exact ⟨j, k, rfl, rfl, by rw [hf] at q; exact q _ H3 Z3 ((z1.trans z2).trans z3) ((k1.trans k2).trans k3) (S3.push (.bl _))⟩
end
section
variable {X : Cx} {CL : Str -> Addr} {b : Bx} {δ δ1 δ2 : List (Option T)} {e1 e2 : Expr} {t : T} {ds nJ : List L3.D} {D : dH} {pos : Pos} {x : Str}
theorem Aj : kY X (binaryOp .Add) (fun x y H Q => ∃ a b ys, x = .ref a /\ y = .ref b /\ kN X.K H a [] /\ kN X.K H b ys /\ Q (.ref b) H) := by
 intro pins s σ H x y v u Q I rx ry h
 obtain ⟨a, b, ys, rfl, rfl, ha, hb, q⟩ := h
 cases rx
 cases ry
 obtain ⟨its, r1, p1, _⟩ := I.tuple ha
 obtain ⟨tE, r2, p2, _⟩ := I.tuple hb
 have e1 := r1.rQ.mpr rfl
 subst e1
 obtain ⟨⟨cls, dd, data, sl⟩, ho, hc, n, hd⟩ := id p1
 obtain ⟨⟨aaY, QF, data2, WB⟩, GY, Sx, n2, hd2⟩ := id p2
 simp only at hc hd Sx hd2
 subst hc hd Sx hd2
 exact concat_meets ⟨_, ho, rfl⟩ ⟨_, GY, rfl⟩ noFill_tuple_add seq_tuple_add PySem.F.slot_tuple_add aia (ah6 _ _)
     (tuple_addW0 a b #[] tE.toArray n n2 dd QF sl WB rfl) ⟨ho, GY, .ref b, H, I, rfl, q⟩
theorem IQ (h1 : bG X CL b e1 δ (.sh (.tup ds)) δ1) (h2 : bG X CL b e2 δ1 (.sh (.tup nJ)) δ2) (n2 : nJ ≠ []) (hz : ds.length + nJ.length <= sizeLine) :
   bG X CL b (.BinOp e1 .Add e2 pos) δ (.sh (.tup (ds ++ nJ))) δ2 := by
 cases ds with
 | cons d ds => exact IC h1 h2 (List.cons_ne_nil _ _) n2 hz
 | nil =>
     intro H Z σ ts vs Q S k
     exact bO (sX Aj b6 b6) (h1 H Z σ ts vs _ S fun v1 H1 Z1 z1 k1 S1 => h2 H1 Z1 σ _ _ _ S1 fun v2 H2 Z2 z2 k2 S2 => by
       have r2 := S2.lC
       have r1 := S2.pop.lC
       cases r1 with
       | tup Ip z9 =>
         cases z9
         have Yn := r2
         cases r2 with
         | tup M4 A5 => exact ⟨_, _, _, rfl, rfl, aA.rS S2.zh Ip, aA.rS S2.zh M4, k _ _ Z2 (z1.trans z2) (k1.trans k2) (S2.pop.pop.push Yn)⟩)
end
section
variable {X : Cx} {CL : Str -> Addr} {b : Bx} {δ δ1 δ2 : List (Option T)} {e1 e2 : Expr} {D : dH} {pos : Pos}
theorem jE {ds nJ : List L3.D} (h1 : bG X CL b e1 δ (.sh (.tup ds)) δ1) (h2 : bG X CL b e2 δ1 (.sh (.tup nJ)) δ2) (hz : ds.length + nJ.length <= sizeLine) :
   bG X CL b (.BinOp e1 .Add e2 pos) δ (.sh (.tup (ds ++ nJ))) δ2 := by
 cases nJ with
 | cons d nJ => exact IQ h1 h2 (List.cons_ne_nil _ _) hz
 | nil =>
   rw [agF]
   cases ds with
   | cons d ds =>
     intro H Z σ ts vs Q S k
     exact bO (sX Df b6 b6) (h1 H Z σ ts vs _ S fun v1 H1 Z1 z1 k1 S1 => h2 H1 Z1 σ _ _ _ S1 fun v2 H2 Z2 z2 k2 S2 => by
       have r2 := S2.lC
       have r1 := S2.pop.lC
       have Fg := r1
       cases r2 with
       | tup M4 A5 =>
         cases A5
         cases r1 with
         | tup Ip z9 =>
           have e1 := z9.length
           refine ⟨_, _, _, _, rfl, rfl, aA.rS S2.zh Ip, aA.rS S2.zh M4, (fun z => by rw [z] at e1; cases e1), by rw [← e1]; exact hz, fun _ => k _ _ Z2 (z1.trans z2) (k1.trans k2) (S2.pop.pop.push Fg), fun z => absurd rfl z⟩)
   | nil =>
     intro H Z σ ts vs Q S k
     exact bO (sX Aj b6 b6) (h1 H Z σ ts vs _ S fun v1 H1 Z1 z1 k1 S1 => h2 H1 Z1 σ _ _ _ S1 fun v2 H2 Z2 z2 k2 S2 => by
       have r2 := S2.lC
       have r1 := S2.pop.lC
       cases r1 with
       | tup Ip z9 =>
         cases z9
         have Yn := r2
         cases r2 with
         | tup M4 A5 => exact ⟨_, _, _, rfl, rfl, aA.rS S2.zh Ip, aA.rS S2.zh M4, k _ _ Z2 (z1.trans z2) (k1.trans k2) (S2.pop.pop.push Yn)⟩)
end
inductive uM where
 | ix (j : Nat) | fld (f : Str) | key (k : List Key)
noncomputable def iM {α : Type} (k : List Key) (t : α) : List (List Key × α) -> List (List Key × α)
 | [] => []
 | (x, u) :: r => if x = k then (x, t) :: r else (x, u) :: iM k t r
noncomputable def T.core : T -> T
 | .pin _ t => t
 | t => t
noncomputable def T.BJ : T -> T -> T
 | .pin y _, u => .pin y u
 | _, u => u
noncomputable def T.G3 : uM -> T -> Option T
 | .ix j, .lst ts => ts[j]?
 | .ix j, .tup ts => ts[j]?
 | .fld f, .ins _ fs => fs.lookup f
 | .key k, .dct kvs => eY kvs k
 | _, _ => none
noncomputable def T.IU : uM -> T -> T -> T
 | .ix j, .lst ts, u => .lst (ts.set j u)
 | .ix j, .tup ts, u => .tup (ts.set j u)
 | .fld f, .ins c fs, u => .ins c (jT f u fs)
 | .key k, .dct kvs, u => .dct (iM k u kvs)
 | _, t, _ => t
noncomputable def T.jU : List uM -> T -> Option T
 | [], t => some t.core
 | s :: p, t => (t.core.G3 s).bind (T.jU p)
noncomputable def T.iS : List uM -> T -> T -> T
 | [], u, t => t.BJ u
 | s :: p, u, t => match t.core.G3 s with
   | some k => t.BJ (t.core.IU s (T.iS p u k))
   | none => t
noncomputable def Nm (H : Hp) (v : V) : uM -> V -> Prop
 | .ix j, w => ∃ a us, v = .ref a /\ (H a = some (.lst us) \/ H a = some (.tup us)) /\ us[j]? = some w
 | .fld f, w => ∃ a C dx gs, v = .ref a /\ H a = some (.ins C dx gs) /\ gs.lookup f = some w
 | .key k, w => ∃ a gs, v = .ref a /\ H a = some (.dT gs) /\ fN gs k = some w
noncomputable def vR (H : Hp) : V -> List uM -> V -> Prop
 | v, [], w => v = w
 | v, s :: p, w => ∃ u, Nm H v s u /\ vR H u p w
theorem Nm.mono {H H' : Hp} (e : aA H H') {v w : V} {s : uM} (h : Nm H v s w) : Nm H' v s w := by
 cases s with
 | ix j => obtain ⟨a, us, h1, h2, h3⟩ := h; exact ⟨a, us, h1, h2.imp (e _ _) (e _ _), h3⟩
 | fld f => obtain ⟨a, C, dx, gs, h1, h2, h3⟩ := h; exact ⟨a, C, dx, gs, h1, e _ _ h2, h3⟩
 | key k => obtain ⟨a, gs, h1, h2, h3⟩ := h; exact ⟨a, gs, h1, e _ _ h2, h3⟩
theorem Nm.inj {H : Hp} {v w w' : V} {s : uM} (h : Nm H v s w) (q : Nm H v s w') : w = w' := by
 cases s with
 | ix j =>
   obtain ⟨a, us, h1, h2, h3⟩ := h
   obtain ⟨a', Yo, q1, q2, q3⟩ := q
   subst h1
   cases q1
   have e : us = Yo := by
     rcases h2 with h2 | h2 <;> rcases q2 with q2 | q2 <;> rw [h2] at q2 <;> cases q2 <;> rfl
   subst e
   rw [h3] at q3
   exact agf q3
 | fld f =>
   obtain ⟨a, C, dx, gs, h1, h2, h3⟩ := h
   obtain ⟨a', C', dx', gs', q1, q2, q3⟩ := q
   subst h1
   cases q1
   rw [h2] at q2
   cases q2
   rw [h3] at q3
   exact agf q3
 | key k =>
   obtain ⟨a, gs, h1, h2, h3⟩ := h
   obtain ⟨a', gs', q1, q2, q3⟩ := q
   subst h1
   cases q1
   rw [h2] at q2
   cases q2
   rw [h3] at q3
   exact agf q3
theorem vR.mono {H H' : Hp} (e : aA H H') : ∀ {p : List uM} {v w : V}, vR H v p w -> vR H' v p w
 | [], _, _, h => h
 | _ :: _, _, _, ⟨u, h, q⟩ => ⟨u, h.mono e, vR.mono e q⟩
theorem vR.inj {H : Hp} : ∀ {p : List uM} {v w w' : V}, vR H v p w -> vR H v p w' -> w = w'
 | [], _, _, _, h, q => h.symm.trans q
 | _ :: _, _, _, _, ⟨_, h1, h2⟩, ⟨_, q1, q2⟩ => by
   have := h1.inj q1
   subst this
   exact vR.inj h2 q2
theorem vR.snoc {H : Hp} {s : uM} : ∀ {p : List uM} {v w z : V}, vR H v p w -> Nm H w s z -> vR H v (p ++ [s]) z
 | [], _, _, z, h, q => by
   have h' : _ = _ := h
   subst h'
   exact ⟨z, q, rfl⟩
 | _ :: _, _, _, _, ⟨u, h1, h2⟩, q => ⟨u, h1, vR.snoc h2 q⟩
section
variable {K : PySem.W.Frag} {CL : Str -> Addr} {b : Bx} {H H' Z Z' : Hp} {δ : List (Option T)} {σ : L2.St} {ts tl : List T} {vs us : List V} {t u t0 : T} {v v0 w : V} {fp : List Addr} {i : Nat} {p : List uM}
theorem aV.IV (h : aV K CL H Z t v fp) : aV K CL H Z t.core v fp /\ ∀ {H' Z' : Hp} {u : T} {g : List Addr}, aV K CL H' Z' u v g -> aV K CL H' Z' (t.BJ u) v g := by
 cases h with
 | pin r => exact ⟨r, fun q => .pin q⟩
 | sh r => exact ⟨.sh r, fun q => q⟩
 | tup r q => exact ⟨.tup r q, fun q => q⟩
 | lst r q => exact ⟨.lst r q, fun q => q⟩
 | ins r q => exact ⟨.ins r q, fun q => q⟩
 | oA r q => exact ⟨.oA r q, fun q => q⟩
 | dct r q => exact ⟨.dct r q, fun q => q⟩
 | gq r q => exact ⟨.gq r q, fun q => q⟩
theorem cH.at {f : Str} {t : T} : ∀ (fs : List (Str × T)) {gs : List (Str × V)} {fp : List Addr}, cH K CL H Z fs gs fp -> fs.lookup f = some t -> ∃ w f1 f2 f3, gs.lookup f = some w /\ fp = f1 ++ (f2 ++ f3) /\ aV K CL H Z t w f2 ∧
   ∀ {H' : Hp} {t' : T} {g : List Addr}, (∀ a ∈ f1 ++ f3, H' a = H a) -> aV K CL H' Z t' w g -> cH K CL H' Z (jT f t' fs) gs (f1 ++ (g ++ f3)) := by
 intro fs
 induction fs with
 | nil => intro gs fp h e; cases e
 | cons p fs ih =>
   obtain ⟨x, t0⟩ := p
   intro gs fp h e
   cases h with
   | @cons _ _ v _ vs f0 g0 r rs =>
     rw [agn] at e
     cases hx : f == x with
     | true =>
       rw [hx] at e
       cases e
       have hxe : x = f := (ah8.mp hx).symm
       refine ⟨v, [], f0, g0, by rw [agn, hx], rfl, r, fun {H' t' g} kk r' => ?_⟩
       rw [jT, agb hxe]
       exact cH.cons (fp := g) (gp := g0) r' (rs.mono (.refl _) fun a ha => kk a (by simpa using ha))
     | false =>
       rw [hx] at e
       obtain ⟨w, f1, f2, f3, h1, h2, h3, h4⟩ := ih rs e
       subst h2
       refine ⟨w, f0 ++ f1, f2, f3, by rw [agn, hx]; exact h1, by rw [afW], h3, fun {H' t' g} kk r' => ?_⟩
       rw [jT, af1 (fun z => by rw [z, ahg] at hx; cases hx), afW]
       exact .cons (r.mono (.refl _) fun a ha => kk a (by simp [ha])) (h4 (fun a ha => kk a (by rw [afW]; exact afQ _ ha)) r')
theorem bH.G3 {k : List Key} {kvs : List (List Key × T)} {gs : List (List Key × V)} {fp : List Addr} (h : bH K CL H Z kvs gs fp) (hk : eY kvs k = some t) :
   ∃ v f1 f2 f3, fN gs k = some v /\ fp = f1 ++ (f2 ++ f3) /\ aV K CL H Z t v f2 ∧
     ∀ {H' : Hp} {t' : T} {g : List Addr}, (∀ a ∈ f1 ++ f3, H' a = H a) -> aV K CL H' Z t' v g -> bH K CL H' Z (iM k t' kvs) gs (f1 ++ (g ++ f3)) := by
 refine bH.ind (P := fun kvs gs fp => eY kvs k = some t -> ∃ v f1 f2 f3, fN gs k = some v /\ fp = f1 ++ (f2 ++ f3) /\ aV K CL H Z t v f2 ∧
     ∀ {H' : Hp} {t' : T} {g : List Addr}, (∀ a ∈ f1 ++ f3, H' a = H a) -> aV K CL H' Z t' v g -> bH K CL H' Z (iM k t' kvs) gs (f1 ++ (g ++ f3))) (fun e => by cases e) (fun {x t0 v0 ts vs fp gp} r rr i hk => ?_) h hk
 by_cases e : x = k
 . rw [fY (p := (x, t0)) e] at hk
   cases hk
   refine ⟨v0, [], fp, gp, jy e, rfl, r, fun {H' t' g} ka q => ?_⟩
   rw [iM, agb e]
   exact (show bH K CL H' Z ((x, t') :: ts) ((x, v0) :: vs) (g ++ gp) from .cons q (rr.mono (.refl _) fun a ha => ka a ha))
 . rw [fC (p := (x, t0)) e] at hk
   obtain ⟨v, f1, f2, f3, h1, h2, h3, h4⟩ := i hk
   refine ⟨v, fp ++ f1, f2, f3, by rw [jz (p := (x, v0)) e]; exact h1, by rw [h2, afW], h3, fun {H' t' g} ka q => ?_⟩
   rw [iM, af1 e, afW]
   exact .cons (r.mono (.refl _) fun a ha => ka a (by simp [ha])) (h4 (fun a ha => ka a (by rw [afW]; exact afQ _ ha)) q)
theorem aV.G3 {s : uM} {k : T} (zh : aA Z H) (h : aV K CL H Z t v fp) (hk : t.G3 s = some k) : ∃ w f1 f2 f3, Nm H v s w /\ fp = f1 ++ (f2 ++ f3) /\ aV K CL H Z k w f2 ∧
   ∀ {H' : Hp} {k' : T} {g : List Addr}, (∀ c ∈ f1 ++ f3, H' c = H c) -> aV K CL H' Z k' w g -> aV K CL H' Z (t.IU s k') v (f1 ++ (g ++ f3)) := by
 cases s with
 | ix j =>
   cases h with
   | @lst a us ts g ha rs =>
     obtain ⟨w, f1, f2, f3, h1, h2, h3, h4⟩ := rs.at (j := j) (t := k) hk
     subst h2
     refine ⟨w, a :: f1, f2, f3, ⟨a, us, rfl, .inl ha, h1⟩, rfl, h3, fun {H' k' g} kk r' => ?_⟩
     have q := h4 (fun c hc => kk c (afS _ hc)) r'
     rw [fz h1] at q
     exact .lst ((kk a afP).trans ha) q
   | @tup a us ts g ha rs =>
     obtain ⟨w, f1, f2, f3, h1, h2, h3, h4⟩ := rs.at (j := j) (t := k) hk
     subst h2
     refine ⟨w, f1, f2, f3, ⟨a, us, rfl, .inr (zh _ _ ha), h1⟩, rfl, h3, fun {H' k' g} kk r' => ?_⟩
     have q := h4 kk r'
     rw [fz h1] at q
     exact .tup ha q
   | _ => cases hk
 | fld f =>
   cases h with
   | @ins a dx c gs fs g ha rs =>
     obtain ⟨w, f1, f2, f3, h1, h2, h3, h4⟩ := cH.at fs rs (f := f) (t := k) hk
     subst h2
     refine ⟨w, a :: f1, f2, f3, ⟨a, _, dx, gs, rfl, ha, h1⟩, rfl, h3, fun {H' k' g} kk r' => ?_⟩
     exact .ins ((kk a afP).trans ha) (h4 (fun c hc => kk c (afS _ hc)) r')
   | _ => cases hk
 | key x =>
   cases h with
   | @dct a gs kvs g ha rs =>
     obtain ⟨w, f1, f2, f3, h1, h2, h3, h4⟩ := rs.G3 (k := x) (t := k) hk
     subst h2
     refine ⟨w, a :: f1, f2, f3, ⟨a, gs, rfl, ha, h1⟩, rfl, h3, fun {H' k' g} kk r' => ?_⟩
     exact .dct ((kk a afP).trans ha) (h4 (fun c hc => kk c (afS _ hc)) r')
   | _ => cases hk
theorem aV.focus (zh : aA Z H) : ∀ (p : List uM) {t u : T} {v : V} {fp : List Addr}, aV K CL H Z t v fp -> T.jU p t = some u -> ∃ w f1 f2 f3, vR H v p w /\ fp = f1 ++ (f2 ++ f3) /\ aV K CL H Z u w f2 ∧
   ∀ {H' : Hp} {u' : T} {g : List Addr}, (∀ c ∈ f1 ++ f3, H' c = H c) -> aV K CL H' Z u' w g -> aV K CL H' Z (T.iS p u' t) v (f1 ++ (g ++ f3))
 | [], t, u, v, fp, h, e => by
   obtain ⟨h1, h2⟩ := h.IV
   cases e
   exact ⟨v, [], fp, [], rfl, by simp, h1, fun {H' u' g} _ r => by rw [ahy, agF]; exact h2 r⟩
 | s :: p, t, u, v, fp, h, e => by
   obtain ⟨h1, h2⟩ := h.IV
   rw [T.jU] at e
   cases hk : t.core.G3 s with
   | none => rw [hk] at e; cases e
   | some k =>
     rw [hk] at e
     obtain ⟨w1, a1, a2, a3, q1, q2, q3, q4⟩ := h1.G3 zh hk
     obtain ⟨w, f1, f2, f3, r1, r2, r3, r4⟩ := aV.focus zh p q3 e
     subst q2 r2
     refine ⟨w, a1 ++ f1, f2, f3 ++ a3, ⟨w1, q1, r1⟩, by simp only [afW], r3, fun {H' u' g} kk r' => ?_⟩
     rw [T.iS, hk]
     have q := h2 (q4 (k' := T.iS p u' k) (fun c hc => kk c (by
       rcases af0.mp hc with h | h
       . simp [h]
       . simp [h])) (r4 (fun c hc => kk c (by
       rcases af0.mp hc with h | h
       . simp [h]
       . simp [h])) r'))
     simpa only [List.append_assoc] using q
theorem bf.BK (S : bf K CL b H Z δ σ ts vs) (ev : σ[i]? = some (some v0)) (hi : δ[i]? = some (some t0)) (hp : T.jU p t0 = some u) (g8 : vR H v0 p w) : ∃ f2 gp, aV K CL H Z u w f2 /\ aJ K CL H Z ts vs gp /\ (f2 ++ gp).Nodup ∧
   ∀ {a : Addr} {o : HO} {u' : T} {tl' : List T} {Yo : List V} {g Dv : List Addr}, w = .ref a -> a ∈ f2 -> jj o = false -> aV K CL (upd H a o) Z u' w g -> aJ K CL (upd H a o) Z tl' Yo Dv -> (g ++ Dv).Nodup -> (∀ c ∈ g ++ Dv, c ∈ f2 ++ gp) →
     bf K CL b (upd H a o) Z (δ.set i (some (T.iS p u' t0))) σ tl' Yo := by
 obtain ⟨fp, gp, e, r, nd, k⟩ := S.rep
 obtain ⟨v1, e1, e2, e3, hv, nI, rt, put, _⟩ := e.get hi
 rw [ev] at hv
 cases hv
 obtain ⟨w', f1, f2, f3, at', hf, ru, put2⟩ := rt.focus S.zh p hp
 have hw := at'.inj g8
 subst hw
 subst hf
 subst nI
 have hpm : ((e1 ++ ((f1 ++ (f2 ++ f3)) ++ e3)) ++ gp).Perm ((e1 ++ (f1 ++ (f3 ++ e3))) ++ (f2 ++ gp)) := ahF.mpr fun c => by
   simp only [ahQ]; omega
 have XS := hpm.nodup_iff.mp nd
 have Z9 := agD.mp XS
 refine ⟨f2, gp, ru, r, Z9.2.1, fun {a o u' tl' Yo g Dv} hwa ha hm hu ht QS HS => ?_⟩
 have hup : ∀ c ∈ e1 ++ (f1 ++ (f3 ++ e3)), upd H a o c = H c := fun c hc => ao fun z => Z9.2.2 c hc a (afU _ ha) z
 have q1 := put2 (H' := upd H a o) (fun c hc => hup c (by
   rcases af0.mp hc with h | h
   . simp [h]
   . simp [h])) hu
 have q2 := put (H' := upd H a o) (.refl _) (fun c hc => hup c (by
   rcases af0.mp hc with h | h
   . simp [h]
   . simp [h])) q1
 rw [fz ev] at q2
 have Yp : ((e1 ++ ((f1 ++ (g ++ f3)) ++ e3)) ++ Dv).Perm ((e1 ++ (f1 ++ (f3 ++ e3))) ++ (g ++ Dv)) := ahF.mpr fun c => by
   simp only [ahQ]; omega
 refine S.w9 hm k (by simp [ha]) q2 ht (Yp.nodup_iff.mpr (agD.mpr ⟨Z9.1, QS, fun c hc d hd => Z9.2.2 c hc d (HS d hd)⟩)) fun c hc => ?_
 refine hpm.mem_iff.mpr ?_
 rcases af0.mp (Yp.mem_iff.mp hc) with h | h
 . exact afU _ h
 . exact afQ _ (HS c h)
theorem bf.IW (S : bf K CL b H Z δ σ ts vs) (ev : σ[i]? = some (some v0)) (hi : δ[i]? = some (some t0)) (hp : T.jU p t0 = some u) : ∃ w f2, vR H v0 p w /\ aV K CL H Z u w f2 := by
 obtain ⟨fp, gp, e, r, nd, k⟩ := S.rep
 obtain ⟨v1, e1, e2, e3, hv, nI, rt, put, _⟩ := e.get hi
 rw [ev] at hv
 cases hv
 obtain ⟨w', f1, f2, f3, at', hf, ru, put2⟩ := rt.focus S.zh p hp
 exact ⟨w', f2, at', ru⟩
theorem bf.Nn (S : bf K CL b H Z δ σ (t :: ts) (v :: vs)) (ev : σ[i]? = some (some v0)) (hi : δ[i]? = some (some t0)) (hp : T.jU p t0 = some (.lst tl)) (g8 : vR H v0 p w) :
   ∃ a us, w = .ref a /\ H a = some (.lst us) /\ us.length = tl.length /\ bf K CL b (upd H a (.lst (us ++ [v]))) Z (δ.set i (some (T.iS p (.lst (tl ++ [t])) t0))) σ ts vs := by
 obtain ⟨f2, gp, ru, rr, nd, go⟩ := S.BK ev hi hp g8
 cases ru with
 | @lst a us _ g ha rs =>
   cases rr with
   | @cons _ _ _ _ ft gr q1 q2 =>
     have ne : ∀ c ∈ g ++ (ft ++ gr), c ≠ a := fun c hc z => by subst z; exact (agB.mp nd).1 hc
     have pm : ((a :: (g ++ (ft ++ []))) ++ gr).Perm ((a :: g) ++ (ft ++ gr)) := ahF.mpr fun c => by simp only [ahQ, List.count_cons, List.count_nil]; omega
     exact ⟨a, us, rfl, ha, rs.length.symm, go rfl afP rfl (.lst az (aJ.app (rs.mono (.refl _) fun c hc => ao (ne c (by simp [hc]))) (.cons (q1.mono (.refl _) fun c hc => ao (ne c (by simp [hc]))) .nil)))
       (q2.mono (.refl _) fun c hc => ao (ne c (by simp [hc]))) (pm.nodup_iff.mpr nd) fun c hc => pm.mem_iff.mp hc⟩
end
section
variable {X : Cx} {CL : Str -> Addr} {b : Bx} {δ δ1 : List (Option T)} {e e0 e2 : Expr} {t t0 t1 u : T} {tl Tj : List T} {d : L3.D} {D : dH} {pos pa pb : Pos} {i : Nat} {x c f : Str} {eo : List Stmt} {p : List uM} {fs : List (Str × T)}
noncomputable def IX (X : Cx) (CL : Str -> Addr) (b : Bx) (e : Expr) (δ : List (Option T)) (i : Nat) (p : List uM) : Prop :=
 ∀ (H Z : Hp) (σ : L2.St) (ts : List T) (vs : List V) (Q : VK), bf X.K CL b H Z δ σ ts vs -> (∀ v0 v H' Z', aA Z Z' -> aA H H' -> bf X.K CL b H' Z' δ σ ts vs -> σ[i]? = some (some v0) -> vR H' v0 p v -> Q v H') -> Br X e σ H Q
theorem jV (n : Vn X i x) (h : δ[i]? = some (some t)) : IX X CL b (.Name x pos) δ i [] := fun H Z σ ts vs Q S k => by
 obtain ⟨v, hv, _⟩ := S.look h
 exact bO (gW n.hi n.hv n.hd n.kK) ⟨v, hv, k v v H Z (.refl _) (.refl _) S hv rfl⟩
theorem IY (hc : wG X.K (CL c)) (n : bU X.K (CL c) f) (h : IX X CL b e δ i p) (hi : δ[i]? = some (some t)) (hg : T.jU p t = some (.ins c fs)) (hl : fs.lookup f = some u) (hb : attributeBase e f X.env (eval e X.env) = eval e X.env := by rfl) :
   IX X CL b (.Attribute e f pos) δ i (p ++ [.fld f]) := fun H Z σ ts vs Q S k =>
 bO (Bf b6 hb) (h H Z σ ts vs _ S fun v0 v H' Z' z s S' ev g8 => by
   obtain ⟨w, f2, at', r⟩ := S'.IW ev hi hg
   have := at'.inj g8
   subst this
   cases r with
   | @ins a dx _ gs _ g ha rs =>
     obtain ⟨w, _, _, _, hw, _, _, _⟩ := cH.at fs rs hl
     exact ⟨a, CL c, dx, gs, w, rfl, ha, hc, n, hw, k v0 w H' Z' z s S' ev (g8.snoc ⟨a, _, dx, gs, rfl, ha, hw⟩)⟩)
theorem tQ {z : Int} {j : Nat} (h : IX X CL b e δ i p) (hi : δ[i]? = some (some t)) (hg : T.jU p t = some (.lst tl)) (h2 : cL X CL b e2 δ (.int z) δ) (hk : Dg tl.length z = some j) (hp : jO e2 := by exact fun _ _ => rfl) :
   IX X CL b (.Subscript e e2 pos) δ i (p ++ [.ix j]) := fun H Z σ ts vs Q S k =>
 bO (vF wJ b6 b6 hp) (h H Z σ ts vs _ S fun v0 v H' Z' z1 s1 S' ev g8 => h2 H' Z' σ ts vs _ S' fun v2 H2 Z2 z2 s2 S2 r2 => by
   have at2 := g8.mono s2
   obtain ⟨w, f2, at', r⟩ := S2.IW ev hi hg
   have := at'.inj at2
   subst this
   cases r with
   | @lst a us _ g ha rs =>
     have hj : j < tl.length := (rR hk).2.1
     obtain ⟨w, _, _, _, hw, _, _, _⟩ := rs.at (afR hj)
     refine ⟨a, us, z, w, rfl, r2.sc rfl, k6.of ha, ?_, k v0 w H2 Z2 (z1.trans z2) (s1.trans s2) S2 ev (at2.snoc ⟨a, us, rfl, .inl ha, hw⟩)⟩
     unfold oJ
     rw [← rs.length, hk]
     exact hw)
theorem rX (h : IX X CL b e δ i p) (hi : δ[i]? = some (some t)) (hg : T.jU p t = some u) (hd : u.bK = d) : cL X CL b e δ d δ := fun H Z σ ts vs Q S k =>
 h H Z σ ts vs _ S fun v0 v H' Z' z s S' ev g8 => by
   obtain ⟨w, f2, at', r⟩ := S'.IW ev hi hg
   have := at'.inj g8
   subst this
   subst hd
   exact k _ H' Z' z s S' (r.bK S'.zh fun _ _ => rfl)
theorem Ud (hE : IX X CL b e0 δ i p) (h0 : δ[i]? = some (some t0)) (hp0 : T.jU p t0 = some (.lst Tj)) (h : bG X CL b e δ t δ1) (h1 : δ1[i]? = some (some t1)) (Yq : T.jU p t1 = some (.lst tl)) (hl : tl.length <= 1000000) (k : dw X CL b eo (δ1.set i (some (T.iS p (.lst (tl ++ [t])) t1))) D)
   (fP : attributeBase e0 "append" X.env (eval e0 X.env) = eval e0 X.env := by rfl)
   (nQ : ((backTo pb (starEach [e] X.env)).all (fun x => !x.1) && (backToKw pb (keywordEach [] X.env)).all (fun x => x.1.isSome) && decide ([e].length + ([] : List Keyword).length + (if ([] : List Keyword).isEmpty then 0 else 1) < 30)) = true := by rfl)
   (hline : (pa.endLine == pb.line) = true := by rfl) (hs : starEach [e] X.env = (false, eval e X.env) :: starEach [] X.env := by exact bD rfl) (zS : swapsWith (.Call (.Attribute e0 "append" pa) [e] [] pb) none pos.line X.env = pure false := by rfl) :
   dw X CL b (.Expr (.Call (.Attribute e0 "append" pa) [e] [] pb) pos :: eo) δ D := bW fun H Z σ ts vs E S M =>
 kT (rP (Dh aib PySem.F.slot_list_append PySem.F.type_list_append qq b6 (cu b6 dW hs) fP nQ hline hs rfl) zS) (hE H Z σ ts vs _ S fun v0 v H0 Z0 z0 s0 S0 ev g8 => by
   obtain ⟨w, f2, at', r⟩ := S0.IW ev h0 hp0
   have := at'.inj g8
   subst this
   refine ⟨?_, h H0 Z0 σ ts vs _ S0 fun v2 H1 Z1 z1 k1 S1 => ?_⟩
   . cases r with
     | lst ha _ => exact .inl ⟨rfl, _, k6.of ha⟩
   . obtain ⟨a, us, ea, ha, hu, S2⟩ := S1.Nn ev h1 Yq (g8.mono k1)
     exact ⟨a, us, v2, ea, rfl, ha, by rw [hu]; exact ahu hl (by rw [age]; decide), M.nx _ σ _ Z1 (z0.trans z1) S2 k⟩)
end
theorem cH.none {K : PySem.W.Frag} {CL : Str -> Addr} {H Z : Hp} {m : Str} : ∀ {fs : List (Str × T)} {gs : List (Str × V)} {fp : List Addr}, cH K CL H Z fs gs fp -> fs.lookup m = none -> gs.lookup m = none := by
 intro fs
 induction fs with
 | nil => intro gs fp r _; cases r; rfl
 | cons p fs ih =>
   intro gs fp r h
   cases r with
   | cons q r =>
     rw [agn] at h ⊢
     split at h
     . cases h
     . exact ih r h
theorem gM.none {K : PySem.W.Frag} {CL : Str -> Addr} {Z : Hp} {m : Str} : ∀ {fs : List (Str × D)} {gs : List (Str × V)}, gM K CL Z fs gs -> fs.lookup m = none -> gs.lookup m = none := by
 intro fs
 induction fs with
 | nil => intro gs r _; cases r; rfl
 | cons p fs ih =>
   intro gs r h
   cases r with
   | cons q r =>
     rw [agn] at h ⊢
     split at h
     . cases h
     . exact ih r h
noncomputable def Ue {α : Type} : Nat -> (List α -> Prop) -> Prop
 | 0, P => P []
 | n + 1, P => ∀ a, Ue n fun r => P (a :: r)
theorem BL {α : Type} {n : Nat} {P : List α -> Prop} (h : Ue n P) : ∀ us : List α, us.length = n -> P us := by
 intro us hl
 induction us generalizing n P with
 | nil => subst hl; exact h
 | cons a r ih => subst hl; exact ih (P := fun r => P (a :: r)) (h a) rfl
noncomputable abbrev mC (K : PySem.W.Frag) (x : Str) (f : Addr) : Prop := PySem.W.nsIn K mainGlobals x = some (some (.ref f))
theorem Ug (P : Program) (w : World) (mg : Str -> Option Value) (base : Heap) {K : PySem.W.Frag} {h : Heap} (CL : Str -> Addr) (XX : K.In h) (G : h.Ns mainGlobals mg) {x qual : Str} {st : Stmt} {f : Addr} {fd : FuncData} {N ps : List Str} (k : Nat) {A : Type} (arg : A -> List D) (Pre : A -> Prop) (res : A -> T) (F : jM K x qual st f fd) (S : aQ N ps (au st)) (m : mC K x f)
   (hb : ∀ (ji : Value) (Ar : Around) (outer : List Env) (s : Shared) (H : Hp) (E : XK) (b : Bx) (a : A), fc k (Ar.deeper (envOfC qual (au st) s.heap.objs.size f ji)) -> cP (uT vI P w K mg base N qual (au st) f ji Ar outer s H E).Qw -> Pre a →
     dw (uT vI P w K mg base N qual (au st) f ji Ar outer s H E).Qw CL b (fQ st) (entry N (arg a)) { nx := fun _ => res a = .sh .non, rt := fun t _ => t = res a })
   (q : ∀ (kV doc pm : Value) (an : Option Addr) (ji ct : Value), Ue ps.length fun us => bindArgs (W.fnOf x qual (oO st) (fQ st) (au st) Value.none kV doc pm an ji ct) { pos := us } = pure (ps.zip us) := by (repeat intro _); rfl) :
   ∃ f fd ps', g9 P w K mg base vI (k + 1) f fd ps' (GZ K CL ps.length arg Pre res) /\ mg x = some (.ref f) /\ PySem.W.keepIn K (.ref f) = true /\ Binds K fd ps' [] := ⟨f, fd, ps, Du F S fun a b c d e f g h r p => hb a b c d e f g h r ⟨⟨S.nd, rfl, .never⟩, r.units⟩ p, aih XX G m, F.kp, F.binds fun a b c d e f => BL (q a b c d e f)⟩
namespace Dk
section
variable {prog : Program} {w : World} {A : Around} {E : Value -> Shared -> Prop} {s : Shared} {it d : Addr} {i ep : Nat} {es : Array DictEntry} {od : Obj}
theorem IZ {Q : Value -> Shared -> Prop} (hd : (d == sysModules) = false) (ho : s.heap.get? d = some od) (hT : s.TypeIs (.ref d) "dict") (lE : od.data = .dict es ep)
   (hQ : Q (.ref s.heap.objs.size) { s with heap := s.heap.push { cls := .type "dict_keyiterator", data := .fields #[.ref d, .int 0 0, .int es.size 0, .int ep 0] } }) : wpAny (model prog w) A (pyIter (.ref d)) Q E s := by
 refine wpAny_pyIter_slot hT PySem.F.slot_dict_iter (agI PySem.F.slot_dict_iter hT PySem.F.entry_dict_iter ?_ (PySem.F.args_dict_iter_1 _))
 unfold Builtin.«dict.__iter__» Builtin.Dict.dictSlotNone
 refine afN (afN (ahV hT (show wpAny _ _ (pure (Value.ref d)) _ _ s from afT ?_)))
 show wpAny _ _ (Builtin.Dict.showsAll d >>= _) _ _ s
 unfold Builtin.Dict.showsAll
 rw [af1 (by rw [hd]; exact af4)]
 exact wpAny_bind (wpAny_pure (wpAny_bind (wpAny_dictEntries ho lE (wpAny_bind (wpAny_dictEpoch ho lE (wpAny_bind (wpAny_newObj_type (wpAny_pure ⟨_, rfl, "dict_keyiterator", _, ⟨_, Heap.get?_push_size _ rfl, rfl⟩, PySem.F.slot_dict_keyiterator_next.lookup, by simpa [rawInt] using hQ⟩))))))))
theorem next_item {Q : Option Value -> Shared -> Prop} (hit : s.heap.IsKeyIter it d i es.size ep) (I0 : s.heap.get? d = some od) (Ja : od.data = .dict es ep) {e : DictEntry} (hx : es[i]? = some e)
   (hQ : ∀ h', h'.IsKeyIter it d (i + 1) es.size ep -> Heap.SameBut it s.heap h' -> Q (some e.key) { s with heap := h' }) : wpAny (model prog w) A (pyNext (.ref it)) Q E s := by
 obtain ⟨o, ho, hc, hd⟩ := id hit
 have BO : Builtin.Dict_items.ownsTuple "dict_keyiterator" = false := by decide
 unfold pyNext
 refine afN (ahJ (agW (name := Str.ofString "__next__") hit.typeIs ahb (agI ahb hit.typeIs PySem.F.entry_dict_keyiterator_next (afN (afT ?_)) (PySem.F.args_dict_keyiterator_next_1 _))))
 refine afN (afN (afN (ahq hit.typeIs (afT (afN (wpAny_fieldsOf ho hd ?_))))))
 simp only [BO, ahj, ahl]
 show wpAny _ _ (if (Value.ref d == Value.none) = true then _ else _) _ _ s
 rw [af1 (show ¬ ((Value.ref d == Value.none) = true) from af4)]
 refine afN (afT (afN (agU I0 Ja ?_)))
 rw [af1 (by simp)]
 refine afN (afT (afN (ahz I0 Ja ?_)))
 rw [af1 (by simp)]
 refine afT ?_
 obtain ⟨g6, he⟩ := ah0.mp hx
 simp only [show ¬ ((i : Int) < 0) from by omega, ahl, agp, ah4 g6]
 refine afN (afN (ahq hit.typeIs (afT (afN (wpAny_isOneOf_keyiter hit.typeIs ?_)))))
 show wpAny _ _ (setField (.ref it) 1 (rawInt ((i : Int) + 1)) >>= _) _ _ s
 have Yr : (s.heap.update it (Obj.mapFields (·.setIfInBounds 1 (rawInt ((i : Int) + 1))))).IsKeyIter it d (i + 1) es.size ep :=
   ⟨_, ahx _ ho (Obj.isFreed_of_fields (ahv hd _)), (Obj.cls_mapFields ..).trans hc, by rw [ahv hd]; simp [rawInt]⟩
 refine afN (ahT ho hd (by simp) (afN (ahf (afN (wpAny_isOneOf_keyiter (s := { s with heap := s.heap.update it (Obj.mapFields (·.setIfInBounds 1 (rawInt ((i : Int) + 1)))) }) Yr.typeIs ?_)))))
 show wpAny _ _ (pure es[i].key) _ _ _
 rw [he]
 exact afT (afT ⟨_, rfl, afT (hQ _ Yr (ag2 ..))⟩)
theorem next_end {Q : Option Value -> Shared -> Prop} (hh : A.handled = none) (hit : s.heap.IsKeyIter it d i es.size ep) (I0 : s.heap.get? d = some od) (Ja : od.data = .dict es ep) (hx : es.size <= i)
   (hQ : ∀ h', Heap.ExtBut it s.heap h' -> Q none { s with heap := h' }) : wpAny (model prog w) A (pyNext (.ref it)) Q E s := by
 obtain ⟨o, ho, hc, hd⟩ := id hit
 have BO : Builtin.Dict_items.ownsTuple "dict_keyiterator" = false := by decide
 unfold pyNext
 refine afN (ahJ (agW (name := Str.ofString "__next__") hit.typeIs ahb (agI ahb hit.typeIs PySem.F.entry_dict_keyiterator_next (afN (afT ?_)) (PySem.F.args_dict_keyiterator_next_1 _))))
 refine afN (afN (afN (ahq hit.typeIs (afT (afN (wpAny_fieldsOf ho hd ?_))))))
 simp only [BO, ahj, ahl]
 show wpAny _ _ (if (Value.ref d == Value.none) = true then _ else _) _ _ s
 rw [af1 (show ¬ ((Value.ref d == Value.none) = true) from af4)]
 refine afN (afT (afN (agU I0 Ja ?_)))
 rw [af1 (by simp)]
 refine afN (afT (afN (ahz I0 Ja ?_)))
 rw [af1 (by simp)]
 refine afT ?_
 simp only [show ¬ ((i : Int) < 0) from by omega, ahl, agp, Array.getElem?_eq_none hx]
 refine afN (afN (ahq hit.typeIs (afT ?_)))
 show wpAny _ _ (setField (.ref it) 0 .none >>= _) _ _ s
 refine afN (ahT ho hd (by simp) ?_)
 show wpAny _ _ (newExc (.type "StopIteration") [] >>= _) _ _ _
 refine afN ?_
 simp only [newExc, newTuple]
 refine afN (agP (afN (m := firstArgMember _ _) (wpAny_of_eq (a := Value.none) (by first | rfl | (simp only [firstArgMember]; rfl)) (agP ?_ (by size_fits)))) (by size_fits))
 simp only [raiseNew]
 refine afN (wpAny_handled ?_)
 rw [show A.in1.handled = none from hh]
 refine afN (afT (wpAny_throw ?_))
 exact afN (ahW (T := "StopIteration") (b := true) ⟨_, agl _ rfl, rfl⟩ isSubtype_stop (afT (hQ _ (((ag2 ..).extBut.push _).push _))))
end
end Dk
end L3
namespace L2
open PySem PySem.Spec PyProof.Rows
section
variable {X : Cx} {pins : List (Addr × Obj)} {σ : St} {H : Hp} {s : Shared} {a : Addr} {gs : List (List Key × V)} {o : Obj}
theorem Inv.told {u u0 : HO} (I : Inv X pins σ H s) (ha : H a = some u0) (hu : cV X.prog X.w (upd H a u) s.heap a u) (ht : ∀ xs, u0 ≠ .tup xs) (hz : ∀ ob q, X.H₀ a ≠ some (.bK ob q)) (hb : ∀ ps, u0 ≠ .Qo ps) (hw : ∀ y, u0 ≠ .own y) (hc : ∀ q, u0 ≠ .Qp q) : Inv X pins σ (upd H a u) s := by
 have ne : ∀ b, H b = none -> b ≠ a := fun b e z => by rw [z, ha] at e; cases e
 have n1 : ∀ b xs, H b = some (.tup xs) -> upd H a u b = some (.tup xs) := fun b xs e => by
   rw [ao fun z => by rw [z, ha] at e; cases e; exact ht _ rfl]; exact e
 refine ⟨I.ok, I.os, I.bare, ⟨I.base.keep, I.base.slot, fun b ob e n hx => ?_, I.base.there, fun b xs e => n1 b xs (I.base.uQ b xs e), fun b ob q e => ?_, fun b ps e => ?_⟩, I.loc, I.cell, ?_, fun x c e => ?_, fun p hp => ?_, fun b v q => ?_, I.len⟩
 . have := I.base.free b ob e n hx
   rw [ao (ne b this)]; exact this
 . rw [ao fun z => by rw [z] at e; exact hz _ _ e]
   exact I.base.d9 b ob q e
 . obtain ⟨more, q⟩ := I.base.uR b ps e
   exact ⟨more, by rw [ao fun z => by rw [z, ha] at q; cases q; exact hb _ rfl]; exact q⟩
 . rw [ao (ne _ I.free)]; exact I.free
 . rw [ao (ne _ (I.kM x c e))]; exact I.kM x c e
 . obtain ⟨p1, p2, p3⟩ := I.pin p hp
   exact ⟨p1, by rw [ao (ne _ p2)]; exact p2, p3⟩
 . by_cases e : b = a
   . subst e
     rw [az] at q
     cases q
     exact hu
   . rw [ao e] at q
     exact (I.c6 b v q).uP (fun _ _ _ e => e) (fun c z => by rw [ao fun z2 => by rw [z2, ha] at z; cases z; exact hw _ rfl]; exact z) n1 fun c k z => by rw [ao fun z2 => by rw [z2, ha] at z; cases z; exact hc _ rfl]; exact z
theorem Inv.Ys (I : Inv X pins σ H s) (ha : H a = some (.dT gs)) : ∃ o, s.heap.get? a = some o /\ (∀ ob q, X.H₀ a ≠ some (.bK ob q)) /\ Inv X pins σ (upd H a (.bK o (.dT gs))) s := by
 have hz : ∀ ob q, X.H₀ a ≠ some (.bK ob q) := fun ob q e => by
   have := I.base.d9 a ob q e
   rw [ha] at this; cases this
 have k := (show cV X.prog X.w H s.heap a (.dT gs) from I.c6 a _ ha)
 obtain ⟨_, _, _, _, o, es, ep, e, _⟩ := id k
 refine ⟨o, e, hz, I.told ha ⟨e, ?_⟩ (fun _ z => nomatch z) hz (fun _ z => nomatch z) (fun _ z => nomatch z) fun _ z => nomatch z⟩
 exact k.uP (fun _ _ _ e => e) (fun c z => by rw [ao fun z2 => by rw [z2, ha] at z; cases z]; exact z) (fun c xs z => by rw [ao fun z2 => by rw [z2, ha] at z; cases z]; exact z) fun c k z => by rw [ao fun z2 => by rw [z2, ha] at z; cases z]; exact z
theorem Inv.xu (I : Inv X pins σ H s) (ha : H a = some (.bK o (.dT gs))) (hz : ∀ ob q, X.H₀ a ≠ some (.bK ob q)) : Inv X pins σ (upd H a (.dT gs)) s := by
 obtain ⟨_, k⟩ := (show cV X.prog X.w H s.heap a (.bK o (.dT gs)) from I.c6 a _ ha)
 refine I.told ha ?_ (fun _ z => nomatch z) hz (fun _ z => nomatch z) (fun _ z => nomatch z) fun _ z => nomatch z
 exact k.uP (fun _ _ _ e => e) (fun c z => by rw [ao fun z2 => by rw [z2, ha] at z; cases z]; exact z) (fun c xs z => by rw [ao fun z2 => by rw [z2, ha] at z; cases z]; exact z) fun c k z => by rw [ao fun z2 => by rw [z2, ha] at z; cases z]; exact z
end
noncomputable def Itd (a : Addr) (o : Obj) (gs : List (List Key × V)) : It :=
 ⟨fun i H => i < gs.length /\ H a = some (.bK o (.dT gs)), fun i H x H' => H' = H /\ ∃ b k v, x = .ref b /\ gs[i]? = some (k, v) /\ H b = some (.tup (k.map kV)), fun i H => gs.length <= i /\ H a = some (.bK o (.dT gs))⟩
theorem Paired.Q0 {α β : Type} {F : α -> β -> Prop} {l : List α} {m : List β} (r : Paired F l m) : ∀ {i : Nat} {x : α}, l[i]? = some x -> ∃ y, m[i]? = some y /\ F x y := by
 induction r with
 | nil => intro i x e; simp at e
 | cons h _ ih =>
   intro i x e
   cases i with
   | zero => cases e; exact ⟨_, rfl, h⟩
   | succ j => exact ih e
theorem Jb {P : Program} {w : World} {K : PySem.W.Frag} {tg : Expr} {a it : Addr} {o : Obj} {gs : List (List Key × V)} {es : Array DictEntry} {ep : Nat} (lE : o.data = .dict es ep) : Turn P w K tg (Itd a o gs) [it] it (fun i h => h.IsKeyIter it a i es.size ep) where
 mem := by simp
 obj := fun i h st b hb => by
   have e : b = it := by simpa using hb
   subst e
   obtain ⟨ob, e, c, d⟩ := st
   exact ⟨ob, e, fun v z => by rw [d] at z; cases z⟩
 keep := fun i h h' st k => st.at fun ob e => k it (by simp) ob e
 item := by
   intro X hP hw hK hc i pins s σ H E I hf st hg
   subst hP hw hK
   obtain ⟨g6, ha⟩ := hg
   obtain ⟨e, z, y, xs, r, o', GX, Qu, e', c, d, Np, nd⟩ := (show cV X.prog X.w H s.heap a (.bK o (.dT gs)) from I.c6 a _ ha)
   rw [e] at e'
   cases e'
   rw [lE] at d
   cases d
   obtain ⟨f0, f1, f2, f3, f4, f5⟩ := hf it (by simp)
   obtain ⟨q, hq, q1, q2, q3⟩ := Paired.Q0 r (i := i) (x := gs[i]) (afR g6)
   have hx : es[i]? = some (entryOfKey (tupleKind (dS X.prog X.w)) q) := by
     rw [← ahU, Np, af2, hq]
     rfl
   refine L3.Dk.next_item st e lE hx fun h' Hj sb => ?_
   have I1 : Inv X pins σ H { s with heap := h' } := I.turned (t' := s.toks) (fun b ob hb e => (sb.2 b hb).trans e) f0 f1 f3 f4 f5
   obtain ⟨ob, e2, c2, d2⟩ := id Hj
   exact ⟨_, rfl, C5 (s := { s with heap := h' }) e2 c2 d2 (by decide) ⟨.ref q.2.1, H, I1, rfl, ⟨rfl, q.2.1, gs[i].1, gs[i].2, rfl, afR g6, q2⟩, Hj, fun b hb => (hf b hb).1⟩⟩
 done := by
   intro X hP hw hK hc i pins s σ H E I hf st hg
   subst hP hw hK
   obtain ⟨hge, ha⟩ := hg
   obtain ⟨e, z, y, xs, r, o', GX, Qu, e', c, d, Np, nd⟩ := (show cV X.prog X.w H s.heap a (.bK o (.dT gs)) from I.c6 a _ ha)
   rw [e] at e'
   cases e'
   rw [lE] at d
   cases d
   obtain ⟨f0, f1, f2, f3, f4, f5⟩ := hf it (by simp)
   have hl := ahp r
   have hsz : es.size = xs.length := by rw [← ahs, Np, afO]
   exact L3.Dk.next_end (I.ok.hd hc) st e lE (by omega) fun h' eb => ⟨rfl, I.turned (t' := s.toks) (fun b ob hb e => eb b ob hb e) f0 f1 f3 f4 f5⟩
 self := fun _ _ _ _ _ st h => wpAny_pyIter_keyiter st h
end L2
namespace L3
open PySem PySem.Spec PyProof.Rows L2
noncomputable def Conv (Z Z' : Hp) : Prop := ∀ c o, Z c = some o -> Z' c = some o \/ (∃ gs ob, o = .dT gs /\ Z' c = some (.bK ob (.dT gs))) \/ ∃ gs ob, o = .bK ob (.dT gs) /\ Z' c = some (.dT gs)
section
variable {K : PySem.W.Frag} {CL : Str -> Addr} {Z Z' : Hp} {a : Addr}
theorem Conv.keep {o : HO} (e : Conv Z Z') (h : Z a = some o) (h1 : ∀ gs, o ≠ .dT gs) (h2 : ∀ gs ob, o ≠ .bK ob (.dT gs)) : Z' a = some o := by
 rcases e a o h with q | ⟨gs, ob, q, _⟩ | ⟨gs, ob, q, _⟩
 . exact q
 . exact absurd q (h1 gs)
 . exact absurd q (h2 gs ob)
theorem Conv.rS {xs : List V} (e : Conv Z Z') (h : kN K Z a xs) : kN K Z' a xs := by
 rcases h with (h | ⟨o, h⟩) | h
 . exact .inl (.inl (e.keep h (fun _ z => nomatch z) fun _ _ z => nomatch z))
 . exact .inl (.inr ⟨o, e.keep h (fun _ z => nomatch z) fun _ _ z => nomatch z⟩)
 . exact .inr h
theorem Conv.sqL {xs : List V} (e : Conv Z Z') (h : k6 K Z a xs) : k6 K Z' a xs := by
 rcases h with (h | ⟨o, h⟩) | h
 . exact .inl (.inl (e.keep h (fun _ z => nomatch z) fun _ _ z => nomatch z))
 . exact .inl (.inr ⟨o, e.keep h (fun _ z => nomatch z) fun _ _ z => nomatch z⟩)
 . exact .inr h
theorem Conv.rd {gs : List (List Key × V)} (e : Conv Z Z') (h : Rd Z a (.dT gs)) : Rd Z' a (.dT gs) := by
 rcases h with h | ⟨o, h⟩
 . rcases e a _ h with q | ⟨g, ob, q, z⟩ | ⟨g, ob, q, z⟩
   . exact .inl q
   . cases q; exact .inr ⟨ob, z⟩
   . cases q
 . rcases e a _ h with q | ⟨g, ob, q, z⟩ | ⟨g, ob, q, z⟩
   . exact .inr ⟨o, q⟩
   . cases q
   . cases q; exact .inl z
theorem aU.conv {Z Z' : Hp} (e : Conv Z Z') {d : D} {v : V} (h : aU K CL Z d v) : aU K CL Z' d v :=
 aU.rec (motive_1 := fun d v _ => aU K CL Z' d v) (motive_2 := fun d v _ => ay K CL Z' d v) (motive_3 := fun d v _ => gM K CL Z' d v) (motive_4 := fun d v _ => b5 K CL Z' d v) (motive_5 := fun d v _ => bN K CL Z' d v)
   .non .bl .int .str .any .val (fun h _ r => .tup (e.rS h) r) (fun h _ r => .lst (e.sqL h) r) (fun h _ r => .ins (e.keep h (fun _ z => nomatch z) fun _ _ z => nomatch z) r) (fun h _ r => .oA (e.keep h (fun _ z => nomatch z) fun _ _ z => nomatch z) r) (fun h _ r => .dct (e.rd h) r) (fun h _ r => .gq (e.keep h (fun _ z => nomatch z) fun _ _ z => nomatch z) r) .nil (fun _ _ h r => .cons h r) .nil (fun _ _ h r => .cons h r) .nil (fun _ _ h r => .cons h r) .nil (fun _ _ h r => .cons h r) h
theorem b5.conv {Z Z' : Hp} (e : Conv Z Z') {d : List (Key × D)} {v : List (Key × V)} (h : b5 K CL Z d v) : b5 K CL Z' d v :=
 b5.rec (motive_1 := fun d v _ => aU K CL Z' d v) (motive_2 := fun d v _ => ay K CL Z' d v) (motive_3 := fun d v _ => gM K CL Z' d v) (motive_4 := fun d v _ => b5 K CL Z' d v) (motive_5 := fun d v _ => bN K CL Z' d v)
   .non .bl .int .str .any .val (fun h _ r => .tup (e.rS h) r) (fun h _ r => .lst (e.sqL h) r) (fun h _ r => .ins (e.keep h (fun _ z => nomatch z) fun _ _ z => nomatch z) r) (fun h _ r => .oA (e.keep h (fun _ z => nomatch z) fun _ _ z => nomatch z) r) (fun h _ r => .dct (e.rd h) r) (fun h _ r => .gq (e.keep h (fun _ z => nomatch z) fun _ _ z => nomatch z) r) .nil (fun _ _ h r => .cons h r) .nil (fun _ _ h r => .cons h r) .nil (fun _ _ h r => .cons h r) .nil (fun _ _ h r => .cons h r) h
theorem ay.conv {Z Z' : Hp} (e : Conv Z Z') {d : List D} {v : List V} (h : ay K CL Z d v) : ay K CL Z' d v :=
 ay.rec (motive_1 := fun d v _ => aU K CL Z' d v) (motive_2 := fun d v _ => ay K CL Z' d v) (motive_3 := fun d v _ => gM K CL Z' d v) (motive_4 := fun d v _ => b5 K CL Z' d v) (motive_5 := fun d v _ => bN K CL Z' d v)
   .non .bl .int .str .any .val (fun h _ r => .tup (e.rS h) r) (fun h _ r => .lst (e.sqL h) r) (fun h _ r => .ins (e.keep h (fun _ z => nomatch z) fun _ _ z => nomatch z) r) (fun h _ r => .oA (e.keep h (fun _ z => nomatch z) fun _ _ z => nomatch z) r) (fun h _ r => .dct (e.rd h) r) (fun h _ r => .gq (e.keep h (fun _ z => nomatch z) fun _ _ z => nomatch z) r) .nil (fun _ _ h r => .cons h r) .nil (fun _ _ h r => .cons h r) .nil (fun _ _ h r => .cons h r) .nil (fun _ _ h r => .cons h r) h
theorem aV.conv {H H' Z Z' : Hp} (e : Conv Z Z') {t : T} {v : V} {fp : List Addr} (k : ∀ a ∈ fp, H' a = H a) (h : aV K CL H Z t v fp) : aV K CL H' Z' t v fp :=
 aV.rec (motive_1 := fun t v fp _ => (∀ a ∈ fp, H' a = H a) -> aV K CL H' Z' t v fp) (motive_2 := fun t v fp _ => (∀ a ∈ fp, H' a = H a) -> aJ K CL H' Z' t v fp) (motive_3 := fun t v fp _ => (∀ a ∈ fp, H' a = H a) -> cH K CL H' Z' t v fp) (motive_4 := fun t v fp _ => (∀ a ∈ fp, H' a = H a) -> bH K CL H' Z' t v fp)
   (fun h _ => .sh (h.conv e)) (fun h _ r k => .tup (e.keep h (fun _ z => nomatch z) fun _ _ z => nomatch z) (r k)) (fun h _ r k => .lst ((k _ afP).trans h) (r fun a ha => k a (afS _ ha))) (fun h _ r k => .ins ((k _ afP).trans h) (r fun a ha => k a (afS _ ha))) (fun h f k => .oA ((k _ afP).trans h) (b5.conv e f)) (fun h _ r k => .dct ((k _ afP).trans h) (r fun a ha => k a (afS _ ha))) (fun _ r k => .pin (r k)) (fun h f k => .gq ((k _ afP).trans h) (ay.conv e f)) (fun _ => .nil) (fun _ _ h r k => .cons (h fun a ha => k a (afU _ ha)) (r fun a ha => k a (afQ _ ha))) (fun _ => .nil) (fun _ _ h r k => .cons (h fun a ha => k a (afU _ ha)) (r fun a ha => k a (afQ _ ha))) (fun _ => .nil) (fun _ _ h r k => .cons (h fun a ha => k a (afU _ ha)) (r fun a ha => k a (afQ _ ha))) h k
theorem aJ.conv {H H' Z Z' : Hp} (e : Conv Z Z') {t : List T} {v : List V} {fp : List Addr} (k : ∀ a ∈ fp, H' a = H a) (h : aJ K CL H Z t v fp) : aJ K CL H' Z' t v fp :=
 aJ.rec (motive_1 := fun t v fp _ => (∀ a ∈ fp, H' a = H a) -> aV K CL H' Z' t v fp) (motive_2 := fun t v fp _ => (∀ a ∈ fp, H' a = H a) -> aJ K CL H' Z' t v fp) (motive_3 := fun t v fp _ => (∀ a ∈ fp, H' a = H a) -> cH K CL H' Z' t v fp) (motive_4 := fun t v fp _ => (∀ a ∈ fp, H' a = H a) -> bH K CL H' Z' t v fp)
   (fun h _ => .sh (h.conv e)) (fun h _ r k => .tup (e.keep h (fun _ z => nomatch z) fun _ _ z => nomatch z) (r k)) (fun h _ r k => .lst ((k _ afP).trans h) (r fun a ha => k a (afS _ ha))) (fun h _ r k => .ins ((k _ afP).trans h) (r fun a ha => k a (afS _ ha))) (fun h f k => .oA ((k _ afP).trans h) (b5.conv e f)) (fun h _ r k => .dct ((k _ afP).trans h) (r fun a ha => k a (afS _ ha))) (fun _ r k => .pin (r k)) (fun h f k => .gq ((k _ afP).trans h) (ay.conv e f)) (fun _ => .nil) (fun _ _ h r k => .cons (h fun a ha => k a (afU _ ha)) (r fun a ha => k a (afQ _ ha))) (fun _ => .nil) (fun _ _ h r k => .cons (h fun a ha => k a (afU _ ha)) (r fun a ha => k a (afQ _ ha))) (fun _ => .nil) (fun _ _ h r k => .cons (h fun a ha => k a (afU _ ha)) (r fun a ha => k a (afQ _ ha))) h k
theorem eU.conv {H H' : Hp} {δ : List (Option T)} {σ : L2.St} {fp : List Addr} (e : Conv Z Z') (k : ∀ a ∈ fp, H' a = H a) (r : eU K CL H Z δ σ fp) : eU K CL H' Z' δ σ fp := by
 induction r with
 | nil => exact .nil
 | skip _ ih => exact .skip (ih k)
 | cons r _ ih => exact .cons (r.conv e fun a ha => k a (afU _ ha)) (ih fun a ha => k a (afQ _ ha))
end
noncomputable def abL (X : Cx) (te : TE) : TI := fun σ H R => te σ H fun x H1 => ∃ a gs, x = .ref a /\ ((H1 a = some (.dT gs) /\ ∀ o, (∀ ob q, X.H₀ a ≠ some (.bK ob q)) -> R (Itd a o gs) (upd H1 a (.bK o (.dT gs)))) \/ ∃ o, H1 a = some (.bK o (.dT gs)) /\ R (Itd a o gs) H1)
theorem Uh {X : Cx} {tg e : Expr} {te : TE} (he : PE X e te) : PI X tg e (abL X te) := by
 intro pins s σ H R I h
 refine cR (he pins s σ H _ I h) fun v s1 zz => ?_
 obtain ⟨x, H1, I1, r1, a, gs, ex, q⟩ := zz
 subst ex
 cases r1
 have main : ∀ (H2 : Hp) (o : Obj), L2.Inv X pins σ H2 s1 -> H2 a = some (.bK o (.dT gs)) -> R (Itd a o gs) H2 -> wpAny (model X.prog X.w) X.A (pyIter (.ref a)) (Xa X pins σ tg R) X.xe s1 := fun H2 o I2 ha hR => by
   obtain ⟨e, z, y, xs, r, o', es, ep, e', c, d, Np, nd⟩ := (show cV X.prog X.w H2 s1.heap a (.bK o (.dT gs)) from I2.c6 a _ ha)
   rw [e] at e'
   cases e'
   obtain ⟨_, _, _, _, dd⟩ := nG I2.c6 (.inr ⟨o, ha⟩)
   refine Dk.IZ y e dd.typeIs d ?_
   refine ⟨s1.heap.objs.size, [s1.heap.objs.size], _, _, H2, rfl, I2.kept (t' := s1.toks) fun b ob e => af7 _ e, Jb d, ⟨_, agl _ rfl, rfl, rfl⟩, fun b hb => ?_, hR⟩
   have e : b = s1.heap.objs.size := by simpa using hb
   subst e
   exact I2.A9 (af3 _) (I2.c6.fresh (af3 _))
 rcases q with ⟨ha, q⟩ | ⟨o, ha, q⟩
 . obtain ⟨o, e, hz, I2⟩ := I1.Ys ha
   exact main _ o I2 az (q o hz)
 . exact main _ o I1 ha q
noncomputable def Ui (X : Cx) (E : Ends) : Ends :=
 { nx := fun σ H => E.nx σ H \/ ∃ a o gs, H a = some (.bK o (.dT gs)) /\ (∀ ob q, X.H₀ a ≠ some (.bK ob q)) /\ E.nx σ (upd H a (.dT gs))
   rt := fun v H => E.rt v H \/ ∃ a o gs, H a = some (.bK o (.dT gs)) /\ (∀ ob q, X.H₀ a ≠ some (.bK ob q)) /\ E.rt v (upd H a (.dT gs))
   bk := E.bk
   ct := E.ct }
theorem vS {X : Cx} {st : Stmt} {E : Ends} {σ : L2.St} {H : Hp} (h : HR X st (Ui X E) σ H) : HR X st E σ H := fun pins s I => by
 refine ag7 (h pins s I) (fun f s' z => ?_) fun _ _ z => z
 cases f with
 | next =>
   obtain ⟨σ', H', I', q⟩ := z
   rcases q with q | ⟨a, o, gs, ha, hz, q⟩
   . exact ⟨σ', H', I', q⟩
   . exact ⟨σ', _, I'.xu ha hz, q⟩
 | ret u =>
   obtain ⟨v, σ', H', I', r, q⟩ := z
   rcases q with q | ⟨a, o, gs, ha, hz, q⟩
   . exact ⟨v, σ', H', I', r, q⟩
   . exact ⟨v, σ', _, I'.xu ha hz, r, q⟩
 | brk => exact z
 | cont => exact z
noncomputable def lF (b : Bx) (a : Addr) (F : HO) : Bx := ⟨fun c => if c = a /\ (b.B a).isSome = true then some F else b.B c, fun c => if c = a /\ (b.Z a).isSome = true then some F else b.Z c⟩
section
variable {K : PySem.W.Frag} {CL : Str -> Addr} {b : Bx} {H Z : Hp} {δ : List (Option T)} {σ : L2.St} {ts : List T} {vs : List V} {a : Addr} {gs : List (List Key × V)} {o : Obj}
theorem dF {F : HO} {c : Addr} (h : c ≠ a) : (lF b a F).B c = b.B c /\ (lF b a F).Z c = b.Z c := ⟨af1 fun z => h z.1, af1 fun z => h z.1⟩
theorem bf.still (S : bf K CL b H Z δ σ ts vs) (ha : Z a = some (.dT gs)) (o : Obj) : bf K CL (lF b a (.bK o (.dT gs))) (upd H a (.bK o (.dT gs))) (upd Z a (.bK o (.dT gs))) δ σ ts vs := by
 have cv : Conv Z (upd Z a (.bK o (.dT gs))) := fun c u q => by
   by_cases e : c = a
   . subst e
     rw [ha] at q
     cases q
     exact .inr (.inl ⟨gs, o, rfl, az⟩)
   . exact .inl (by rw [ao e]; exact q)
 obtain ⟨fp, gp, e, r, nd, k⟩ := S.rep
 have ne : ∀ c ∈ fp ++ gp, c ≠ a := fun c hc z => by
   have := (k c hc).1
   rw [z, ha] at this; cases this
 have hH := S.zh a _ ha
 refine ⟨⟨fp, gp, e.conv cv fun c hc => ao (ne c (afU _ hc)), r.conv cv fun c hc => ao (ne c (afQ _ hc)), nd, fun c hc => ⟨by rw [ao (ne c hc)]; exact (k c hc).1, by rw [(dF (ne c hc)).1]; exact (k c hc).2⟩⟩, fun c u q => ?_, fun c u q => ?_, fun c u q => ?_, fun c u q z => ?_, fun c u q im => ?_, fun x hx h0 => ?_⟩
 . by_cases e : c = a
   . subst e
     rw [az]
     have q : (if c = c /\ (b.B c).isSome = true then some _ else b.B c) = some u := q
     by_cases hs : (b.B c).isSome = true
     . rw [agb ⟨rfl, hs⟩] at q; exact q
     . rw [af1 fun z => hs z.2] at q
       rw [q] at hs; exact absurd rfl hs
   . rw [(dF e).1] at q
     rw [ao e]; exact S.bh c u q
 . by_cases e : c = a
   . subst e
     rw [az]
     have q : (if c = c /\ (b.Z c).isSome = true then some _ else b.Z c) = some u := q
     by_cases hs : (b.Z c).isSome = true
     . rw [agb ⟨rfl, hs⟩] at q; exact q
     . rw [af1 fun z => hs z.2] at q
       rw [q] at hs; exact absurd rfl hs
   . rw [(dF e).2] at q
     rw [ao e]; exact S.zz c u q
 . by_cases e : c = a
   . subst e
     rw [az] at q ⊢; exact q
   . rw [ao e] at q ⊢; exact S.zh c u q
 . by_cases e : c = a
   . subst e
     have z : (if c = c /\ (b.Z c).isSome = true then some _ else b.Z c) = none := z
     have hz : b.Z c = none := by
       by_cases hs : (b.Z c).isSome = true
       . rw [agb ⟨rfl, hs⟩] at z; cases z
       . rw [af1 fun z => hs z.2] at z; exact z
     have hB := S.new c _ ha hz
     show (if c = c /\ (b.B c).isSome = true then some _ else b.B c) = none
     rw [af1 fun z => by rw [hB] at z; exact absurd z.2 (by decide)]
     exact hB
   . rw [ao e] at q
     rw [(dF e).2] at z
     rw [(dF e).1]; exact S.new c u q z
 . by_cases e : c = a
   . subst e
     rw [az] at q ⊢; exact q
   . rw [ao e] at q ⊢; exact S.tp c u q im
 . have q := S.tab x hx h0
   have e : CL x ≠ a := fun z => by
     have := S.zz _ _ q
     rw [z, ha] at this; cases this
   rw [(dF e).2]; exact q
theorem bf.xu (S : bf K CL (lF b a (.bK o (.dT gs))) H Z δ σ ts vs) (ha : Z a = some (.bK o (.dT gs))) (h1 : ∀ u, b.B a = some u -> u = .dT gs) (h2 : ∀ u, b.Z a = some u -> u = .dT gs) (h3 : b.Z a = none -> b.B a = none) : bf K CL b (upd H a (.dT gs)) (upd Z a (.dT gs)) δ σ ts vs := by
 have cv : Conv Z (upd Z a (.dT gs)) := fun c u q => by
   by_cases e : c = a
   . subst e
     rw [ha] at q
     cases q
     exact .inr (.inr ⟨gs, o, rfl, az⟩)
   . exact .inl (by rw [ao e]; exact q)
 obtain ⟨fp, gp, e, r, nd, k⟩ := S.rep
 have ne : ∀ c ∈ fp ++ gp, c ≠ a := fun c hc z => by
   have := (k c hc).1
   rw [z, ha] at this; cases this
 refine ⟨⟨fp, gp, e.conv cv fun c hc => ao (ne c (afU _ hc)), r.conv cv fun c hc => ao (ne c (afQ _ hc)), nd, fun c hc => ⟨by rw [ao (ne c hc)]; exact (k c hc).1, by rw [← (dF (F := .bK o (.dT gs)) (ne c hc)).1]; exact (k c hc).2⟩⟩, fun c u q => ?_, fun c u q => ?_, fun c u q => ?_, fun c u q z => ?_, fun c u q im => ?_, fun x hx h0 => ?_⟩
 . by_cases e : c = a
   . subst e
     rw [az, h1 u q]
   . rw [ao e]
     exact S.bh c u (by rw [(dF e).1]; exact q)
 . by_cases e : c = a
   . subst e
     rw [az, h2 u q]
   . rw [ao e]
     exact S.zz c u (by rw [(dF e).2]; exact q)
 . by_cases e : c = a
   . subst e
     rw [az] at q ⊢; exact q
   . rw [ao e] at q ⊢; exact S.zh c u q
 . by_cases e : c = a
   . subst e
     exact h3 z
   . rw [ao e] at q
     have := S.new c u q (by rw [(dF e).2]; exact z)
     rwa [(dF e).1] at this
 . by_cases e : c = a
   . subst e
     rw [az] at q
     cases q
     cases im
   . rw [ao e] at q ⊢; exact S.tp c u q im
 . have q := S.tab x hx h0
   have e : CL x ≠ a := fun z => by
     have := S.zz _ _ q
     rw [z, ha] at this; cases this
   rwa [(dF e).2] at q
end
theorem bf.DG {K : PySem.W.Frag} {CL : Str -> Addr} {b : Bx} {H Z : Hp} {δ : List (Option T)} {σ : L2.St} {ts : List T} {vs : List V} {t : T} {v : V} (S : bf K CL b H Z δ σ ts vs) (r : aV K CL H Z t v []) : bf K CL b H Z δ σ (t :: ts) (v :: vs) := by
 obtain ⟨fp, gp, e, q, nd, k⟩ := S.rep
 exact ⟨⟨fp, [] ++ gp, e, .cons r q, nd, k⟩, S.bh, S.zz, S.zh, S.new, S.tp, S.tab⟩
section
variable {X : Cx} {CL : Str -> Addr} {b : Bx} {δ δ1 : List (Option T)} {e : Expr} {D : dH} {pos pos' : Pos} {x : Str} {i : Nat} {eo body : List Stmt} {kvs : List (List Key × L3.D)}
theorem Nq (g : Gx X) (nm : Ln X i x) (P : Nat -> List (Option T) -> Prop) (h : bG X CL b e δ (.sh (.dct kvs)) δ1) (h0 : P 0 δ1) (hl : ∀ j δ, P j δ -> i < δ.length)
   (hs : ∀ (b' : Bx) (j : Nat) (k : List Key) (d : L3.D) δ, kvs[j]? = some (k, d) -> P j δ -> dw X CL b' body (δ.set i (some (fB k))) { nx := P (j + 1), rt := D.rt, bk := fun δ2 => dw X CL b eo δ2 D, ct := P (j + 1) }) (hd : ∀ δ, P kvs.length δ -> dw X CL b eo δ D)
   (hq : ∀ x, foldedSetIterable e X.env x = pure x := by intro _; rfl) : dw X CL b (.For (.Name x pos') e body [] pos :: eo) δ D := bW fun H Z σ ts vs E S M =>
 vS (kT (wC g.xe g.calm (Uh b6) (iU g.nd nm.hi nm.loc nm.hf) LZ hq) (h H Z σ ts vs _ S fun v H1 Z1 z1 k1 S1 => by
   have r := S1.lC
   cases r with
   | @dct a gs _ ha rr =>
     have Ak : kvs.length = gs.length := rr.length
     have rC : ∀ (j : Nat) (k : List Key) (v : V), gs[j]? = some (k, v) -> ∃ d, kvs[j]? = some (k, d) := fun j k v hj => by
       have e1 := congrArg (·[j]?) rr.keys
       simp only [af2, hj] at e1
       obtain ⟨p, hp, e2⟩ := agg.mp e1
       have e2 : p.1 = k := e2
       exact ⟨p.2, by rw [hp, ← e2]⟩
     have Nr : ∀ {Z2 H2 : Hp} {kb : Addr} {k : List Key}, (∀ a o, H2 a = some o -> jj o = true -> Z2 a = some o) -> H2 kb = some (.tup (k.map kV)) -> aV X.K CL H2 Z2 (fB k) (.ref kb) [] := fun tp hk => .tup (tp _ _ hk rfl) (aJ.ofF (tO _))
     rcases ha with ha | ⟨o, ha⟩
     . have hH := S1.zh a _ ha
       refine ⟨a, gs, rfl, .inl ⟨hH, fun o hz => ?_⟩⟩
       have S2 := S1.pop.still ha o
       have t1 : ∀ u, b.B a = some u -> u = .dT gs := fun u q => by
         have := S1.bh a u q
         rw [hH] at this; exact (agf this).symm
       have t2 : ∀ u, b.Z a = some u -> u = .dT gs := fun u q => by
         have := S1.zz a u q
         rw [ha] at this; exact (agf this).symm
       have t3 : b.Z a = none -> b.B a = none := S1.new a _ ha
       have back : ∀ {Z2 : Hp}, aA (upd Z1 a (.bK o (.dT gs))) Z2 -> aA Z (upd Z2 a (.dT gs)) := fun {Z2} s c u q => by
         have q1 := z1 c u q
         by_cases e : c = a
         . subst e
           rw [ha] at q1
           cases q1
           exact az
         . rw [ao e]
           exact s c u (by rw [ao e]; exact q1)
       refine ⟨fun j m σ H2 => m = gs.length - j /\ j <= gs.length /\ ∃ Z2 δ2, aA (upd Z1 a (.bK o (.dT gs))) Z2 /\ bf X.K CL (lF b a (.bK o (.dT gs))) H2 Z2 δ2 σ ts vs /\ P j δ2, ⟨_, rfl, agr _, _, δ1, .refl _, S2, h0⟩, ?_⟩
       rintro j m σ2 H2 ⟨rfl, hj, Z2, δ2, s, S3, p2⟩
       have za : Z2 a = some (.bK o (.dT gs)) := s a _ az
       by_cases g6 : j < gs.length
       . refine .inr ⟨⟨g6, S3.zh a _ za⟩, fun σ' H' => ∃ Z2 δ2, aA (upd Z1 a (.bK o (.dT gs))) Z2 /\ bf X.K CL (lF b a (.bK o (.dT gs))) H' Z2 δ2 σ' ts vs /\ P (j + 1) δ2, fun σ' H' h => ⟨gs.length - (j + 1), by omega, rfl, g6, h⟩, fun y H' hy => ?_⟩
         obtain ⟨rfl, kb, k, v, rfl, hg, hk⟩ := hy
         obtain ⟨d, wu⟩ := rC j k v hg
         have S4 := (S3.DG (Nr S3.tp hk)).set (hl j δ2 p2)
         exact hs _ j k d δ2 wu p2 _ Z2 _ ts vs _ S4 ⟨fun δ' σ' H' Z' s' S' k => ⟨Z', δ', s.trans s', S', k⟩, fun t v H' Z' δ' σ' s' S' k => .inr ⟨a, o, gs, S'.zh a _ (s' a _ za), hz, M.rt t v _ _ δ' σ' (back (s.trans s')) (S'.xu (s' a _ za) t1 t2 t3) k⟩, fun δ' σ' H' Z' s' S' k => .inr ⟨a, o, gs, S'.zh a _ (s' a _ za), hz, M.nx δ' σ' _ _ (back (s.trans s')) (S'.xu (s' a _ za) t1 t2 t3) k⟩, fun δ' σ' H' Z' s' S' k => ⟨Z', δ', s.trans s', S', k⟩⟩
       . have ej : j = gs.length := by omega
         subst ej
         exact .inl ⟨⟨af3 _, S3.zh a _ za⟩, .inr ⟨a, o, gs, S3.zh a _ za, hz, M.nx δ2 σ2 _ _ (back s) (S3.xu za t1 t2 t3) (hd δ2 (Ak ▸ p2))⟩⟩
     . refine ⟨a, gs, rfl, .inr ⟨o, S1.zh a _ ha, ?_⟩⟩
       refine ⟨fun j m σ H2 => m = gs.length - j /\ j <= gs.length /\ ∃ Z2 δ2, aA Z1 Z2 /\ bf X.K CL b H2 Z2 δ2 σ ts vs /\ P j δ2, ⟨_, rfl, agr _, _, δ1, .refl _, S1.pop, h0⟩, ?_⟩
       rintro j m σ2 H2 ⟨rfl, hj, Z2, δ2, s, S3, p2⟩
       have za : Z2 a = some (.bK o (.dT gs)) := s a _ ha
       by_cases g6 : j < gs.length
       . refine .inr ⟨⟨g6, S3.zh a _ za⟩, fun σ' H' => ∃ Z2 δ2, aA Z1 Z2 /\ bf X.K CL b H' Z2 δ2 σ' ts vs /\ P (j + 1) δ2, fun σ' H' h => ⟨gs.length - (j + 1), by omega, rfl, g6, h⟩, fun y H' hy => ?_⟩
         obtain ⟨rfl, kb, k, v, rfl, hg, hk⟩ := hy
         obtain ⟨d, wu⟩ := rC j k v hg
         have S4 := (S3.DG (Nr S3.tp hk)).set (hl j δ2 p2)
         exact hs _ j k d δ2 wu p2 _ Z2 _ ts vs _ S4 ⟨fun δ' σ' H' Z' s' S' k => ⟨Z', δ', s.trans s', S', k⟩, fun t v H' Z' δ' σ' s' S' k => .inl (M.rt t v _ _ δ' σ' (z1.trans (s.trans s')) S' k), fun δ' σ' H' Z' s' S' k => .inl (M.nx δ' σ' _ _ (z1.trans (s.trans s')) S' k), fun δ' σ' H' Z' s' S' k => ⟨Z', δ', s.trans s', S', k⟩⟩
       . have ej : j = gs.length := by omega
         subst ej
         exact .inl ⟨⟨af3 _, S3.zh a _ za⟩, .inl (M.nx δ2 σ2 _ _ (z1.trans s) S3 (hd δ2 (Ak ▸ p2)))⟩))
theorem xx {ks : List Key} (n : Vn X i x) (h : δ[i]? = some (some (fB ks))) : bG X CL b (.Name x pos) δ (fB ks) δ := fun H Z σ ts vs Q S k => by
 obtain ⟨fp, gp, e, q, nd, kk⟩ := S.rep
 obtain ⟨v, f1, f2, f3, hv, nI, rt, _, _⟩ := e.get h
 have h2 : f2 = [] := by
   cases rt with
   | tup hz rr => exact (aJ.toF rr).2
 subst h2
 exact bO (gW n.hi n.hv n.hd n.kK) ⟨v, hv, k v H Z (.refl _) (.refl _) (S.DG rt)⟩
end
section
variable {K : PySem.W.Frag} {CL : Str -> Addr} {b : Bx} {H Z : Hp} {δ : List (Option T)} {σ : L2.St} {ts : List T} {vs : List V} {t t0 : T} {v v0 w : V} {i : Nat} {p : List uM} {kvs : List (List Key × T)} {k : List Key}
theorem bH.fresh {gs : List (List Key × V)} {fp : List Addr} (rs : bH K CL H Z kvs gs fp) (hk : k ∉ kvs.map (·.1)) (v : V) : putK gs k v = gs ++ [(k, v)] := by
 refine HL v ?_
 cases hx : fN gs k with
 | none => rfl
 | some z =>
   exfalso
   refine hk ?_
   rw [rs.keys]
   unfold fN at hx
   obtain ⟨q, hf, _⟩ := agg.mp hx
   have h0 := List.find?_some hf
   have h1 : q.1 = k := agt h0
   rw [← h1]
   exact List.mem_map_of_mem (List.mem_of_find?_eq_some hf)
theorem bf.Nt (S : bf K CL b H Z δ σ (t :: ts) (v :: vs)) (ev : σ[i]? = some (some v0)) (hi : δ[i]? = some (some t0)) (hp : T.jU p t0 = some (.dct kvs)) (g8 : vR H v0 p w) (hk : k ∉ kvs.map (·.1)) :
   ∃ a gs, w = .ref a /\ H a = some (.dT gs) /\ gs.length = kvs.length /\ bf K CL b (upd H a (.dT (putK gs k v))) Z (δ.set i (some (T.iS p (.dct (kvs ++ [(k, t)])) t0))) σ ts vs := by
 obtain ⟨f2, gp, ru, rr, nd, go⟩ := S.BK ev hi hp g8
 cases ru with
 | @dct a gs _ g ha rs =>
   cases rr with
   | @cons _ _ _ _ ft gr q1 q2 =>
     have ne : ∀ c ∈ g ++ (ft ++ gr), c ≠ a := fun c hc z => by subst z; exact (agB.mp nd).1 hc
     have pm : ((a :: (g ++ (ft ++ []))) ++ gr).Perm ((a :: g) ++ (ft ++ gr)) := ahF.mpr fun c => by simp only [ahQ, List.count_cons, List.count_nil]; omega
     refine ⟨a, gs, rfl, ha, rs.length.symm, ?_⟩
     rw [rs.fresh hk]
     exact go rfl afP rfl (.dct az (bH.snoc (rs.mono (.refl _) fun c hc => ao (ne c (by simp [hc]))) (q1.mono (.refl _) fun c hc => ao (ne c (by simp [hc])))))
       (q2.mono (.refl _) fun c hc => ao (ne c (by simp [hc]))) (pm.nodup_iff.mpr nd) fun c hc => pm.mem_iff.mp hc
end
section
variable {X : Cx} {CL : Str -> Addr} {b : Bx} {δ δ1 : List (Option T)} {e e0 e2 : Expr} {t t1 : T} {D : dH} {pos ps : Pos} {i : Nat} {eo : List Stmt} {p : List uM} {kvs : List (List Key × T)}
theorem Nu (k : List Key) (hu : X.A.units + 64 < cLine) (h : bG X CL b e δ t δ1) (hE : IX X CL b e0 δ1 i p) (h2 : bG X CL b e2 δ1 (fB k) δ1) (h1 : δ1[i]? = some (some t1)) (Yq : T.jU p t1 = some (.dct kvs)) (hk : k ∉ kvs.map (·.1)) (hl : kvs.length <= 1000000) (kk : dw X CL b eo (δ1.set i (some (T.iS p (.dct (kvs ++ [(k, t)])) t1))) D)
   (hs : swapsWith e (some (.Subscript e0 e2 ps)) pos.line X.env = pure false := by rfl) : dw X CL b (.Assign [.Subscript e0 e2 ps] e pos :: eo) δ D := bW fun H Z σ ts vs E S M =>
 kT (Dl (by omega) b6 b6 b6 hs) (h H Z σ ts vs _ S fun v H1 Z1 z1 k1 S1 => hE H1 Z1 σ _ _ _ S1 fun v0 w H2 Z2 z2 k2 S2 ev g8 => h2 H2 Z2 σ _ _ _ S2 fun v2 H3 Z3 z3 k3 S3 => by
   obtain ⟨kb, rfl, hb⟩ := S3.xr
   obtain ⟨a, gs, ea, ha, hg, S4⟩ := S3.pop.Nt ev h1 Yq (g8.mono k3) hk
   exact ⟨a, _, ea, Fd.t ha hb (by rw [hg]; exact ahu hl (by rw [age]; decide)), M.nx _ σ _ Z3 (z1.trans (z2.trans z3)) S4 kk⟩)
end
end L3
namespace L2
open PySem PySem.Spec PyProof.Rows
section
variable {X : Cx} {pins : List (Addr × Obj)} {σ : St} {H : Hp} {s : Shared} {a b : Addr} {k : List Key} {gs : List (List Key × V)} {v : V} {r : Value} {A : Around} {E : Value -> Shared -> Prop}
theorem DH (I : Inv X pins σ H s) (h : kN X.K H b (k.map kV)) : (tupleKind (dS X.prog X.w)).is s.heap k b := by
 obtain ⟨its, rv, ⟨o, h1, h2, n, h3⟩, hz⟩ := I.tuple h
 exact ⟨o, its.toArray, n, h1, h2, h3, by simpa using qt rv⟩
theorem FG {Q : Value -> Shared -> Prop} (hu : A.units + 1 < cLine) (I : Inv X pins σ H s) (e : Rd H a (.dT gs)) (hb : kN X.K H b (k.map kV)) (l : fN gs k = some v) (h : ∀ w' s', Inv X pins σ H s' -> RelV v w' -> Q w' s') : wpAny (model X.prog X.w) A (getItem (.ref a) (.ref b)) Q E s := by
 obtain ⟨z, hd, xs, rel, dd⟩ := nG I.c6 e
 obtain ⟨w', hw, zN⟩ := nE.some_of (v := v) (o := (atKey xs k).map (·.2)) (by rw [← l]; exact rel.val k)
 obtain ⟨p, hp, zy⟩ := agg.mp hw
 refine wpAny_getItem_heap (ahM hu) (DH I hb) dd hp ?_
 rw [zy]
 exact h w' _ (I.tok _) zN
theorem FH {Q : Unit -> Shared -> Prop} (hu : A.units + 1 < cLine) (I : Inv X pins σ H s) (e : H a = some (.dT gs)) (hb : kN X.K H b (k.map kV)) (l : (fN gs k).isSome = true) (rv : RelV v r) (h : ∀ s', Inv X pins σ (upd H a (.dT (gs.map fun kv => if kv.1 = k then (kv.1, v) else kv))) s' -> Q () s') : wpAny (model X.prog X.w) A (setItem (.ref a) (.ref b) r) Q E s := by
 obtain ⟨z, hd, xs, rel, dd⟩ := QH I.c6 e
 have hz : xs.length <= sizeLine := by rw [← ahp rel]; exact z
 have ha : (atKey xs k).isSome = true := by
   have := (rel.val k).vJ
   rw [l, Option.isSome_map] at this
   exact this.symm
 refine wpAny_setItem_heap (hsz := hz) (ahM hu) (DH I hb) dd fun h' Bq hs => h _ ?_
 obtain ⟨q, es, ep, hq, h2, h3, h4, _, h5⟩ := Bq
 have est : storedH xs k b r = xs.map (putAt k r) := by unfold storedH; rw [agb ha]
 rw [est] at h4 h5
 refine oR I (by rw [e]; exact True.intro) hs ⟨q, hq⟩ ⟨by rw [afO]; exact z, hd, _, (rel.repl k rv).keeps fun c ys ec => ?_, q, es, ep, hq, h2, h3, h4, h5⟩
 rw [ao (Qq ec e (fun z => nomatch z))]
 exact ec
end
section
variable {X : Cx} {o i value : Expr} {td ty tv : TE} {pos pos' : Pos}
noncomputable def Yt (X : Cx) (td ty : TE) : TE := fun σ H Q => td σ H fun x H1 => ty σ H1 fun y H2 => ∃ a v gs k b, x = .ref a /\ y = .ref b /\ Rd H2 a (.dT gs) /\ kN X.K H2 b (k.map kV) /\ fN gs k = some v /\ Q v H2
theorem DI (hu : X.A.units + 1 < cLine) (ho : PE X o td) (hi : PE X i ty) (hs : wO i) : PE X (.Subscript o i pos) (Yt X td ty) := by
 intro pins s σ H Q I h
 refine wQ ah3.lookup hs (cR (ho pins s σ H _ I h) fun u s1 ⟨x, H1, I1, rx, q1⟩ => cR (hi pins s1 σ H1 _ I1 q1) fun iv s2 zz => ?_)
 obtain ⟨y, H2, I2, ry, a, v, gs, k, b, ex, ey, g, hb, l, q2⟩ := zz
 subst ex ey
 obtain rfl : u = Value.ref a := rx
 obtain rfl : iv = Value.ref b := ry
 obtain ⟨_, _, _, _, dd⟩ := nG I2.c6 g
 exact ⟨dd.typeIs, FG hu I2 g hb l fun w' s3 I3 zN => ⟨v, H2, I3, zN, q2⟩⟩
noncomputable def Yu (X : Cx) (td ty tv : TE) : TS := fun D σ H => tv σ H fun v H1 => td σ H1 fun x H2 => ty σ H2 fun y H3 => ∃ a gs k b, x = .ref a /\ y = .ref b /\ H3 a = some (.dT gs) /\ kN X.K H3 b (k.map kV) /\ (fN gs k).isSome = true /\ D.nx σ (upd H3 a (.dT (gs.map fun kv => if kv.1 = k then (kv.1, v) else kv)))
theorem Nv (hu : X.A.units + 1 < cLine) (ho : PE X o td) (hi : PE X i ty) (hv : PE X value tv) (hs : swapsWith value (some (.Subscript o i pos')) pos.line X.env = pure false) :
   PS X (.Assign [.Subscript o i pos'] value pos) (Yu X td ty tv) := by
 intro pins s σ H D I h
 refine wpAny_Assign_Subscript (cR (hv pins s σ H _ I h) fun r s1 ⟨v, H1, I1, rv, q1⟩ => cR (ho pins s1 σ H1 _ I1 q1) fun u s2 ⟨x, H2, I2, rx, q2⟩ => cR (hi pins s2 σ H2 _ I2 q2) fun iv s3 zz => ?_) hs
 obtain ⟨y, H3, I3, ry, a, gs, k, b, ex, ey, g, hb, l, q3⟩ := zz
 subst ex ey
 obtain rfl : u = Value.ref a := rx
 obtain rfl : iv = Value.ref b := ry
 exact FH hu I3 g hb l rv fun s4 I4 => ⟨σ, _, I4, q3⟩
end
end L2
namespace L3
open PySem PySem.Spec PyProof.Rows L2
section
variable {K : PySem.W.Frag} {CL : Str -> Addr} {b : Bx} {H Z : Hp} {δ : List (Option T)} {σ : L2.St} {ts : List T} {vs : List V} {t t0 : T} {v v0 w : V} {i : Nat} {p : List uM} {kvs : List (List Key × T)} {k : List Key}
theorem nW {ks : List Key} {us : List V} (r : ay K CL Z (ks.map BH) us) : us = ks.map kV := by
 induction ks generalizing us with
 | nil => cases r; rfl
 | cons k ks ih =>
   rw [agd] at r
   cases r with
   | cons r rr => rw [r.key, ih rr, agd]
theorem bH.alter {gs : List (List Key × V)} {fp : List Addr} (h : bH K CL H Z kvs gs fp) (hk : eY kvs k = some t0) (nd : (kvs.map (·.1)).Nodup) :
   ∃ f1 f2 f3, fp = f1 ++ (f2 ++ f3) /\ (fN gs k).isSome = true ∧
     ∀ {H' : Hp} {t' : T} {v' : V} {g : List Addr}, (∀ a ∈ f1 ++ f3, H' a = H a) -> aV K CL H' Z t' v' g -> bH K CL H' Z (kvs.map fun kv => if kv.1 = k then (kv.1, t') else kv) (gs.map fun kv => if kv.1 = k then (kv.1, v') else kv) (f1 ++ (g ++ f3)) := by
 refine bH.ind (P := fun kvs gs fp => eY kvs k = some t0 -> (kvs.map (·.1)).Nodup -> ∃ f1 f2 f3, fp = f1 ++ (f2 ++ f3) /\ (fN gs k).isSome = true ∧
     ∀ {H' : Hp} {t' : T} {v' : V} {g : List Addr}, (∀ a ∈ f1 ++ f3, H' a = H a) -> aV K CL H' Z t' v' g -> bH K CL H' Z (kvs.map fun kv => if kv.1 = k then (kv.1, t') else kv) (gs.map fun kv => if kv.1 = k then (kv.1, v') else kv) (f1 ++ (g ++ f3))) (fun e => by cases e) (fun {x t1 v1 ts vs fp gp} r rr i hk nd => ?_) h hk nd
 rw [agd, agB] at nd
 by_cases e : x = k
 . subst e
   have no : ∀ {β : Type} (l : List (List Key × β)) (z : β), x ∉ l.map (·.1) -> (l.map fun kv => if kv.1 = x then (kv.1, z) else kv) = l := fun l z hx => by
     have : ∀ kv ∈ l, (if kv.1 = x then (kv.1, z) else kv) = kv := fun kv Yv => af1 fun (e : kv.1 = x) => hx (by rw [← e]; exact afZ.mpr ⟨kv, Yv, rfl⟩)
     exact (agT this).trans (List.map_id _)
   refine ⟨[], fp, gp, rfl, by rw [jy rfl]; rfl, fun {H' t' v' g} ka q => ?_⟩
   rw [agd, agd, agb rfl, agb rfl, no ts t' nd.1, no vs v' (by rw [← rr.keys]; exact nd.1)]
   exact (show bH K CL H' Z ((x, t') :: ts) ((x, v') :: vs) (g ++ gp) from .cons q (rr.mono (.refl _) fun a ha => ka a ha))
 . rw [fC (p := (x, t1)) e] at hk
   obtain ⟨f1, f2, f3, h2, h3, h4⟩ := i hk nd.2
   refine ⟨fp ++ f1, f2, f3, by rw [h2, afW], by rw [jz (p := (x, v1)) e]; exact h3, fun {H' t' v' g} ka q => ?_⟩
   rw [agd, agd, af1 e, af1 e, afW]
   exact .cons (r.mono (.refl _) fun a ha => ka a (by simp [ha])) (h4 (fun a ha => ka a (by rw [afW]; exact afQ _ ha)) q)
theorem bf.Jc (S : bf K CL b H Z δ σ (t :: ts) (v :: vs)) (ev : σ[i]? = some (some v0)) (hi : δ[i]? = some (some t0)) (hp : T.jU p t0 = some (.dct kvs)) (g8 : vR H v0 p w) {u : T} (hk : eY kvs k = some u) (XS : (kvs.map (·.1)).Nodup) :
   ∃ a gs, w = .ref a /\ H a = some (.dT gs) /\ (fN gs k).isSome = true /\ bf K CL b (upd H a (.dT (gs.map fun kv => if kv.1 = k then (kv.1, v) else kv))) Z (δ.set i (some (T.iS p (.dct (kvs.map fun kv => if kv.1 = k then (kv.1, t) else kv)) t0))) σ ts vs := by
 obtain ⟨f2, gp, ru, rr, nd, go⟩ := S.BK ev hi hp g8
 cases ru with
 | @dct a gs _ g ha rs =>
   cases rr with
   | @cons _ _ _ _ ft gr q1 q2 =>
     obtain ⟨g1, g2, g3, h1, h2, h4⟩ := rs.alter hk XS
     subst h1
     have ne : ∀ c ∈ (g1 ++ (g2 ++ g3)) ++ (ft ++ gr), c ≠ a := fun c hc z => by subst z; exact (agB.mp nd).1 hc
     refine ⟨a, gs, rfl, ha, h2, ?_⟩
     have sb : ((a :: (g1 ++ g3)) ++ (ft ++ gr)).Sublist ((a :: (g1 ++ (g2 ++ g3))) ++ (ft ++ gr)) := by
       simp only [agq, afW]
       exact List.Sublist.cons₂ _ (agC (agz _) (ag3 _ _))
     have pm : ((a :: (g1 ++ (ft ++ g3))) ++ gr).Perm ((a :: (g1 ++ g3)) ++ (ft ++ gr)) := ahF.mpr fun c => by simp only [ahQ, List.count_cons]; omega
     exact go rfl afP rfl (.dct az (h4 (fun c hc => ao (ne c (by
       rcases af0.mp hc with h | h
       . simp [h]
       . simp [h]))) (q1.mono (.refl _) fun c hc => ao (ne c (by simp [hc])))))
       (q2.mono (.refl _) fun c hc => ao (ne c (by simp [hc]))) (pm.nodup_iff.mpr (nd.sublist sb)) fun c hc => sb.subset (pm.mem_iff.mp hc)
end
section
variable {X : Cx} {CL : Str -> Addr} {b : Bx} {δ δ1 δ2 : List (Option T)} {e e0 e1 e2 : Expr} {t t1 u : T} {d : L3.D} {D : dH} {pos pp ps : Pos} {i : Nat} {eo : List Stmt} {p : List uM}
theorem Jd {kvs : List (List Key × L3.D)} (k : List Key) (hu : X.A.units + 64 < cLine) (h1 : cL X CL b e1 δ (.dct kvs) δ1) (h2 : cL X CL b e2 δ1 (vQ k) δ2) (hk : eY kvs k = some d) (hs : wO e2 := by exact fun _ _ => rfl) : cL X CL b (.Subscript e1 e2 pos) δ d δ2 := fun H Z σ ts vs Q S kk =>
 bO (DI (by omega) b6 b6 hs) (h1 H Z σ ts vs _ S fun v H1 Z1 z1 k1 S1 r1 => h2 H1 Z1 σ ts vs _ S1 fun v2 H2 Z2 z2 k2 S2 r2 => by
   cases r1 with
   | @dct a gs _ ha rr =>
     unfold vQ at r2
     cases r2 with
     | tup hq rk =>
       rw [nW rk] at hq
       have rr' := rr.mono k2
       rcases rr'.val (k := k) with ⟨h0, _⟩ | ⟨d', v', h0, hv, rd⟩
       . rw [hk] at h0; cases h0
       . rw [hk] at h0; cases h0
         exact ⟨a, v', gs, k, _, rfl, rfl, Rd.mono k2 ha, hq, hv, kk v' H2 Z2 (z1.trans z2) (k1.trans k2) S2 rd⟩)
theorem Je {kvs : List (List Key × T)} (k : List Key) (hu : X.A.units + 64 < cLine) (h : bG X CL b e δ t δ1) (hE : IX X CL b e0 δ1 i p) (h2 : cL X CL b e2 δ1 (vQ k) δ1) (h1 : δ1[i]? = some (some t1)) (Yq : T.jU p t1 = some (.dct kvs)) (hk : eY kvs k = some u) (nd : (kvs.map (·.1)).Nodup) (kk : dw X CL b eo (δ1.set i (some (T.iS p (.dct (kvs.map fun kv => if kv.1 = k then (kv.1, t) else kv)) t1))) D)
   (hs : swapsWith e (some (.Subscript e0 e2 ps)) pos.line X.env = pure false := by rfl) : dw X CL b (.Assign [.Subscript e0 e2 ps] e pos :: eo) δ D := bW fun H Z σ ts vs E S M =>
 kT (Nv (by omega) b6 b6 b6 hs) (h H Z σ ts vs _ S fun v H1 Z1 z1 k1 S1 => hE H1 Z1 σ _ _ _ S1 fun v0 w H2 Z2 z2 k2 S2 ev g8 => h2 H2 Z2 σ _ _ _ S2 fun v2 H3 Z3 z3 k3 S3 r3 => by
   unfold vQ at r3
   cases r3 with
   | tup hq rk =>
     rw [nW rk] at hq
     obtain ⟨a, gs, ea, ha, hg, S4⟩ := S3.Jc ev h1 Yq (g8.mono k3) hk nd
     exact ⟨a, gs, k, _, ea, rfl, ha, hq, hg, M.nx _ σ _ Z3 (z1.trans (z2.trans z3)) S4 kk⟩)
theorem vU {ds : List L3.D} (hm : X.mg "tuple" = none) (h : bG X CL b e δ (.sh (.tup ds)) δ1) (hg : Gl X "tuple") (hs : starEach [e] X.env = (false, eval e X.env) :: starEach [] X.env := by exact bD rfl) : bG X CL b (.Call (.Name "tuple" pp) [e] [] pos) δ (.sh (.tup ds)) δ1 := fun H Z σ ts vs Q S k =>
 bO (gu nF hg hm qX (cu b6 dW hs) (he := hs)) (h H Z σ ts vs _ S fun v H1 Z1 z1 k1 S1 => by
   have r := S1.lC
   cases r with
   | tup hq rr => exact ⟨_, _, rfl, .inr ⟨aA.rS S1.zh hq, k _ H1 Z1 z1 k1 S1⟩⟩)
end
end L3
namespace L2
open PySem PySem.Spec PyProof.Rows
section
variable {prog : Program} {w : World} {K : Type} [DecidableEq K] {knd : HeapKind prog w K} {A : Around} {E : Value -> Shared -> Prop} {s : Shared}
theorem Uj {nm : String} {a b : Addr} {xa xb : List (K × Addr × Value)} {Q : Bool -> Shared -> Prop} (ha : (a == sysModules) = false) (hb : (b == sysModules) = false) (da : s.heap.DictOfH knd a xa) (db : s.heap.DictOfH knd b xb) (hu : knd.room A) (hlen : xa.length = xb.length)
   (hits : ∀ x ∈ xa, ∃ (j : Nat) (q : Addr × Value), xb[j]? = some (x.1, q) /\ SeqAt.EqAt A s x.2.2 q.2 true) (h : Q true s) : wpAny (model prog w) A (Builtin.Dict.samePairs nm a b) Q E s := by
 obtain ⟨oa, es, ep, hoa, _, hda, hea, abM, _⟩ := da
 obtain ⟨ob, GX, Qu, hob, _, sZ, heb, abP, hnb⟩ := db
 have hsa : es.size = xa.length := size_of_entries hea
 have hsb : GX.size = xb.length := size_of_entries heb
 unfold Builtin.Dict.samePairs Builtin.Dict.showsAll
 rw [af1 (show ¬ (a == sysModules) = true by rw [ha]; exact af4), af1 (show ¬ (b == sysModules) = true by rw [hb]; exact af4)]
 refine afN (afT (afN (afT ?_)))
 refine afN (agU hoa hda ?_)
 dsimp only
 refine afN (agU hob sZ ?_)
 rw [af1 (by rw [hsa, hsb, hlen]; simp)]
 refine afN (ahz hoa hda ?_)
 refine afN ?_
 rw [Std.Legacy.Range.forIn_eq_forIn_range']
 simp only [Std.Legacy.Range.size, Nat.sub_zero, Nat.add_sub_cancel, Nat.div_one]
 refine wpAny_forIn_list _ (fun rest q s' => s' = s /\ q = (none, ()) /\ ∃ i, rest = List.range' i (es.size - i) /\ i <= es.size) _ ?_ ?_ _ _ ⟨rfl, rfl, 0, by simp, agr _⟩
 . rintro x rest q s' ⟨rfl, rfl, i, hr, hi⟩
   have g6 : i < es.size := by
     rcases Nat.lt_or_ge i es.size with h | h
     . exact h
     . rw [Nat.sub_eq_zero_of_le h] at hr; simp at hr
   obtain ⟨rfl, Yw⟩ : x = i /\ rest = List.range' (i + 1) (es.size - (i + 1)) := by
     have e : es.size - i = (es.size - (i + 1)) + 1 := by omega
     rw [e, List.range'_succ] at hr
     injection hr with h1 h2
     exact ⟨h1, h2⟩
   refine afN (agU hoa hda ?_)
   obtain ⟨⟨k, c, v⟩, Yv⟩ : ∃ y, xa[x]? = some y := ⟨_, afR (by omega)⟩
   have hex : es[x]? = some ⟨knd.hash k, .ref c, v⟩ := by rw [entry_at hea x, Yv]; rfl
   rw [hex]
   obtain ⟨j, ⟨c', v'⟩, hj, he⟩ := hits _ (af8 Yv)
   have hey : GX[j]? = some ⟨knd.hash k, .ref c', v'⟩ := by rw [entry_at heb j, hj]; rfl
   show wpAny _ _ (holding [Value.ref c, v] _ >>= _) _ _ _
   refine afN (ahf (afN (wpAny_dictFind_heap hu (abM _ (af8 Yv)) hob sZ heb abP hnb (fun A4 => absurd hj (A4 j _)) (fun j' p' hj' => ?_))))
   have ej := idxH_unique hnb hj' hj
   subst ej
   refine afN (agU hob sZ ?_)
   rw [hey]
   refine ahf (he prog w _ _ ?_)
   show wpAny _ _ (if (!true) = true then _ else _) _ _ _
   rw [af1 (by decide)]
   refine afN (ahz hoa hda ?_)
   rw [af1 (by simp)]
   exact afT ⟨rfl, rfl, x + 1, Yw, g6⟩
 . rintro q s' ⟨rfl, rfl, i, hr, hi⟩
   exact afT h
theorem eqH {a b : Addr} {xa xb : List (K × Addr × Value)} {Q : Value -> Shared -> Prop} (ha : (a == sysModules) = false) (hb : (b == sysModules) = false) (da : s.heap.DictOfH knd a xa) (db : s.heap.DictOfH knd b xb) (hr : knd.room A.in1) (hu : A.units < cLine) (hlen : xa.length = xb.length)
   (hits : ∀ x ∈ xa, ∃ (j : Nat) (q : Addr × Value), xb[j]? = some (x.1, q) /\ SeqAt.EqAt A.in1 s x.2.2 q.2 true) (h : Q (.bool true) s) : wpAny (model prog w) A (compareOp .Eq (.ref a) (.ref b)) Q E s := by
 refine wpAny_richCompare_same_room (op := .Eq) da.typeIs db.typeIs PySem.F.slot_dict_eq (agI PySem.F.slot_dict_eq da.typeIs PySem.F.entry_dict_eq ?_ (PySem.F.args_dict_eq_2 _ _)) hu
 show wpAny _ _ (Builtin.Dict.dictSlotArgs "__eq__" ⟨[.ref a, .ref b], []⟩ >>= _) _ _ s
 refine afN ?_
 unfold Builtin.Dict.dictSlotArgs
 refine afN (ahV da.typeIs ?_)
 show wpAny _ _ (pure (Value.ref a, Value.ref b)) _ _ s
 refine afT ?_
 refine afN (ahW (T := "dict") db.typeIs PySem.F.sub_dict_dict ?_)
 simp only [Bool.not_true, ahj, ahl]
 refine afN (afT (afN (afT ?_)))
 refine afN (Uj ha hb da db hr hlen hits ?_)
 refine afT ⟨_, rfl, ?_, ?_⟩
 . exact fun x => nomatch x
 . simpa using h
end
end L2
namespace L3
open PySem PySem.Spec PyProof.Rows L2
section
variable {X : Cx} {CL : Str -> Addr}
theorem BP {H : Hp} {gs : List (List Key × V)} {xs : List (List Key × Addr × Value)} (rel : Paired (fun p q => p.1 = q.1 /\ H q.2.1 = some (.tup (p.1.map kV)) /\ RelV p.2 q.2.2) gs xs) {j : Nat} {y : List Key × Addr × Value} (h : xs[j]? = some y) : ∃ p, gs[j]? = some p /\ p.1 = y.1 /\ RelV p.2 y.2.2 := by
 have hl := ahp rel
 have hj : j < gs.length := by rw [hl]; exact (af5.mp h).1
 obtain ⟨y', h1, h2, _, h3⟩ := Paired.Q0 rel (afR hj)
 rw [h] at h1
 cases h1
 exact ⟨_, afR hj, h2, h3⟩
theorem DJ (hu : X.A.units + 64 < cLine) : kY X (compareOp .Eq) (fun x y H Q => ∃ a c ga gc, x = .ref a /\ y = .ref c /\ Rd H a (.dT ga) /\ Rd H c (.dT gc) /\ ga.length = gc.length /\ (∀ (j : Nat) (p : List Key × V), ga[j]? = some p -> ∃ (v' : V) (d : D), gc[j]? = some (p.1, v') /\ ic 60 d /\ aU X.K CL H d p.2 /\ aU X.K CL H d v') /\ Q (.bl true) H) := by
 intro pins s σ H x y v u Q I rx ry h
 obtain ⟨a, c, ga, gc, rfl, rfl, ra, rc, hl, hits, q⟩ := h
 cases rx
 cases ry
 obtain ⟨_, hd, xs, rel, dd⟩ := nG I.c6 ra
 obtain ⟨_, hd2, ys, Yx, QF⟩ := nG I.c6 rc
 refine eqH hd hd2 dd QF (ahM (by omega)) (by omega) (by rw [← ahp rel, ← ahp Yx, hl]) (fun x hx => ?_) ⟨.bl true, H, I, rfl, q⟩
 obtain ⟨j, hj, e⟩ := List.getElem_of_mem hx
 obtain ⟨p, hp, p1, p2⟩ := BP rel (j := j) (y := x) (by rw [afR hj, e])
 obtain ⟨v', d, hv, WK, r1, r2⟩ := hits j p hp
 obtain ⟨y, hy, q1, _, q2⟩ := Paired.Q0 Yx hv
 obtain ⟨as, s1⟩ := qv I WK r1 p2
 obtain ⟨bs, s2⟩ := qv I WK r2 q2
 refine ⟨j, y.2, by rw [hy, ← p1]; exact congrArg some (Prod.ext q1.symm rfl), ?_⟩
 have := SeqAt.eqAt_reads d.toPy d.toPy X.A.in1 s _ _ as bs s1 s2 WK.lay.1 WK.lay.1 (by have := WK.lay.2; have e : X.A.in1.units = X.A.units + 1 := rfl; omega)
 rwa [show PyData.eqv d.toPy d.toPy = true from iL WK] at this
end
section
variable {X : Cx} {CL : Str -> Addr} {b : Bx} {δ δ1 δ2 : List (Option T)} {e e1 e2 : Expr} {t u : T} {p : List uM} {pos : Pos} {i : Nat} {q : Bool} {kvs : List (List Key × L3.D)}
theorem bN.Q0 {K : PySem.W.Frag} {Z : Hp} : ∀ {kvs : List (List Key × D)} {gs : List (List Key × V)}, bN K CL Z kvs gs -> ∀ {j : Nat} {x : List Key × V}, gs[j]? = some x -> ∃ d, kvs[j]? = some (x.1, d) /\ aU K CL Z d x.2 := fun {kvs gs} h => bN.ind (P := fun kvs gs => ∀ {j : Nat} {x : List Key × V}, gs[j]? = some x -> ∃ d, kvs[j]? = some (x.1, d) /\ aU K CL Z d x.2) (fun {j x} e => by simp at e) (fun {k d v _ _} r _ i {j x} e => by
   cases j with
   | zero =>
     simp at e
     subst e
     exact ⟨d, rfl, r⟩
   | succ j =>
     rw [List.getElem?_cons_succ] at e ⊢
     exact i e) h
theorem bN.pair {K : PySem.W.Frag} {Z : Hp} {gs L6 : List (List Key × V)} (r : bN K CL Z kvs gs) (r2 : bN K CL Z kvs L6) (hd : ∀ q ∈ kvs, ic 60 q.2) : gs.length = L6.length /\ ∀ (j : Nat) (p : List Key × V), gs[j]? = some p -> ∃ (v' : V) (d : D), L6[j]? = some (p.1, v') /\ ic 60 d /\ aU K CL Z d p.2 /\ aU K CL Z d v' := by
 have hl : gs.length = L6.length := by rw [← r.length, ← r2.length]
 refine ⟨hl, fun j p hp => ?_⟩
 obtain ⟨d, h1, h2⟩ := r.Q0 hp
 have hj : j < L6.length := by rw [← hl]; exact (af5.mp hp).1
 obtain ⟨d', h3, h4⟩ := r2.Q0 (afR hj)
 rw [h1] at h3
 injection h3 with h3
 injection h3 with h5 h6
 subst h6
 exact ⟨L6[j].2, d, by rw [afR hj, h5], hd _ (af8 h1), h2, h4⟩
theorem Nx (hu : X.A.units + 64 < cLine) (h1 : cL X CL b e1 δ (.dct kvs) δ1) (h2 : cL X CL b e2 δ1 (.dct kvs) δ2) (hd : ∀ q ∈ kvs, ic 60 q.2) : oS X CL b (.Compare e1 [.Eq] [e2] pos) δ true δ2 /\ bG X CL b (.Compare e1 [.Eq] [e2] pos) δ (.sh (.bl true)) δ2 := by
 constructor
 . intro H Z σ ts vs Q S k
   refine wU (oG (DJ (CL := CL) hu) b6 b6 (k8 _)) (h1 H Z σ ts vs _ S fun v1 H1 Z1 z1 TL S1 r1 => h2 H1 Z1 σ ts vs _ S1 fun v2 H2 Z2 z2 Ij S2 r2 => ?_)
   have r1 := r1.mono Ij
   cases r1 with
   | @dct a gs _ ha rr =>
     cases r2 with
     | @dct c L6 _ hc A5 =>
       obtain ⟨q1, q2⟩ := rr.pair A5 hd
       exact ⟨a, c, gs, L6, rfl, rfl, ha, hc, q1, q2, _, rfl, k H2 Z2 (z1.trans z2) (TL.trans Ij) S2⟩
 . intro H Z σ ts vs Q S k
   refine bO (oF (DJ (CL := CL) hu) b6 b6 (k8 _)) (h1 H Z σ ts vs _ S fun v1 H1 Z1 z1 TL S1 r1 => h2 H1 Z1 σ ts vs _ S1 fun v2 H2 Z2 z2 Ij S2 r2 => ?_)
   have r1 := r1.mono Ij
   cases r1 with
   | @dct a gs _ ha rr =>
     cases r2 with
     | @dct c L6 _ hc A5 =>
       obtain ⟨q1, q2⟩ := rr.pair A5 hd
       exact ⟨a, c, gs, L6, rfl, rfl, ha, hc, q1, q2, k _ H2 Z2 (z1.trans z2) (TL.trans Ij) (S2.push (.bl _))⟩
theorem Uk {kvs : List (List Key × T)} (k : List Key) (hu : X.A.units + 64 < cLine) (h : IX X CL b e δ i p) (hi : δ[i]? = some (some t)) (hg : T.jU p t = some (.dct kvs)) (h2 : cL X CL b e2 δ (vQ k) δ) (hk : eY kvs k = some u) (hs : wO e2 := by exact fun _ _ => rfl) : IX X CL b (.Subscript e e2 pos) δ i (p ++ [.key k]) := fun H Z σ ts vs Q S kk =>
 bO (DI (by omega) b6 b6 hs) (h H Z σ ts vs _ S fun v0 v H' Z' z1 s1 S' ev g8 => h2 H' Z' σ ts vs _ S' fun v2 H2 Z2 z2 s2 S2 r2 => by
   have at2 := g8.mono s2
   obtain ⟨w, f2, at', r⟩ := S2.IW ev hi hg
   have := at'.inj at2
   subst this
   unfold vQ at r2
   cases r2 with
   | tup hq rk =>
     rw [nW rk] at hq
     cases r with
     | @dct a gs _ g ha rs =>
       obtain ⟨w, _, _, _, hw, _, _, _⟩ := rs.G3 hk
       exact ⟨a, w, gs, k, _, rfl, rfl, .inl ha, hq, hw, kk v0 w H2 Z2 (z1.trans z2) (s1.trans s2) S2 ev (at2.snoc ⟨a, gs, rfl, ha, hw⟩)⟩)
end
namespace Dk
section
variable {prog : Program} {w : World} {A : Around} {E : Value -> Shared -> Prop} {s : Shared} {it d : Addr} {i ep : Nat} {es : Array DictEntry} {od : Obj} {ok ov : Value}
theorem FI {Q : Value -> Shared -> Prop} (hd : (d == sysModules) = false) (hT : s.TypeIs (.ref d) "dict") (hQ : Q (.ref s.heap.objs.size) { s with heap := s.heap.push { cls := .type "dict_items", data := .fields #[.ref d] } }) : wpAny (model prog w) A (call (.builtin "dict.items") [.ref d]) Q E s := by
 refine agI PySem.F.slot_dict_items hT PySem.F.entry_dict_items ?_ (PySem.F.args_dict_items_1 _)
 unfold Builtin.«dict.items» Builtin.Dict.noArgs
 refine afN (afN (ahV hT (show wpAny _ _ (pure d) _ _ s from afT ?_)))
 show wpAny _ _ (Builtin.Dict.showsAll d >>= _) _ _ s
 unfold Builtin.Dict.showsAll
 rw [af1 (by rw [hd]; exact af4)]
 exact afN (afT (afN (agP (afT ⟨_, rfl, hQ⟩))))
theorem BQ {v : Addr} {Q : Value -> Shared -> Prop} (hv : s.heap.IsItemsView v d) (ho : s.heap.get? d = some od) (lE : od.data = .dict es ep)
   (hQ : Q (.ref s.heap.objs.size) { s with heap := s.heap.push { cls := .type "dict_itemiterator", data := .fields #[.none, .bool false, .ref d, .int 0 0, .int es.size 0, .int ep 0, .none, .none] } }) : wpAny (model prog w) A (pyIter (.ref v)) Q E s := by
 obtain ⟨ow, hov, hcv, hdv⟩ := id hv
 refine wpAny_pyIter_slot hv.typeIs PySem.F.slot_dict_items_iter (agI PySem.F.slot_dict_items_iter hv.typeIs PySem.F.entry_dict_items_iter (afN (afT (afN ?_))) (PySem.F.args_dict_items_iter_1 _))
 unfold Builtin.Dict_items.dictOf
 refine afN (ahe hov hdv (x := .ref d) rfl (afT (afN ?_)))
 unfold Builtin.Dict_items.newIterator
 refine afN (agU ho lE (afN (ahz ho lE ?_)))
 simp only [show Builtin.Dict_items.ownsTuple "dict_itemiterator" = true by decide, ahS]
 exact wpAny_newObj_type (wpAny_pure ⟨_, rfl, "dict_itemiterator", _, ⟨_, Heap.get?_push_size _ rfl, rfl⟩, PySem.F.slot_dict_itemiterator_next.lookup, by simpa [rawInt, Builtin.Dict_items.ownedTupleFields] using hQ⟩) (by simp only [sizeOk, Builtin.Dict_items.ownedTupleFields, List.size_toArray, List.length_append, List.length_cons, List.length_nil, sizeLine_eq]; omega)
theorem BR {Q : Option Value -> Shared -> Prop} (hit : IsItemIter s.heap it d i es.size ep ok ov) (I0 : s.heap.get? d = some od) (Ja : od.data = .dict es ep) {e : DictEntry} (hx : es[i]? = some e)
   (hQ : ∀ h', IsItemIterOut h' it d (i + 1) es.size ep e.key e.val s.heap.objs.size -> h'.get? s.heap.objs.size = some { cls := .type "tuple", data := .seq #[e.key, e.val] } -> (∀ b o, b ≠ it -> s.heap.get? b = some o -> h'.get? b = some o) -> Q (some (.ref s.heap.objs.size)) { s with heap := h' }) :
   wpAny (model prog w) A (pyNext (.ref it)) Q E s := by
 obtain ⟨hp, g, dr, tk, os⟩ := s
 have hT : Shared.TypeIs ⟨hp, g, dr, tk, os⟩ (.ref it) "dict_itemiterator" := ⟨_, hit, rfl⟩
 have BO : Builtin.Dict_items.ownsTuple "dict_itemiterator" = true := by decide
 unfold pyNext
 refine afN (ahJ (agW (name := Str.ofString "__next__") hT ag9 (agI ag9 hT PySem.F.entry_dict_itemiterator_next (afN (afT ?_)) (PySem.F.args_dict_itemiterator_next_1 _))))
 refine afN (afN (afN (ahn hT (afT (afN (wpAny_fieldsOf hit rfl ?_))))))
 simp only [BO, ahS]
 show wpAny _ _ (if (Value.ref d == Value.none) = true then _ else _) _ _ (⟨hp, g, dr, tk, os⟩ : Shared)
 rw [af1 (show ¬ ((Value.ref d == Value.none) = true) from af4)]
 refine afN (afT (afN (agU I0 Ja ?_)))
 rw [af1 (by simp)]
 refine afN (afT (afN (ahz I0 Ja ?_)))
 rw [af1 (by simp)]
 refine afT ?_
 obtain ⟨g6, he⟩ := ah0.mp hx
 simp only [show ¬ ((i : Int) < 0) from by omega, ahl, agp, ah4 g6]
 refine afN (afN (ahn hT (afT (afN (wpAny_isOneOf_itemiter hT ?_)))))
 show wpAny _ _ (setField (.ref it) 3 (rawInt ((i : Int) + 1)) >>= _) _ _ (⟨hp, g, dr, tk, os⟩ : Shared)
 refine afN (ahP hit (by simp) fun h₁ DK DL => ?_)
 have DL : Heap.SameBut it hp h₁ := DL
 have DK : IsItemIter h₁ it d (i + 1) es.size ep ok ov := by
   have e : ((i + 1 : Nat) : Int) = (i : Int) + 1 := by omega
   unfold IsItemIter
   rw [e]
   simpa [rawInt] using DK
 have Q5 : Shared.TypeIs ⟨h₁, g, dr, tk, os⟩ (.ref it) "dict_itemiterator" := ⟨_, DK, rfl⟩
 refine afN (ahf (afN (wpAny_isOneOf_itemiter Q5 (afN (wpAny_isOneOf_itemiter Q5 ?_)))))
 rw [he]
 show wpAny _ _ (Builtin.Dict_items.pairFromOwner (.ref it) 6 e.key e.val) _ _ (⟨h₁, g, dr, tk, os⟩ : Shared)
 unfold Builtin.Dict_items.pairFromOwner
 refine afN (wpAny_newTuple ?_)
 have Al : IsItemIter (h₁.push { cls := .type "tuple", data := .seq #[e.key, e.val] }) it d (i + 1) es.size ep ok ov := af7 _ DK
 have Q6 : h₁.objs.size = hp.objs.size := DL.1
 have hil : it < hp.objs.size := agj hit
 have Q7 : (h₁.push { cls := .type "tuple", data := .seq #[e.key, e.val] }).get? hp.objs.size = some { cls := .type "tuple", data := .seq #[e.key, e.val] } := by rw [← Q6]; exact agl _ rfl
 have Q8 : ∀ b o, b ≠ it -> hp.get? b = some o -> (h₁.push { cls := .type "tuple", data := .seq #[e.key, e.val] }).get? b = some o := fun b o hb q => af7 _ (DL.extBut b o hb q)
 generalize h₁.push { cls := .type "tuple", data := .seq #[e.key, e.val] } = h₂ at Al Q7 Q8 ⊢
 show wpAny _ _ (Builtin.Dict_items.ownedTupleIsFree (.ref it) >>= _) _ _ (⟨h₂, g, dr, tk, os⟩ : Shared)
 rw [Q6]
 refine afN ?_
 unfold Builtin.Dict_items.ownedTupleIsFree
 refine afN (ahe Al rfl (x := .none) rfl (afT ?_))
 simp only [ahS]
 refine afN (ahe Al rfl (x := ok) rfl (afN (ahe Al rfl (x := ov) rfl ?_)))
 refine afN (ahP Al (by simp) fun h₃ Jf Jg => ?_)
 have Jg : Heap.SameBut it h₂ h₃ := Jg
 have Jf : IsItemIter h₃ it d (i + 1) es.size ep e.key ov := Jf
 refine afN (ahP Jf (by simp) fun h₄ Jh Ji => ?_)
 have Ji : Heap.SameBut it h₃ h₄ := Ji
 have Jh : IsItemIter h₄ it d (i + 1) es.size ep e.key e.val := Jh
 refine afN (ahP Jh (by simp) fun h₅ Jj Jk => ?_)
 have Jk : Heap.SameBut it h₄ h₅ := Jk
 have Jj : IsItemIterOut h₅ it d (i + 1) es.size ep e.key e.val hp.objs.size := Jj
 refine afN (ahP Jj (by simp) fun h₆ Jl Jm => ?_)
 have Jm : Heap.SameBut it h₅ h₆ := Jm
 have Jl : IsItemIterOut h₆ it d (i + 1) es.size ep e.key e.val hp.objs.size := Jl
 have fin : ∀ b o, b ≠ it -> h₂.get? b = some o -> h₆.get? b = some o := fun b o hb q => Jm.extBut b o hb (Jk.extBut b o hb (Ji.extBut b o hb (Jg.extBut b o hb q)))
 exact afN (wpAny_letGo (afT (afT ⟨_, rfl, afT (hQ h₆ Jl (fin _ _ (Nat.ne_of_gt hil) Q7) fun b o hb q => fin b o hb (Q8 b o hb q))⟩)))
theorem FJ {Q : Option Value -> Shared -> Prop} (hh : A.handled = none) (hit : IsItemIter s.heap it d i es.size ep ok ov) (I0 : s.heap.get? d = some od) (Ja : od.data = .dict es ep) (hx : es.size <= i)
   (hQ : ∀ h', Heap.ExtBut it s.heap h' -> Q none { s with heap := h' }) : wpAny (model prog w) A (pyNext (.ref it)) Q E s := by
 have hT : s.TypeIs (.ref it) "dict_itemiterator" := ⟨_, hit, rfl⟩
 have BO : Builtin.Dict_items.ownsTuple "dict_itemiterator" = true := by decide
 unfold pyNext
 refine afN (ahJ (agW (name := Str.ofString "__next__") hT ag9 (agI ag9 hT PySem.F.entry_dict_itemiterator_next (afN (afT ?_)) (PySem.F.args_dict_itemiterator_next_1 _))))
 refine afN (afN (afN (ahn hT (afT (afN (wpAny_fieldsOf hit rfl ?_))))))
 simp only [BO, ahS]
 show wpAny _ _ (if (Value.ref d == Value.none) = true then _ else _) _ _ s
 rw [af1 (show ¬ ((Value.ref d == Value.none) = true) from af4)]
 refine afN (afT (afN (agU I0 Ja ?_)))
 rw [af1 (by simp)]
 refine afN (afT (afN (ahz I0 Ja ?_)))
 rw [af1 (by simp)]
 refine afT ?_
 simp only [show ¬ ((i : Int) < 0) from by omega, ahl, agp, Array.getElem?_eq_none hx]
 refine afN (afN (ahn hT (afT ?_)))
 show wpAny _ _ (setField (.ref it) 2 .none >>= _) _ _ s
 refine afN (ahT hit rfl (by simp) ?_)
 show wpAny _ _ (newExc (.type "StopIteration") [] >>= _) _ _ _
 refine afN ?_
 simp only [newExc, newTuple]
 refine afN (agP (afN (m := firstArgMember _ _) (wpAny_of_eq (a := Value.none) (by first | rfl | (simp only [firstArgMember]; rfl)) (agP ?_ (by size_fits)))) (by size_fits))
 simp only [raiseNew]
 refine afN (wpAny_handled ?_)
 rw [show A.in1.handled = none from hh]
 refine afN (afT (wpAny_throw ?_))
 exact afN (ahW (T := "StopIteration") (b := true) ⟨_, agl _ rfl, rfl⟩ isSubtype_stop (afT (hQ _ (((ag2 ..).extBut.push _).push _))))
end
end Dk
noncomputable def Iti (a : Addr) (o : Obj) (gs : List (List Key × V)) : It :=
 ⟨fun i H => i < gs.length /\ H a = some (.bK o (.dT gs)), fun i H x H' => ∃ T b k v, H T = none /\ x = .ref T /\ gs[i]? = some (k, v) /\ H b = some (.tup (k.map kV)) /\ H' = upd H T (.tup [.ref b, v]), fun i H => gs.length <= i /\ H a = some (.bK o (.dT gs))⟩
theorem BU {P : Program} {w : World} {K : PySem.W.Frag} {elts : List Expr} {kk : Nat} {pt : Pos} {a it : Addr} {o : Obj} {gs : List (List Key × V)} {es : Array DictEntry} {ep : Nat} (lE : o.data = .dict es ep) : Turn P w K (.Tuple elts kk pt) (Iti a o gs) [it] it (fun i h => ∃ ok ov, IsItemIter h it a i es.size ep ok ov) where
 mem := by simp
 obj := fun i h st b hb => by
   obtain ⟨ok, ov, he⟩ := st
   have e : b = it := by simpa using hb
   subst e
   exact ⟨_, he, fun v z => by
     have z' : Data.fields _ = Data.cell v := z
     cases z'⟩
 keep := fun i h h' st k => by
   obtain ⟨ok, ov, he⟩ := st
   exact ⟨ok, ov, k it (by simp) _ he⟩
 item := by
   intro X hP hw hK hc i pins s σ H E I hf st hg
   subst hP hw hK
   obtain ⟨g6, ha⟩ := hg
   obtain ⟨e, z, y, xs, r, o', GX, Qu, e', c, d, Np, nd⟩ := (show cV X.prog X.w H s.heap a (.bK o (.dT gs)) from I.c6 a _ ha)
   rw [e] at e'
   cases e'
   rw [lE] at d
   cases d
   obtain ⟨ok, ov, he⟩ := st
   have fi := hf it (by simp)
   have hT0 : H s.heap.objs.size = none := I.c6.fresh (af3 _)
   have fT := I.A9 (af3 s.heap.objs.size) hT0
   obtain ⟨q, hq, q1, q2, q3⟩ := Paired.Q0 r (i := i) (x := gs[i]) (afR g6)
   have hx : es[i]? = some (entryOfKey (tupleKind (dS X.prog X.w)) q) := by
     rw [← ahU, Np, af2, hq]
     rfl
   refine Dk.BR he e lE hx fun h' ho hT hk => ⟨_, rfl, ?_⟩
   refine PySem.wpAny_letOwnedTupleGo_items ho fun h2 he2 Ht => ?_
   have Ht : Heap.SameBut it h' h2 := Ht
   have eT : it < s.heap.objs.size := agj he
   have keep : ∀ b ob, b ≠ it -> s.heap.get? b = some ob -> h2.get? b = some ob := fun b ob h1 q => (Ht.2 b h1).trans (hk b ob h1 q)
   have hT2 : h2.get? s.heap.objs.size = some { cls := .type "tuple", data := .seq #[.ref q.2.1, q.2.2] } := (Ht.2 _ (Nat.ne_of_gt eT)).trans hT
   have nH : ∀ b ob, H b = some ob -> b ≠ it /\ b ≠ s.heap.objs.size := fun b ob q => ⟨fun z => (by rw [z, fi.1] at q; cases q), fun z => (by rw [z, hT0] at q; cases q)⟩
   have I' : L2.Inv X pins σ (upd H s.heap.objs.size (.tup [.ref q.2.1, gs[i].2])) { s with heap := h2 } := by
     refine I.step (g' := s.gens) (d' := s.drawn) (ch := [it, s.heap.objs.size]) (fun b hb => ?_) (fun b ob _ _ hc q _ => ?_) (fun b ob _ _ hc q _ => ⟨ob.slots, ?_⟩) (fun b ob hc q n => ?_) (fun b ob hc q => ⟨ob, ?_⟩) (fun b ys q => ?_) (fun b ob u q => ?_) (fun b ps q => ⟨#[], ?_⟩) (fun m hm => ?_) (fun b ob q => ?_) I.bare
     . rcases afX.mp hb with z | hb
       . subst z; exact ⟨fi.2.2.2.1, fi.2.1, fi.2.2.2.2.1, fi.2.2.2.2.2⟩
       . have z : b = s.heap.objs.size := by simpa using hb
         subst z; exact ⟨fT.2.2.2.1, fT.2.1, fT.2.2.2.2.1, fT.2.2.2.2.2⟩
     . exact keep b ob (fun z => hc (by simp [z])) q
     . exact keep b ob (fun z => hc (by simp [z])) q
     . rw [ao (fun z => hc (by simp [z]))]; exact n
     . exact keep b ob (fun z => hc (by simp [z])) q
     . rw [ao (nH b _ q).2]; exact q
     . rw [ao (nH b _ q).2]; exact q
     . rw [ao (nH b _ q).2, q]; simp
     . obtain ⟨ob, es, ep, ho, r⟩ := hm
       exact ⟨ob, es, ep, keep _ ob (Ne.symm fi.2.1) ho, r⟩
     . by_cases hb : b = s.heap.objs.size
       . subst hb
         rw [az] at q
         cases q
         exact ⟨ahd (gw (afV rfl)), [.ref _, _], .cons rfl (.cons q3 .nil), ⟨_, hT2, rfl, _, rfl⟩⟩
       . rw [ao hb] at q
         refine (I.c6 b ob q).uP (fun c v hc z => keep c v ?_ z) (fun c z => by rw [ao (nH c _ z).2]; exact z) (fun c ys z => by rw [ao (nH c _ z).2]; exact z) fun c ys z => by rw [ao (nH c _ z).2]; exact z
         rcases hc with z | z
         . rw [z]; exact (nH b _ q).1
         . exact (nH c _ z).1
   refine ⟨.ref s.heap.objs.size, _, I', rfl, ⟨_, q.2.1, gs[i].1, gs[i].2, hT0, rfl, afR g6, q2, rfl⟩, ⟨_, _, he2⟩, fun b hb => ?_⟩
   have z : b = it := by simpa using hb
   subst z
   rw [ao (agG eT)]
   exact fi.1
 done := by
   intro X hP hw hK hc i pins s σ H E I hf st hg
   subst hP hw hK
   obtain ⟨hge, ha⟩ := hg
   obtain ⟨e, z, y, xs, r, o', GX, Qu, e', c, d, Np, nd⟩ := (show cV X.prog X.w H s.heap a (.bK o (.dT gs)) from I.c6 a _ ha)
   rw [e] at e'
   cases e'
   rw [lE] at d
   cases d
   obtain ⟨ok, ov, he⟩ := st
   obtain ⟨f0, f1, f2, f3, f4, f5⟩ := hf it (by simp)
   have hl := ahp r
   have hsz : es.size = xs.length := by rw [← ahs, Np, afO]
   exact Dk.FJ (I.ok.hd hc) he e lE (by omega) fun h' eb => ⟨rfl, I.turned (t' := s.toks) (fun b ob hb e => eb b ob hb e) f0 f1 f3 f4 f5⟩
 self := fun _ _ _ _ _ st h => by
   obtain ⟨ok, ov, he⟩ := st
   exact PySem.W.kcp_self he h
noncomputable def abS (X : Cx) (te : TE) : TI := fun σ H R => te σ H fun x H1 => ∃ a gs, x = .ref a /\ ((H1 a = some (.dT gs) /\ ∀ o, (∀ ob q, X.H₀ a ≠ some (.bK ob q)) -> R (Iti a o gs) (upd H1 a (.bK o (.dT gs)))) \/ ∃ o, H1 a = some (.bK o (.dT gs)) /\ R (Iti a o gs) H1)
theorem Jo {X : Cx} {e : Expr} {te : TE} {elts : List Expr} {kk : Nat} {pt apos kR : Pos} (he : PE X e te) (fP : attributeBase e "items" X.env (eval e X.env) = eval e X.env := by rfl) (hline : (apos.endLine == kR.line) = true := by rfl) : PI X (.Tuple elts kk pt) (.Call (.Attribute e "items" apos) [] [] kR) (abS X te) := by
 intro pins s σ H R I h
 refine wpAny_Call_method0_late fP hline (cR (he pins s σ H _ I h) fun v s1 zz => ?_)
 obtain ⟨x, H1, I1, r1, a, gs, ex, q⟩ := zz
 subst ex
 cases r1
 have main : ∀ (H2 : Hp) (o : Obj), L2.Inv X pins σ H2 s1 -> H2 a = some (.bK o (.dT gs)) -> R (Iti a o gs) H2 -> wpAny (model X.prog X.w) X.A (call (.builtin "dict.items") [.ref a]) (fun v s1 => wpAny (model X.prog X.w) X.A (pyIter v) (Xa X pins σ (.Tuple elts kk pt) R) X.xe s1) X.xe s1 := fun H2 o I2 ha hR => by
   obtain ⟨e, z, y, xs, r, o', es, ep, e', c, d, Np, nd⟩ := (show cV X.prog X.w H2 s1.heap a (.bK o (.dT gs)) from I2.c6 a _ ha)
   rw [e] at e'
   cases e'
   obtain ⟨_, _, _, _, dd⟩ := nG I2.c6 (.inr ⟨o, ha⟩)
   refine Dk.FI y dd.typeIs (Dk.BQ (s := { s1 with heap := s1.heap.push _ }) ⟨_, agl _ rfl, rfl, rfl⟩ (af7 _ e) d ?_)
   have hz : (s1.heap.push { cls := .type "dict_items", data := .fields #[.ref a] }).objs.size = s1.heap.objs.size + 1 := Heap.size_push ..
   refine ⟨s1.heap.objs.size + 1, [s1.heap.objs.size + 1], _, _, H2, by rw [← hz], I2.kept (t' := s1.toks) fun b ob e => af7 _ (af7 _ e), BU d, ⟨.none, .none, by rw [← hz]; exact agl _ rfl⟩, fun b hb => ?_, hR⟩
   have e : b = s1.heap.objs.size + 1 := by simpa using hb
   subst e
   exact I2.A9 (Nat.le_succ _) (I2.c6.fresh (Nat.le_succ _))
 have go : wpAny (model X.prog X.w) X.A (call (.builtin "dict.items") [.ref a]) (fun v s1 => wpAny (model X.prog X.w) X.A (pyIter v) (Xa X pins σ (.Tuple elts kk pt) R) X.xe s1) X.xe s1 := by
   rcases q with ⟨ha, q⟩ | ⟨o, ha, q⟩
   . obtain ⟨o, e, hz, I2⟩ := I1.Ys ha
     exact main _ o I2 az (q o hz)
   . exact main _ o I1 ha q
 have hr : Rd H1 a (.dT gs) := by
   rcases q with ⟨ha, _⟩ | ⟨o, ha, _⟩
   . exact .inl ha
   . exact .inr ⟨o, ha⟩
 obtain ⟨_, _, _, _, dd⟩ := nG I1.c6 hr
 have Bq := dd
 obtain ⟨ob, GX, ep, h1, h2, h3, h4, h5⟩ := Bq
 exact ⟨"dict", "dict.items", PySem.F.plainAttrs_dict, PySem.F.slot_dict_items, PySem.F.type_dict_items, dd.typeIs, fun a' e' => ⟨ob, by cases e'; exact h1, h2.2.1⟩, Calls.callWith_builtin rfl (PySem.evalArgs_none go)⟩
section
variable {X : Cx} {CL : Str -> Addr} {kvs : List (List Key × L3.D)} {gs : List (List Key × V)}
theorem bN.conv {Z Z' : Hp} (e : Conv Z Z') (h : bN X.K CL Z kvs gs) : bN X.K CL Z' kvs gs := bN.ind (P := fun kvs gs => bN X.K CL Z' kvs gs) .nil (fun r _ i => .cons (r.conv e) i) h
end
end L3
namespace L2
open PySem PySem.Spec PyProof.Rows
section
variable {prog : Program} {w : World} {A : Around} {E : Value -> Shared -> Prop} {s : Shared}
theorem oY {t sl : Addr} {items : Array Value} {vl vu : Value} {lo hi : Option Int} {Q : Value -> Shared -> Prop} (ht : IsTup s.heap t items) (hs : s.heap.IsSliceOf sl vl vu .none) (pl : IsPart vl lo) (pu : IsPart vu hi)
   (hw : HT.eZ items.size 0 lo = 0 /\ HT.eZ items.size items.size hi = items.size) (h : Q (.ref t) s) : wpAny (model prog w) A (getItem (.ref t) (.ref sl)) Q E s := by
 obtain ⟨os, MB, ZS, Xw⟩ := id hs
 have hTs : s.TypeIs (.ref sl) "slice" := ⟨os, MB, ZS⟩
 unfold getItem
 try with_reducible refine ahf ?_
 first | refine afN (afT ?_) | skip
 refine afN (wpAny_sequenceKey ht.typeIs (by decide) ?_)
 refine afN (agW (name := Str.ofString "__getitem__") ht.typeIs agV
   (agI agV ht.typeIs entry_tuple_getitem ?_ (args_tuple_getitem _ _)))
 show wpAny _ _ (Builtin.Tuple.tupleItemsOf (.ref t) >>= _) _ _ s
 refine afN (tupleItemsOf_ ht ?_)
 refine afN (wpAny_typeOf hTs ?_)
 rw [agb (by decide)]
 refine afN (HT.jx hs pl pu ?_)
 show wpAny _ _ (if (((HT.eZ items.size 0 lo : Nat) : Int) == 0 && (1 : Int) == 1 && (HT.eZ items.size items.size hi - HT.eZ items.size 0 lo) == items.size) = true then _ else _) _ _ s
 rw [hw.1, hw.2]
 rw [agb (by simp)]
 unfold Builtin.Tuple.tupleIsExact
 refine afN (afN (wpAny_typeOf ht.typeIs (afT ?_)))
 rw [agb (by decide)]
 exact afN (wpAny_rule (afT ⟨_, rfl, afT h⟩))
end
section
variable {X : Cx}
noncomputable def abT (K : PySem.W.Frag) : V -> Option Int -> Option Int -> Hp -> VK -> Prop := fun x lo hi H Q => ∃ a xs, x = .ref a /\ kN K H a xs ∧
 ((HT.eZ xs.length 0 lo = 0 /\ HT.eZ xs.length xs.length hi = xs.length) -> Q (.ref a) H) /\ (¬ (HT.eZ xs.length 0 lo = 0 /\ HT.eZ xs.length xs.length hi = xs.length) -> ∀ p, H p = none -> Q (.ref p) (upd H p (.tup (wH xs lo hi))))
theorem Ny : Xy X (abT X.K) := by
 intro pins s σ H x v vl vu lo hi sl Q I rx hs pl pu h
 obtain ⟨a, xs, rfl, hx, q1, q2⟩ := h
 by_cases hw : HT.eZ xs.length 0 lo = 0 /\ HT.eZ xs.length xs.length hi = xs.length
 . cases rx
   obtain ⟨its, r, ht, hz⟩ := I.tuple hx
   have hlen : its.toArray.size = xs.length := by rw [agi]; exact r.length.symm
   refine ⟨"tuple", _, agV.lookup, ht.typeIs, ?_⟩
   exact oY ht hs pl pu (by rw [hlen]; exact hw) ⟨.ref a, _, I, rfl, q1 hw⟩
 . exact Sz pins s σ H _ v vl vu lo hi sl Q I rx hs pl pu ⟨a, xs, rfl, hx, hw, q2 hw⟩
theorem FL (hc : X.calm = true) : iH X (.type "set") (fun xs H Q => ∃ (p : Addr) (ns : List Int), xs = [.ref p] /\ k6 X.K H p (ns.map V.int) /\ ns.length <= 1000 /\ ∀ l, H l = none -> Q (.ref l) (upd H l (.ext (L3.IL X.prog X.w l (firstMet (fun i => ns.getD i 0) ns.length).length)))) := by
 intro pins s σ H xs us Q I r h
 obtain ⟨p, ns, rfl, hp, hn, q⟩ := h
 obtain ⟨u, rfl, ru⟩ := vals1 r
 cases ru
 obtain ⟨its, rv, pl, hz⟩ := I.list hp
 have hl : its.length = ns.length := by rw [← rv.length, afO]
 refine call_set_list (ns := ns) (I.ok.hd hc) pl.isList (by simpa using L3.Ah rv) (by rw [List.size_toArray, hl]; unfold scanBound; omega) fun h' tk hS hk => ?_
 have ek : ∀ b o, s.heap.get? b = some o -> h'.get? b = some o := fun b o e => hk b o (agj e) e
 have hS2 : L3.IL X.prog X.w s.heap.objs.size (firstMet (fun i => ns.getD i 0) ns.length).length h' := by
   have e1 : its.toArray.size = ns.length := by rw [agi, hl]
   rw [e1] at hS
   exact ⟨_, hS⟩
 refine ⟨.ref s.heap.objs.size, _, I.laid (t' := tk) (o := .ext (L3.IL X.prog X.w s.heap.objs.size (firstMet (fun i => ns.getD i 0) ns.length).length)) ek (af3 _) ⟨hS2, ?_, ?_⟩, rfl, q _ (I.c6.fresh (af3 _))⟩
 . obtain ⟨_, o, _, _, _, e, _⟩ := hS2
   exact ⟨o, e⟩
 . rintro h1 h2 ⟨S, o, es, ep, t, e, rest⟩ k
   exact ⟨S, o, es, ep, t, k o e, rest⟩
theorem DM (f : Nat -> Int) : ∀ k, (firstMet f k).length <= k
 | 0 => af3 _
 | k + 1 => by
   rw [firstMet_succ]
   have := DM f k
   unfold step_dedup
   split
   . omega
   . rw [afY]
     show _ + 1 <= _
     omega
theorem Am (f : Nat -> Int) : ∀ n, argBest (fun i j => decide (f i > f j)) n <= n /\ ∀ i, i <= n -> f i <= f (argBest (fun i j => decide (f i > f j)) n)
 | 0 => ⟨af3 _, fun i hi => by rw [Nat.le_zero.mp hi]; exact Int.le_refl _⟩
 | n + 1 => by
   obtain ⟨h1, h2⟩ := Am f n
   rw [argBest]
   split
   . rename_i h
     have h := agt h
     refine ⟨af3 _, fun i hi => ?_⟩
     rcases Nat.lt_or_ge i (n + 1) with z | z
     . have := h2 i (by omega)
       omega
     . rw [show i = n + 1 by omega]; exact Int.le_refl _
   . rename_i h
     have h : ¬ f (n + 1) > f (argBest (fun i j => decide (f i > f j)) n) := of_decide_eq_false (by simpa using h)
     refine ⟨by omega, fun i hi => ?_⟩
     rcases Nat.lt_or_ge i (n + 1) with z | z
     . exact h2 i (by omega)
     . rw [show i = n + 1 by omega]; omega
theorem FN (hc : X.calm = true) : iH X (.builtin "max") (fun xs H Q => ∃ (p : Addr) (ns : List Int) (m : Int), xs = [.ref p] /\ k6 X.K H p (ns.map V.int) /\ m ∈ ns /\ (∀ x ∈ ns, x <= m) /\ Q (.int m) H) := by
 intro pins s σ H xs us Q I r h
 obtain ⟨p, ns, m, rfl, hq, hm, hle, q⟩ := h
 obtain ⟨u, rfl, rx⟩ := vals1 r
 cases rx
 obtain ⟨its, r', pl, hz⟩ := I.list hq
 have hi := intsAre_of r'
 obtain ⟨xs, hx⟩ := hi.allInts.items
 have hn := hi.numsOf
 have hl := pl.isList
 rw [hx] at hl
 have e : its = (intItems xs).toList := by rw [← hx]
 rw [e, nums_intItems] at hn
 have hlen : xs.size = ns.length := by rw [← hn]; simp
 have An : 0 < xs.size := by rw [hlen]; exact List.length_pos_of_mem hm
 refine max_intList (I.ok.hd hc) hl An fun v h' tk hv hk => ⟨.int m, H, I.kept (t' := tk) hk, ?_, q⟩
 obtain ⟨b1, b2⟩ := Am (numAt xs) (xs.size - 1)
 obtain ⟨k, hk⟩ : ∃ k, k = argBest (fun i j => decide (numAt xs i > numAt xs j)) (xs.size - 1) := ⟨_, rfl⟩
 rw [← hk] at hv b1 b2
 have Ak : k < xs.size := by omega
 have Ul : ∀ j, numAt xs j = ns.getD j 0 := fun j => by rw [numAt_eq, hn]
 have abU : ns.getD k 0 = m := by
   have h1 : ns.getD k 0 <= m := hle _ (by
     rw [af6, afR (by omega)]
     exact ahh _)
   obtain ⟨j, hj⟩ := ahk.mp hm
   have DE := (af5.mp hj).1
   have h2 := b2 j (by omega)
   rw [Ul, Ul, af6, hj] at h2
   have h2 : m <= ns.getD k 0 := h2
   omega
 have hv2 : (intItems xs)[k]? = some (.int (xs[k]'Ak).1 (xs[k]'Ak).2) := by
   unfold intItems
   rw [Array.getElem?_map, ah4 Ak]
   rfl
 rw [hv2] at hv
 cases hv
 refine ⟨(xs[k]'Ak).2, ?_⟩
 have : (xs[k]'Ak).1 = m := by
   rw [← abU, ← Ul]
   unfold numAt
   simp [Ak]
 rw [this]
end
end L2
namespace L3
open PySem PySem.Spec PyProof.Rows L2
section
variable {X : Cx} {CL : Str -> Addr} {b : Bx} {δ δ1 δ2 δ3 : List (Option T)} {e : Expr} {ds : List L3.D} {pos p2 pp pr : Pos}
theorem tR {lo hi : Option Expr} {l h : Option Int} (h1 : bG X CL b e δ (.sh (.tup ds)) δ1) (h2 : QT X CL b lo δ1 l δ2) (h3 : QT X CL b hi δ2 h δ3) :
   bG X CL b (.Subscript e (.Slice lo hi none p2) pos) δ (.sh (.tup (cutD ds l h))) δ3 := fun H Z σ ts vs Q S k => by
 obtain ⟨t2, X8, w2⟩ := h2
 obtain ⟨t3, X9, w3⟩ := h3
 refine bO (tD Ny b6 X8 X9) (h1 H Z σ ts vs _ S fun v H1 Z1 z1 k1 S1 => w2 H1 Z1 σ _ _ _ S1 fun H2 Z2 z2 k2 S2 => w3 H2 Z2 σ _ _ _ S2 fun H3 Z3 z3 k3 S3 => ?_)
 have r := S3.lC
 have r0 := r
 cases r with
 | @tup a us _ hq rr =>
   refine ⟨a, us, rfl, aA.rS S3.zh hq, fun hw => ?_, fun hw p hp => ?_⟩
   . have hul : us.length = ds.length := rr.length.symm
     rw [hul] at hw
     have e : cutD ds l h = ds := by unfold cutD; rw [hw.1, hw.2, List.drop_zero]; exact List.take_of_length_le (by omega)
     rw [e] at k
     exact k _ _ Z3 (z1.trans (z2.trans z3)) (k1.trans (k2.trans k3)) S3
   . have rc := rr.cut l h
     obtain ⟨a, c, S4⟩ := (bf.oV rc S3.pop).wX (by simp [rc.length]) hp
     obtain ⟨Z5, z5, S5⟩ := S4.wV
     rw [T.bK, ia] at S5
     exact k _ _ Z5 (z1.trans (z2.trans (z3.trans (a.trans z5)))) (k1.trans (k2.trans (k3.trans c))) S5
theorem tS {ns : List Int} (g : Gx X) (hm : X.mg "len" = none) (hmr : X.mg "set" = none) (h : cL X CL b e δ (.lst (ns.map D.int)) δ1) (hn : ns.length <= 1000) (hg : Gl X "len") (hgr : Gl X "set") (hs : starEach [e] X.env = (false, eval e X.env) :: starEach [] X.env := by exact bD rfl) :
   bG X CL b (.Call (.Name "len" pp) [.Call (.Name "set" p2) [e] [] pr] [] pos) δ (.sh (.int (firstMet (fun i => ns.getD i 0) ns.length).length)) δ1 := fun H Z σ ts vs Q S k =>
 bO (iJ Ai hg hm PySem.boot_len (cu (gu (FL g.calm) hgr hmr FE (cu b6 dW hs) (he := hs)) dW (bD rfl)) (he := bD rfl)) (h H Z σ ts vs _ S fun v H1 Z1 z1 k1 S1 r => by
   cases r with
   | lst hq rr =>
   have eu := qB rr
   have hl := DM (fun i => ns.getD i 0) ns.length
   generalize hN : (firstMet (fun i => ns.getD i 0) ns.length).length = N at hl ⊢
   refine ⟨_, ns, rfl, by rw [← eu]; exact hq, hn, fun r hr => ?_⟩
   rw [hN]
   refine ⟨r, N, rfl, az, by omega, ?_⟩
   have same : aA H1 (upd H1 r (.ext (IL X.prog X.w r N))) := aA.upd hr
   obtain ⟨Z', z', S2⟩ := S1.back (t := .sh (.int N)) (v := .int N) (fp := []) (W := Z1) (W' := Z1) same (.refl _) (.refl _) (S1.zh.trans same) (fun a o q z => by rw [q] at z; cases z) (fun a o q im => by
     by_cases ha : a = r
     . subst ha; rw [az] at q; cases q; cases im
     . rw [ao ha] at q; exact S1.tp a o q im) (.sh (.int _)) ahi (fun a ha => by cases ha) (.inl rfl)
   rw [hN] at k
   exact k _ _ _ (z1.trans z') (k1.trans same) S2)
theorem rY {l : List Int} {m : Int} (g : Gx X) (hm : X.mg "max" = none) (h : cL X CL b e δ (.lst (l.map .int)) δ1) (Fv : m ∈ l) (hle : ∀ x ∈ l, x <= m) (hg : Gl X "max") (hs : starEach [e] X.env = (false, eval e X.env) :: starEach [] X.env := by exact bD rfl) : bG X CL b (.Call (.Name "max" pp) [e] [] pos) δ (.sh (.int m)) δ1 := fun H Z σ ts vs Q S k =>
 bO (iJ (FN g.calm) hg hm boot_max (cu b6 dW hs) (he := hs)) (h H Z σ ts vs _ S fun v H1 Z1 z1 k1 S1 r => by
   cases r with
   | @lst a us _ hq rr =>
     have := qB rr
     subst this
     exact ⟨a, l, m, rfl, hq, Fv, hle, k _ H1 Z1 z1 k1 (S1.push (.int _))⟩)
end
noncomputable instance aeJ : DecidableEq D := fun a b => Classical.propDecidable (a = b)
inductive gF : Nat -> D -> Prop where
 | int (n : Nat) (i : Int) : gF n (.int i)
 | str (n : Nat) (x : Str) (h : PyData.strOk x = true) : gF n (.str x)
 | tup {n : Nat} {ds : List D} (h : ∀ d ∈ ds, gF n d) : gF (n + 1) (.tup ds)
theorem gF.dep {n : Nat} {d : D} (h : gF n d) : ic n d := by
 induction h with
 | int n i => exact .int n i
 | str n x h => exact .str n x h
 | tup _ ih => exact .tup ih
mutual
inductive NV (h : Heap) : D -> Value -> Prop where
 | int (i : Int) (t : Tok) : NV h (.int i) (.int i t)
 | str (x : Str) (t : Tok) : NV h (.str x) (.str x t)
 | tup {a : Addr} {o : Obj} {its : Array Value} {m : Nat} {ds : List D} : h.get? a = some o -> o.cls = .type "tuple" -> o.data = .seq its m -> L7 h ds its.toList -> NV h (.tup ds) (.ref a)
inductive L7 (h : Heap) : List D -> List Value -> Prop where
 | nil : L7 h [] []
 | cons {d : D} {v : Value} {ds : List D} {vs : List Value} : NV h d v -> L7 h ds vs -> L7 h (d :: ds) (v :: vs)
end
theorem NV.reads {h : Heap} {d : D} {v : Value} (q : NV h d v) : ∃ as, Reads h v d.toPy as :=
 NV.rec (motive_1 := fun d v _ => ∃ as, Reads h v d.toPy as) (motive_2 := fun ds vs _ => ∃ as, ReadsAll h vs (D.cW ds) as)
   (fun i t => by rw [D.toPy]; exact ⟨[], .int i t⟩) (fun x t => by rw [D.toPy]; exact ⟨[], .str x t⟩)
   (fun e c dt _ ⟨as, ra⟩ => by rw [D.toPy]; exact ⟨as, .tuple e c dt ra⟩)
   (by rw [D.cW]; exact ⟨[], .nil⟩) (fun _ _ ⟨as, ra⟩ ⟨bs, rb⟩ => by rw [D.cW]; exact ⟨as ++ bs, .cons ra rb⟩) q
theorem NV.inj {h : Heap} {d : D} {v : Value} (q : NV h d v) : ∀ d2, NV h d2 v -> d = d2 :=
 NV.rec (motive_1 := fun d v _ => ∀ d2, NV h d2 v -> d = d2) (motive_2 := fun ds vs _ => ∀ d2, L7 h d2 vs -> ds = d2)
   (fun i t d2 q => by cases q; rfl) (fun x t d2 q => by cases q; rfl)
   (fun e c dt _ ih d2 q => by
     cases q with
     | tup e' c' dt' r' =>
       cases e.symm.trans e'
       cases dt.symm.trans dt'
       rw [ih _ r'])
   (fun d2 q => by cases q; rfl) (fun _ _ i1 i2 d2 q => by
     cases q with
     | cons a b => rw [i1 _ a, i2 _ b]) q
theorem NV.keeps {h h' : Heap} {d : D} {v : Value} {x : Addr} {o : Obj} {es : Array DictEntry} {ep : Nat} (q : NV h d v) (ho : h.get? x = some o) (hd : o.data = .dict es ep) (hs : Heap.SameBut x h h') : NV h' d v :=
 NV.rec (motive_1 := fun d v _ => NV h' d v) (motive_2 := fun ds vs _ => L7 h' ds vs) .int .str
   (fun {a} {o2} {its} {m} {ds} e c dt _ ih => .tup ((hs.2 a fun z => by subst z; cases ho.symm.trans e; rw [hd] at dt; cases dt).trans e) c dt ih)
   .nil (fun _ _ a b => .cons a b) q
theorem Nz {n : Nat} {a b : D} (ha : gF n a) : ∀ m, gF m b -> tK a b = decide (a = b) := by
 induction ha generalizing b with
 | int n i =>
   intro m hb
   unfold tK
   cases hb with
   | int _ j =>
     rw [D.toPy, D.toPy, PyData.eqv]
     by_cases e : i = j
     . rw [e, agM rfl, ahg]
     . rw [agm (fun z => e (by injection z)), agZ.mpr e]
   | str _ y _ => rw [D.toPy, D.toPy, PyData.eqv, agm (fun z => by cases z)]
   | tup _ => rw [D.toPy, D.toPy, PyData.eqv, agm (fun z => by cases z)]
 | str n x _ =>
   intro m hb
   unfold tK
   cases hb with
   | int _ j => rw [D.toPy, D.toPy, PyData.eqv, agm (fun z => by cases z)]
   | str _ y _ =>
     rw [D.toPy, D.toPy, PyData.eqv]
     by_cases e : x = y
     . rw [e, agM rfl, ahg]
     . rw [agm (fun z => e (by injection z)), agZ.mpr e]
   | tup _ => rw [D.toPy, D.toPy, PyData.eqv, agm (fun z => by cases z)]
 | @tup n xs hx ih =>
   intro m hb
   cases hb with
   | int _ j => unfold tK; rw [D.toPy, D.toPy, PyData.eqv, agm (fun z => by cases z)]
   | str _ y _ => unfold tK; rw [D.toPy, D.toPy, PyData.eqv, agm (fun z => by cases z)]
   | @tup m ys hy =>
     have all : ∀ (xs ys : List D), (∀ x ∈ xs, ∀ b m, gF m b -> tK x b = decide (x = b)) -> (∀ y ∈ ys, gF m y) -> PyData.eqvAll (D.cW xs) (D.cW ys) = decide (xs = ys) := by
       intro xs
       induction xs with
       | nil =>
         intro ys _ _
         cases ys with
         | nil => rw [D.cW, PyData.eqvAll, agM rfl]
         | cons _ _ => rw [D.cW, D.cW, PyData.eqvAll, agm (fun z => by cases z)]
       | cons x xs ihx =>
         intro ys h1 h2
         cases ys with
         | nil => rw [D.cW, D.cW, PyData.eqvAll, agm (fun z => by cases z)]
         | cons y ys =>
           have e1 : PyData.eqv x.toPy y.toPy = decide (x = y) := h1 x afP y m (h2 y afP)
           rw [D.cW, D.cW, PyData.eqvAll, e1, ihx ys (fun z hz => h1 z (afS _ hz)) fun z hz => h2 z (afS _ hz)]
           by_cases e : x = y
           . subst e
             by_cases e2 : xs = ys
             . subst e2; simp
             . simp [e2]
           . simp [e]
     unfold tK
     rw [D.toPy, D.toPy, PyData.eqv, all xs ys (fun x hx2 b m hb => ih x hx2 m hb) hy]
     by_cases e : xs = ys
     . subst e; rw [agM rfl, agM rfl]
     . rw [agm e, agm (fun z => e (by injection z))]
mutual
noncomputable def D.L8 : D -> Nat
 | .tup ds => D.oZ ds + 1
 | _ => 1
noncomputable def D.oZ : List D -> Nat
 | [] => 0
 | d :: ds => d.L8 + D.oZ ds
end
theorem Ao (w : World) : ∀ ds : List D, D.wR w ds = ds.map (D.E7 w)
 | [] => by rw [D.wR]; rfl
 | d :: ds => by rw [D.wR, Ao w ds]; rfl
theorem vV (d : D) : ∀ ds : List D, D.oZ (ds ++ [d]) = D.oZ ds + d.L8
 | [] => by rw [ahy, D.oZ, D.oZ, D.oZ]; omega
 | e :: ds => by rw [agq, D.oZ, D.oZ, vV d ds]; omega
section
variable {P : Program} {w : World} {A : Around} {E : Value -> Shared -> Prop}
theorem NB : ∀ (n : Nat) {A : Around} {E : Value -> Shared -> Prop} (hu : A.units + n < cLine) {d : D} {v : Value} {s : Shared} {Q : Int -> Shared -> Prop}, gF n d -> NV s.heap d v -> Q (d.E7 w) { s with toks := s.toks + d.L8 } -> wpAny (model P w) A (pyHash v) Q E s := by
 intro n
 induction n with
 | zero =>
   intro A E hu d v s Q nd q k
   cases q with
   | int i t => exact wpAny_pyHash_int (by rw [D.E7, D.L8] at k; exact k; intro _ z; cases z)
   | str x t => exact wpAny_pyHash_str (by rw [D.E7, D.L8] at k; exact k; intro _ z; cases z)
   | tup => cases nd
 | succ n ih =>
   intro A E hu d v s Q nd q k
   cases q with
   | int i t => exact wpAny_pyHash_int (by rw [D.E7, D.L8] at k; exact k; intro _ z; cases z)
   | str x t => exact wpAny_pyHash_str (by rw [D.E7, D.L8] at k; exact k; intro _ z; cases z)
   | @tup a o its m ds e c dt qs =>
     cases nd with
     | tup nd =>
       have ty : s.TypeIs (.ref a) "tuple" := ⟨o, e, c⟩
       rw [D.E7, D.L8] at k
       unfold pyHash
       first | unfold pyHashByItsType | skip
       first | refine afN (wpAny_cRoomFor_or (.inr (by omega)) (afN (ahN ty ahR.lookup ?_))) | refine afN (ahN ty ahR.lookup ?_)
       show wpAny _ A (ite ((some (Value.builtin "tuple.__hash__") == some Value.none) = true) _ _) Q E s
       rw [af1 (by rw [beq_builtin_none]; decide)]
       refine afN (ahN ty ahR.lookup (afN (wpAny_callSpecialIfBoundUnlessNone?_slot ty ahR (agI ahR ty F.entry_tuple_hash ?_ (F.args_tuple_hash_1 _)))))
       show wpAny _ _ (Builtin.Tuple.tupleItemsOf (.ref a) >>= fun _ => _) _ _ s
       refine afN (wpAny_tupleItemsOf e dt (afN ?_))
       rw [← Array.forIn_toList]
       refine wpAny_forIn_list _ (fun rest (g : Array Int) s1 => ∃ done left, ds = done ++ left /\ L7 s.heap left rest /\ g.toList = D.wR w done /\ s1 = { s with toks := s.toks + D.oZ done }) _ ?_ ?_ _ _ ⟨[], ds, rfl, qs, by rw [D.wR], by rw [D.oZ]; rfl⟩
       . rintro x rest g s1 ⟨done, left, rfl, ql, hg, rfl⟩
         cases ql with
         | @cons y _ left _ q1 ql =>
           have inv : ∃ Jp Q9, done ++ y :: left = Jp ++ Q9 /\ L7 s.heap Q9 rest /\ (g.push (y.E7 w)).toList = D.wR w Jp /\ ({ s with toks := s.toks + D.oZ done + y.L8 } : Shared) = { s with toks := s.toks + D.oZ Jp } :=
             ⟨done ++ [y], left, by simp, ql, by rw [Ao] at hg ⊢; simp [hg], by rw [vV, Nat.add_assoc]⟩
           refine afN (ih (by show A.units + 1 + n < cLine; omega) (s := { s with toks := s.toks + D.oZ done }) (nd y (by simp)) q1 ?_)
           first
             | exact afT inv
             | exact afN (afT (afT inv))
       . rintro g s1 ⟨done, left, rfl, ql, hg, rfl⟩
         cases ql
         rw [agF] at k
         show wpAny _ _ (retInt (Builtin.Tuple.tupleHashOf g.toList)) _ _ _
         rw [hg]
         refine wpAny_ret_mkInt ?_
         generalize Builtin.Tuple.tupleHashOf (D.wR w done) = hv at k ⊢
         show wpAny _ _ (ite ((decide (-(2 : Int) ^ 63 <= hv) && decide (hv < 2 ^ 63)) = true) _ _) Q E _
         unfold reduceHash at k
         by_cases hr : (decide (-(2 : Int) ^ 63 <= hv) && decide (hv < 2 ^ 63)) = true
         . rw [agb hr] at k ⊢
           exact wpAny_pure (by simpa [Nat.add_assoc] using k)
         . rw [af1 hr] at k ⊢
           exact wpAny_bind (wpAny_rule (wpAny_pure (by simpa [Nat.add_assoc] using k)))
theorem Jq : ∀ (n : Nat) {d : D} {v : Value} {s : Shared} {Q : Bool -> Shared -> Prop}, gF n d -> NV s.heap d v -> Q true s -> wpAny (model P w) A (eqIsQuiet n v) Q E s := by
 intro n
 induction n with
 | zero =>
   intro d v s Q nd q k
   cases q with
   | int i t => rw [aie _ rfl]; exact afT k
   | str x t => rw [aie _ rfl]; exact afT k
   | tup => cases nd
 | succ n ih =>
   intro d v s Q nd q k
   cases q with
   | int i t => rw [aie _ rfl]; exact afT k
   | str x t => rw [aie _ rfl]; exact afT k
   | @tup a o its m ds e c dt qs =>
     cases nd with
     | tup nd =>
       have ty : s.TypeIs (.ref a) "tuple" := ⟨o, e, c⟩
       unfold eqIsQuiet
       refine afN (ahN ty F.slot_tuple_eq.lookup ?_)
       refine afN (ahW ty isSubtype_tuple_tuple ?_)
       simp only [Bool.not_true, ahj, ahl]
       refine afN (wpAny_seqItems e dt (afN ?_))
       show wpAny _ A (forIn its _ _) _ _ s
       rw [← Array.forIn_toList]
       refine wpAny_forIn_list _ (fun rest r s1 => r.1 = none /\ s1 = s /\ ∃ left, L7 s.heap left rest /\ ∀ d ∈ left, gF n d) _ ?_ ?_ _ _ ⟨rfl, rfl, ds, qs, nd⟩
       . rintro x rest r s1 ⟨hr, rfl, left, ql, hl⟩
         cases ql with
         | @cons y _ left _ q1 ql =>
           refine afN (ih (hl y afP) q1 ?_)
           simp only [Bool.not_true, ahj, ahl]
           exact afT ⟨rfl, rfl, left, ql, fun d hd => hl d (afS _ hd)⟩
       . rintro ⟨r1, r2⟩ s1 ⟨hr, rfl, _⟩
         simp only at hr
         subst hr
         exact afT k
end
noncomputable def lG (P : Program) (w : World) : HeapKind P w D where
 is := fun h d a => gF 8 d /\ NV h d (.ref a)
 hash := D.E7 w
 draws := D.L8
 room := fun A => A.units + 9 < cLine
 inj := fun hx hy => hx.2.inj _ hy.2
 keeps := fun x ho hd hs => ⟨x.1, x.2.keeps ho hd hs⟩
 pyHash := fun hu hk h => NB 8 (by omega) hk.1 hk.2 h
 eqBool := fun {A E s x y a b Q} hu hx hy h => by
   obtain ⟨as, ra⟩ := hx.2.reads
   obtain ⟨bs, rb⟩ := hy.2.reads
   have h1 := hx.1.dep.lay
   have h2 := hy.1.dep.lay
   have e : PyData.eqv x.toPy y.toPy = decide (x = y) := Nz hx.1 8 hy.1
   have := SeqAt.eqAt_reads _ _ A s _ _ _ _ ra rb h1.1 h2.1 (by have := h1.2; omega)
   rw [e] at this
   exact this P w E Q h
 quiet := fun hk h => Jq 8 hk.1 hk.2 h
section
variable {X : Cx} {CL : Str -> Addr} {pins : List (Addr × Obj)} {σ : L2.St} {H : Hp} {s : Shared}
theorem nvD (I : L2.Inv X pins σ H s) {n : Nat} {d : D} {v : V} {u : Value} (hd : gF n d) (q : aU X.K CL H d v) (r : RelV v u) : NV s.heap d u := by
 refine aU.rec (motive_1 := fun d v _ => ∀ (n : Nat) (u : Value), gF n d -> RelV v u -> NV s.heap d u)
   (motive_2 := fun ds vs _ => ∀ (n : Nat) (us : List Value), (∀ d ∈ ds, gF n d) -> Vals vs us -> L7 s.heap ds us) (motive_3 := fun _ _ _ => True) (motive_4 := fun _ _ _ => True) (motive_5 := fun _ _ _ => True)
   (fun _ _ hd _ => by cases hd) (fun b _ _ hd _ => by cases hd) (fun i _ _ _ r => by obtain ⟨t, rfl⟩ := r; exact .int i t) (fun x _ _ _ r => by obtain ⟨t, rfl⟩ := r; exact .str x t) (fun _ _ _ hd _ => by cases hd) (fun _ _ _ hd _ => by cases hd) (fun hq _ ih n u hd r => ?tup)
   (fun _ _ _ _ _ hd _ => by cases hd) (fun _ _ _ _ _ hd _ => by cases hd) (fun _ _ _ _ _ hd _ => by cases hd) (fun _ _ _ _ _ hd _ => by cases hd) (fun _ _ _ _ _ hd _ => by cases hd)
   (fun _ _ _ r => by cases r; exact .nil) (fun _ _ ih ihs n us h r => ?cons) trivial (fun _ _ _ _ => trivial) trivial (fun _ _ _ _ => trivial) trivial (fun _ _ _ _ => trivial) q n u hd r
 case tup =>
   cases hd with
   | tup hd =>
     cases r
     obtain ⟨its, rv, ⟨o, e, c, k, dt⟩, _⟩ := I.tuple hq
     exact .tup e c dt (by simpa using ih _ _ hd rv)
 case cons =>
   cases r with
   | cons r rs => exact .cons (ih n _ (h _ afP) r) (ihs n _ (fun e he => h e (afS _ he)) rs)
noncomputable def DN (X : Cx) (CL : Str -> Addr) (H : Hp) (a : Addr) (ds : List D) (vs : List V) : Prop := H a = some (.ext (zR X.w a ds vs)) /\ ay X.K CL H ds vs /\ (∀ d ∈ ds, gF 8 d) /\ ds.Nodup
theorem DN.have (I : L2.Inv X pins σ H s) {a : Addr} {ds : List D} {vs : List V} (g : DN X CL H a ds vs) :
   (a == sysModules) = false /\ ∃ xs : List (D × Addr × Value), s.heap.DictOfH (lG X.prog X.w) a xs /\ xs.map (·.1) = ds /\ xs.map (fun x => V.ref x.2.1) = vs /\ ∀ (i : Nat) x, xs[i]? = some x -> ∃ t, x.2.2 = .int i t := by
 obtain ⟨e, r, hn, nd⟩ := g
 obtain ⟨⟨sm, xs, o, es, ep, h1, h2, h3, h4, h5, h6, h7⟩, _⟩ := I.c6 a _ e
 refine ⟨sm, xs, ⟨o, es, ep, h1, h2, h3, h4, fun x hx => ?_, by rw [h5]; exact nd⟩, h5, h6, h7⟩
 obtain ⟨i, hi⟩ := ahk.mp hx
 have hd : ds[i]? = some x.1 := by rw [← h5, af2, hi]; rfl
 have hv : vs[i]? = some (.ref x.2.1) := by rw [← h6, af2, hi]; rfl
 obtain ⟨v, hv2, rv⟩ := r.get hd
 rw [hv] at hv2
 cases hv2
 have n8 := hn x.1 (af8 hd)
 exact ⟨n8, nvD I n8 rv rfl⟩
theorem DP {xs : List (D × Addr × Value)} {ds : List D} {k : D} (h : xs.map (·.1) = ds) (nd : ds.Nodup) (hv : ∀ (i : Nat) x, xs[i]? = some x -> ∃ t, x.2.2 = .int i t) (hk : k ∈ ds) : ∃ p t, atKey xs k = some p /\ p.2 = .int (ds.idxOf k : Nat) t := by
 have hi : ds[ds.idxOf k]? = some k := by
   rw [afR (ag6.mpr hk)]
   exact congrArg some (ah7 _)
 rw [← h, af2] at hi
 obtain ⟨x, hx, e⟩ := agg.mp hi
 rw [h] at hx
 obtain ⟨t, ht⟩ := hv _ _ hx
 refine ⟨x.2, t, atKey_of_get (by rw [h]; exact nd) (i := ds.idxOf k) (by rw [hx, ← e]), ht⟩
theorem Jr {xs : List (D × Addr × Value)} {ds : List D} {k : D} (h : xs.map (·.1) = ds) (hk : k ∉ ds) : atKey xs k = none :=
 atKey_none_of_get fun j p hj => hk (by rw [← h]; exact afZ.mpr ⟨_, af8 hj, rfl⟩)
theorem BV {P : Program} {w : World} {H' : Hp} {h' : Heap} {a : Addr} {ds : List D} {vs : List V} (g : zR w a ds vs h') : cV P w H' h' a (.ext (zR w a ds vs)) := by
 refine ⟨g, ?_, fun h1 h2 q k => ?_⟩
 . obtain ⟨_, _, o, _, _, h1, _⟩ := g
   exact ⟨o, h1⟩
 . obtain ⟨sm, xs, o, es, ep, q1, q2⟩ := q
   exact ⟨sm, xs, o, es, ep, k o q1, q2⟩
theorem DQ {w : World} {P : Program} {h' : Heap} {a c : Addr} {ds : List D} {vs : List V} {xs : List (D × Addr × Value)} {k : D} {t : Tok} (sm : (a == sysModules) = false) (dd : h'.DictOfH (lG P w) a (xs ++ [(k, c, .int (ds.length : Nat) t)])) (h : xs.map (·.1) = ds) (g : xs.map (fun x => V.ref x.2.1) = vs) (hv : ∀ (i : Nat) x, xs[i]? = some x -> ∃ t, x.2.2 = .int i t) :
   zR w a (ds ++ [k]) (vs ++ [.ref c]) h' := by
 obtain ⟨o, es, ep, h1, h2, h3, h4, _, _⟩ := dd
 refine ⟨sm, _, o, es, ep, h1, h2, h3, h4, by rw [aga, h]; rfl, by rw [aga, g]; rfl, fun i x hi => ?_⟩
 rcases Nat.lt_or_ge i xs.length with z | z
 . rw [ago z] at hi
   exact hv i x hi
 . rw [ahZ z] at hi
   have : i - xs.length = 0 := by
     rcases Nat.eq_zero_or_pos (i - xs.length) with q | q
     . exact q
     . rw [agN (by show 1 <= _; omega)] at hi; cases hi
   rw [this] at hi
   cases hi
   refine ⟨t, ?_⟩
   show Value.int _ t = _
   rw [← h, afO, show i = xs.length by omega]
end
section
variable {prog : Program} {w : World} {K : Type} [DecidableEq K] {knd : HeapKind prog w K} {A : Around} {E : Value -> Shared -> Prop} {s : Shared}
theorem Um {d a : Addr} {xs : List (K × Addr × Value)} {k : K} {v : Value} {Q : Value -> Shared -> Prop} (hu : knd.room A) (rC : knd.is s.heap k a) (hm : s.heap.DictOfH knd d xs) (hz : xs.length <= sizeLine)
   (q1 : ∀ p, atKey xs k = some p -> Q p.2 { s with toks := s.toks + knd.draws k })
   (q2 : atKey xs k = none -> ∀ h', h'.DictOfH knd d (xs ++ [(k, a, v)]) -> Heap.SameBut d s.heap h' -> Q v { s with heap := h', toks := s.toks + knd.draws k }) : wpAny (model prog w) A (dictSetDefault d (.ref a) v) Q E s := by
 obtain ⟨o, es, ep, ho, hc, hd, he, his, hn⟩ := hm
 unfold dictSetDefault
 try with_reducible refine ahf ?_
 refine afN (knd.pyHash hu rC (afN (wpAny_dictFind_heap (s := { s with toks := s.toks + knd.draws k }) hu rC ho hd he his hn (fun A4 => ?_) fun j p hj => ?_)))
 . have abV : k ∉ xs.map (·.1) := not_mem_keys_of_get A4
   refine afN (wpAny_rule (afN (wpAny_updateDictKeys (hz := by rw [size_of_entries he]; exact hz) (s := { s with toks := s.toks + knd.draws k }) ho hd (afT (q2 (atKey_none_of_get A4) _ ⟨_, _, ep + 1, ahx _ ho (Obj.isFreed_of_dict (Obj.data_mapDictKeys hd _)), hc.mapDictKeys _, Obj.data_mapDictKeys hd _, ?_, fun x hx => ?_, ?_⟩ (ag2 ..))))))
   . simp [he, entryOfKey]
   . rcases af0.mp hx with hx | hx
     . exact knd.keeps (his x hx) ho hd (ag2 ..)
     . rw [agw.mp hx]
       exact knd.keeps rC ho hd (ag2 ..)
   . rw [aga, agD]
     refine ⟨hn, aic _ _, fun x hx y hy e => abV ?_⟩
     have ek : y = k := agw.mp hy
     rw [← ek, ← e]
     exact hx
 . refine afN (agU (s := { s with toks := s.toks + knd.draws k }) ho hd ?_)
   rw [entry_at he j, hj]
   exact afN (wpAny_rule (afT (q1 p (atKey_of_get hn hj))))
theorem Aq (knd : HeapKind prog w K) (d a : Addr) (hd : (d == sysModules) = false) (v : Value) :
   MeetsIn prog w (Builtin.«dict.setdefault» ⟨[.ref d, .ref a, v], []⟩) (fun A R s => knd.room A.in1 /\ ∃ k xs, knd.is s.heap k a /\ s.heap.DictOfH knd d xs /\ xs.length <= sizeLine ∧
     (∀ p, atKey xs k = some p -> R (.ok (.ret p.2)) { s with toks := s.toks + knd.draws k }) /\ (atKey xs k = none -> ∀ h', h'.DictOfH knd d (xs ++ [(k, a, v)]) -> Heap.SameBut d s.heap h' -> R (.ok (.ret v)) { s with heap := h', toks := s.toks + knd.draws k })) :=
 .of_wp fun A R s ⟨hu, k, xs, rC, hm, hz, q1, q2⟩ => by
   unfold Builtin.«dict.setdefault» Builtin.Dict.keyAndDefault
   refine afN (afN (ahV hm.typeIs (show wpAny _ _ (pure (d, Value.ref a, some v)) _ _ s from afT ?_)))
   show wpAny _ _ (ite ((d == sysModules) = true) _ (dictSetDefault d (.ref a) v >>= fun _ => _)) _ _ s
   rw [af1 (by rw [hd]; decide)]
   exact afN (Um hu rC hm hz (fun p hp => afT ⟨p.2, rfl, q1 p hp⟩) fun A4 h' dd hs => afT ⟨v, rfl, q2 A4 h' dd hs⟩)
end
section
variable {X : Cx} {CL : Str -> Addr} {o i e value : Expr} {es : List Expr} {pos pos' apos kR : Pos} {td ty tv to : TE} {ta : TA}
theorem rZ {A : Around} (h : A.units + 64 < cLine) {P : Program} {w : World} : (lG P w).room A.in1 := by
 show A.units + 1 + 9 < cLine
 omega
theorem NC : PE X (.Dict [] [] pos) (fun _ H Q => ∀ p, H p = none -> Q (.ref p) (upd H p (.ext (zR X.w p [] [])))) := fun pins s σ H Q I h =>
 wpAny_Dict_empty ⟨.ref s.heap.objs.size, _, I.laid (a := s.heap.objs.size) (o := .ext (zR X.w s.heap.objs.size [] [])) (t' := s.toks) (fun _ _ q => af7 _ q) (af3 _)
   (BV ⟨agZ.mpr (Ne.symm (agG I.big)), [], _, #[], 0, agl _ rfl, ⟨rfl, rfl, rfl⟩, rfl, rfl, rfl, rfl, fun i x hx => by simp at hx⟩), rfl, h _ (I.c6.fresh (af3 _))⟩
noncomputable def WL (X : Cx) (CL : Str -> Addr) (H : Hp) (k : D) (c : Addr) : Prop := gF 8 k /\ aU X.K CL H k (.ref c)
theorem WL.is {pins : List (Addr × Obj)} {σ : L2.St} {H : Hp} {s : Shared} {k : D} {c : Addr} (I : L2.Inv X pins σ H s) (h : WL X CL H k c) : (lG X.prog X.w).is s.heap k c := ⟨h.1, nvD I h.1 h.2 rfl⟩
theorem NF (hu : X.A.units + 64 < cLine) (ho : PE X o td) (hi : PE X i ty) (hs : wO i) : PE X (.Subscript o i pos) (fun σ H Q => td σ H fun x H1 => ty σ H1 fun y H2 => ∃ a c ds vs k, x = .ref a /\ y = .ref c /\ DN X CL H2 a ds vs /\ WL X CL H2 k c /\ k ∈ ds /\ Q (.int (ds.idxOf k : Nat)) H2) := by
 intro pins s σ H Q I h
 refine wQ ah3.lookup hs (cR (ho pins s σ H _ I h) fun u s1 ⟨x, H1, I1, rx, q1⟩ => cR (hi pins s1 σ H1 _ I1 q1) fun iv s2 zz => ?_)
 obtain ⟨y, H2, I2, ry, a, c, ds, vs, k, ex, ey, g, hk, hm, q2⟩ := zz
 subst ex ey
 obtain rfl : u = Value.ref a := rx
 obtain rfl : iv = Value.ref c := ry
 obtain ⟨sm, xs, dd, h1, h2, h3⟩ := DN.have I2 g
 obtain ⟨p, t, hp, ep⟩ := DP h1 g.2.2.2 h3 hm
 exact ⟨dd.typeIs, wpAny_getItem_heap (rZ hu) (hk.is I2) dd hp ⟨.int (ds.idxOf k : Nat), H2, I2.tok _, by rw [ep]; exact ⟨t, rfl⟩, q2⟩⟩
theorem NK (hu : X.A.units + 64 < cLine) (hi : PE X i ty) (ho : PE X o td) : PC X .NotIn i o (fun σ H Q => ty σ H fun y H1 => td σ H1 fun x H2 => ∃ a c ds vs k, x = .ref a /\ y = .ref c /\ DN X CL H2 a ds vs /\ WL X CL H2 k c /\ Q (.bl (!decide (k ∈ ds))) H2) := by
 intro pins s σ H Q I h
 refine cR (hi pins s σ H _ I h) fun iv s1 ⟨y, H1, I1, ry, q1⟩ => cR (ho pins s1 σ H1 _ I1 q1) fun u s2 zz => ?_
 obtain ⟨x, H2, I2, rx, a, c, ds, vs, k, ex, ey, g, hk, q2⟩ := zz
 subst ex ey
 obtain rfl : u = Value.ref a := rx
 obtain rfl : iv = Value.ref c := ry
 obtain ⟨sm, xs, dd, h1, h2, h3⟩ := DN.have I2 g
 refine wpAny_notIn_heap (rZ hu) (hk.is I2) sm dd ⟨_, H2, I2.tok _, ?_, q2⟩
 by_cases hm : k ∈ ds
 . obtain ⟨p, t, hp, ep⟩ := DP h1 g.2.2.2 h3 hm
   rw [hp, agM hm]
   rfl
 . rw [Jr h1 hm, agm hm]
   rfl
theorem NP (hu : X.A.units + 64 < cLine) (ho : PE X o td) (hi : PE X i ty) (hv : PE X value tv) (hs : swapsWith value (some (.Subscript o i pos')) pos.line X.env = pure false) :
   PS X (.Assign [.Subscript o i pos'] value pos) (fun D σ H => tv σ H fun v H1 => td σ H1 fun x H2 => ty σ H2 fun y H3 => ∃ a c ds vs k, v = .int (ds.length : Nat) /\ x = .ref a /\ y = .ref c /\ DN X CL H3 a ds vs /\ WL X CL H3 k c /\ k ∉ ds /\ ds.length <= 1000000 /\ D.nx σ (upd H3 a (.ext (zR X.w a (ds ++ [k]) (vs ++ [.ref c]))))) := by
 intro pins s σ H D I h
 refine wpAny_Assign_Subscript (cR (hv pins s σ H _ I h) fun r s1 ⟨v, H1, I1, rv, q1⟩ => cR (ho pins s1 σ H1 _ I1 q1) fun u s2 ⟨x, H2, I2, rx, q2⟩ => cR (hi pins s2 σ H2 _ I2 q2) fun iv s3 zz => ?_) hs
 obtain ⟨y, H3, I3, ry, a, c, ds, vs, k, ev, ex, ey, g, hk, hm, hl, q3⟩ := zz
 subst ev ex ey
 obtain rfl : u = Value.ref a := rx
 obtain rfl : iv = Value.ref c := ry
 obtain ⟨t, rfl⟩ := rv
 obtain ⟨sm, xs, dd, h1, h2, h3⟩ := DN.have I3 g
 have hz : xs.length <= sizeLine := by rw [age, ← afO (f := (·.1)), h1]; omega
 refine wpAny_setItem_heap (hsz := hz) (rZ hu) (hk.is I3) dd fun h' Bq Ab => ⟨σ, _, ?_, q3⟩
 rw [storedH_new (Jr h1 hm)] at Bq
 have g2 := DQ sm Bq h1 h2 h3
 exact oR I3 (by rw [g.1]; exact True.intro) Ab (let ⟨_, _, o, _, _, q, _⟩ := g2; ⟨o, q⟩) (BV g2)
theorem As : iH X (.builtin "len") (fun xs H Q => ∃ a ds vs, xs = [.ref a] /\ DN X CL H a ds vs /\ ds.length <= 1000000 /\ Q (.int (ds.length : Nat)) H) := by
 intro pins s σ H xs us Q I r h
 obtain ⟨a, ds, vs, rfl, g, hl, q⟩ := h
 obtain ⟨u, rfl, rx⟩ := vals1 r
 cases rx
 obtain ⟨sm, xs, dd, h1, h2, h3⟩ := DN.have I g
 have ty := dd.typeIs
 obtain ⟨ob, es, ep, ho, hc, lE, he, _, _⟩ := dd
 have hz : es.size = ds.length := by rw [size_of_entries he, ← h1, afO]
 refine call_len_slot (n := (ds.length : Nat)) ty PySem.F.slot_dict_len (fun Q' hq => ?_) (by omega) (by omega) ⟨.int (ds.length : Nat), H, I.tok _, ⟨_, rfl⟩, q⟩
 refine agI PySem.F.slot_dict_len ty PySem.F.entry_dict_len ?_ (PySem.F.args_dict_len_1 _)
 show wpAny _ _ (dictSize a >>= fun _ => _) _ _ s
 unfold dictSize
 refine afN (afN (agU ho lE (afT (show wpAny _ _ (Builtin.Dict.pendingCount a >>= fun _ => _) _ _ s from afN (wpAny_pendingCount_other sm (wpAny_ret_mkInt ?_))))))
 rw [hz]
 simpa using hq
noncomputable def Ra (X : Cx) (CL : Str -> Addr) : V -> List V -> Hp -> VK -> Prop := fun x xs H Q => ∃ a c ds vs k, x = .ref a /\ xs = [.ref c, .int (ds.length : Nat)] /\ DN X CL H a ds vs /\ WL X CL H k c /\ ds.length <= 1000000 /\ (k ∈ ds -> Q (.int (ds.idxOf k : Nat)) H) /\ (k ∉ ds -> Q (.int (ds.length : Nat)) (upd H a (.ext (zR X.w a (ds ++ [k]) (vs ++ [.ref c])))))
theorem NQ (hu : X.A.units + 64 < cLine) : MtM X "dict.setdefault" (Ra X CL) := by
 intro pins s σ H x vs v us Q I rx rv h
 obtain ⟨a, c, ds, ws, k, rfl, rfl, g, hk, hl, q1, q2⟩ := h
 cases rx
 cases rv with
 | cons r1 rv =>
   cases r1
   cases rv with
   | cons r2 rv =>
     cases rv
     obtain ⟨t, rfl⟩ := r2
     obtain ⟨sm, xs, dd, h1, h2, h3⟩ := DN.have I g
     have hz : xs.length <= sizeLine := by rw [age, ← afO (f := (·.1)), h1]; omega
     refine call_meetsIn PySem.F.slot_dict_setdefault dd.typeIs PySem.F.entry_dict_setdefault (PySem.F.args_dict_setdefault_3 _ _ _) (Aq (lG X.prog X.w) a c sm _) ⟨rZ hu, k, xs, hk.is I, dd, hz, fun p hp => ?_, fun A4 h' Bq Ab => ?_⟩
     . by_cases hm : k ∈ ds
       . obtain ⟨p2, t2, zy, ep⟩ := DP h1 g.2.2.2 h3 hm
         rw [hp] at zy
         cases zy
         exact ⟨.int (ds.idxOf k : Nat), H, I.tok _, by rw [ep]; exact ⟨t2, rfl⟩, q1 hm⟩
       . rw [Jr h1 hm] at hp; cases hp
     . by_cases hm : k ∈ ds
       . obtain ⟨p2, t2, zy, ep⟩ := DP h1 g.2.2.2 h3 hm
         rw [A4] at zy; cases zy
       . have g2 := DQ sm Bq h1 h2 h3
         exact ⟨.int (ds.length : Nat), _, oR I (by rw [g.1]; exact True.intro) Ab (let ⟨_, _, o, _, _, q, _⟩ := g2; ⟨o, q⟩) (BV g2), ⟨t, rfl⟩, q2 hm⟩
theorem NR (hu : X.A.units + 64 < cLine) (ho : PE X o to) (ha : PA X (e :: es) ta)
   (fP : attributeBase o "setdefault" X.env (eval o X.env) = eval o X.env := by rfl)
   (nQ : ((backTo kR (starEach (e :: es) X.env)).all (fun x => !x.1) && (backToKw kR (keywordEach [] X.env)).all (fun x => x.1.isSome) && decide ((e :: es).length + ([] : List Keyword).length + (if ([] : List Keyword).isEmpty then 0 else 1) < 30)) = true := by rfl)
   (hline : (apos.endLine == kR.line) = true := by rfl) (hs : starEach (e :: es) X.env = (false, eval e X.env) :: starEach es X.env := by rfl) (nR : (backTo kR (starEach es X.env)).any (·.1) = false := by rfl) :
   PE X (.Call (.Attribute o "setdefault" apos) (e :: es) [] kR) (fun σ H Q => to σ H fun x H1 => ∃ a ds vs, x = .ref a /\ DN X CL H1 a ds vs /\ ta σ H1 fun xs H2 => Ra X CL x xs H2 Q) := by
 intro pins s σ H Q I h
 refine wpAny_Call_method_late fP nQ hline rfl (cR (ho pins s σ H _ I h) fun v s1 zz => ?_)
 obtain ⟨x, H1, I1, r1, a, ds, vs, rfl, g, q1⟩ := zz
 have Fg := r1
 cases r1
 obtain ⟨sm, xs, dd, _⟩ := DN.have I1 g
 have Bq := dd
 obtain ⟨ob, GX, ep, h1, h2, h3, h4, h5⟩ := Bq
 refine ⟨"dict", "dict.setdefault", PySem.F.plainAttrs_dict, PySem.F.slot_dict_setdefault, PySem.F.type_dict_setdefault, dd.typeIs, fun a' e' => ⟨ob, by cases e'; exact h1, h2.2.1⟩, ?_⟩
 have hA := ha kR pins s1 σ H1 _ I1 q1
 rw [hs] at hA ⊢
 refine Calls.callWith_builtin (by show (false || (backTo kR (starEach es X.env)).any (·.1)) = false; rw [nR] <;> rfl) (Calls.evalArgs_plain ?_)
 exact cR hA fun us s2 ⟨vs, H2, I2, r2, q2⟩ => NQ hu pins s2 σ H2 _ vs _ us Q I2 Fg r2 q2
end
section
variable {K : PySem.W.Frag} {CL : Str -> Addr} {b : Bx} {H Z : Hp} {δ : List (Option T)} {σ : L2.St} {ts : List T} {vs : List V} {v : V} {w : World} {ds : List D} {k : D}
theorem ay.snoc {ds : List D} {vs : List V} {d : D} {v : V} (h : ay K CL Z ds vs) (q : aU K CL Z d v) : ay K CL Z (ds ++ [d]) (vs ++ [v]) :=
 ay.ind (P := fun ds vs => ay K CL Z (ds ++ [d]) (vs ++ [v])) (.cons q .nil) (fun a _ i => .cons a i) h
theorem bf.Yy {p : Addr} (S : bf K CL b H Z δ σ ts vs) (hp : H p = none) : aA H (upd H p (.ext (zR w p [] []))) /\ bf K CL b (upd H p (.ext (zR w p [] []))) Z δ σ (.gq w [] :: ts) (.ref p :: vs) := by
 obtain ⟨fp, gp, e, r, nd, k⟩ := S.rep
 have zp : Z p = none := S.zh.free hp
 have sh : aA H (upd H p (.ext (zR w p [] []))) := aA.upd hp
 have keep : ∀ a ∈ fp ++ gp, a ≠ p := fun a ha => by
   have : ∃ o, H a = some o := by
     rcases af0.mp ha with h | h
     . exact e.there a h
     . exact r.there a h
   obtain ⟨o, q⟩ := this
   exact bu q hp
 refine ⟨sh, ⟨⟨fp, [p] ++ gp, e.mono (.refl _) (fun a ha => ao (keep a (afU _ ha))), .cons (.gq az .nil) (r.mono (.refl _) fun a ha => ao (keep a (by simp [ha]))), ?_, fun a ha => ?_⟩, S.bh.trans sh, S.zz, S.zh.trans sh, S.new, fun a o q i => ?_, S.tab⟩⟩
 . refine (agY (l₁ := fp) (l₂ := gp) (a := p)).nodup_iff.mpr (agB.mpr ⟨fun h => keep p h rfl, nd⟩)
 . rcases afX.mp ((agY (l₁ := fp) (l₂ := gp) (a := p)).mem_iff.mp ha) with h | h
   . subst h; exact ⟨zp, S.bh.free hp⟩
   . exact k a h
 . by_cases h : a = p
   . subst h; rw [az] at q; cases q; cases i
   . rw [ao h] at q; exact S.tp a o q i
theorem bf.Rb {i : Nat} (S : bf K CL b H Z δ σ (.sh k :: ts) (v :: vs)) (hi : δ[i]? = some (some (.gq w ds))) :
   ∃ a gs, σ[i]? = some (some (.ref a)) /\ H a = some (.ext (zR w a ds gs)) /\ ay K CL Z ds gs /\ bf K CL b (upd H a (.ext (zR w a (ds ++ [k]) (gs ++ [v])))) Z (δ.set i (some (.gq w (ds ++ [k])))) σ ts vs := by
 obtain ⟨fp, gp, e, r, nd, kk⟩ := S.rep
 obtain ⟨v0, f1, f2, f3, hv, nI, rt, put, _⟩ := e.get hi
 subst nI
 cases rt with
 | @gq a _ gs _ ha rs =>
   cases r with
   | @cons _ _ _ _ ft gr q1 q2 =>
     cases q1 with
     | sh q1 =>
       have ne : ∀ c ∈ (f1 ++ f3) ++ gr, c ≠ a := fun c hc e => by
         subst e
         have hp : ((f1 ++ ([c] ++ f3)) ++ ([] ++ gr)).Perm (c :: ((f1 ++ f3) ++ gr)) := by
           rw [ahy, List.singleton_append]
           exact (agY.append_right _)
         exact (agB.mp (hp.nodup_iff.mp nd)).1 hc
       refine ⟨a, gs, hv, ha, rs, ?_⟩
       have r1 : aV K CL (upd H a (.ext (zR w a (ds ++ [k]) (gs ++ [v])))) Z (.gq w (ds ++ [k])) (.ref a) [a] := .gq az (rs.snoc q1)
       have e2 := put (H' := upd H a (.ext (zR w a (ds ++ [k]) (gs ++ [v])))) (.refl _) (fun c hc => ao (ne c (by
         rcases af0.mp hc with h | h
         . simp [h]
         . simp [h]))) r1
       rw [fz hv] at e2
       exact S.w9 rfl kk (by simp) e2 (q2.mono (.refl _) fun c hc => ao (ne c (by simp [hc]))) nd fun c hc => hc
end
section
variable {X : Cx} {CL : Str -> Addr} {b : Bx} {δ δ1 δ2 : List (Option T)} {e e1 e2 e3 : Expr} {w : World} {ds ks : List L3.D} {pos pp ps px pa : Pos} {i : Nat} {x : Str} {eo : List Stmt} {D : dH}
structure FP (ds : List L3.D) : Prop where
 n : ∀ d ∈ ds, gF 8 d
 d : ds.Nodup
 l : ds.length <= 1000000
theorem DR : bG X CL b (.Dict [] [] pos) δ (.gq X.w []) δ := fun H Z σ ts vs Q S kk => bO NC fun p hp => by
 obtain ⟨c, S1⟩ := S.Yy hp
 exact kk _ _ Z (.refl _) c S1
theorem DS (hu : X.A.units + 64 < cLine) (ok : FP ds) (h1 : cL X CL b e1 δ (.gq X.w ds) δ1) (h2 : cL X CL b e2 δ1 (.tup ks) δ2) (hk : L3.D.tup ks ∈ ds) (hs : wO e2 := by exact fun _ _ => rfl) : bG X CL b (.Subscript e1 e2 pos) δ (.sh (.int (ds.idxOf (.tup ks) : Nat))) δ2 := fun H Z σ ts vs Q S kk =>
 bO (NF (CL := CL) hu b6 b6 hs) (h1 H Z σ ts vs _ S fun v H1 Z1 z1 k1 S1 r1 => h2 H1 Z1 σ ts vs _ S1 fun v2 H2 Z2 z2 k2 S2 r2 => by
   cases r1 with
   | @gq a _ gs _ ha rr =>
     have Yn := r2
     cases r2 with
     | tup hq rk => exact ⟨a, _, ds, gs, .tup ks, rfl, rfl, ⟨k2 _ _ ha, rr.mono k2, ok.n, ok.d⟩, ⟨ok.n _ hk, Yn⟩, hk, kk _ H2 Z2 (z1.trans z2) (k1.trans k2) (S2.push (.int _))⟩)
theorem NS (hu : X.A.units + 64 < cLine) (ok : FP ds) (h1 : cL X CL b e1 δ (.tup ks) δ1) (h2 : cL X CL b e2 δ1 (.gq X.w ds) δ2) (hk : gF 8 (.tup ks)) (hm : behindInMarks .NotIn e2 = false) :
   oS X CL b (.Compare e1 [.NotIn] [e2] pos) δ (!decide (L3.D.tup ks ∈ ds)) δ2 := fun H Z σ ts vs Q S kk =>
 wU (RM (NK (CL := CL) hu b6 b6) hm) (h1 H Z σ ts vs _ S fun v H1 Z1 z1 k1 S1 r1 => h2 H1 Z1 σ _ _ _ S1 fun v2 H2 Z2 z2 k2 S2 r2 => by
   cases r2 with
   | @gq a _ gs _ ha rr =>
     have Fg := r1.mono k2
     cases r1 with
     | tup hq rk => exact ⟨a, _, ds, gs, .tup ks, rfl, rfl, ⟨ha, rr, ok.n, ok.d⟩, ⟨hk, Fg⟩, _, rfl, kk H2 Z2 (z1.trans z2) (k1.trans k2) S2⟩)
theorem DT (ok : FP ds) (hm : X.mg "len" = none) (h : cL X CL b e δ (.gq X.w ds) δ1) (hg : Gl X "len") (hs : starEach [e] X.env = (false, eval e X.env) :: starEach [] X.env := by exact bD rfl) : bG X CL b (.Call (.Name "len" pp) [e] [] pos) δ (.sh (.int (ds.length : Nat))) δ1 := fun H Z σ ts vs Q S k =>
 bO (iJ (As (CL := CL)) hg hm PySem.boot_len (cu b6 dW hs) (he := hs)) (h H Z σ ts vs _ S fun v H1 Z1 z1 k1 S1 r => by
   cases r with
   | @gq a _ gs _ ha rr => exact ⟨a, ds, gs, rfl, ⟨ha, rr, ok.n, ok.d⟩, ok.l, k _ H1 Z1 z1 k1 (S1.push (.int _))⟩)
theorem Uo (hu : X.A.units + 64 < cLine) (ok : FP ds) (n : Vn X i x) (h : bG X CL b e δ (.sh (.int (ds.length : Nat))) δ1) (h2 : bG X CL b e2 δ1 (.sh (.tup ks)) δ1) (h1 : δ1[i]? = some (some (.gq X.w ds))) (hk : gF 8 (.tup ks)) (hn : L3.D.tup ks ∉ ds) (kk : dw X CL b eo (δ1.set i (some (.gq X.w (ds ++ [.tup ks])))) D)
   (hs : swapsWith e (some (.Subscript (.Name x pp) e2 ps)) pos.line X.env = pure false := by rfl) : dw X CL b (.Assign [.Subscript (.Name x pp) e2 ps] e pos :: eo) δ D := bW fun H Z σ ts vs E S M =>
 kT (NP (CL := CL) hu (gW n.hi n.hv n.hd n.kK) b6 b6 hs) (h H Z σ ts vs _ S fun v H1 Z1 z1 k1 S1 => by
   obtain ⟨v0, e0, _⟩ := S1.look h1
   refine ⟨v0, e0, h2 H1 Z1 σ _ _ _ S1 fun v2 H2 Z2 z2 k2 S2 => ?_⟩
   have rv := S2.pop.lC
   cases rv
   have rk := S2.lC
   have rk' := rk
   cases rk with
   | @tup c us _ hq rr =>
     have S2' : bf X.K CL b H2 Z2 δ1 σ (.sh (.tup ks) :: ts) (.ref c :: vs) := S2.pop.pop.push rk'
     obtain ⟨a, gs, ea, ha, hg, S3⟩ := S2'.Rb h1
     rw [e0] at ea
     cases ea
     exact ⟨a, c, ds, gs, .tup ks, rfl, rfl, rfl, ⟨ha, hg.mono S2.zh, ok.n, ok.d⟩, ⟨hk, rk'.mono S2.zh⟩, hn, ok.l, M.nx _ σ _ Z2 (z1.trans z2) S3 kk⟩)
theorem NT (hu : X.A.units + 64 < cLine) (ok : FP ds) (n : Vn X i x) (h1 : δ[i]? = some (some (.gq X.w ds))) (h2 : bG X CL b e2 δ (.sh (.tup ks)) δ) (h3 : bG X CL b e3 δ (.sh (.int (ds.length : Nat))) δ) (hk : gF 8 (.tup ks))
   (fP : attributeBase (.Name x px) "setdefault" X.env (eval (.Name x px) X.env) = eval (.Name x px) X.env := by rfl)
   (nQ : ((backTo pos (starEach [e2, e3] X.env)).all (fun x => !x.1) && (backToKw pos (keywordEach [] X.env)).all (fun x => x.1.isSome) && decide ([e2, e3].length + ([] : List Keyword).length + (if ([] : List Keyword).isEmpty then 0 else 1) < 30)) = true := by rfl)
   (hline : (pa.endLine == pos.line) = true := by rfl) (hs : starEach [e2, e3] X.env = (false, eval e2 X.env) :: starEach [e3] X.env := by exact bD rfl) (Ht : starEach [e3] X.env = (false, eval e3 X.env) :: starEach [] X.env := by exact bD rfl) (nR : (backTo pos (starEach [e3] X.env)).any (·.1) = false := by rfl) :
   TEm X CL b (.Call (.Attribute (.Name x px) "setdefault" pa) [e2, e3] [] pos) δ (.sh .any) (δ.set i (some (.gq X.w (if L3.D.tup ks ∈ ds then ds else ds ++ [.tup ks])))) := fun H Z σ ts vs Q S kk =>
 bO (NR (CL := CL) hu (gW n.hi n.hv n.hd n.kK) (cu b6 (cu b6 dW Ht) hs) fP nQ hline hs nR) (by
   obtain ⟨v0, e0, r0⟩ := S.look h1
   rw [T.bK] at r0
   cases r0 with
   | @gq a _ gs0 _ ha0 rr0 =>
     refine ⟨_, e0, a, ds, gs0, rfl, ⟨ha0, rr0, ok.n, ok.d⟩, h2 H Z σ _ _ _ S fun v2 H2 Z2 z2 k2 S2 => h3 H2 Z2 σ _ _ _ S2 fun v3 H3 Z3 z3 k3 S3 => ?_⟩
     have rv := S3.lC
     cases rv
     have rk := S3.pop.lC
     have rk' := rk
     cases rk with
     | @tup c us _ hq rr =>
       obtain ⟨a2, gs, ea, ha, hg, S4⟩ := S3.pop.Rb h1
       rw [e0] at ea
       cases ea
       refine ⟨a, c, ds, gs, .tup ks, rfl, rfl, ⟨ha, hg.mono S3.zh, ok.n, ok.d⟩, ⟨hk, rk'.mono S3.zh⟩, ok.l, fun hm => ?_, fun hm => ?_⟩
       . rw [agb hm] at kk
         refine kk _ H3 Z3 (z2.trans z3) ?_
         rw [fz h1]
         exact S3.pop.pop.push (.any _)
       . rw [af1 hm] at kk
         exact kk _ _ Z3 (z2.trans z3) (S4.push (.any _)))
end
section
variable {X : Cx} {CL : Str -> Addr} {b : Bx} {δ δ1 : List (Option T)} {e : Expr} {D : dH} {pos px py pt pa pc : Pos} {x x2 : Str} {i i2 kk : Nat} {eo body : List Stmt} {kvs : List (List Key × L3.D)}
theorem Up (g : Gx X) (nm : Ln X i x) (nm2 : Ln X i2 x2) (P : Nat -> List (Option T) -> Prop) (h : bG X CL b e δ (.sh (.dct kvs)) δ1) (h0 : P 0 δ1) (hl : ∀ j δ, P j δ -> i < δ.length /\ i2 < δ.length)
   (hs : ∀ (b' : Bx) (j : Nat) (k : List Key) (d : L3.D) δ, kvs[j]? = some (k, d) -> P j δ -> dw X CL b' body ((δ.set i (some (fB k))).set i2 (some (.sh d))) { nx := P (j + 1), rt := D.rt, bk := fun δ2 => dw X CL b eo δ2 D, ct := P (j + 1) }) (hd : ∀ δ, P kvs.length δ -> dw X CL b eo δ D)
   (fP : attributeBase e "items" X.env (eval e X.env) = eval e X.env := by rfl) (hline : (pa.endLine == pc.line) = true := by rfl)
   (h5 : (assignEach [.Name x px, .Name x2 py] X.env).map (·.2) = assign (.Name x px) X.env :: (assignEach [.Name x2 py] X.env).map (·.2) := by rfl) (h6 : (assignEach [.Name x2 py] X.env).map (·.2) = assign (.Name x2 py) X.env :: (assignEach [] X.env).map (·.2) := by rfl)
   (h7 : (assignEach [.Name x px, .Name x2 py] X.env).length = 2 := by rfl) (h8 : (assignEach [.Name x px, .Name x2 py] X.env).findIdx? (·.1) = none := by rfl)
   (hq : ∀ x, foldedSetIterable (.Call (.Attribute e "items" pa) [] [] pc) X.env x = pure x := by intro _; rfl) : dw X CL b (.For (.Tuple [.Name x px, .Name x2 py] kk pt) (.Call (.Attribute e "items" pa) [] [] pc) body [] pos :: eo) δ D := bW fun H Z σ ts vs E S M =>
 vS (kT (wC g.xe g.calm (Jo b6 fP hline) (Hh g.calm (oB (iU g.nd nm.hi nm.loc nm.hf) (oB (iU g.nd nm2.hi nm2.loc nm2.hf) C4 h6) h5) h7 h8) LZ hq) (h H Z σ ts vs _ S fun v H1 Z1 z1 k1 S1 => by
   have r := S1.lC
   cases r with
   | @dct a gs _ ha rr =>
     have Ak : kvs.length = gs.length := rr.length
     have Nr : ∀ {Z2 H2 : Hp} {kb : Addr} {k : List Key}, (∀ a o, H2 a = some o -> jj o = true -> Z2 a = some o) -> H2 kb = some (.tup (k.map kV)) -> aV X.K CL H2 Z2 (fB k) (.ref kb) [] := fun tp hk => .tup (tp _ _ hk rfl) (aJ.ofF (tO _))
     have step : ∀ {b' : Bx} {Z2 H2 : Hp} {σ2 : L2.St} {δ2 : List (Option T)} {j : Nat} {tp kb : Addr} {k : List Key} {v : V}, bf X.K CL b' H2 Z2 δ2 σ2 ts vs -> bN X.K CL Z2 kvs gs -> H2 tp = none -> gs[j]? = some (k, v) -> H2 kb = some (.tup (k.map kV)) -> P j δ2 -> ∃ d Z3, kvs[j]? = some (k, d) /\ aA Z2 Z3 /\ bf X.K CL b' (upd H2 tp (.tup [.ref kb, v])) Z3 ((δ2.set i (some (fB k))).set i2 (some (.sh d))) ((σ2.set i (some (.ref kb))).set i2 (some v)) ts vs := by
       intro b' Z2 H2 σ2 δ2 j tp kb k v S3 A5 hT hg hk p2
       obtain ⟨d, wu, rd⟩ := A5.Q0 hg
       have gr : xj Z2 H2 _ _ := xj.tup (xs := [.ref kb, v]) S3.zh S3.tp hT
       have S4 := (((S3.grow gr).push (rd.mono gr.z)).DG (Nr (S3.grow gr).tp (gr.h _ _ hk))).set (hl j δ2 p2).1
       exact ⟨d, _, wu, gr.z, S4.set (by rw [ah2]; exact (hl j δ2 p2).2)⟩
     rcases ha with ha | ⟨o, ha⟩
     . have hH := S1.zh a _ ha
       refine ⟨a, gs, rfl, .inl ⟨hH, fun o hz => ?_⟩⟩
       have S2 := S1.pop.still ha o
       have z9 : bN X.K CL (upd Z1 a (.bK o (.dT gs))) kvs gs := bN.conv (fun c u q => by
         by_cases e : c = a
         . subst e
           rw [ha] at q
           cases q
           exact .inr (.inl ⟨gs, o, rfl, az⟩)
         . exact .inl (by rw [ao e]; exact q)) rr
       have t1 : ∀ u, b.B a = some u -> u = .dT gs := fun u q => by
         have := S1.bh a u q
         rw [hH] at this; exact (agf this).symm
       have t2 : ∀ u, b.Z a = some u -> u = .dT gs := fun u q => by
         have := S1.zz a u q
         rw [ha] at this; exact (agf this).symm
       have t3 : b.Z a = none -> b.B a = none := S1.new a _ ha
       have back : ∀ {Z2 : Hp}, aA (upd Z1 a (.bK o (.dT gs))) Z2 -> aA Z (upd Z2 a (.dT gs)) := fun {Z2} s c u q => by
         have q1 := z1 c u q
         by_cases e : c = a
         . subst e
           rw [ha] at q1
           cases q1
           exact az
         . rw [ao e]
           exact s c u (by rw [ao e]; exact q1)
       refine ⟨fun j m σ H2 => m = gs.length - j /\ j <= gs.length /\ ∃ Z2 δ2, aA (upd Z1 a (.bK o (.dT gs))) Z2 /\ bf X.K CL (lF b a (.bK o (.dT gs))) H2 Z2 δ2 σ ts vs /\ P j δ2, ⟨_, rfl, agr _, _, δ1, .refl _, S2, h0⟩, ?_⟩
       rintro j m σ2 H2 ⟨rfl, hj, Z2, δ2, s, S3, p2⟩
       have za : Z2 a = some (.bK o (.dT gs)) := s a _ az
       by_cases g6 : j < gs.length
       . refine .inr ⟨⟨g6, S3.zh a _ za⟩, fun σ' H' => ∃ Z2 δ2, aA (upd Z1 a (.bK o (.dT gs))) Z2 /\ bf X.K CL (lF b a (.bK o (.dT gs))) H' Z2 δ2 σ' ts vs /\ P (j + 1) δ2, fun σ' H' h => ⟨gs.length - (j + 1), by omega, rfl, g6, h⟩, fun y H' hy => ?_⟩
         obtain ⟨tp, kb, k, v, hT, rfl, hg, hk, rfl⟩ := hy
         obtain ⟨d, Z3, wu, s3, S4⟩ := step S3 (z9.mono s) hT hg hk p2
         have za3 := s3 a _ za
         have s := s.trans s3
         refine ⟨_, _, rfl, kN.of az, rfl, _, _, rfl, _, _, rfl, rfl, ?_⟩
         exact hs _ j k d δ2 wu p2 _ Z3 _ ts vs _ S4 ⟨fun δ' σ' H' Z' s' S' k => ⟨Z', δ', s.trans s', S', k⟩, fun t v H' Z' δ' σ' s' S' k => .inr ⟨a, o, gs, S'.zh a _ (s' a _ za3), hz, M.rt t v _ _ δ' σ' (back (s.trans s')) (S'.xu (s' a _ za3) t1 t2 t3) k⟩, fun δ' σ' H' Z' s' S' k => .inr ⟨a, o, gs, S'.zh a _ (s' a _ za3), hz, M.nx δ' σ' _ _ (back (s.trans s')) (S'.xu (s' a _ za3) t1 t2 t3) k⟩, fun δ' σ' H' Z' s' S' k => ⟨Z', δ', s.trans s', S', k⟩⟩
       . have ej : j = gs.length := by omega
         subst ej
         exact .inl ⟨⟨af3 _, S3.zh a _ za⟩, .inr ⟨a, o, gs, S3.zh a _ za, hz, M.nx δ2 σ2 _ _ (back s) (S3.xu za t1 t2 t3) (hd δ2 (Ak ▸ p2))⟩⟩
     . refine ⟨a, gs, rfl, .inr ⟨o, S1.zh a _ ha, ?_⟩⟩
       refine ⟨fun j m σ H2 => m = gs.length - j /\ j <= gs.length /\ ∃ Z2 δ2, aA Z1 Z2 /\ bf X.K CL b H2 Z2 δ2 σ ts vs /\ P j δ2, ⟨_, rfl, agr _, _, δ1, .refl _, S1.pop, h0⟩, ?_⟩
       rintro j m σ2 H2 ⟨rfl, hj, Z2, δ2, s, S3, p2⟩
       have za : Z2 a = some (.bK o (.dT gs)) := s a _ ha
       by_cases g6 : j < gs.length
       . refine .inr ⟨⟨g6, S3.zh a _ za⟩, fun σ' H' => ∃ Z2 δ2, aA Z1 Z2 /\ bf X.K CL b H' Z2 δ2 σ' ts vs /\ P (j + 1) δ2, fun σ' H' h => ⟨gs.length - (j + 1), by omega, rfl, g6, h⟩, fun y H' hy => ?_⟩
         obtain ⟨tp, kb, k, v, hT, rfl, hg, hk, rfl⟩ := hy
         obtain ⟨d, Z3, wu, s3, S4⟩ := step S3 (rr.mono s) hT hg hk p2
         have s := s.trans s3
         refine ⟨_, _, rfl, kN.of az, rfl, _, _, rfl, _, _, rfl, rfl, ?_⟩
         exact hs _ j k d δ2 wu p2 _ Z3 _ ts vs _ S4 ⟨fun δ' σ' H' Z' s' S' k => ⟨Z', δ', s.trans s', S', k⟩, fun t v H' Z' δ' σ' s' S' k => .inl (M.rt t v _ _ δ' σ' (z1.trans (s.trans s')) S' k), fun δ' σ' H' Z' s' S' k => .inl (M.nx δ' σ' _ _ (z1.trans (s.trans s')) S' k), fun δ' σ' H' Z' s' S' k => ⟨Z', δ', s.trans s', S', k⟩⟩
       . have ej : j = gs.length := by omega
         subst ej
         exact .inl ⟨⟨af3 _, S3.zh a _ za⟩, .inl (M.nx δ2 σ2 _ _ (z1.trans s) S3 (hd δ2 (Ak ▸ p2)))⟩))
end
end L3
namespace Law
open PySem L2 L3
noncomputable def top (i : Nat) : Stmt := PySem.Challenge.pw_moodtree_k57_alike_flats.main.body.getD i (.Pass ⟨0, 0, 0, 0⟩)
noncomputable def chF : Nat -> List Int -> Int -> List Int
 | 0, _, _ => []
 | n + 1, es, k => if k = -1 then [] else k :: chF n es (es.getD k.toNat 0)
noncomputable def Uq (es : List Int) (m : Int) : List Int := chF (es.length + 1) es (es.getD m.toNat 0)
theorem fj (ds : List L3.D) : T.bK (.lst (ds.map T.sh)) = .lst ds := by rw [T.bK, ia]
noncomputable def Js (vW : Int -> Bool) (es : List Int) (a b t : Int) : Prop :=
 (t = -1 /\ ∀ x ∈ Uq es a, x ∈ Uq es b -> vW x = false) \/ (t ∈ Uq es a /\ t ∈ Uq es b /\ vW t = true /\ ∀ x ∈ Uq es a, x ∈ Uq es b -> vW x = true -> x = t \/ x ∈ Uq es t)
theorem Js.symm {vW : Int -> Bool} {es : List Int} {a b t : Int} (h : Js vW es a b t) : Js vW es b a t := by
 rcases h with ⟨e, h⟩ | ⟨h1, h2, h3, h4⟩
 . exact .inl ⟨e, fun x hx hy => h x hy hx⟩
 . exact .inr ⟨h2, h1, h3, fun x hx hy => h4 x hy hx⟩
theorem bF {ds : List L3.D} (h : D.aY ds = true) : (T.lst (ds.map T.sh)).clean = true := by
 rw [vK]
 induction ds with
 | nil => rfl
 | cons d ds ih =>
   rw [D.aY, agk] at h
   rw [agd, T.dz, ih h.2, T.clean, h.1]; rfl
noncomputable def aW (ns : List Int) (k : Int) : Int := if k < ns.length then ns.getD k.toNat 0 else 0
noncomputable def FQ : List Nat := (List.range 26).map (· + 97) ++ (List.range 10).map (· + 48)
theorem Jt : ("abcdefghijklmnopqrstuvwxyz0123456789" : Str).cps.toList = FQ := by decide +kernel
noncomputable def rE (k : Int) : Str := ⟨#[FQ.getD k.toNat 0]⟩
theorem Ur : ∀ n ∈ FQ, n < 1114112 := by decide +kernel
theorem Ju (k : Int) : PyData.strOk (rE k) = true := by
 unfold PyData.strOk rE
 have : FQ.getD k.toNat 0 < 1114112 := by
   rw [af6]
   cases e : FQ[k.toNat]? with
   | none => decide
   | some n => exact Ur n (af8 e)
 simpa [List.getD_eq_getElem?_getD] using this
noncomputable def NW (m : Int) : Int := (m * 48271 + 11) % 2147483647
noncomputable def iN (p : Int × Str) : Nat -> Int × Str
 | 0 => p
 | n + 1 => (NW (iN p n).1, (iN p n).2 ++ rE (NW (iN p n).1 % 36))
noncomputable def nm0 (c : Int) : Int × Str := (c / 12 % 10 ^ (9 : Int).toNat, rE (c / 12 % 10 ^ (9 : Int).toNat % 26))
theorem Jv (p : Int × Str) (n : Nat) : (iN p n).2.length = p.2.length + n := by
 induction n with
 | zero => rfl
 | succ n ih =>
   show ((iN p n).2 ++ rE _).length = _
   rw [str_len, ih]
   show _ + 1 = _
   omega
theorem Yz (p : Int × Str) (h : PyData.strOk p.2 = true) (n : Nat) : PyData.strOk (iN p n).2 = true := by
 induction n with
 | zero => exact h
 | succ n ih => exact BD _ _ ih (Ju _)
noncomputable def Ma (c : Int) : Str := (iN (nm0 c) (c % 12).toNat).2
theorem DU (c : Int) : (Ma c).length <= 12 := by
 unfold Ma
 rw [Jv]
 have h1 := ags c (show (12 : Int) ≠ 0 by decide)
 have h2 := agu c (show (0 : Int) < 12 by decide)
 show 1 + (c % 12).toNat <= 12
 omega
noncomputable def w13 : List Str := ["all", "and", "box", "call", "do", "far", "if", "in", "leaf", "near", "on", "one", "open"]
noncomputable def w6 : List Str := ["out", "put", "say", "shut", "then", "to"]
noncomputable def fD (c : Int) : Str := if Ma c ∈ w13 then Ma c ++ "0" else if Ma c ∈ w6 then Ma c ++ "0" else Ma c
theorem xA (c : Int) : PyData.strOk (fD c) = true := by
 have hb : PyData.strOk (Ma c) = true := Yz _ (Ju _) _
 have h0 : PyData.strOk ("0" : Str) = true := by decide +kernel
 unfold fD
 split
 . exact BD _ _ hb h0
 . split
   . exact BD _ _ hb h0
   . exact hb
noncomputable abbrev St3 := List Int × List Int × List Int
inductive J where
 | out (m : Int) | uY (m : Int) | keep (m p q : Int) | put (x p q : Int) | Mb (w : Str) (ds : List L3.D)
noncomputable def J.w : J -> Str
 | .out _ => "out"
 | .uY _ => "in"
 | .keep _ _ _ => "keep"
 | .put _ _ _ => "put"
 | .Mb w _ => w
noncomputable def J.ds : J -> List L3.D
 | .out m => [.int m]
 | .uY m => [.int m]
 | .keep m p q => [.int m, .int p, .int q]
 | .put x p q => [.int x, .int p, .int q]
 | .Mb _ ds => ds
noncomputable def J.d (r : J) : L3.D := .tup (.str r.w :: r.ds)
noncomputable def YB : List Str := ["sign", "way", "call", "say", "rest"]
noncomputable def Jw (d : L3.D) : Prop := (∃ i, d = .int i) \/ ∃ x, d = .str x
noncomputable def J.ok (s : St3) : J -> Prop
 | .keep m _ _ => 0 <= m /\ m < s.2.1.length
 | .put x _ _ => 0 <= x /\ x < s.2.2.length
 | .Mb w ds => w ∈ YB /\ ds.length <= 3 /\ ∀ d ∈ ds, Jw d
 | _ => True
theorem J.aam {s : St3} {r : J} (h : r.ok s) : r.ds.length <= 3 /\ ∀ d ∈ r.ds, Jw d := by
 cases r with
 | Mb w ds => exact h.2
 | out m => exact ⟨afV rfl, fun d hd => by simp only [J.ds, afX, af9, agQ] at hd; exact .inl ⟨_, hd⟩⟩
 | uY m => exact ⟨afV rfl, fun d hd => by simp only [J.ds, afX, af9, agQ] at hd; exact .inl ⟨_, hd⟩⟩
 | keep m p q => exact ⟨afV rfl, fun d hd => by
     simp only [J.ds, afX, af9, agQ] at hd
     rcases hd with h | h | h <;> exact .inl ⟨_, h⟩⟩
 | put m p q => exact ⟨afV rfl, fun d hd => by
     simp only [J.ds, afX, af9, agQ] at hd
     rcases hd with h | h | h <;> exact .inl ⟨_, h⟩⟩
noncomputable def Right (n : Nat) (s : St3) : J -> Prop
 | .out m => m ∈ s.1
 | .uY m => m ∉ s.1 /\ 0 <= m /\ m < n
 | .keep m p _ => 0 <= m /\ m < s.2.1.length /\ s.2.1.getD m.toNat 0 = p
 | .put x p _ => 0 <= x /\ x < s.2.2.length /\ s.2.2.getD x.toNat 0 = p
 | .Mb w ds => w ∈ YB /\ ds.length <= 3 /\ ∀ d ∈ ds, Jw d
theorem Right.ok {n : Nat} {s : St3} {r : J} (h : Right n s r) : r.ok s := by
 cases r with
 | out m => trivial
 | uY m => trivial
 | keep m p q => exact ⟨h.1, h.2.1⟩
 | put m p q => exact ⟨h.1, h.2.1⟩
 | Mb w ds => exact h
theorem YC (r : J) : oJ (L3.D.str r.w :: r.ds) 0 = some (.str r.w) := aN (j := 0) rfl
noncomputable def Jx (bx mo : Int) (bs : List Int) : Int := if bx = -1 then mo else bs.getD bx.toNat 0 + mo
inductive pe where
 | put (x b m : Int)
 | call (s : Str)
 | say (s : Str) (b m : Int)
noncomputable def pe.w : pe -> Str
 | .put _ _ _ => "put"
 | .call _ => "call"
 | .say _ _ _ => "say"
noncomputable def pe.ds : pe -> List L3.D
 | .put x b m => [.int x, .tup [.int b, .int m]]
 | .call s => [.str s]
 | .say s b m => [.str s, .tup [.int b, .int m]]
noncomputable def pe.d (q : pe) : L3.D := .tup (.str q.w :: q.ds)
noncomputable def tOk (bs : List Int) (b : Int) : Prop := b = -1 \/ (0 <= b /\ b < bs.length)
noncomputable def pe.ok (bs : List Int) : pe -> Prop
 | .put x b _ => (0 <= x /\ x < bs.length) /\ tOk bs b
 | .call _ => True
 | .say _ b _ => tOk bs b
noncomputable def pe.row (bs : List Int) : pe -> J
 | .put x b m => .put x (bs.getD x.toNat 0) (Jx b m bs)
 | .call s => .Mb "call" [.str s]
 | .say s b m => .Mb "say" [.str s, .int (Jx b m bs)]
theorem pA (q : pe) : q.d.iF = true := by cases q <;> rfl
inductive It where
 | out (m : Int) | keep (m p q : Int) | way (i : Int) | uY (m : Int) | fO (q : pe)
noncomputable def It.sj : It -> J
 | .out m => .out m
 | .keep m p q => .keep m p q
 | .way i => .Mb "way" [.int i]
 | .uY m => .uY m
 | .fO q => .Mb q.w q.ds
noncomputable def It.d (x : It) : L3.D := x.sj.d
noncomputable def It.j (bs : List Int) : It -> J
 | .fO q => q.row bs
 | x => x.sj
noncomputable def It.ok (bs : List Int) : It -> Prop
 | .fO q => q.ok bs
 | _ => True
noncomputable def It.told : It -> Bool
 | .fO _ => true
 | _ => false
noncomputable def cK : List Str := ["out", "keep", "way", "in"]
theorem r6 (x : It) : decide (x.sj.w ∈ cK) = !x.told := by
 cases x with
 | fO q =>
   cases q with
   | put x b m => show decide (("put" : Str) ∈ cK) = false; decide +kernel
   | call s => show decide (("call" : Str) ∈ cK) = false; decide +kernel
   | say s b m => show decide (("say" : Str) ∈ cK) = false; decide +kernel
 | out m => show decide (("out" : Str) ∈ cK) = true; decide +kernel
 | keep m p q => show decide (("keep" : Str) ∈ cK) = true; decide +kernel
 | way i => show decide (("way" : Str) ∈ cK) = true; decide +kernel
 | uY m => show decide (("in" : Str) ∈ cK) = true; decide +kernel
theorem Us (x : It) : x.d.iF = true := by
 cases x with
 | fO q => exact pA q
 | _ => rfl
noncomputable def trB (m : Nat) (p : Int) : Int := p % ((m : Int) + 1) - 1
noncomputable def trC (m : Nat) (p : Int) : Int := p / ((m : Int) + 1) / 3
noncomputable def trM (m : Nat) (p : Int) : Int := if p / ((m : Int) + 1) % 3 = 0 then trC m p % (2 * 10 ^ (9 : Int).toNat + 1) - 10 ^ (9 : Int).toNat else trC m p % 7 - 3
noncomputable def WM (m : Nat) (p : Int) : Int := if p / ((m : Int) + 1) % 3 = 0 then trC m p / (2 * 10 ^ (9 : Int).toNat + 1) else trC m p / 7
noncomputable def wN (k : Int) : Str := ("w" : Str) ++ (toString k : Str)
noncomputable def pcI (m : Nat) (hs : List Str) (p : Int) : It :=
 if p % 9 < 4 then ([.out 1, .keep 0 (-1) 2, .way (p / 9 % 5), .uY 2] : List It).getD (p % 9).toNat (.out 1)
 else if p % 9 < 6 /\ 0 < m then .fO (.put (p / 9 % (m : Int)) (trB m (p / 9 / (m : Int))) (trM m (p / 9 / (m : Int))))
 else if p % 9 < 8 then .fO (.say (wN (p / 9 % 3)) (trB m (p / 9 / 3)) (trM m (p / 9 / 3)))
 else .fO (.call (hs.getD (p / 9 % (hs.length : Int)).toNat Str.empty))
noncomputable def pcP (m : Nat) (hs : List Str) (p : Int) : Int :=
 if p % 9 < 4 then p / 9 / 5
 else if p % 9 < 6 /\ 0 < m then WM m (p / 9 / (m : Int))
 else if p % 9 < 8 then WM m (p / 9 / 3)
 else p / 9 / (hs.length : Int)
noncomputable def scR (m : Nat) (hs : List Str) (p : Int) : Nat -> Int
 | 0 => p
 | j + 1 => pcP m hs (scR m hs p j)
noncomputable def scI (m : Nat) (hs : List Str) (p : Int) : List It := (List.range (p % 4).toNat).map fun j => pcI m hs (scR m hs (p / 4) j)
noncomputable def scP (m : Nat) (hs : List Str) (p : Int) : Int := scR m hs (p / 4) (p % 4).toNat
noncomputable abbrev Ut := Str × Int × Int × Int × Int
noncomputable def mkL : List Str := ["<", "<=", "=", "!="]
noncomputable def akO (m : Nat) (p : Int) : Ut := (mkL.getD (p % 4).toNat Str.empty, trB m (p / 4), trM m (p / 4), trB m (WM m (p / 4)), trM m (WM m (p / 4)))
noncomputable def akP (m : Nat) (p : Int) : Int := WM m (WM m (p / 4))
noncomputable def akR (m : Nat) (p : Int) : Nat -> Int
 | 0 => p
 | j + 1 => akP m (akR m p j)
noncomputable def akL (m : Nat) (p : Int) (n : Nat) : List Ut := (List.range n).map fun j => akO m (akR m p j)
noncomputable abbrev BW := List Ut × List It × Int
noncomputable def rwN (p : Int) : Nat := (1 + p % 2).toNat
noncomputable def rwQ (m : Nat) (p : Int) : Int := akR m (p / 2) (rwN p)
noncomputable def rwO (m : Nat) (hs : List Str) (f : Nat) (p : Int) : BW := (akL m (p / 2) (rwN p), scI m hs (rwQ m p), scP m hs (rwQ m p) % (f : Int))
noncomputable def rwP (m : Nat) (hs : List Str) (f : Nat) (p : Int) : Int := scP m hs (rwQ m p) / (f : Int)
noncomputable def rwR (m : Nat) (hs : List Str) (f : Nat) (p : Int) : Nat -> Int
 | 0 => p
 | j + 1 => rwP m hs f (rwR m hs f p j)
noncomputable def rwL (m : Nat) (hs : List Str) (f : Nat) (p : Int) (n : Nat) : List BW := (List.range n).map fun j => rwO m hs f (rwR m hs f p j)
noncomputable def rwE (m : Nat) (hs : List Str) (f : Nat) (p : Int) : BW := ([], scI m hs p, scP m hs p % (f : Int))
noncomputable def tbR (m : Nat) (hs : List Str) (f : Nat) (c : Int) : List BW :=
 rwL m hs f (c % 10 ^ (64 : Int).toNat / 3) (c % 10 ^ (64 : Int).toNat % 3).toNat ++ [rwE m hs f (rwR m hs f (c % 10 ^ (64 : Int).toNat / 3) (c % 10 ^ (64 : Int).toNat % 3).toNat)]
noncomputable abbrev bC := List Key
noncomputable def kyR (hs : List Str) (a k : Nat) : bC := [.inl (a : Int), .inr (hs.getD k Str.empty)]
noncomputable def dcR (s : List Int) (m : Nat) (hs : List Str) (f a k : Nat) : List BW := tbR m hs f (aW s (4 + 2 * (a : Int) + (k : Int)))
noncomputable def dcI (s : List Int) (m : Nat) (hs : List Str) (f a n : Nat) : List (bC × List BW) := (List.range n).map fun k => (kyR hs a k, dcR s m hs f a k)
noncomputable def YD (s : List Int) (m : Nat) (hs : List Str) (f n : Nat) : List (bC × List BW) := (List.range n).flatMap fun a => dcI s m hs f a hs.length
theorem NX {s : List Int} {m : Nat} {hs : List Str} {f a n : Nat} : (dcI s m hs f a n).length = n := by unfold dcI; rw [afO, agc]
theorem Jy {s : List Int} {m : Nat} {hs : List Str} {f n : Nat} : YD s m hs f (n + 1) = YD s m hs f n ++ dcI s m hs f n hs.length := by
 unfold YD
 rw [ahA, ahG]
 simp
theorem NZ {s : List Int} {m : Nat} {hs : List Str} {f : Nat} : ∀ n, (YD s m hs f n).length = n * hs.length
 | 0 => by simp [YD]
 | n + 1 => by rw [Jy, afY, NX, NZ n, Nat.succ_mul]
noncomputable def isLt (c : Nat) : Bool := decide (97 <= c) && decide (c <= 122)
noncomputable def YF (c : Nat) : Bool := decide (48 <= c) && decide (c <= 57)
theorem aar (c : Nat) : QZ ⟨#[c]⟩ "abcdefghijklmnopqrstuvwxyz0123456789" = (isLt c || YF c) := by
 unfold QZ
 rw [PySem.StrLaws.found_one]
 have e : ("abcdefghijklmnopqrstuvwxyz0123456789" : Str).cps.toList = (List.range 26).map (· + 97) ++ (List.range 10).map (· + 48) := by decide +kernel
 rw [e]
 apply ah1.mpr
 simp only [isLt, YF, decide_eq_true_eq, agk, Bool.or_eq_true, af0, afZ, agX]
 constructor
 . rintro (⟨a, h, rfl⟩ | ⟨a, h, rfl⟩) <;> omega
 . intro h
   rcases h with h | h
   . exact .inl ⟨c - 97, by omega, by omega⟩
   . exact .inr ⟨c - 48, by omega, by omega⟩
inductive LkA
 | ab2 (x : Str) (m : Int)
 | num (mk : Str) (a1 c1 a2 c2 : Int)
noncomputable def ab3 : LkA -> Prop
 | .ab2 x _ => x ∈ (["open", "shut"] : List Str)
 | .num mk _ _ _ _ => ¬ mk ∈ (["open", "shut"] : List Str)
noncomputable def ae3 : L3.D -> L3.D
 | .tup [_, _, _, d, _, _] => d
 | d => d
inductive DdG
 | put (i a c : Int)
 | say (w x : Str) (a c : Int)
 | call (x : Str)
structure LgW where
 src : Int
 sign : Str
 al : List LkA
 dl : List DdG
 tgt : Int
 mode : Str
noncomputable def LgW.ok (w : LgW) : Prop := w.sign.length <= 1000 /\ ∀ q ∈ w.al, ab3 q
section
variable {bs hs bg pr : List L3.D} {R : L3.D} {TR : T}
noncomputable def rF (bs hs bg pr : List L3.D) (R : L3.D) : List (Str × L3.D) := [("boxes", .lst bs), ("signs", .lst hs), ("begin", .tup bg), ("flats", .lst pr), ("rows", R)]
noncomputable def jW (bs hs bg pr : List L3.D) (t : T) : List (Str × T) := [("boxes", .lst (bs.map T.sh)), ("signs", .lst (hs.map T.sh)), ("begin", .sh (.tup bg)), ("flats", .lst (pr.map T.sh)), ("rows", t)]
theorem Au : List.lookup ("boxes" : Str) (rF bs hs bg pr R) = some (.lst bs) := by
 unfold rF
 rw [mz]
theorem lH : List.lookup ("signs" : Str) (rF bs hs bg pr R) = some (.lst hs) := by
 unfold rF
 rw [eW (by decide +kernel), mz]
theorem Av : List.lookup ("begin" : Str) (rF bs hs bg pr R) = some (.tup bg) := by
 unfold rF
 rw [eW (by decide +kernel), eW (by decide +kernel), mz]
theorem rg : List.lookup ("flats" : Str) (rF bs hs bg pr R) = some (.lst pr) := by
 unfold rF
 rw [eW (by decide +kernel), eW (by decide +kernel), eW (by decide +kernel), mz]
theorem nX : List.lookup ("rows" : Str) (rF bs hs bg pr R) = some R := by
 unfold rF
 rw [eW (by decide +kernel), eW (by decide +kernel), eW (by decide +kernel), eW (by decide +kernel), mz]
theorem gB : List.lookup ("rows" : Str) (jW bs hs bg pr TR) = some TR := by
 unfold jW
 rw [eW (by decide +kernel), eW (by decide +kernel), eW (by decide +kernel), eW (by decide +kernel), mz]
theorem Aw {t2 : T} : jT "rows" t2 (jW bs hs bg pr TR) = jW bs hs bg pr t2 := by
 unfold jW
 rw [cM (by decide +kernel), cM (by decide +kernel), cM (by decide +kernel), cM (by decide +kernel), Fo]
theorem FT {y : Addr} {l : List (bC × T)} {t2 : T} : T.iS [.fld "rows"] t2 (.pin y (.ins "Table" (jW bs hs bg pr (.dct l)))) = .pin y (.ins "Table" (jW bs hs bg pr t2)) := by
 have hk : (T.core (.pin y (.ins "Table" (jW bs hs bg pr (.dct l))))).G3 (.fld "rows") = some (.dct l) := gB (bs := bs) (hs := hs) (bg := bg) (pr := pr)
 rw [T.iS, hk]
 show T.pin y (.ins "Table" (jT "rows" t2 (jW bs hs bg pr (.dct l)))) = _
 rw [Aw]
end
noncomputable def aT (kvs : List (bC × List L3.D)) : List (bC × T) := kvs.map fun q => (q.1, T.lst (q.2.map T.sh))
noncomputable def cN (kvs : List (bC × List L3.D)) : List (bC × L3.D) := kvs.map fun q => (q.1, L3.D.lst q.2)
noncomputable def kW (bs hs bg pr : List L3.D) (kvs : List (bC × List L3.D)) : List (Str × T) := jW bs hs bg pr (.dct (aT kvs))
noncomputable def pB (bs hs bg pr : List L3.D) (kvs : List (bC × List L3.D)) : L3.D := .ins "Table" (rF bs hs bg pr (.dct (cN kvs)))
theorem mD (kvs : List (bC × List L3.D)) : T.uV (aT kvs) = cN kvs := by
 induction kvs with
 | nil => show T.uV [] = []; rw [T.uV]
 | cons q r ih =>
   show T.uV ((q.1, T.lst (q.2.map T.sh)) :: aT r) = (q.1, L3.D.lst q.2) :: cN r
   rw [T.uV, fj, ih]
theorem lI (bs hs bg pr : List L3.D) (kvs : List (bC × List L3.D)) : T.bK (.ins "Table" (kW bs hs bg pr kvs)) = pB bs hs bg pr kvs := by
 unfold kW jW pB rF
 rw [T.bK, T.tF, T.tF, T.tF, T.tF, T.tF, T.tF, fj, fj, fj, T.bK, T.bK, mD]
theorem rj {kvs : List (bC × List L3.D)} (h : ∀ q ∈ kvs, D.aY q.2 = true) : T.jP (aT kvs) = true := by
 induction kvs with
 | nil => show T.jP [] = true; rw [T.jP]
 | cons q r ih =>
   show T.jP ((q.1, T.lst (q.2.map T.sh)) :: aT r) = true
   rw [T.jP, bF (h q afP), ih fun p hp => h p (afS _ hp)]
   rfl
theorem tT {bs hs bg pr : List L3.D} {kvs : List (bC × List L3.D)} (h1 : D.aY bs = true) (h2 : D.aY hs = true) (h3 : D.aY bg = true) (h4 : D.aY pr = true) (h5 : ∀ q ∈ kvs, D.aY q.2 = true) : T.gy (kW bs hs bg pr kvs) = true := by
 unfold kW jW
 rw [T.gy, T.gy, T.gy, T.gy, T.gy, T.gy, bF h1, bF h2, bF h4, T.clean, T.clean, D.iF, h3, rj h5]
 rfl
theorem N1 {α : Type} {l : List (bC × α)} (nd : (l.map (·.1)).Nodup) {j : Nat} {k : bC} {x : α} (h : l[j]? = some (k, x)) : eY l k = some x := by
 induction l generalizing j with
 | nil => simp at h
 | cons p l ih =>
   rw [agd, agB] at nd
   cases j with
   | zero =>
     simp at h
     subst h
     exact fY rfl
   | succ j =>
     have h : l[j]? = some (k, x) := h
     rw [fC (p := p) fun e => nd.1 (by rw [e]; exact afZ.mpr ⟨(k, x), af8 h, rfl⟩)]
     exact ih nd.2 h
theorem BX (kvs : List (bC × List L3.D)) : (cN kvs).map (·.1) = kvs.map (·.1) := by
 unfold cN
 rw [agh]
 rfl
theorem jX (kvs : List (bC × List L3.D)) : (aT kvs).map (·.1) = kvs.map (·.1) := by
 unfold aT
 rw [agh]
 rfl
noncomputable def YG (c s : Int) : Int := (c % 2147483647 + s) * 48271 % 2147483647
noncomputable def nY (c s : Int) : Int := YG c s * YG c s % 2147483629
theorem YH (c s : Int) : 0 <= YG c s /\ YG c s < 2147483647 := ⟨ags _ (by decide), agu _ (by decide)⟩
noncomputable def fZ (c : Int) : Int := if c % 2 = 0 then c / 2 % 9 - 4 else if c % 4 = 1 then c / 4 * 48271 % (10 ^ 30 - 1) else -(c / 4 * 48271 % (10 ^ 30 - 1))
theorem YJ (c : Int) : (fD c).length <= 13 := by
 have hb := DU c
 have h0 : ("0" : Str).length = 1 := by decide +kernel
 unfold fD
 split
 . rw [str_len]; omega
 . split
   . rw [str_len]; omega
   . omega
noncomputable def N2 : List Str := ["<", "<=", "=", "!="]
noncomputable def Uu (c : Int) (m : Nat) : Int := c % ((m : Int) + 1) - 1
noncomputable def Uv (c : Int) (m : Nat) : Int := fZ (c / ((m : Int) + 1))
noncomputable def YK (c : Int) (m : Nat) : L3.D := .tup [.str (N2.getD (nY c 31 % 4).toNat Str.empty), .tup [.int (Uu (c / 3) m), .int (Uv (c / 3) m)], .tup [.int (Uu (c / 7 + 2) m), .int (Uv (c / 7 + 2) m)]]
noncomputable def rG (c : Int) (m : Nat) (hh : List Str) : pe := if c % 5 = 1 then .call ((hh ++ [fD (c / 5)]).getD (c / 5 % ((hh.length : Int) + 1)).toNat Str.empty) else if c % 5 = 2 \/ m = 0 then .say (fD (c / 5)) (Uu (c / 5 / 7) m) (Uv (c / 5 / 7) m) else .put (c / 5 % m) (Uu (c / 5 / m) m) (Uv (c / 5 / m) m)
noncomputable def rH (s : List Int) : Str := Txt.slice (fD (aW s 0 / 2)) none (some 10)
noncomputable def Rc (s : List Int) : Int := nY (aW s 0) 37
noncomputable def n5 (s : List Int) : List Str := [rH s ++ "1", rH s ++ "12", rH s ++ "2"]
noncomputable def nn7 (s : List Int) : Nat := [2, 3, 1, 3, 2, 3, 1, 0].getD (Rc s % 8).toNat 0
noncomputable def Jz (s : List Int) : Nat := (Rc s / 8 % 3).toNat
noncomputable def iG (s : List Int) : List Str := ((n5 s).drop (Jz s) ++ (n5 s).take (Jz s)).take (nn7 s)
theorem n6 {α : Type} {l : List α} {k : Nat} {z : Int} (hz : z = (k : Int)) : cutD l none (some z) = l.take k := by
 subst hz
 unfold cutD
 have e1 : HT.eZ l.length 0 none = 0 := rfl
 have e2 : HT.eZ l.length l.length (some (k : Int)) = min k l.length := by
   unfold HT.eZ
   simp
   intro hk
   omega
 rw [e1, e2]
 simp [List.take_eq_take_iff]
theorem pC {α : Type} {l : List α} {k : Nat} {z : Int} (hz : z = (k : Int)) : cutD l (some z) none = l.drop k := by
 subst hz
 unfold cutD
 have e1 : HT.eZ l.length l.length none = l.length := rfl
 have e2 : HT.eZ l.length 0 (some (k : Int)) = min k l.length := by
   unfold HT.eZ
   simp
   intro hk
   omega
 rw [e1, e2]
 rcases Nat.le_total k l.length with z | z
 . rw [Nat.min_eq_left z]
   exact List.take_of_length_le (by rw [aht]; omega)
 . rw [Nat.min_eq_right z, List.drop_of_length_le z, List.drop_of_length_le (af3 _), List.take_nil]
noncomputable abbrev F7 := List L3.D × List It
noncomputable def qD (r : F7) : L3.D := .tup [.tup r.1, .tup (r.2.map It.d)]
noncomputable def FU (s : List Int) : Int := if (s.length : Int) > 1 then (s.length : Int) else 1
theorem Uw (s : List Int) : 1 <= FU s := by unfold FU; split <;> omega
noncomputable def Mf (s : List Int) (p t : Nat) : Int := aW s (((p : Int) * 3 + (t : Int)) % FU s)
noncomputable def Ax (s : List Int) (p t : Nat) : Int := nY (Mf s p t) (41 + (p : Int) * 7 + (t : Int))
noncomputable def Ux (c x : Int) (m k : Nat) : List L3.D := (List.range (1 + x / 4 % 2).toNat).map fun (a : Nat) => YK (c / ((a : Int) + 2) + 5 * (k : Int)) m
noncomputable def Uy (c x : Int) (p m : Nat) (hh : List Str) (k : Nat) : List It := (List.range (x / 8 % 3).toNat).map fun (a : Nat) => .fO (rG (c / ((a : Int) + 1) + 3 * (k : Int) + (p : Int)) m hh)
noncomputable def WN (s : List Int) (p t m : Nat) (hh : List Str) (n : Nat) : List F7 := (List.range n).map fun (k : Nat) => (Ux (Mf s p t) (Ax s p t) m k, Uy (Mf s p t) (Ax s p t) p m hh k)
noncomputable def Uz (s : List Int) (p t m : Nat) (hh : List Str) (cl : Bool) : List F7 := if (cl || decide (Ax s p t / 24 % 2 = 0)) = true then [([], [It.fO (rG (Mf s p t + (p : Int)) m hh)].take (Ax s p t / 48 % 2).toNat)] else []
noncomputable def FW (s : List Int) (p t m : Nat) (hh : List Str) (cl : Bool) : List F7 := WN s p t m hh (Ax s p t % 4).toNat ++ Uz s p t m hh cl
theorem DV (s : List Int) (p t m : Nat) (hh : List Str) (cl : Bool) : (FW s p t m hh cl).length <= 4 := by
 unfold FW WN Uz
 have h0 := ags (Ax s p t) (b := 4) (by decide)
 have h1 := agu (Ax s p t) (b := 4) (by decide)
 rw [afY, afO, agc]
 split
 . show _ + 1 <= 4
   omega
 . show _ + 0 <= 4
   omega
theorem r9 (s : List Int) (p t m : Nat) (hh : List Str) : 0 < (FW s p t m hh true).length := by
 unfold FW Uz
 rw [agb (by simp), afY]
 show 0 < _ + 1
 omega
theorem DW (c x : Int) (m k : Nat) : D.aY (Ux c x m k) = true := gQ (fun _ => rfl) _
theorem di (l : List It) : D.aY (l.map It.d) = true := gQ Us _
theorem JA (r : F7) (h : D.aY r.1 = true) : (qD r).iF = true := by
 show (D.aY r.1 && (D.aY (r.2.map It.d) && true)) = true
 rw [h, di]
 rfl
theorem fM {f : Nat -> L3.D} {g : L3.D -> T} (n : Int) (hg : ∀ k : Nat, g (.int (0 + (k : Int))) = T.sh (f k)) : ((b7 0 n.toNat).filter fun _ => true).map g = ((List.range n.toNat).map f).map T.sh := by
 rw [dZ]
 unfold b7
 rw [agh, agh]
 exact agT fun k _ => hg k
theorem f6 {n : Nat} {d : L3.D} (h : d ∈ b7 0 n) : ∃ k : Nat, k < n /\ d = .int (k : Int) := by
 obtain ⟨k, hk, rfl⟩ := afZ.mp h
 exact ⟨k, agX.mp hk, by rw [agK]⟩
theorem N3 {f : Nat -> F7} (n : Nat) : (((List.range (n + 1)).map f).map qD).map T.sh = (((List.range n).map f).map qD).map T.sh ++ [T.sh (qD (f n))] := by rw [ahA, aga, aga, aga]; rfl
theorem sd {s : List Int} {p t m : Nat} {hh : List Str} {cl : Bool} : ∀ r ∈ FW s p t m hh cl, D.aY r.1 = true := fun r hr => by
 rcases af0.mp hr with z | z
 . obtain ⟨k, _, rfl⟩ := afZ.mp z
   exact DW ..
 . unfold Uz at z
   split at z
   . rw [agw.mp z]; rfl
   . cases z
noncomputable def xB (s : List Int) : Bool := decide (nY (aW s 0) 47 % 2 = 0)
noncomputable def FY (t : Nat) : It := .fO (.say "odd0" (-1) (t : Nat))
noncomputable def n9 (t : Nat) : L3.D := .tup [.str "!=", .tup [.int (-1), .int (t : Nat)], .tup [.int (-1), .int (t : Nat)]]
noncomputable def kZ : F7 := ([], [])
noncomputable def FZ (t : Nat) (r : List F7) : List F7 := r.set (r.length - 1) ((r.getD (r.length - 1) kZ).1, (r.getD (r.length - 1) kZ).2 ++ [FY t])
noncomputable def rJ (t : Nat) (r : List F7) : List F7 := if 1 < r.length then r.set 0 (n9 t :: (r.getD 0 kZ).1, (r.getD 0 kZ).2) else ([n9 t], []) :: r
noncomputable def jY (s : List Int) (p t m : Nat) (hh : List Str) (cl : Bool) : List F7 := if xB s = true then FW s 0 t m hh true else FW s p t m hh cl
noncomputable def rm (s : List Int) (p t m : Nat) (hh : List Str) (cl : Bool) : List F7 := if (xB s && decide (p = 0)) = true then FZ t (jY s p t m hh cl) else jY s p t m hh cl
noncomputable def xC (s : List Int) (p t m : Nat) (hh : List Str) (cl : Bool) : List F7 := if (xB s && decide (p = 1)) = true then rJ t (rm s p t m hh cl) else rm s p t m hh cl
noncomputable def A7 (s : List Int) (m : Nat) (hh : List Str) (cl : Bool) (n : Nat) : List (List F7) := (List.range n).map fun (i : Nat) => xC s (i / 3) (i % 3) m hh cl
noncomputable def rq (r : List F7) : T := .lst ((r.map qD).map T.sh)
theorem se {s : List Int} {p t m : Nat} {hh : List Str} {cl : Bool} : ∀ r ∈ jY s p t m hh cl, D.aY r.1 = true := by
 unfold jY
 split
 . exact sd
 . exact sd
theorem xD (s : List Int) (p t m : Nat) (hh : List Str) (cl : Bool) : (jY s p t m hh cl).length <= 4 := by
 unfold jY
 split
 . exact DV ..
 . exact DV ..
theorem pD {s : List Int} {p t m : Nat} {hh : List Str} {cl : Bool} : ∀ r ∈ rm s p t m hh cl, D.aY r.1 = true := fun r hr => by
 unfold rm at hr
 split at hr
 . rename_i ha
   have ha := (agk _ _ ▸ ha).1
   rcases ag4 hr with z | z
   . exact se r z
   . rw [z]
     have hp : 0 < (jY s p t m hh cl).length := by unfold jY; rw [agb ha]; exact r9 ..
     show D.aY ((jY s p t m hh cl).getD ((jY s p t m hh cl).length - 1) kZ).1 = true
     rw [af6, afR (by omega)]
     exact se _ (ahh _)
 . exact se r hr
theorem DX (s : List Int) (p t m : Nat) (hh : List Str) (cl : Bool) : (rm s p t m hh cl).length <= 4 := by
 unfold rm FZ
 split
 . rw [ah2]; exact xD ..
 . exact xD ..
theorem xE (s : List Int) (p t m : Nat) (hh : List Str) (cl : Bool) : (xC s p t m hh cl).length <= 5 := by
 have := DX s p t m hh cl
 unfold xC rJ
 split
 . split
   . rw [ah2]; omega
   . rw [agS]; omega
 . omega
theorem xF {s : List Int} {p t m : Nat} {hh : List Str} {cl : Bool} : ∀ r ∈ xC s p t m hh cl, D.aY r.1 = true := fun r hr => by
 unfold xC rJ at hr
 split at hr
 . split at hr
   . rename_i hl
     rcases ag4 hr with z | z
     . exact pD r z
     . rw [z]
       show (true && D.aY ((rm s p t m hh cl).getD 0 kZ).1) = true
       rw [af6, afR (by omega)]
       rw [Bool.true_and]
       exact pD _ (ahh _)
   . rcases afX.mp hr with z | z
     . rw [z]; rfl
     . exact pD r z
 . exact pD r hr
theorem JB (s : List Int) (m : Nat) (hh : List Str) (cl : Bool) (p t : Nat) (ht : t < 3) : (A7 s m hh cl (3 * p + t + 1)).map rq = (A7 s m hh cl (3 * p + t)).map rq ++ [rq (xC s p t m hh cl)] := by
 unfold A7
 rw [ahA, aga, aga]
 show _ ++ [rq (xC s ((3 * p + t) / 3) ((3 * p + t) % 3) m hh cl)] = _
 rw [show (3 * p + t) / 3 = p by omega, show (3 * p + t) % 3 = t by omega]
theorem tU {α : Type} {f : α -> L3.D} {l : List α} (h : ∀ x ∈ l, (f x).iF = true) : D.aY (l.map f) = true := jS fun d hd => by
 obtain ⟨x, hx, rfl⟩ := afZ.mp hd
 exact h x hx
theorem DY {n : Nat} (h : 0 < n) : Dg n (-1) = some (n - 1) := by
 unfold Dg
 simp only [show ¬ (0 : Int) <= -1 by decide, ahl]
 rw [agb (by omega)]
 congr 1
 omega
theorem UA {α : Type} {l : List α} (h : 0 < l.length) : oJ l (-1) = l[l.length - 1]? := by
 unfold oJ
 rw [DY h]
 rfl
theorem qE {r : List F7} (h : ∀ q ∈ r, D.aY q.1 = true) : (rq r).clean = true := bF (tU fun q hq => JA q (h q hq))
theorem JC (r : List F7) : T.bK (rq r) = .lst (r.map qD) := fj _
noncomputable def N4 (n : Nat) (r : F7) : Prop := r.1.length <= n /\ r.2.length <= n
theorem JD {s : List Int} {p t m : Nat} {hh : List Str} {cl : Bool} : ∀ r ∈ FW s p t m hh cl, N4 2 r := fun r hr => by
 have a0 := ags (Ax s p t / 4) (b := 2) (by decide)
 have a1 := agu (Ax s p t / 4) (b := 2) (by decide)
 have d0 := ags (Ax s p t / 8) (b := 3) (by decide)
 have d1 := agu (Ax s p t / 8) (b := 3) (by decide)
 rcases af0.mp hr with z | z
 . obtain ⟨k, _, rfl⟩ := afZ.mp z
   refine ⟨?_, ?_⟩
   . show (Ux _ _ _ _).length <= 2
     unfold Ux
     rw [afO, agc]
     omega
   . show (Uy _ _ _ _ _ _).length <= 2
     unfold Uy
     rw [afO, agc]
     omega
 . unfold Uz at z
   split at z
   . rw [agw.mp z]
     refine ⟨agr _, ?_⟩
     show (List.take _ _).length <= 2
     rw [agv]
     show min _ 1 <= 2
     omega
   . cases z
theorem u5 {α : Type} {l : List α} {k : Nat} {z : α} (h : k < l.length) : l.getD k z ∈ l := by
 rw [af6, afR h]
 exact ahh _
theorem BZ {s : List Int} {p t m : Nat} {hh : List Str} {cl : Bool} : ∀ r ∈ jY s p t m hh cl, N4 2 r := by
 unfold jY
 split
 . exact JD
 . exact JD
theorem B3 {s : List Int} {p t m : Nat} {hh : List Str} {cl : Bool} : ∀ r ∈ rm s p t m hh cl, N4 3 r := fun r hr => by
 have up : ∀ r ∈ jY s p t m hh cl, N4 3 r := fun r hr => by
   obtain ⟨a, b⟩ := BZ r hr
   exact ⟨by omega, by omega⟩
 unfold rm at hr
 split at hr
 . rename_i ha
   have ha := (agk _ _ ▸ ha).1
   rcases ag4 hr with z | z
   . exact up r z
   . rw [z]
     have hp : 0 < (jY s p t m hh cl).length := by unfold jY; rw [agb ha]; exact r9 ..
     obtain ⟨a, b⟩ : N4 2 ((jY s p t m hh cl).getD ((jY s p t m hh cl).length - 1) kZ) := BZ (s := s) (p := p) (t := t) (m := m) (hh := hh) (cl := cl) _ (u5 (l := jY s p t m hh cl) (k := (jY s p t m hh cl).length - 1) (z := kZ) (by omega))
     refine ⟨by show ((jY s p t m hh cl).getD ((jY s p t m hh cl).length - 1) kZ).1.length <= 3; omega, ?_⟩
     show (((jY s p t m hh cl).getD ((jY s p t m hh cl).length - 1) kZ).2 ++ [FY t]).length <= 3
     rw [afY]
     show _ + 1 <= 3
     omega
 . exact up r hr
theorem JF {s : List Int} {p t m : Nat} {hh : List Str} {cl : Bool} : ∀ r ∈ xC s p t m hh cl, N4 4 r := fun r hr => by
 have up : ∀ r ∈ rm s p t m hh cl, N4 4 r := fun r hr => by
   obtain ⟨a, b⟩ := B3 r hr
   exact ⟨by omega, by omega⟩
 unfold xC rJ at hr
 split at hr
 . split at hr
   . rename_i hl
     rcases ag4 hr with z | z
     . exact up r z
     . rw [z]
       obtain ⟨a, b⟩ : N4 3 ((rm s p t m hh cl).getD 0 kZ) := B3 (s := s) (p := p) (t := t) (m := m) (hh := hh) (cl := cl) _ (u5 (l := rm s p t m hh cl) (k := 0) (z := kZ) (by omega))
       refine ⟨?_, by show ((rm s p t m hh cl).getD 0 kZ).2.length <= 4; omega⟩
       show (n9 t :: ((rm s p t m hh cl).getD 0 kZ).1).length <= 4
       rw [agS]
       omega
   . rcases afX.mp hr with z | z
     . rw [z]; exact ⟨by show 1 <= 4; decide, by show 0 <= 4; decide⟩
     . exact up r z
 . exact up r hr
noncomputable def b9 (ks : List Nat) : List Int := ks.map fun (k : Nat) => (k : Int)
noncomputable def kX (ks : List Nat) : Nat := ks.foldr max 0
theorem DZ {ks : List Nat} {x : Nat} (h : x ∈ ks) : x <= kX ks := by
 induction ks with
 | nil => cases h
 | cons y ks ih =>
   show x <= max y (kX ks)
   rcases afX.mp h with rfl | h
   . omega
   . have := ih h; omega
theorem Ay {ks : List Nat} (h : ks ≠ []) : kX ks ∈ ks := by
 induction ks with
 | nil => exact absurd rfl h
 | cons y ks ih =>
   show max y (kX ks) ∈ _
   by_cases e : ks = []
   . subst e
     rw [show kX [] = 0 from rfl, Nat.max_zero]
     exact afP
   . rcases Nat.le_total y (kX ks) with z | z
     . rw [Nat.max_eq_right z]; exact afS _ (ih e)
     . rw [Nat.max_eq_left z]; exact afP
theorem UB {ks : List Nat} (h : ks ≠ []) : ((kX ks : Nat) : Int) ∈ b9 ks /\ ∀ x ∈ b9 ks, x <= ((kX ks : Nat) : Int) :=
 ⟨afZ.mpr ⟨_, Ay h, rfl⟩, fun x hx => by
   obtain ⟨k, hk, rfl⟩ := afZ.mp hx
   have := DZ hk
   omega⟩
theorem lJ {ks : List Nat} {f : Nat} (h : f < ks.length) : oJ ((b9 ks).map L3.D.int) (f : Nat) = some (.int (ks.getD f 0 : Nat)) := by
 refine aN (j := f) ?_
 unfold b9
 rw [af2, af2, afR h, af6, afR h]
 rfl
noncomputable def Rf (s : List Int) (ks : List Nat) (f t r : Nat) : Int := if xB s = true then (((ks.getD f 0 : Nat) : Int) + ([1, 0, 2] : List Int).getD (((t : Int) + (r : Int)) % 3).toNat 0) % (((kX ks : Nat) : Int) + 1) else nY (aW s (((ks.getD f 0 : Nat) : Int) + (t : Int) + (r : Int))) 53 % (((kX ks : Nat) : Int) + 1)
noncomputable def Mg (ks : List Nat) (w : Int) : List Nat := (List.range ks.length).filter fun (k : Nat) => decide (((ks.getD k 0 : Nat) : Int) = w)
noncomputable def F0 (ks : List Nat) (w : Int) : List Nat := if Mg ks w = [] then List.range ks.length else Mg ks w
theorem D0 (ks : List Nat) (w : Int) (h : 0 < ks.length) : 0 < (F0 ks w).length := by
 unfold F0
 split
 . rw [agc]; exact h
 . rename_i e
   exact List.length_pos_iff.mpr e
theorem UC (ks : List Nat) (w : Int) : ∀ k ∈ F0 ks w, k < ks.length := fun k hk => by
 unfold F0 at hk
 split at hk
 . exact agX.mp hk
 . exact agX.mp (ahK.mp hk).1
noncomputable def F2 (s : List Int) (ks : List Nat) (f t r : Nat) : Nat := (F0 ks (Rf s ks f t r)).getD (nY (aW s (f : Nat)) (59 + (t : Int) * 5 + (r : Int)) % ((F0 ks (Rf s ks f t r)).length : Int)).toNat 0
theorem D3 {x : Int} {n : Nat} (h : 0 < n) : 0 <= x % (n : Int) /\ (x % (n : Int)).toNat < n := by
 have h0 := ags x (b := (n : Int)) (by omega)
 have h1 := agu x (b := (n : Int)) (by omega)
 exact ⟨h0, by omega⟩
theorem UD (s : List Int) (ks : List Nat) (f t r : Nat) (h : 0 < ks.length) : F2 s ks f t r < ks.length := UC ks (Rf s ks f t r) _ (u5 (D3 (D0 ks _ h)).2)
noncomputable abbrev R7 := List L3.D × List It × Nat
noncomputable def gV (r : R7) : L3.D := .tup [.tup r.1, .tup (r.2.1.map It.d), .int (r.2.2 : Nat)]
noncomputable def G4 (l : List It) (f n to : Nat) : List It := if f % 3 = 0 then l else [It.out ((f : Int) + 1), .keep 0 (-1) ((f : Int) + 1)] ++ l.take 1 ++ [It.way (n : Nat)] ++ l.drop 1 ++ [It.uY ((to : Int) + 1)]
noncomputable def N5 (s : List Int) (a : Nat) : Nat := if nY (aW s 0) 71 % 4 = 0 then a % 3 else a
noncomputable def mm7 (s : List Int) (a m : Nat) : Int := nY (aW s (N5 s a : Nat)) 73 % ((m : Int) + 1) - 1
noncomputable def JG (s : List Int) (a m : Nat) : L3.D := .tup [if N5 s a % 3 = 1 then .tup [.int 0, .int ((N5 s a : Int) + 1), .int ((m : Int) + 1)] else .tup [.int 0, .int ((N5 s a : Int) + 1)], .tup (.int (mm7 s a m) :: List.replicate m (.int (-1)))]
theorem tV {x y z : Str} (h : x ++ y = x ++ z) : y = z := by
 have h1 : x.cps ++ y.cps = x.cps ++ z.cps := congrArg Str.cps h
 have h2 : y.cps = z.cps := by
   apply Array.ext'
   have := congrArg Array.toList h1
   rw [Array.toList_append, Array.toList_append] at this
   exact List.append_cancel_left this
 cases y
 cases z
 cases h2
 rfl
theorem N6 (s : List Int) : (n5 s).Nodup := by
 unfold n5
 have e1 : rH s ++ "1" ≠ rH s ++ "12" := fun z => absurd (tV z) (by decide +kernel)
 have e2 : rH s ++ "1" ≠ rH s ++ "2" := fun z => absurd (tV z) (by decide +kernel)
 have e3 : rH s ++ "12" ≠ rH s ++ "2" := fun z => absurd (tV z) (by decide +kernel)
 simp [e1, e2, e3]
theorem JH (s : List Int) : (iG s).Nodup := by
 unfold iG
 refine List.Nodup.sublist (List.take_sublist _ _) ?_
 have h := N6 s
 rw [← List.take_append_drop (Jz s) (n5 s)] at h
 exact (agE.nodup_iff).mp h
theorem xG (s : List Int) : (iG s).length <= 3 := by
 unfold iG
 have h3 : (n5 s).length = 3 := rfl
 rw [agv, afY, aht, agv, h3]
 omega
noncomputable def mE (a : Nat) (x : Str) : bC := [.inl (a : Int), .inr x]
theorem D4 {a c : Nat} {x y : Str} (h : mE a x = mE c y) : a = c /\ x = y := by
 unfold mE at h
 injection h with h1 h2
 injection h1 with h1
 injection h2 with h2 _
 injection h2 with h2
 exact ⟨by omega, h2⟩
noncomputable def d7 (R : List (bC × List R7)) : List (bC × List L3.D) := R.map fun q => (q.1, q.2.map gV)
theorem tW (R : List (bC × List R7)) : (d7 R).map (·.1) = R.map (·.1) := by
 unfold d7
 rw [agh]
 rfl
noncomputable def JK (s : List Int) (ks : List Nat) (f t : Nat) (fs : List F7) (n : Nat) : List R7 := (List.range n).map fun (i : Nat) => ((fs.getD i kZ).1, G4 (fs.getD i kZ).2 f i (F2 s ks f t i), F2 s ks f t i)
noncomputable def G0 (s : List Int) (ks : List Nat) (f t : Nat) (fs : List F7) : List R7 := JK s ks f t fs fs.length
theorem JL (s : List Int) (ks : List Nat) (f t : Nat) (fs : List F7) (n : Nat) : ((JK s ks f t fs (n + 1)).map gV).map T.sh = ((JK s ks f t fs n).map gV).map T.sh ++ [T.sh (gV ((fs.getD n kZ).1, G4 (fs.getD n kZ).2 f n (F2 s ks f t n), F2 s ks f t n))] := by
 unfold JK
 rw [ahA, aga, aga, aga]
 rfl
noncomputable def vX (s : List Int) (ks : List Nat) (hs : List Str) (FF : List (List F7)) (n : Nat) : List (bC × List R7) := (List.range n).map fun (i : Nat) => (mE (i / hs.length) (hs.getD (i % hs.length) Str.empty), G0 s ks (i / hs.length) (i % hs.length) (FF.getD (ks.getD (i / hs.length) 0 * 3 + i % hs.length) []))
theorem dv7 {j H t : Nat} (h : t < H) : (j * H + t) / H = j /\ (j * H + t) % H = t := by
 have hp : 0 < H := by omega
 constructor
 . rw [Nat.mul_comm, Nat.mul_add_div hp, Nat.div_eq_of_lt h, Nat.add_zero]
 . rw [Nat.mul_comm, Nat.mul_add_mod, Nat.mod_eq_of_lt h]
theorem JM (s : List Int) (ks : List Nat) (hs : List Str) (FF : List (List F7)) {j t : Nat} (h : t < hs.length) : vX s ks hs FF (j * hs.length + t + 1) = vX s ks hs FF (j * hs.length + t) ++ [(mE j (hs.getD t Str.empty), G0 s ks j t (FF.getD (ks.getD j 0 * 3 + t) []))] := by
 unfold vX
 rw [ahA, aga, List.map_singleton, (dv7 h).1, (dv7 h).2]
theorem getD_inj {hs : List Str} (nd : hs.Nodup) {i j : Nat} (hi : i < hs.length) (hj : j < hs.length) (e : hs.getD i Str.empty = hs.getD j Str.empty) : i = j := by
 rw [af6, af6, afR hi, afR hj] at e
 exact (List.getElem?_inj hi nd).mp (by rw [afR hi, afR hj]; exact congrArg some e)
theorem N7 (s : List Int) (ks : List Nat) {hs : List Str} (FF : List (List F7)) (nd : hs.Nodup) {j t : Nat} (h : t < hs.length) : mE j (hs.getD t Str.empty) ∉ (vX s ks hs FF (j * hs.length + t)).map (·.1) := fun hm => by
 unfold vX at hm
 rw [agh] at hm
 obtain ⟨i, hi, e⟩ := afZ.mp hm
 have hi := agX.mp hi
 obtain ⟨e1, e2⟩ := D4 e
 have e3 := getD_inj nd (Nat.mod_lt i (by omega)) h e2
 have e1 : i / hs.length = j := e1
 have e3 : i % hs.length = t := e3
 have := Nat.div_add_mod i hs.length
 rw [e1, e3, Nat.mul_comm] at this
 omega
noncomputable def n7 (s : List Int) (q : Nat) : Nat := max 1 (min s.length q)
noncomputable def Rg (k : Nat) : Str := ("box" : Str) ++ (toString (k : Int) : Str)
noncomputable def uN (s : List Int) : List (Str × Int) := (List.range (s.length % 4)).map fun (k : Nat) => (Rg k, fZ (aW s ((k : Int) + 2)))
noncomputable def dR (x : Str × Int) : L3.D := .tup [.str x.1, .int x.2]
theorem N8 (s : List Int) : (uN s).length = s.length % 4 := by unfold uN; rw [afO, agc]
theorem D5 : ∀ k : Nat, k < 4 -> ((Rg k).length = 4 /\ PyData.strOk (Rg k) = true) /\ ((toString (k : Int) : Str).length = 1 /\ (k : Int).natAbs.log2 < 1920) := by decide +kernel
noncomputable def u6 (s : List Int) : Nat := (1 + nY (aW s 0) 43 % 6).toNat
theorem JN (s : List Int) : 1 <= u6 s /\ u6 s <= 6 /\ ((u6 s : Nat) : Int) = 1 + nY (aW s 0) 43 % 6 := by
 unfold u6
 have h0 := ags (nY (aW s 0) 43) (b := 6) (by decide)
 have h1 := agu (nY (aW s 0) 43) (b := 6) (by decide)
 omega
noncomputable def qm (s : List Int) (q : Nat) : List Nat := (List.range (n7 s q)).map fun (k : Nat) => (nY (aW s (k : Nat)) 61 % ((u6 s : Nat) : Int)).toNat
theorem D6 (s : List Int) (q : Nat) : (qm s q).length = n7 s q := by unfold qm; rw [afO, agc]
theorem JQ (s : List Int) (q : Nat) : ∀ k ∈ qm s q, k < u6 s := fun k hk => by
 obtain ⟨i, _, rfl⟩ := afZ.mp hk
 exact (D3 (by have := JN s; omega)).2
noncomputable def Az (s : List Int) (cl : Bool) : List (List F7) := A7 s (uN s).length (iG s) cl (3 * u6 s)
noncomputable def F3 (s : List Int) (q : Nat) (cl : Bool) : List (bC × List R7) := vX s (qm s q) (iG s) (Az s cl) (n7 s q * (iG s).length)
noncomputable def Rh (s : List Int) (q : Nat) : List L3.D := (List.range (n7 s q)).map fun (k : Nat) => JG s k (n7 s q)
noncomputable def UE (s : List Int) : List It := [.uY 0, .uY 1, .fO (rG (aW s 1) (uN s).length (iG s))]
noncomputable def N9 (bs : List (Str × Int)) (hs : List Str) (bg : List It) (pr : List L3.D) (R : List (bC × List R7)) : T := .lst [.lst ((bs.map dR).map T.sh), .lst ((hs.map .str).map T.sh), .sh (.tup (bg.map It.d)), .lst (pr.map T.sh), .dct (aT (d7 R))]
noncomputable def Oa (bs : List (Str × Int)) (hs : List Str) (bg : List It) (pr : List L3.D) (R : List (bC × List R7)) : L3.D := .lst [.lst (bs.map dR), .lst (hs.map .str), .tup (bg.map It.d), .lst pr, .dct (cN (d7 R))]
theorem pF (bs : List (Str × Int)) (hs : List Str) (bg : List It) (pr : List L3.D) (R : List (bC × List R7)) : (N9 bs hs bg pr R).bK = Oa bs hs bg pr R := by
 unfold N9 Oa
 rw [T.bK, T.d9, T.d9, T.d9, T.d9, T.d9, T.d9, fj, fj, fj, T.bK, T.bK, mD]
theorem JR {s : List Int} {cl : Bool} {k : Nat} (h : k < 3 * u6 s) : (Az s cl)[k]? = some (xC s (k / 3) (k % 3) (uN s).length (iG s) cl) := by
 unfold Az A7
 rw [af2, afR (by rw [agc]; exact h), List.getElem_range]
 rfl
noncomputable def Ob (FF : List (List F7)) : List L3.D := FF.map fun r => .lst (r.map qD)
theorem Oc (FF : List (List F7)) : (T.lst (FF.map rq)).bK = .lst (Ob FF) := by
 rw [T.bK]
 congr 1
 induction FF with
 | nil => show T.d9 [] = []; rw [T.d9]
 | cons r FF ih => show T.d9 (rq r :: FF.map rq) = .lst (r.map qD) :: Ob FF; rw [T.d9, JC, ih]
theorem xH : ∀ {ts : List T}, (∀ t ∈ ts, t.clean = true) -> T.dz ts = true
 | [], _ => by rw [T.dz]
 | t :: ts, h => by rw [T.dz, h t afP, xH fun u hu => h u (afS _ hu)]; rfl
theorem D7 (s : List Int) (a m : Nat) : (JG s a m).iF = true := by
 unfold JG
 have h2 : D.aY (L3.D.int (mm7 s a m) :: List.replicate m (.int (-1))) = true := jS fun d hd => by
   rcases afX.mp hd with rfl | hd
   . rfl
   . rw [ahE hd]; rfl
 rw [D.iF, D.aY, D.aY, D.aY, D.iF, h2]
 split <;> rfl
section
variable {α β : Type} [DecidableEq α] [DecidableEq β]
noncomputable def unq (l : List α) : List α := l.foldl (fun acc d => if d ∈ acc then acc else acc ++ [d]) []
noncomputable def bP (l : List α) : List Nat := l.map fun d => (unq l).idxOf d
theorem dY (l : List α) (d : α) : unq (l ++ [d]) = if d ∈ unq l then unq l else unq l ++ [d] := by
 unfold unq
 rw [List.foldl_append]
 rfl
theorem snoc_ind {P : List α -> Prop} (h0 : P []) (h1 : ∀ l d, P l -> P (l ++ [d])) (l : List α) : P l := by
 rw [← List.reverse_reverse l]
 induction l.reverse with
 | nil => exact h0
 | cons d l ih => rw [aho]; exact h1 _ _ ih
theorem cz {d : α} {l : List α} : d ∈ unq l ↔ d ∈ l := by
 induction l using snoc_ind with
 | h0 => exact Iff.rfl
 | h1 l e ih =>
   rw [dY]
   by_cases he : e ∈ unq l
   . rw [agb he, af0, agw]
     constructor
     . exact fun z => .inl (ih.mp z)
     . rintro (z | rfl)
       . exact ih.mpr z
       . exact he
   . rw [af1 he, af0, af0, ih]
theorem B4 (l : List α) : (unq l).Nodup := by
 induction l using snoc_ind with
 | h0 => exact ahi
 | h1 l e ih =>
   rw [dY]
   split
   . exact ih
   . rename_i he
     rw [agD]
     refine ⟨ih, aic _ _, fun x hx y hy z => he ?_⟩
     rw [← agw.mp hy, ← z]
     exact hx
theorem D8 (l : List α) : (unq l).length <= l.length := by
 induction l using snoc_ind with
 | h0 => exact af3 _
 | h1 l e ih =>
   rw [dY]
   split
   . rw [afY]; omega
   . rw [afY, afY]; show _ + 1 <= _ + 1; omega
theorem Od (l m : List α) : ∃ r, unq (l ++ m) = unq l ++ r := by
 induction m using snoc_ind with
 | h0 => exact ⟨[], by rw [agF, agF]⟩
 | h1 m e ih =>
   obtain ⟨r, hr⟩ := ih
   rw [← afW, dY]
   split
   . exact ⟨r, hr⟩
   . exact ⟨r ++ [e], by rw [hr, afW]⟩
theorem B5 {l m : List α} {d : α} (h : d ∈ l) : (unq (l ++ m)).idxOf d = (unq l).idxOf d := by
 obtain ⟨r, hr⟩ := Od l m
 rw [hr]
 rw [aif, agb (cz.mpr h)]
theorem D9 {l : List α} (h : l ≠ []) : 0 < (unq l).length := by
 cases l with
 | nil => exact absurd rfl h
 | cons d l => exact List.length_pos_of_mem (cz.mpr afP)
noncomputable def rK (l : List α) (m : List β) : Prop := l.length = m.length /\ ∀ (i j : Nat) (a b : α) (c d : β), l[i]? = some a -> l[j]? = some b -> m[i]? = some c -> m[j]? = some d -> a = b -> c = d
theorem rK.pre {l : List α} {m : List β} {x : α} {y : β} (h : rK (l ++ [x]) (m ++ [y])) : rK l m := by
 obtain ⟨h1, h2⟩ := h
 have hl : l.length = m.length := by simpa using h1
 refine ⟨hl, fun i j a b c d ha hb hc hd e => h2 i j a b c d ?_ ?_ ?_ ?_ e⟩
 . rw [ago (af5.mp ha).1]; exact ha
 . rw [ago (af5.mp hb).1]; exact hb
 . rw [ago (af5.mp hc).1]; exact hc
 . rw [ago (af5.mp hd).1]; exact hd
theorem rK.last {l : List α} {m : List β} {x : α} {y : β} (h : rK (l ++ [x]) (m ++ [y])) (hx : x ∈ l) : y ∈ m := by
 have hl : l.length = m.length := by simpa using h.1
 obtain ⟨i, hi⟩ := ahk.mp hx
 have il := (af5.mp hi).1
 obtain ⟨c, hc⟩ : ∃ c, m[i]? = some c := ⟨_, afR (by omega)⟩
 have := h.2 i l.length x x c y (by rw [ago il]; exact hi) (by simp) (by rw [ago (by omega)]; exact hc) (by rw [hl]; simp) rfl
 subst this
 exact af8 hc
theorem vY {P : List α -> List β -> Prop} (h0 : P [] []) (h1 : ∀ l m d e, l.length = m.length -> P l m -> P (l ++ [d]) (m ++ [e])) : ∀ (l : List α) (m : List β), l.length = m.length -> P l m := by
 intro l
 induction l using snoc_ind with
 | h0 =>
   intro m hm
   cases m with
   | nil => exact h0
   | cons _ _ => simp at hm
 | h1 l d ih =>
   intro m hm
   rcases List.eq_nil_or_concat m with rfl | ⟨m, e, rfl⟩
   . simp at hm
   . rw [List.concat_eq_append] at hm ⊢
     have hl : l.length = m.length := by simpa using hm
     exact h1 l m d e hl (ih m hl)
theorem rK.cnt {l : List α} {m : List β} (h : rK l m) : (unq m).length <= (unq l).length /\ ((unq m).length = (unq l).length -> rK m l) := by
 have hl := h.1
 revert h
 refine vY (P := fun (l : List α) (m : List β) => rK l m -> (unq m).length <= (unq l).length /\ ((unq m).length = (unq l).length -> rK m l)) (fun _ => ⟨af3 _, fun _ => ⟨rfl, fun i j a b c d ha => by simp at ha⟩⟩) (fun l m x y hl ih h => ?_) l m hl
 obtain ⟨c1, c2⟩ := ih h.pre
 rw [dY, dY]
 have ext : rK m l -> (y ∈ m -> x ∈ l /\ ∀ (i : Nat) b c, m[i]? = some b -> l[i]? = some c -> b = y -> c = x) -> rK (m ++ [y]) (l ++ [x]) := fun p q => by
   have at_ : ∀ {γ : Type} {n : List γ} {z w : γ} {i : Nat}, (n ++ [z])[i]? = some w -> (i < n.length /\ n[i]? = some w) \/ (i = n.length /\ w = z) := fun {γ n z w i} e => by
     rcases Nat.lt_trichotomy i n.length with k | k | k
     . rw [ago k] at e; exact .inl ⟨k, e⟩
     . subst k; simp at e; exact .inr ⟨rfl, e.symm⟩
     . rw [agN (by rw [afY]; show n.length + 1 <= i; omega)] at e; cases e
   refine ⟨by simp [hl], fun i j a b c d ha hb hc hd e => ?_⟩
   rcases at_ ha with ⟨i1, pa⟩ | ⟨i1, pa⟩ <;> rcases at_ hb with ⟨j1, pb⟩ | ⟨j1, pb⟩ <;> rcases at_ hc with ⟨i2, pc⟩ | ⟨i2, pc⟩ <;> rcases at_ hd with ⟨j2, pd⟩ | ⟨j2, pd⟩ <;> try omega
   . exact p.2 i j a b c d pa pb pc pd e
   . rw [pd]
     exact (q ((e.trans pb) ▸ af8 pa)).2 i a c pa pc (e.trans pb)
   . rw [pc]
     exact ((q ((e.symm.trans pa) ▸ af8 pb)).2 j b d pb pd (e.symm.trans pa)).symm
   . rw [pc, pd]
 by_cases hx : x ∈ l
 . have hy := h.last hx
   rw [agb (cz.mpr hx), agb (cz.mpr hy)]
   refine ⟨c1, fun e => ext (c2 e) fun _ => ⟨hx, fun i b c hb hc eb => ?_⟩⟩
   obtain ⟨k, hk⟩ := ahk.mp hx
   have kl := (af5.mp hk).1
   have hm : m[k]? = some y := by
     obtain ⟨z, hz⟩ : ∃ z, m[k]? = some z := ⟨_, afR (by omega)⟩
     have := h.2 k l.length x x z y (by rw [ago kl]; exact hk) (by simp) (by rw [ago (by omega)]; exact hz) (by rw [hl]; simp) rfl
     rw [hz, this]
   exact (c2 e).2 i k b y c x hb hm hc hk eb
 . rw [af1 fun z => hx (cz.mp z)]
   by_cases hy : y ∈ m
   . rw [agb (cz.mpr hy), afY]
     exact ⟨by omega, fun e => by have : (unq m).length = (unq l).length + 1 := e; omega⟩
   . rw [af1 fun z => hy (cz.mp z), afY, afY]
     exact ⟨by show _ + 1 <= _ + 1; omega, fun e => ext (c2 (by have : (unq m).length + 1 = (unq l).length + 1 := e; omega)) fun z => absurd z hy⟩
theorem rK.num {l : List α} {m : List β} (h : rK l m) (g : rK m l) : bP l = bP m /\ (unq l).length = (unq m).length := by
 have hl := h.1
 revert h g
 refine vY (P := fun (l : List α) (m : List β) => rK l m -> rK m l -> bP l = bP m /\ (unq l).length = (unq m).length) (fun _ _ => ⟨rfl, rfl⟩) (fun l m x y hl ih h g => ?_) l m hl
 obtain ⟨e1, e2⟩ := ih h.pre g.pre
 have en : ∀ {γ : Type} [DecidableEq γ] (n : List γ) (z : γ), bP (n ++ [z]) = bP n ++ [(unq (n ++ [z])).idxOf z] := fun n z => by
   unfold bP
   rw [aga]
   congr 1
   exact agT fun d hd => B5 hd
 have hin : x ∈ l ↔ y ∈ m := ⟨h.last, g.last⟩
 rw [en, en, e1, dY, dY]
 by_cases hx : x ∈ l
 . have hy := hin.mp hx
   rw [agb (cz.mpr hx), agb (cz.mpr hy)]
   refine ⟨?_, e2⟩
   obtain ⟨k, hk⟩ := ahk.mp hx
   have kl := (af5.mp hk).1
   have hm : m[k]? = some y := by
     obtain ⟨z, hz⟩ : ∃ z, m[k]? = some z := ⟨_, afR (by omega)⟩
     have := h.2 k l.length x x z y (by rw [ago kl]; exact hk) (by simp) (by rw [ago (by omega)]; exact hz) (by rw [hl]; simp) rfl
     rw [hz, this]
   have e3 : (bP l)[k]? = (bP m)[k]? := by rw [e1]
   unfold bP at e3
   rw [af2, af2, hk, hm] at e3
   have e4 : (unq l).idxOf x = (unq m).idxOf y := agf e3
   rw [e4]
 . have hy : y ∉ m := fun z => hx (hin.mpr z)
   rw [af1 fun z => hx (cz.mp z), af1 fun z => hy (cz.mp z)]
   refine ⟨?_, by rw [afY, afY, e2]; rfl⟩
   rw [aif, aif, af1 fun z => hx (cz.mp z), af1 fun z => hy (cz.mp z), e2, List.idxOf_cons_self, List.idxOf_cons_self]
theorem xJ (l : List α) : rK l (bP l) /\ rK (bP l) l := by
 have key : ∀ {i : Nat} {a : α} {c : Nat}, l[i]? = some a -> (bP l)[i]? = some c -> c = (unq l).idxOf a := fun {i a c} ha hc => by
   unfold bP at hc
   rw [af2, ha] at hc
   exact (agf hc).symm
 have hl : l.length = (bP l).length := by unfold bP; rw [afO]
 refine ⟨⟨hl, fun i j a b c d ha hb hc hd e => ?_⟩, ⟨hl.symm, fun i j a b c d ha hb hc hd e => ?_⟩⟩
 . rw [key ha hc, key hb hd, e]
 . rw [key hc ha, key hd hb] at e
   have RJ := cz.mpr (af8 hc)
   have wu := cz.mpr (af8 hd)
   have g1 : (unq l)[(unq l).idxOf c]? = some c := by rw [afR (ag6.mpr RJ)]; exact congrArg some (ah7 _)
   have g2 : (unq l)[(unq l).idxOf d]? = some d := by rw [afR (ag6.mpr wu)]; exact congrArg some (ah7 _)
   rw [e, g2] at g1
   exact (agf g1).symm
theorem JS {l : List α} {c : Nat} (h : c ∈ bP l) : c < (unq l).length := by
 unfold bP at h
 obtain ⟨d, hd, rfl⟩ := afZ.mp h
 exact ag6.mpr (cz.mpr hd)
theorem Oe {l : List α} {c : Nat} (h : c < (unq l).length) : c ∈ bP l := by
 unfold bP
 refine afZ.mpr ⟨(unq l)[c], cz.mp (ahh h), ?_⟩
 exact (List.getElem_inj (B4 l)).mp (ah7 (ag6.mpr (ahh h)))
theorem jZ (l : List α) : bP (bP l) = bP l /\ (unq (bP l)).length = (unq l).length := (xJ l).2.num (xJ l).1
theorem j3 (l : List α) : (bP l).length = l.length := by unfold bP; rw [afO]
end
theorem xK {α β : Type} {f : Nat -> α} {g : Nat -> β} {n : Nat} (h : ∀ a, a < n -> ∀ b, b < n -> f a = f b -> g a = g b) : rK ((List.range n).map f) ((List.range n).map g) := by
 have at_ : ∀ {γ : Type} {k : Nat -> γ} {i : Nat} {c : γ}, ((List.range n).map k)[i]? = some c -> i < n /\ c = k i := fun {γ k i c} e => by
   have hi := (af5.mp e).1
   rw [afO, agc] at hi
   rw [af2, ag1 hi] at e
   exact ⟨hi, (agf e).symm⟩
 refine ⟨by rw [afO, afO], fun i j a b c d ha hb hc hd e => ?_⟩
 obtain ⟨i1, rfl⟩ := at_ ha
 obtain ⟨j1, rfl⟩ := at_ hb
 obtain ⟨_, rfl⟩ := at_ hc
 obtain ⟨_, rfl⟩ := at_ hd
 exact h i i1 j j1 e
theorem rK.map {α β : Type} {f : Nat -> α} {g : Nat -> β} {n : Nat} (h : rK ((List.range n).map f) ((List.range n).map g)) {a b : Nat} (ha : a < n) (hb : b < n) (e : f a = f b) : g a = g b := by
 have at_ : ∀ {γ : Type} (k : Nat -> γ) {i : Nat}, i < n -> ((List.range n).map k)[i]? = some (k i) := fun k i hi => by rw [af2, ag1 hi]; rfl
 exact h.2 a b _ _ _ _ (at_ f ha) (at_ f hb) (at_ g ha) (at_ g hb) e
theorem AA {F : List Nat} {n : Nat} (h : F.length = n) : F = (List.range n).map fun a => F.getD a 0 := by
 apply aid
 intro i
 by_cases hi : i < n
 . rw [af2, ag1 hi]
   show F[i]? = some (F.getD i 0)
   rw [af6, afR (by omega)]
   rfl
 . rw [agN (by omega), agN (by rw [afO, agc]; omega)]
noncomputable def cn (F : List Nat) : Nat := (unq F).length
section
variable {α β : Type} [DecidableEq α] [DecidableEq β] {f : Nat -> α} {g : Nat -> β} {n : Nat}
theorem B6 {a b : Nat} (ha : a < n) (hb : b < n) : (bP ((List.range n).map f)).getD a 0 = (bP ((List.range n).map f)).getD b 0 ↔ f a = f b := by
 have h := xJ ((List.range n).map f)
 have e := AA (F := bP ((List.range n).map f)) (n := n) (by rw [j3, afO, agc])
 have h1 := h.1
 have h2 := h.2
 rw [e] at h1 h2
 exact ⟨fun z => h2.map ha hb z, fun z => h1.map ha hb z⟩
theorem vZ (h : ∀ a, a < n -> ∀ b, b < n -> (f a = f b ↔ g a = g b)) : bP ((List.range n).map f) = bP ((List.range n).map g) :=
 ((xK fun a ha b hb => (h a ha b hb).mp).num (xK fun a ha b hb => (h a ha b hb).mpr)).1
theorem AF {F : List Nat} (hF : F.length = n) (hn : bP F = F) (h : ∀ a, a < n -> ∀ b, b < n -> f a = f b -> F.getD a 0 = F.getD b 0) : cn F <= cn (bP ((List.range n).map f)) /\ (cn F = cn (bP ((List.range n).map f)) -> bP ((List.range n).map f) = F) := by
 have p : rK ((List.range n).map f) F := by rw [AA hF]; exact xK h
 unfold cn
 rw [(jZ _).2]
 refine ⟨p.cnt.1, fun e => ?_⟩
 rw [(p.num (p.cnt.2 e)).1, hn]
theorem JT (l : List α) (h : l.length <= n) : cn (bP l) <= n := by
 unfold cn
 rw [(jZ l).2]
 exact agH (D8 l) h
theorem B7 {l : List α} (h : l ≠ []) : 0 < cn (bP l) := by
 unfold cn
 rw [(jZ l).2]
 exact D9 h
theorem B8 {l : List α} (h : l ≠ []) : kX (bP l) + 1 = cn (bP l) := by
 have hp := D9 h
 unfold cn
 rw [(jZ l).2]
 have h1 : kX (bP l) ∈ bP l := Ay fun z => by
   have := j3 l
   rw [z] at this
   exact h (List.length_eq_zero_iff.mp this.symm)
 have h2 := JS h1
 have h3 := DZ (Oe (l := l) (c := (unq l).length - 1) (by omega))
 omega
end
theorem num_rep (n : Nat) : bP (List.replicate n 0) = List.replicate n 0 := by
 refine List.eq_replicate_iff.mpr ⟨by rw [j3, agx], fun c hc => ?_⟩
 have h1 := JS hc
 have h2 : ∀ x ∈ unq (List.replicate n 0), x = 0 := fun x hx => ahE (cz.mp hx)
 have h3 := B4 (List.replicate n 0)
 generalize unq (List.replicate n 0) = u at h1 h2 h3
 match u, h1, h2, h3 with
 | [_], h1, _, _ => have : c < 1 := h1; omega
 | x :: y :: _, _, h2, h3 =>
   have e1 := h2 x (by simp)
   have e2 := h2 y (by simp)
   subst e1 e2
   simp at h3
section
variable (R : List (bC × List R7)) (hs : List Str)
noncomputable def gZ (a : Nat) (x : Str) : List R7 := (eY R (mE a x)).getD []
noncomputable def zC (r : R7) : L3.D := .tup [.tup r.1, .tup ((r.2.1.filter It.told).map It.d)]
noncomputable def WO (a : Nat) (x : Str) : L3.D := .tup ((gZ R a x).map zC)
noncomputable def jl (a : Nat) : List L3.D := hs.map (WO R a)
noncomputable def lK (F : List Nat) (a : Nat) : List Nat := hs.flatMap fun x => (gZ R a x).map fun r => F.getD r.2.2 0
noncomputable def AG (F : List Nat) (a : Nat) : List L3.D := [.int (F.getD a 0 : Nat), .tup ((b9 (lK R hs F a)).map .int)]
noncomputable def tX (F : List Nat) (a : Nat) : List L3.D := [.int (F.getD a 0 : Nat), .tup (jl R hs a), .tup ((b9 (lK R hs F a)).map .int)]
variable (n : Nat)
noncomputable def eL : Nat -> List Nat
 | 0 => bP ((List.range n).map fun (a : Nat) => L3.D.tup (jl R hs a))
 | k + 1 => bP ((List.range n).map fun (a : Nat) => L3.D.tup (AG R hs (eL k) a))
noncomputable def lit : Nat -> List Nat
 | 0 => List.replicate n 0
 | k + 1 => bP ((List.range n).map fun (a : Nat) => L3.D.tup (tX R hs (lit k) a))
variable {R hs n}
theorem sf (k : Nat) : (eL R hs n k).length = n := by
 cases k with
 | zero => rw [eL, j3, afO, agc]
 | succ k => rw [eL, j3, afO, agc]
theorem Ea (k : Nat) : (lit R hs n k).length = n := by
 cases k with
 | zero => rw [lit, agx]
 | succ k => rw [lit, j3, afO, agc]
theorem Eb (k : Nat) : bP (eL R hs n k) = eL R hs n k := by
 cases k with
 | zero => rw [eL]; exact (jZ _).1
 | succ k => rw [eL]; exact (jZ _).1
theorem Og (k : Nat) : bP (lit R hs n k) = lit R hs n k := by
 cases k with
 | zero => rw [lit]; exact num_rep n
 | succ k => rw [lit]; exact (jZ _).1
theorem Ec {a b : List Nat} (h : (b9 a).map L3.D.int = (b9 b).map L3.D.int) : a = b := by
 unfold b9 at h
 rw [agh, agh] at h
 refine List.map_inj_right (fun x y e => ?_) |>.mp h
 have e : L3.D.int (x : Int) = .int (y : Int) := e
 injection e with e
 omega
theorem sq {F : List Nat} {a b : Nat} (h : L3.D.tup (AG R hs F a) = .tup (AG R hs F b)) : F.getD a 0 = F.getD b 0 /\ lK R hs F a = lK R hs F b := by
 unfold AG at h
 injection h with h
 injection h with h1 h
 injection h with h2 _
 injection h1 with h1
 injection h2 with h2
 exact ⟨by omega, Ec h2⟩
theorem xM {F : List Nat} {a b : Nat} (h : L3.D.tup (tX R hs F a) = .tup (tX R hs F b)) : F.getD a 0 = F.getD b 0 /\ jl R hs a = jl R hs b /\ lK R hs F a = lK R hs F b := by
 unfold tX at h
 injection h with h
 injection h with h1 h
 injection h with h2 h
 injection h with h3 _
 injection h1 with h1
 injection h2 with h2
 injection h3 with h3
 exact ⟨by omega, h2, Ec h3⟩
theorem AH (k : Nat) {a b : Nat} (ha : a < n) (hb : b < n) (h : (eL R hs n k).getD a 0 = (eL R hs n k).getD b 0) : jl R hs a = jl R hs b := by
 induction k with
 | zero =>
   rw [eL] at h
   have := (B6 ha hb).mp h
   injection this
 | succ k ih =>
   rw [eL] at h
   exact ih (sq ((B6 ha hb).mp h)).1
theorem Ed {a b : Nat} (h : jl R hs a = jl R hs b) : ∀ x ∈ hs, (gZ R a x).map zC = (gZ R b x).map zC := fun x hx => by
 unfold jl at h
 have := List.map_inj_left.mp h x hx
 unfold WO at this
 injection this
theorem le_zero {a b : Nat} (h : jl R hs a = jl R hs b) : lK R hs (List.replicate n 0) a = lK R hs (List.replicate n 0) b := by
 unfold lK
 have z : ∀ k, (List.replicate n 0).getD k 0 = 0 := fun k => by
   rw [af6]
   by_cases hk : k < n
   . rw [List.getElem?_replicate_of_lt hk]; rfl
   . rw [agN (by rw [agx]; omega)]; rfl
 simp only [z]
 rw [List.flatMap_def, List.flatMap_def]
 congr 1
 refine agT fun x hx => ?_
 have := congrArg List.length (Ed h x hx)
 rw [afO, afO] at this
 rw [List.map_const', List.map_const', this]
theorem Ef (k : Nat) : lit R hs n (k + 1) = eL R hs n k := by
 induction k with
 | zero =>
   rw [lit, lit, eL]
   refine vZ fun a ha b hb => ⟨fun h => ?_, fun h => ?_⟩
   . rw [(xM h).2.1]
   . injection h with h
     unfold tX
     have z : ∀ k, (List.replicate n 0).getD k 0 = 0 := fun k => by
       rw [af6]
       by_cases hk : k < n
       . rw [List.getElem?_replicate_of_lt hk]; rfl
       . rw [agN (by rw [agx]; omega)]; rfl
     rw [z, z, h, le_zero h]
 | succ k ih =>
   rw [lit, ih, eL]
   refine vZ fun a ha b hb => ⟨fun h => ?_, fun h => ?_⟩
   . obtain ⟨h1, h2, h3⟩ := xM h
     unfold AG
     rw [h1, h3]
   . obtain ⟨h1, h3⟩ := sq h
     unfold tX
     rw [h1, h3, AH k ha hb h1]
theorem tY (k : Nat) : cn (eL R hs n k) <= cn (eL R hs n (k + 1)) /\ (cn (eL R hs n k) = cn (eL R hs n (k + 1)) -> eL R hs n (k + 1) = eL R hs n k) := by
 rw [eL]
 exact AF (sf k) (Eb k) fun a _ b _ h => (sq h).1
theorem AI (k : Nat) : cn (lit R hs n k) <= cn (lit R hs n (k + 1)) /\ (cn (lit R hs n k) = cn (lit R hs n (k + 1)) -> lit R hs n (k + 1) = lit R hs n k) := by
 rw [lit]
 exact AF (Ea k) (Og k) fun a _ b _ h => (xM h).1
theorem tZ {k : Nat} (h : eL R hs n (k + 1) = eL R hs n k) (m : Nat) : eL R hs n (k + m) = eL R hs n k := by
 induction m with
 | zero => rfl
 | succ m ih => rw [show k + (m + 1) = (k + m) + 1 by omega, eL, ih, ← eL, h]
theorem JV {k : Nat} (h : lit R hs n (k + 1) = lit R hs n k) (m : Nat) : lit R hs n (k + m) = lit R hs n k := by
 induction m with
 | zero => rfl
 | succ m ih => rw [show k + (m + 1) = (k + m) + 1 by omega, lit, ih, ← lit, h]
theorem AJ (hn : 1 <= n) (k : Nat) : 1 <= cn (eL R hs n k) /\ cn (eL R hs n k) <= n /\ kX (eL R hs n k) + 1 = cn (eL R hs n k) := by
 have ne : ∀ {γ : Type} (f : Nat -> γ), (List.range n).map f ≠ [] := fun f z => by
   have := congrArg List.length z
   rw [afO, agc] at this
   have : n = 0 := this
   omega
 cases k with
 | zero => rw [eL]; exact ⟨B7 (ne _), JT _ (by rw [afO, agc]; exact af3 _), B8 (ne _)⟩
 | succ k => rw [eL]; exact ⟨B7 (ne _), JT _ (by rw [afO, agc]; exact af3 _), B8 (ne _)⟩
theorem YL (hn : 1 <= n) (k : Nat) : 1 <= cn (lit R hs n k) /\ cn (lit R hs n k) <= n /\ kX (lit R hs n k) + 1 = cn (lit R hs n k) := by
 cases k with
 | zero =>
   have ne : (List.replicate n 0 : List Nat) ≠ [] := fun z => by
     have := congrArg List.length z
     rw [agx] at this
     have : n = 0 := this
     omega
   rw [lit, ← num_rep n]
   exact ⟨B7 ne, JT _ (by rw [agx]; exact af3 _), B8 ne⟩
 | succ k => rw [Ef]; exact AJ hn k
noncomputable def eV (R : List (bC × List R7)) (hs : List Str) (n : Nat) : List Nat := eL R hs n n
theorem UG {k : Nat} (hk : k + 1 <= n) (h : cn (eL R hs n (k + 1)) <= cn (eL R hs n k)) : eL R hs n (k + 1) = eV R hs n := by
 have h1 := tY (R := R) (hs := hs) (n := n) k
 have e := h1.2 (by omega)
 have h2 := tZ e (n - k)
 unfold eV
 rw [e, ← h2, show k + (n - k) = n by omega]
theorem Oh {k : Nat} (hk : k + 1 <= n) (h : cn (lit R hs n (k + 1)) = cn (lit R hs n k)) : cn (lit R hs n k) = cn (eV R hs n) := by
 have e := (AI (R := R) (hs := hs) (n := n) k).2 h.symm
 have h2 := JV e (n + 1 - k)
 unfold eV
 rw [← Ef, ← h2, show k + (n + 1 - k) = n + 1 by omega]
theorem B9 (hn : 1 <= n) : eL R hs n (n + 1) = eV R hs n := by
 have key : ∀ j, (∃ k, k < j /\ cn (eL R hs n (k + 1)) <= cn (eL R hs n k)) \/ j + 1 <= cn (eL R hs n j) := by
   intro j
   induction j with
   | zero => exact .inr (AJ hn 0).1
   | succ j ih =>
     rcases ih with ⟨k, h1, h2⟩ | h
     . exact .inl ⟨k, by omega, h2⟩
     . by_cases e : cn (eL R hs n (j + 1)) <= cn (eL R hs n j)
       . exact .inl ⟨j, by omega, e⟩
       . exact .inr (by omega)
 rcases key n with ⟨k, h1, h2⟩ | h
 . have e := (tY (R := R) (hs := hs) (n := n) k).2 (by have := (tY (R := R) (hs := hs) (n := n) k).1; omega)
   unfold eV
   rw [← show k + (n + 1 - k) = n + 1 by omega, tZ e, ← tZ e (n - k), show k + (n - k) = n by omega]
 . have := (AJ (R := R) (hs := hs) hn n).2.1
   omega
theorem fin_same (hn : 1 <= n) {a b : Nat} (ha : a < n) (hb : b < n) (h : (eV R hs n).getD a 0 = (eV R hs n).getD b 0) : jl R hs a = jl R hs b /\ lK R hs (eV R hs n) a = lK R hs (eV R hs n) b := by
 refine ⟨AH n ha hb h, ?_⟩
 have e := B9 (R := R) (hs := hs) hn
 rw [← e, eL] at h
 exact (sq ((B6 ha hb).mp h)).2
end
structure F4 (n : Nat) (r : R7) : Prop where
 a : r.2.2 < n
 b : D.aY r.1 = true
 c : ∀ d ∈ r.1, gF 2 d
 d : ∀ x ∈ r.2.1, gF 2 x.d
 e : r.2.1.length <= 1000
structure rL (R : List (bC × List R7)) (hs : List Str) (n : Nat) : Prop where
 a : ∀ i, i < n -> ∀ x ∈ hs, ∃ l, eY R (mE i x) = some l
 b : ∀ q ∈ R, q.2.length <= 100 /\ ∀ r ∈ q.2, F4 n r
 c : (R.map (·.1)).Nodup
 d : R.length <= 1000
 e : hs.length <= 3
 f : 1 <= n /\ n <= 100
 g : ∀ x ∈ hs, PyData.strOk x = true
theorem xN {α : Type} {R : List (bC × α)} {k : bC} {l : α} (h : eY R k = some l) : (k, l) ∈ R := by
 induction R with
 | nil => cases h
 | cons p R ih =>
   by_cases e : p.1 = k
   . rw [fY e] at h
     cases h
     rw [← e]
     exact afP
   . rw [fC e] at h
     exact afS _ (ih h)
section
variable {R : List (bC × List R7)} {hs : List Str} {n : Nat}
theorem rL.row (h : rL R hs n) {i : Nat} (hi : i < n) {x : Str} (hx : x ∈ hs) : eY R (mE i x) = some (gZ R i x) /\ (gZ R i x).length <= 100 /\ ∀ r ∈ gZ R i x, F4 n r := by
 obtain ⟨l, hl⟩ := h.a i hi x hx
 have e : gZ R i x = l := by unfold gZ; rw [hl]; rfl
 rw [e]
 exact ⟨hl, h.b _ (xN hl)⟩
theorem j4 {k : bC} {l : List R7} (h : eY R k = some l) : eY (cN (d7 R)) k = some (.lst (l.map gV)) := by
 induction R with
 | nil => cases h
 | cons p R ih =>
   by_cases e : p.1 = k
   . rw [fY e] at h
     cases h
     exact fY (p := (p.1, L3.D.lst (p.2.map gV))) e
   . rw [fC e] at h
     exact (fC (p := (p.1, L3.D.lst (p.2.map gV))) e).trans (ih h)
end
theorem Oi {n : Nat} {r : R7} (h : F4 n r) : gF 4 (zC r) := by
 refine .tup fun d hd => ?_
 simp only [afX, af9, agQ] at hd
 rcases hd with rfl | rfl
 . exact .tup h.c
 . refine .tup fun d hd => ?_
   obtain ⟨x, hx, rfl⟩ := afZ.mp hd
   exact h.d x (ahK.mp hx).1
theorem Oj {n : Nat} {r : R7} (h : F4 n r) : (zC r).iF = true := by
 show (D.aY r.1 && (D.aY ((r.2.1.filter It.told).map It.d) && true)) = true
 rw [h.b, di]
 rfl
section
variable {R : List (bC × List R7)} {hs : List Str} {n : Nat}
theorem pG {l : List R7} (h : ∀ r ∈ l, F4 n r) : gF 5 (.tup (l.map zC)) /\ D.aY (l.map zC) = true := by
 refine ⟨.tup fun d hd => ?_, jS fun d hd => ?_⟩
 . obtain ⟨r, hr, rfl⟩ := afZ.mp hd
   exact Oi (h r hr)
 . obtain ⟨r, hr, rfl⟩ := afZ.mp hd
   exact Oj (h r hr)
theorem oh {k m : Nat} {d : L3.D} (h : gF k d) (hm : k <= m) : gF m d := by
 induction h generalizing m with
 | int _ i => exact .int _ i
 | str _ x hx => exact .str _ x hx
 | @tup j ds _ ih =>
   obtain ⟨m, rfl⟩ : ∃ m', m = m' + 1 := ⟨m - 1, by omega⟩
   exact .tup fun d hd => ih d hd (by omega)
theorem rL.look (h : rL R hs n) {i : Nat} (hi : i < n) : gF 6 (.tup (jl R hs i)) /\ D.aY (jl R hs i) = true := by
 refine ⟨.tup fun d hd => ?_, jS fun d hd => ?_⟩
 . obtain ⟨x, hx, rfl⟩ := afZ.mp hd
   exact (pG (h.row hi hx).2.2).1
 . obtain ⟨x, hx, rfl⟩ := afZ.mp hd
   exact (pG (h.row hi hx).2.2).2
theorem AK (l : List Nat) : gF 1 (.tup ((b9 l).map .int)) := .tup fun d hd => by
 obtain ⟨i, _, rfl⟩ := afZ.mp hd
 exact .int 0 i
theorem Ol (F : List Nat) (i : Nat) : gF 8 (.tup (AG R hs F i)) := .tup fun d hd => by
 unfold AG at hd
 simp only [afX, af9, agQ] at hd
 rcases hd with rfl | rfl
 . exact .int _ _
 . exact oh (AK _) (by decide)
theorem rL.kL (h : rL R hs n) (F : List Nat) {i : Nat} (hi : i < n) : gF 8 (.tup (tX R hs F i)) := .tup fun d hd => by
 unfold tX at hd
 simp only [afX, af9, agQ] at hd
 rcases hd with rfl | rfl | rfl
 . exact .int _ _
 . exact oh (h.look hi).1 (by decide)
 . exact oh (AK _) (by decide)
noncomputable def fcO : L3.D -> L3.D
 | .tup [a, .tup ds, _] => .tup [a, .tup (ds.filter fun d => !decide (d.L5.toS ∈ cK))]
 | d => d
theorem JW (r : R7) : fcO (gV r) = zC r := by
 show L3.D.tup [.tup r.1, .tup ((r.2.1.map It.d).filter fun d => !decide (d.L5.toS ∈ cK))] = _
 have e : ((fun d : L3.D => !decide (d.L5.toS ∈ cK)) ∘ It.d) = It.told := by
   funext x
   show (!decide (x.sj.w ∈ cK)) = x.told
   rw [r6, Bool.not_not]
 rw [ah5, e]
 rfl
noncomputable def toN : L3.D -> Nat
 | .tup [_, _, .int i] => i.toNat
 | _ => 0
theorem t6 (r : R7) : toN (gV r) = r.2.2 := agp _
theorem xO (h : rL R hs n) {i : Nat} (hi : i < n) {x : Str} (hx : x ∈ hs) {F : List Nat} (hF : F.length = n) : ∀ r ∈ gZ R i x, oJ ((b9 F).map L3.D.int) (r.2.2 : Nat) = some (.int (F.getD r.2.2 0 : Nat)) := fun r hr => lJ (by rw [hF]; exact ((h.row hi hx).2.2 r hr).a)
end
theorem xP (a b : List Nat) : b9 (a ++ b) = b9 a ++ b9 b := by unfold b9; rw [aga]
theorem eX (a : List Nat) : (b9 a).length = a.length := by unfold b9; rw [afO]
theorem f7 (l : List Nat) : D.aY ((b9 l).map .int) = true := zY _
theorem YM {ks : List L3.D} {j : Nat} (h : ∀ d ∈ ks, gF 8 d) (hl : ks.length <= 1000) : FP (unq (ks.take j)) where
 n := fun d hd => h d (ag8 (cz.mp hd))
 d := B4 _
 l := agH (D8 _) (by rw [agv]; omega)
theorem pH (f : Nat -> Int) : ∀ k, PyProof.Rows.firstMet f k = unq ((List.range k).map f)
 | 0 => rfl
 | k + 1 => by
   rw [PyProof.Rows.firstMet_succ, pH f k, ahA, aga, List.map_singleton, dY]
   unfold PyProof.Rows.step_dedup
   by_cases h : f k ∈ unq ((List.range k).map f)
   . rw [if_pos h, if_pos (by simpa using h)]
   . rw [if_neg h, if_neg (by simpa using h)]
theorem JX (F : List Nat) : (PyProof.Rows.firstMet (fun i => (b9 F).getD i 0) (b9 F).length).length = cn F := by
 rw [pH, eX]
 have e : (List.range F.length).map (fun i => (b9 F).getD i 0) = b9 F := by
   apply aid
   intro i
   by_cases hi : i < F.length
   . rw [af2, ag1 hi]
     show some ((b9 F).getD i 0) = _
     rw [af6, afR (by rw [eX]; exact hi)]
     rfl
   . rw [agN (by rw [afO, agc]; omega), agN (by rw [eX]; omega)]
 rw [e]
 unfold cn
 have p : rK (b9 F) F /\ rK F (b9 F) := by
   have at_ : ∀ {i : Nat} {c : Int}, (b9 F)[i]? = some c -> ∃ d, F[i]? = some d /\ c = (d : Int) := fun {i c} h => by
     unfold b9 at h
     rw [af2] at h
     obtain ⟨d, h1, h2⟩ := agg.mp h
     exact ⟨d, h1, h2.symm⟩
   refine ⟨⟨eX F, fun i j a b c d ha hb hc hd e => ?_⟩, ⟨(eX F).symm, fun i j a b c d ha hb hc hd e => ?_⟩⟩
   . obtain ⟨a', h1, rfl⟩ := at_ ha
     obtain ⟨b', h2, rfl⟩ := at_ hb
     rw [hc] at h1
     rw [hd] at h2
     cases h1
     cases h2
     omega
   . obtain ⟨c', h1, rfl⟩ := at_ hc
     obtain ⟨d', h2, rfl⟩ := at_ hd
     rw [ha] at h1
     rw [hb] at h2
     cases h1
     cases h2
     rw [e]
 exact (p.1.num p.2).2
theorem Om (R : List (bC × List R7)) (hs : List Str) (F : List Nat) (a : Nat) : D.aY (AG R hs F a) = true := by
 show (true && (D.aY ((b9 (lK R hs F a)).map L3.D.int) && true)) = true
 rw [f7]
 rfl
theorem xQ {r : R7} (h : D.aY r.1 = true) : (gV r).iF = true := by
 show (D.aY r.1 && (D.aY (r.2.1.map It.d) && (true && true))) = true
 rw [h, di]
 rfl
noncomputable def Oo (r : R7) : T := .tup [.sh (.tup r.1), .lst (((r.2.1.filter It.told).map It.d).map T.sh)]
noncomputable def zE (r : R7) : L3.D := .tup [.tup r.1, .lst ((r.2.1.filter It.told).map It.d)]
noncomputable def fgO : L3.D -> T
 | .tup [a, .tup ds, _] => .tup [.sh a, .lst ((ds.filter fun d => !decide (d.L5.toS ∈ cK)).map T.sh)]
 | d => .sh d
theorem JY (r : R7) : fgO (gV r) = Oo r := by
 show T.tup [.sh (.tup r.1), .lst (((r.2.1.map It.d).filter fun d => !decide (d.L5.toS ∈ cK)).map T.sh)] = _
 have e : ((fun d : L3.D => !decide (d.L5.toS ∈ cK)) ∘ It.d) = It.told := by
   funext x
   show (!decide (x.sj.w ∈ cK)) = x.told
   rw [r6, Bool.not_not]
 rw [ah5, e]
 rfl
theorem xR (l : List R7) : (T.lst (l.map Oo)).bK = .lst (l.map zE) := by
 rw [T.bK]
 congr 1
 induction l with
 | nil => show T.d9 [] = []; rw [T.d9]
 | cons r l ih => show T.d9 (Oo r :: l.map Oo) = zE r :: l.map zE; rw [T.d9, ih]; unfold Oo zE; rw [T.bK, T.d9, T.d9, T.d9, fj, T.bK]
theorem qF {n : Nat} {l : List R7} (h : ∀ r ∈ l, F4 n r) : (T.lst (l.map Oo)).clean = true := by
 rw [T.clean]
 refine xH fun t ht => ?_
 obtain ⟨r, hr, rfl⟩ := afZ.mp ht
 unfold Oo
 rw [T.clean, T.dz, T.dz, T.dz, T.clean, bF (di _)]
 show (D.aY r.1 && (true && true)) = true
 rw [(h r hr).b]
 rfl
noncomputable def fhO : L3.D -> L3.D
 | .tup [a, .lst ds] => .tup [a, .tup ds]
 | d => d
theorem Oq {R : List (bC × List R7)} {hs : List Str} {n : Nat} (ht : rL R hs n) {a : Nat} (ha : a < n) (F : List Nat) : ∀ m, m <= hs.length -> (lK R (hs.take m) F a).length <= 100 * m := by
 intro m
 induction m with
 | zero => intro _; unfold lK; simp
 | succ m ih =>
   intro hm
   have h0 := ih (by omega)
   have JZ : hs[m]? = some hs[m] := afR (by omega)
   have h1 := (ht.row ha (af8 JZ)).2.1
   unfold lK at h0 ⊢
   rw [agJ, JZ, ahG, afY]
   have : (List.flatMap (fun x => (gZ R a x).map fun r => F.getD r.2.2 0) (some hs[m]).toList).length <= 100 := by simpa using h1
   omega
structure A8 (bs : List (Str × Int)) (hs : List Str) (bg : List It) (pr : List L3.D) (R : List (bC × List R7)) : Prop where
 t : rL R hs pr.length
 b : ∀ q ∈ bs, PyData.strOk q.1 = true
 g : ∀ x ∈ bg, gF 2 x.d
 p : ∀ d ∈ pr, gF 3 d
 i : D.aY pr = true
theorem Ot {k : Nat} {d : L3.D} (h : gF k d) (hk : k <= 59) : ic 59 d := (oh h hk).dep
theorem UH {n : Nat} {r : R7} (h : F4 n r) : gF 4 (gV r) := by
 refine .tup fun d hd => ?_
 simp only [afX, af9, agQ] at hd
 rcases hd with rfl | rfl | rfl
 . exact .tup h.c
 . refine .tup fun d hd => ?_
   obtain ⟨x, hx, rfl⟩ := afZ.mp hd
   exact h.d x hx
 . exact .int _ _
section
variable {bs : List (Str × Int)} {hs : List Str} {bg : List It} {pr : List L3.D} {R : List (bC × List R7)}
theorem A8.d0 (h : A8 bs hs bg pr R) : ic 60 (.lst (bs.map dR)) := .lst fun d hd => by
 obtain ⟨q, hq, rfl⟩ := afZ.mp hd
 refine Ot (k := 1) (.tup fun d hd => ?_) (by decide)
 simp only [afX, af9, agQ] at hd
 rcases hd with rfl | rfl
 . exact .str _ _ (h.b q hq)
 . exact .int _ _
theorem A8.d1 (h : A8 bs hs bg pr R) : ic 60 (.lst (hs.map .str)) := .lst fun d hd => by
 obtain ⟨q, hq, rfl⟩ := afZ.mp hd
 exact .str _ _ (h.t.g q hq)
theorem A8.d2 (h : A8 bs hs bg pr R) : ic 60 (.tup (bg.map It.d)) := .tup fun d hd => by
 obtain ⟨x, hx, rfl⟩ := afZ.mp hd
 exact Ot (h.g x hx) (by decide)
theorem A8.d3 (h : A8 bs hs bg pr R) : ic 60 (.lst pr) := .lst fun d hd => Ot (h.p d hd) (by decide)
theorem A8.d4 (h : A8 bs hs bg pr R) : ∀ q ∈ cN (d7 R), ic 60 q.2 := fun q hq => by
 obtain ⟨p, hp, rfl⟩ := afZ.mp hq
 obtain ⟨z, hz, rfl⟩ := afZ.mp hp
 refine .lst fun d hd => ?_
 obtain ⟨r, hr, rfl⟩ := afZ.mp hd
 exact Ot (UH ((h.t.b z hz).2 r hr)) (by decide)
end
theorem YN {a c d : L3.D} (h : ic 60 a) (g : ic 60 c) (k : ic 60 d) : ¬ (!tK a a || (!tK c c || !tK d d)) = true := by rw [iL h, iL g, iL k]; decide
theorem Ri {a : L3.D} (h : ic 60 a) : ¬ (!tK a a) = true := by rw [iL h]; decide
theorem Ou {F : List Nat} (h : bP F = F) {j c : Nat} (hc : F[j]? = some c) : c <= (unq (F.take j)).length /\ max (unq (F.take j)).length (c + 1) = (unq (F.take (j + 1))).length := by
 have e0 : (unq F).idxOf c = c := by
   have e := congrArg (·[j]?) h
   simp only [bP, af2, hc] at e
   exact agf e
 have e1 : F.take (j + 1) = F.take j ++ [c] := by rw [agJ, hc]; rfl
 have e2 : (unq (F.take (j + 1))).idxOf c = c := by
   rw [← B5 (m := F.drop (j + 1)) (by rw [e1]; simp), List.take_append_drop]
   exact e0
 rw [e1, dY] at e2 ⊢
 by_cases hm : c ∈ unq (F.take j)
 . rw [agb hm] at e2 ⊢
   have := ag6.mpr hm
   rw [e2] at this
   omega
 . rw [af1 hm] at e2 ⊢
   rw [aif, af1 hm, List.idxOf_cons_self] at e2
   rw [afY]
   show c <= _ /\ max _ (c + 1) = _ + 1
   omega
theorem J1 {α : Type} {l : List α} {y : α} : ∀ {j : Nat}, l[j]? = some y -> ∃ i, i <= j /\ l[i]? = some y /\ ∀ k, k < i -> l[k]? ≠ some y := by
 intro j
 induction j using Nat.strongRecOn with
 | ind j ih =>
   intro hj
   by_cases h : ∃ k, k < j /\ l[k]? = some y
   . obtain ⟨k, hk, e⟩ := h
     obtain ⟨i, h1, h2, h3⟩ := ih k hk e
     exact ⟨i, by omega, h2, h3⟩
   . exact ⟨j, af3 _, hj, fun k hk e => h ⟨k, hk, e⟩⟩
theorem t7 {α β : Type} {f g : α -> List β} : ∀ {l : List α}, (∀ x ∈ l, (f x).length = (g x).length) -> l.flatMap f = l.flatMap g -> ∀ x ∈ l, f x = g x
 | [], _, _, _, h => by cases h
 | y :: l, hl, e, x, hx => by
   rw [List.flatMap_cons, List.flatMap_cons] at e
   obtain ⟨e1, e2⟩ := List.append_inj e (hl y afP)
   rcases afX.mp hx with rfl | hx
   . exact e1
   . exact t7 (fun z hz => hl z (afS _ hz)) e2 x hx
theorem J2 {R : List (bC × List R7)} {hs : List Str} {F : List Nat} {a c : Nat} (h1 : jl R hs a = jl R hs c) (h2 : lK R hs F a = lK R hs F c) {x : Str} (hx : x ∈ hs) : (gZ R a x).map zE = (gZ R c x).map zE /\ ((gZ R a x).map fun r => F.getD r.2.2 0) = (gZ R c x).map fun r => F.getD r.2.2 0 := by
 have hr := Ed h1
 refine ⟨?_, t7 (fun y hy => by have := congrArg List.length (hr y hy); simpa using this) h2 x hx⟩
 have key : ∀ l m : List R7, l.map zC = m.map zC -> l.map zE = m.map zE := by
   intro l
   induction l with
   | nil => intro m e; cases m with
     | nil => rfl
     | cons _ _ => cases e
   | cons r l ih => intro m e; cases m with
     | nil => cases e
     | cons q m =>
       injection e with e1 e2
       unfold zC at e1
       injection e1 with e1
       injection e1 with e3 e1
       injection e1 with e4 _
       injection e4 with e4
       show zE r :: l.map zE = zE q :: m.map zE
       rw [ih m e2]
       unfold zE
       rw [e3, e4]
 exact key _ _ (hr x hx)
theorem UI {n : Nat} {r : R7} (h : F4 n r) : ic 59 (zE r) := by
 refine .tup fun d hd => ?_
 simp only [afX, af9, agQ] at hd
 rcases hd with rfl | rfl
 . exact .tup fun d hd => (oh (h.c d hd) (by decide : 2 <= 57)).dep
 . refine .lst fun d hd => ?_
   obtain ⟨x, hx, rfl⟩ := afZ.mp hd
   exact (oh (h.d x (ahK.mp hx).1) (by decide : 2 <= 57)).dep
theorem Ov {x : Str} (h : PyData.strOk x = true) (l k : Option Int) : PyData.strOk (Txt.slice x l k) = true := by
 unfold Txt.slice
 split
 . exact h
 . unfold PyData.strOk at *
   rw [List.all_toArray, ahD]
   intro c hc
   obtain ⟨i, _, hi⟩ := List.mem_filterMap.mp hc
   rw [← Array.all_toList, ahD] at h
   exact h c (by rw [← ahU] at hi; exact af8 hi)
theorem J3 {x y : Str} (h : PyData.strOk x = true) (g : PyData.strOk y = true) : PyData.strOk (x ++ y) = true := by
 unfold PyData.strOk at *
 show (x.cps ++ y.cps).all _ = true
 rw [Array.all_append, h, g]
 rfl
theorem Rj {l : List Str} (h : ∀ x ∈ l, PyData.strOk x = true) (k : Nat) : PyData.strOk (l.getD k Str.empty) = true := by
 rw [af6]
 cases e : l[k]? with
 | none => show PyData.strOk Str.empty = true; decide +kernel
 | some x => exact h x (af8 e)
theorem Ca (s : List Int) : ∀ x ∈ iG s, PyData.strOk x = true := fun x hx => by
 have hb : PyData.strOk (rH s) = true := Ov (xA _) _ _
 have h : x ∈ n5 s := by
   unfold iG at hx
   rcases af0.mp (ag8 hx) with z | z
   . exact List.mem_of_mem_drop z
   . exact ag8 z
 unfold n5 at h
 simp only [afX, af9, agQ] at h
 rcases h with rfl | rfl | rfl
 . exact J3 hb (by decide +kernel)
 . exact J3 hb (by decide +kernel)
 . exact J3 hb (by decide +kernel)
noncomputable def DeS : pe -> Prop
 | .call x => PyData.strOk x = true
 | .say x _ _ => PyData.strOk x = true
 | .put _ _ _ => True
noncomputable def ItS : It -> Prop
 | .fO q => DeS q
 | _ => True
theorem t8 {n : Nat} {a c : Int} : gF (n + 1) (.tup [.int a, .int c]) := .tup fun d hd => by
 simp only [afX, af9, agQ] at hd
 rcases hd with rfl | rfl
 . exact .int _ _
 . exact .int _ _
theorem t9 {x : It} (h : ItS x) : gF 2 x.d := by
 cases x with
 | out m =>
   show gF 2 (.tup [.str "out", .int m])
   refine .tup fun d hd => ?_
   simp only [afX, af9, agQ] at hd
   rcases hd with rfl | rfl
   . exact .str _ _ (by decide +kernel)
   . exact .int _ _
 | keep m p q =>
   show gF 2 (.tup [.str "keep", .int m, .int p, .int q])
   refine .tup fun d hd => ?_
   simp only [afX, af9, agQ] at hd
   rcases hd with rfl | rfl | rfl | rfl
   . exact .str _ _ (by decide +kernel)
   . exact .int _ _
   . exact .int _ _
   . exact .int _ _
 | way i =>
   show gF 2 (.tup [.str "way", .int i])
   refine .tup fun d hd => ?_
   simp only [afX, af9, agQ] at hd
   rcases hd with rfl | rfl
   . exact .str _ _ (by decide +kernel)
   . exact .int _ _
 | uY m =>
   show gF 2 (.tup [.str "in", .int m])
   refine .tup fun d hd => ?_
   simp only [afX, af9, agQ] at hd
   rcases hd with rfl | rfl
   . exact .str _ _ (by decide +kernel)
   . exact .int _ _
 | fO q =>
   cases q with
   | put x c m =>
     show gF 2 (.tup [.str "put", .int x, .tup [.int c, .int m]])
     refine .tup fun d hd => ?_
     simp only [afX, af9, agQ] at hd
     rcases hd with rfl | rfl | rfl
     . exact .str _ _ (by decide +kernel)
     . exact .int _ _
     . exact t8
   | call y =>
     show gF 2 (.tup [.str "call", .str y])
     refine .tup fun d hd => ?_
     simp only [afX, af9, agQ] at hd
     rcases hd with rfl | rfl
     . exact .str _ _ (by decide +kernel)
     . exact .str _ _ h
   | say y c m =>
     show gF 2 (.tup [.str "say", .str y, .tup [.int c, .int m]])
     refine .tup fun d hd => ?_
     simp only [afX, af9, agQ] at hd
     rcases hd with rfl | rfl | rfl
     . exact .str _ _ (by decide +kernel)
     . exact .str _ _ h
     . exact t8
theorem J4 {c : Int} {m : Nat} {hh : List Str} (h : ∀ x ∈ hh, PyData.strOk x = true) : DeS (rG c m hh) := by
 unfold rG
 split
 . refine Rj (fun x hx => ?_) _
   rcases af0.mp hx with z | z
   . exact h x z
   . rw [agw.mp z]; exact xA _
 . split
   . exact xA _
   . exact trivial
theorem Eg {w : Str} {a c d e : Int} (h : PyData.strOk w = true) : gF 2 (.tup [.str w, .tup [.int a, .int c], .tup [.int d, .int e]]) := .tup fun x hx => by
 simp only [afX, af9, agQ] at hx
 rcases hx with rfl | rfl | rfl
 . exact .str _ _ h
 . exact t8
 . exact t8
theorem Ow : ∀ x ∈ N2, PyData.strOk x = true := by decide +kernel
noncomputable def WQ (r : F7) : Prop := (∀ d ∈ r.1, gF 2 d) /\ ∀ x ∈ r.2, ItS x
section
variable {s : List Int} {p t m : Nat} {hh : List Str} {cl : Bool}
theorem Rk (h : ∀ x ∈ hh, PyData.strOk x = true) : ∀ r ∈ FW s p t m hh cl, WQ r := fun r hr => by
 rcases af0.mp hr with z | z
 . obtain ⟨k, _, rfl⟩ := afZ.mp z
   refine ⟨fun d hd => ?_, fun x hx => ?_⟩
   . obtain ⟨a, _, rfl⟩ := afZ.mp hd
     exact Eg (Rj Ow _)
   . obtain ⟨a, _, rfl⟩ := afZ.mp hx
     exact J4 h
 . unfold Uz at z
   split at z
   . rw [agw.mp z]
     refine ⟨(fun d hd => by cases hd), fun x hx => ?_⟩
     rw [agw.mp (ag8 hx)]
     exact J4 h
   . cases z
theorem J5 (h : ∀ x ∈ hh, PyData.strOk x = true) : ∀ r ∈ jY s p t m hh cl, WQ r := by
 unfold jY
 split
 . exact Rk h
 . exact Rk h
theorem Eh (h : ∀ x ∈ hh, PyData.strOk x = true) : ∀ r ∈ rm s p t m hh cl, WQ r := fun r hr => by
 unfold rm at hr
 split at hr
 . rename_i ha
   have ha := (agk _ _ ▸ ha).1
   rcases ag4 hr with z | z
   . exact J5 h r z
   . rw [z]
     have hp : 0 < (jY s p t m hh cl).length := by unfold jY; rw [agb ha]; exact r9 ..
     obtain ⟨a, c⟩ : WQ ((jY s p t m hh cl).getD ((jY s p t m hh cl).length - 1) kZ) := J5 h _ (u5 (l := jY s p t m hh cl) (by omega))
     refine ⟨a, fun x hx => ?_⟩
     rcases af0.mp hx with z | z
     . exact c x z
     . rw [agw.mp z]
       show PyData.strOk "odd0" = true
       decide +kernel
 . exact J5 h r hr
theorem Ei : gF 2 (n9 t) := Eg (by decide +kernel)
theorem YQ (h : ∀ x ∈ hh, PyData.strOk x = true) : ∀ r ∈ xC s p t m hh cl, WQ r := fun r hr => by
 unfold xC rJ at hr
 split at hr
 . split at hr
   . rename_i hl
     rcases ag4 hr with z | z
     . exact Eh h r z
     . rw [z]
       obtain ⟨a, c⟩ : WQ ((rm s p t m hh cl).getD 0 kZ) := Eh h _ (u5 (l := rm s p t m hh cl) (by omega))
       refine ⟨fun d hd => ?_, c⟩
       rcases afX.mp hd with rfl | hd
       . exact Ei
       . exact a d hd
   . rcases afX.mp hr with z | z
     . rw [z]
       refine ⟨fun d hd => ?_, fun x hx => by cases hx⟩
       rw [agw.mp hd]
       exact Ei
     . exact Eh h r z
 . exact Eh h r hr
end
theorem YR {l : List It} {f n to : Nat} (h : ∀ x ∈ l, ItS x) : ∀ x ∈ G4 l f n to, ItS x := fun x hx => by
 unfold G4 at hx
 split at hx
 . exact h x hx
 . simp only [af0, afX, af9, agQ] at hx
   rcases hx with ((((rfl | rfl) | z) | rfl) | z) | rfl
   . exact trivial
   . exact trivial
   . exact h x (ag8 z)
   . exact trivial
   . exact h x (List.mem_of_mem_drop z)
   . exact trivial
theorem Ox {l : List It} {f n to : Nat} (h : l.length <= 4) : (G4 l f n to).length <= 1000 := by
 unfold G4
 split
 . omega
 . rw [afY, afY, afY, afY, agv, aht]
   show 2 + _ + 1 + _ + 1 <= 1000
   omega
theorem J6 {β : Type} {f : Nat -> β} : ∀ {n : Nat}, (∀ i, i < n -> ∀ j, j < n -> f i = f j -> i = j) -> ((List.range n).map f).Nodup
 | 0, _ => ahi
 | n + 1, h => by
   rw [ahA, aga, agD]
   refine ⟨J6 fun i hi j hj => h i (by omega) j (by omega), aic _ _, fun x hx y hy e => ?_⟩
   obtain ⟨i, hi, rfl⟩ := afZ.mp hx
   have hi := agX.mp hi
   have ey : y = f n := agw.mp hy
   rw [ey] at e
   have := h i (by omega) n (by omega) e
   omega
theorem Ej {α : Type} {R : List (bC × α)} {k : bC} (h : k ∈ R.map (·.1)) : ∃ l, eY R k = some l := by
 induction R with
 | nil => cases h
 | cons p R ih =>
   by_cases e : p.1 = k
   . exact ⟨_, fY e⟩
   . rw [fC e]
     rw [agd] at h
     rcases afX.mp h with z | z
     . exact absurd z.symm e
     . exact ih z
theorem YS (s : List Int) {q : Nat} (h : q <= 100) : 1 <= n7 s q /\ n7 s q <= 100 := by unfold n7; omega
theorem UJ (s : List Int) {q : Nat} (hq : q <= 100) (cl : Bool) : rL (F3 s q cl) (iG s) (n7 s q) := by
 have hb := YS s hq
 have hl := xG s
 have QS := JH s
 have hml : n7 s q * (iG s).length <= 100 * 3 := Nat.mul_le_mul hb.2 hl
 have hbn := JN s
 have dm : ∀ i, i < n7 s q * (iG s).length -> i / (iG s).length < n7 s q /\ i % (iG s).length < (iG s).length := fun i hi => by
   have hp : 0 < (iG s).length := by
     rcases Nat.eq_zero_or_pos (iG s).length with z | z
     . rw [z, Nat.mul_zero] at hi; omega
     . exact z
   exact ⟨(Nat.div_lt_iff_lt_mul hp).mpr hi, Nat.mod_lt _ hp⟩
 refine ⟨fun i hi x hx => ?_, fun z hz => ?_, ?_, ?_, hl, hb, Ca s⟩
 . obtain ⟨t, ht⟩ := ahk.mp hx
   have htl := (af5.mp ht).1
   have ex : (iG s).getD t Str.empty = x := by rw [af6, ht]; rfl
   refine Ej ?_
   unfold F3 vX
   rw [agh]
   refine afZ.mpr ⟨i * (iG s).length + t, agX.mpr ?_, ?_⟩
   . have : (i + 1) * (iG s).length <= n7 s q * (iG s).length := Nat.mul_le_mul_right _ hi
     rw [Nat.add_mul, Nat.one_mul] at this
     omega
   . show mE _ _ = _
     rw [(dv7 htl).1, (dv7 htl).2, ex]
 . unfold F3 vX at hz
   obtain ⟨i, hi, rfl⟩ := afZ.mp hz
   obtain ⟨d1, d2⟩ := dm i (agX.mp hi)
   generalize i / (iG s).length = f at d1 ⊢
   generalize i % (iG s).length = t at d2 ⊢
   have Ak := D6 s q
   have hk : (qm s q).getD f 0 < u6 s := JQ s q _ (u5 (by omega))
   have WR : (qm s q).getD f 0 * 3 + t < 3 * u6 s := by omega
   have uO := JR (cl := cl) WR
   have eF : (Az s cl).getD ((qm s q).getD f 0 * 3 + t) [] = xC s (((qm s q).getD f 0 * 3 + t) / 3) (((qm s q).getD f 0 * 3 + t) % 3) (uN s).length (iG s) cl := by rw [af6, uO]; rfl
   show (G0 s (qm s q) f t ((Az s cl).getD ((qm s q).getD f 0 * 3 + t) [])).length <= 100 /\ ∀ r ∈ G0 s (qm s q) f t ((Az s cl).getD ((qm s q).getD f 0 * 3 + t) []), F4 (n7 s q) r
   rw [eF]
   have g1 := xE s (((qm s q).getD f 0 * 3 + t) / 3) (((qm s q).getD f 0 * 3 + t) % 3) (uN s).length (iG s) cl
   have g2 := @YQ s (((qm s q).getD f 0 * 3 + t) / 3) (((qm s q).getD f 0 * 3 + t) % 3) (uN s).length (iG s) cl (Ca s)
   have g3 := @JF s (((qm s q).getD f 0 * 3 + t) / 3) (((qm s q).getD f 0 * 3 + t) % 3) (uN s).length (iG s) cl
   have g4 := @xF s (((qm s q).getD f 0 * 3 + t) / 3) (((qm s q).getD f 0 * 3 + t) % 3) (uN s).length (iG s) cl
   generalize xC s (((qm s q).getD f 0 * 3 + t) / 3) (((qm s q).getD f 0 * 3 + t) % 3) (uN s).length (iG s) cl = fs at g1 g2 g3 g4 ⊢
   unfold G0 JK
   refine ⟨by rw [afO, agc]; omega, fun r hr => ?_⟩
   obtain ⟨i, hi, rfl⟩ := afZ.mp hr
   have hm : fs.getD i kZ ∈ fs := u5 (agX.mp hi)
   exact ⟨by rw [← Ak]; exact UD _ _ _ _ _ (by omega), g4 _ hm, (g2 _ hm).1, fun x hx => t9 (YR (g2 _ hm).2 x hx), Ox (g3 _ hm).2⟩
 . unfold F3 vX
   rw [agh]
   refine J6 fun i hi j hj e => ?_
   have hi := dm i hi
   have hj := dm j hj
   obtain ⟨e1, e2⟩ := D4 e
   have e3 := getD_inj QS hi.2 hj.2 e2
   rw [← Nat.div_add_mod i (iG s).length, ← Nat.div_add_mod j (iG s).length, e1, e3]
 . unfold F3 vX
   rw [afO, agc]
   omega
theorem Oz (s : List Int) (a m : Nat) : gF 3 (JG s a m) := by
 unfold JG
 refine .tup fun d hd => ?_
 simp only [afX, af9, agQ] at hd
 rcases hd with rfl | rfl
 . split
   . refine .tup fun d hd => ?_
     simp only [afX, af9, agQ] at hd
     rcases hd with rfl | rfl | rfl
     . exact .int _ _
     . exact .int _ _
     . exact .int _ _
   . exact t8
 . refine .tup fun d hd => ?_
   rcases afX.mp hd with rfl | hd
   . exact .int _ _
   . rw [ahE hd]; exact .int _ _
theorem Ek (s : List Int) (q : Nat) : (Rh s q).length = n7 s q := by unfold Rh; rw [afO, agc]
theorem UK (s : List Int) {q : Nat} (hq : q <= 100) (cl : Bool) : A8 (uN s) (iG s) (UE s) (Rh s q) (F3 s q cl) where
 t := by rw [Ek]; exact UJ s hq cl
 b := fun z hz => by
   obtain ⟨k, hk, rfl⟩ := afZ.mp hz
   have hk := agX.mp hk
   exact (D5 k (by omega)).1.2
 g := fun x hx => by
   unfold UE at hx
   simp only [afX, af9, agQ] at hx
   rcases hx with rfl | rfl | rfl
   . exact t9 trivial
   . exact t9 trivial
   . exact t9 (J4 (Ca s))
 p := fun d hd => by
   obtain ⟨k, _, rfl⟩ := afZ.mp hd
   exact Oz _ _ _
 i := tU fun k _ => D7 _ _ _
section
variable {R : List (bC × List R7)} {hs : List Str} {n : Nat} {k : bC} {l : List R7}
theorem mF {α : Type} {t : α} : ∀ (R : List (bC × α)), (iM k t R).map (·.1) = R.map (·.1)
 | [] => rfl
 | (x, u) :: R => by
   rw [iM]
   split
   . rfl
   . rw [agd, agd, mF R]
theorem AO {α : Type} {t : α} : ∀ {R : List (bC × α)}, ∀ q ∈ iM k t R, q ∈ R \/ q = (k, t)
 | [], q, h => by cases h
 | (x, u) :: R, q, h => by
   rw [iM] at h
   split at h
   . rename_i e
     rcases afX.mp h with rfl | h
     . exact .inr (by rw [e])
     . exact .inl (afS _ h)
   . rcases afX.mp h with rfl | h
     . exact .inl afP
     . exact (AO q h).imp (afS _) id
theorem v5 : ∀ (R : List (bC × List R7)), iM k (T.lst ((l.map gV).map T.sh)) (aT (d7 R)) = aT (d7 (iM k l R))
 | [] => rfl
 | (x, u) :: R => by
   show iM k _ ((x, T.lst ((u.map gV).map T.sh)) :: aT (d7 R)) = _
   rw [iM, iM, v5 R]
   split
   . rfl
   . rfl
theorem AQ : ∀ (R : List (bC × List R7)), (R.map (·.1)).Nodup -> (aT (d7 R)).map (fun kv => if kv.1 = k then (kv.1, T.lst ((l.map gV).map T.sh)) else kv) = aT (d7 (iM k l R))
 | [], _ => rfl
 | (x, u) :: R, nd => by
   rw [agd, agB] at nd
   show (if x = k then (x, T.lst ((l.map gV).map T.sh)) else (x, T.lst ((u.map gV).map T.sh))) :: (aT (d7 R)).map _ = _
   rw [iM]
   split
   . rename_i e
     have hid : ∀ Q : List (bC × List R7), k ∉ Q.map (·.1) -> (aT (d7 Q)).map (fun kv => if kv.1 = k then (kv.1, T.lst ((l.map gV).map T.sh)) else kv) = aT (d7 Q) := by
       intro Q
       induction Q with
       | nil => intro _; rfl
       | cons p Q ih =>
         intro h
         rw [agd] at h
         show (if p.1 = k then _ else (p.1, T.lst ((p.2.map gV).map T.sh))) :: (aT (d7 Q)).map _ = (p.1, T.lst ((p.2.map gV).map T.sh)) :: aT (d7 Q)
         rw [af1 fun z => h (by rw [z]; exact afP), ih fun z => h (afS _ z)]
     rw [hid R (by rw [← e]; exact nd.1)]
     rfl
   . rw [AQ R nd.2]
     rfl
theorem AU {k : bC} : ∀ {R : List (bC × List R7)}, eY R k = some l -> eY (aT (d7 R)) k = some (.lst ((l.map gV).map T.sh))
 | [], h => by cases h
 | p :: R, h => by
   by_cases e : p.1 = k
   . rw [fY e] at h
     cases h
     exact fY (p := (p.1, T.lst ((p.2.map gV).map T.sh))) e
   . rw [fC e] at h
     exact (fC (p := (p.1, T.lst ((p.2.map gV).map T.sh))) e).trans (AU h)
theorem rL.more (h : rL R hs n) (hl : l.length <= 100) (hr : ∀ r ∈ l, F4 n r) : rL (iM k l R) hs n := by
 refine ⟨fun i hi x hx => ?_, fun q hq => ?_, by rw [mF]; exact h.c, ?_, h.e, h.f, h.g⟩
 . obtain ⟨m, hm⟩ := h.a i hi x hx
   exact Ej (by rw [mF]; exact afZ.mpr ⟨_, xN hm, rfl⟩)
 . rcases AO q hq with z | rfl
   . exact h.b q z
   . exact ⟨hl, hr⟩
 . have := congrArg List.length (mF (k := k) (t := l) R)
   rw [afO, afO] at this
   rw [this]
   exact h.d
variable {UL Ab UM UN : List L3.D} {kv : List (bC × T)}
theorem El {kvs : List (bC × List L3.D)} {u : List T} (hv : eY (aT kvs) k = some (.lst u)) : T.jU [.fld "rows", .key k] (.ins "Table" (kW UL Ab UM UN kvs)) = some (.lst u) := by
 show (List.lookup ("rows" : Str) (jW UL Ab UM UN (.dct (aT kvs)))).bind _ = _
 rw [gB]
 show (eY (aT kvs) k).bind (T.jU []) = _
 rw [hv]
 rfl
theorem OB {u : T} {w : List T} (hv : eY (aT (d7 R)) k = some (.lst w)) (e : u = T.lst ((l.map gV).map T.sh)) : T.iS [.fld "rows", .key k] u (.ins "Table" (kW UL Ab UM UN (d7 R))) = .ins "Table" (kW UL Ab UM UN (d7 (iM k l R))) := by
 have hk : (T.core (.ins "Table" (kW UL Ab UM UN (d7 R)))).G3 (.fld "rows") = some (.dct (aT (d7 R))) := gB (bs := UL) (hs := Ab) (bg := UM) (pr := UN)
 have e2 : T.iS [.key k] u (.dct (aT (d7 R))) = .dct (aT (d7 (iM k l R))) := by
   rw [T.iS, show (T.core (.dct (aT (d7 R)))).G3 (.key k) = some (.lst w) from hv]
   show T.dct (iM k u (aT (d7 R))) = _
   rw [e, v5]
 rw [T.iS, hk]
 show T.ins "Table" (jT "rows" (T.iS [.key k] u (.dct (aT (d7 R)))) (jW UL Ab UM UN (.dct (aT (d7 R))))) = _
 rw [e2, Aw]
 rfl
end
theorem ua {R : List (bC × List R7)} {hs : List Str} {n : Nat} (h : rL R hs n) : ∀ q ∈ d7 R, D.aY q.2 = true := fun q hq => by
 obtain ⟨p, hp, rfl⟩ := afZ.mp hq
 exact tU fun r hr => xQ ((h.b p hp).2 r hr).b
section
variable {bs : List (Str × Int)} {hs : List Str} {bg : List It} {pr : List L3.D} {R : List (bC × List R7)}
theorem F5 (h : A8 bs hs bg pr R) : (N9 bs hs bg pr R).clean = true := by
 unfold N9
 rw [T.clean, T.dz, T.dz, T.dz, T.dz, T.dz, T.dz, bF (gQ (fun _ => rfl) _), bF (dX _), bF h.i, T.clean, T.clean, rj (ua h.t), D.iF, di]
 rfl
theorem F6 (h : A8 bs hs bg pr R) : (T.ins "Table" (kW (bs.map dR) (hs.map .str) (bg.map It.d) pr (d7 R))).clean = true := by
 rw [T.clean]
 exact tT (gQ (fun _ => rfl) _) (dX _) (di _) h.i (ua h.t)
end
theorem OD {bs hs bg pr : List L3.D} {kvs : List (bC × List L3.D)} : T.jU [.fld "rows"] (.ins "Table" (kW bs hs bg pr kvs)) = some (.dct (aT kvs)) := by
 show (List.lookup ("rows" : Str) (jW bs hs bg pr (.dct (aT kvs)))).bind _ = _
 rw [gB]
 rfl
theorem YT (s : List Int) (q : Nat) (cl : Bool) : ∀ z ∈ F3 s q cl, z.2.length <= 5 := fun z hz => by
 have key : ∀ k : Nat, ((Az s cl).getD k []).length <= 5 := fun k => by
   rw [af6]
   cases e : (Az s cl)[k]? with
   | none => exact agr _
   | some r =>
     obtain ⟨i, _, rfl⟩ := afZ.mp (af8 e)
     exact xE ..
 unfold F3 vX at hz
 obtain ⟨i, _, rfl⟩ := afZ.mp hz
 show (G0 _ _ _ _ _).length <= 5
 unfold G0 JK
 rw [afO, agc]
 exact key _
seal L3.dw L3.L4 L3.bG L3.cL L3.oS L3.Dn L3.L1
noncomputable abbrev xS : Stmt := top 15
noncomputable abbrev Cb : Type := Int
noncomputable def lM : Cb -> List L3.D := fun c => [.int c]
noncomputable def lN : Cb -> Prop := fun c => True
noncomputable def lO : Cb -> T := fun c => (.sh (.str (fD c)) : T)
structure UO (X : Cx) (CL : Str -> Addr) : Prop extends cP X where
 cO : Ln X 0 "cell"
 qG : Ln X 1 "letters"
 bQ : Ln X 2 "mixed"
 jm : Ln X 3 "name"
 Rl : Ln X 4 "k"
 bR : Gl X "range"
 bS : X.mg "range" = none
theorem UQ {X : Cx} {CL : Str -> Addr} {b : Bx} (E : UO X CL) {c} (h : lN c) :
   aD X CL b xS ["cell", "letters", "mixed", "name", "k"] (lM c) (lO c) := by
 dsimp only [aD, lN, lM, lO] at h ⊢
 refine aR E.g E.qG cS ?_
 refine aR E.g E.bQ (bq (ah (dJ (aO E.cO) (ah aj) ⟨by decide, by decide⟩)) (ah (HV (ah aj) (ah aj) ⟨by decide, by decide, by decide⟩)) (by decide)) ?_
 generalize hm0 : c / 12 % 10 ^ (9 : Int).toNat = m0
 have e0 : nm0 c = (m0, rE (m0 % 26)) := by rw [← hm0]; rfl
 have YV : FQ.length = 36 := by decide +kernel
 have m26 := fun m : Int => ags m (show (26 : Int) ≠ 0 by decide)
 have l26 := fun m : Int => agu m (show (0 : Int) < 26 by decide)
 have m36 := fun m : Int => ags m (show (36 : Int) ≠ 0 by decide)
 have l36 := fun m : Int => agu m (show (0 : Int) < 36 by decide)
 refine aR E.g E.jm (HY (aO E.qG) (ah (bq (aO E.bQ) (ah aj) (by decide))) (by rw [age]; decide +kernel) (by rw [Jt]; exact Im 0 (m26 _) (by have := l26 m0; rw [YV]; omega))) ?_
 have c0 := ags c (show (12 : Int) ≠ 0 by decide)
 have c1 := agu c (show (0 : Int) < 12 by decide)
 refine g7 E.g E.Rl (fun j δ => ∃ o, δ = [some (.sh (.int c)), some (.sh (.str "abcdefghijklmnopqrstuvwxyz0123456789")), some (.sh (.int (iN (m0, rE (m0 % 26)) j).1)), some (.sh (.str (iN (m0, rE (m0 % 26)) j).2)), o])
   (cI E.bS (ah (bq (aO E.cO) (ah aj) (by decide))) (by omega) E.bR) ⟨_, rfl⟩ (fun j δ ⟨_, e⟩ => by subst e; exact afV rfl) ?turn ?fin
 case turn =>
   rintro j d δ hj ⟨o, rfl⟩
   obtain ⟨rfl, DE⟩ := gP hj
   have Em := Jv (m0, rE (m0 % 26)) j
   have hn0 : (rE (m0 % 26)).length = 1 := rfl
   refine aR E.g E.bQ (bq (ah (bz (ah (jk (aO E.bQ) (ah aj) (.inr ⟨by decide, by decide⟩))) (ah aj))) (ah aj) (by decide)) ?_
   refine aR E.g E.jm (nT (aO E.jm) (ah (HY (aO E.qG) (ah (bq (aO E.bQ) (ah aj) (by decide))) (by rw [age]; decide +kernel) (by rw [Jt]; exact Im 0 (m36 _) (by have := l36 (NW (iN (m0, rE (m0 % 26)) j).1); unfold NW at this; rw [YV]; omega)))) (by rw [age, Em, hn0]; show 1 + j + 1 <= _; omega)) (aF ⟨_, rfl⟩)
 case fin =>
   rintro δ ⟨o, rfl⟩
   have hn : (b7 0 (c % 12).toNat).length = (c % 12).toNat := by simp [b7]
   rw [hn]
   have hb : (iN (m0, rE (m0 % 26)) (c % 12).toNat).2 = Ma c := by unfold Ma; rw [e0]
   rw [hb]
   have hbl := DU c
   refine jC (Il (l := w13) (aO E.jm) (oX rfl)).1 (fun hp => ?_) (fun hp => aF ?_)
   . refine bX (nT (aO E.jm) (ah cS) (by rw [age]; show _ + 1 <= _; omega)) ?_
     show T.sh _ = T.sh (.str (fD c))
     rw [fD, agb (agt hp)]
   refine jC (Il (l := w6) (aO E.jm) (oX rfl)).1 (fun hq => ?_) (fun hq => aF ?_)
   . refine bX (nT (aO E.jm) (ah cS) (by rw [age]; show _ + 1 <= _; omega)) ?_
     show T.sh _ = T.sh (.str (fD c))
     rw [fD, af1 (agL hp), agb (agt hq)]
   . refine bX (v_ E.jm.1) ?_
     show T.sh _ = T.sh (.str (fD c))
     rw [fD, af1 (agL hp), af1 (agL hq)]
theorem mG : kU (au xS) ([("cell", av), ("letters", av), ("mixed", av), ("name", av), ("k", av), ("range", aC)]) = true := by decide +kernel
theorem OG : aQ ["cell", "letters", "mixed", "name", "k"] ["cell"] (au xS) := aZ
noncomputable abbrev mH : Stmt := top 13
noncomputable abbrev mJ : Type := List Int × Int
noncomputable def cX : mJ -> List L3.D := fun (ns, j) => [.lst (ns.map .int), .int j]
noncomputable def cY : mJ -> Prop := fun (ns, j) => 0 <= j
noncomputable def cZ : mJ -> T := fun (ns, j) => (.sh (.int (aW ns j)) : T)
structure F8 (X : Cx) (CL : Str -> Addr) : Prop extends cP X where
 aP : Ln X 0 "script"
 Rl : Ln X 1 "k"
 cg : Gl X "len"
 cj : X.mg "len" = none
theorem F9 {X : Cx} {CL : Str -> Addr} {b : Bx} (E : F8 X CL) {cA : mJ} (h : cY cA) :
   aD X CL b mH ["script", "k"] (cX cA) (cZ cA) := by
 obtain ⟨ns, j⟩ := cA
 dsimp only [aD, cY, cX, cZ] at h ⊢
 refine jC (XT (aO E.Rl) (ah (Dt E.cj (aO E.aP) E.cg))).1 (fun hp => ?_) (fun hp => ?_)
 . have e : j < ns.length := by simpa using of_decide_eq_true hp
   refine bX (gX (cC (aO E.aP) (aO E.Rl) (Tw h e)) rfl) ?_
   show T.sh _ = T.sh (.int (aW ns j))
   rw [aW, agb e]
 . have e : ¬ j < ns.length := by simpa using of_decide_eq_false hp
   refine aF (bX aj ?_)
   show T.sh _ = T.sh (.int (aW ns j))
   rw [aW, af1 e]
theorem oi : kU (au mH) ([("script", av), ("k", av), ("len", aC)]) = true := by decide +kernel
theorem Cd : aQ ["script", "k"] ["script", "k"] (au mH) := aZ
noncomputable abbrev sr : Stmt := top 16
noncomputable abbrev su : Type := Int × Int
noncomputable def eN : su -> List L3.D := fun (c, s) => [.int c, .int s]
noncomputable def eO : su -> Prop := fun (c, s) => True
noncomputable def eS : su -> T := fun (c, s) => (.sh (.int (nY c s)) : T)
structure OI (X : Cx) (CL : Str -> Addr) : Prop extends cP X where
 cO : Ln X 0 "cell"
 UR : Ln X 1 "salt"
 bQ : Ln X 2 "mixed"
theorem OJ {X : Cx} {CL : Str -> Addr} {b : Bx} (E : OI X CL) {cA : su} (h : eO cA) :
   aD X CL b sr ["cell", "salt", "mixed"] (eN cA) (eS cA) := by
 obtain ⟨c, s⟩ := cA
 dsimp only [aD, eO, eN, eS] at h ⊢
 refine aR E.g E.bQ (aB (bq (ah (jk (ah (bz (ah (bq (aO E.cO) (ah aj) (by decide))) (aO E.UR))) (ah aj) (.inr ⟨by decide, by decide⟩))) (ah aj) (by decide)) (t2 := .sh (.int (YG c s))) rfl) ?_
 obtain ⟨m0, m1⟩ := YH c s
 refine bX (bq (ah (jk (aO E.bQ) (aO E.bQ) (.inl ⟨by omega, by omega⟩))) (ah aj) (by decide)) rfl
theorem uc : kU (au sr) ([("cell", av), ("salt", av), ("mixed", av)]) = true := by decide +kernel
theorem J7 : aQ ["cell", "salt", "mixed"] ["cell", "salt"] (au sr) := aZ
noncomputable abbrev sy : Stmt := top 20
noncomputable abbrev xT : Type := List Int
noncomputable def mK : xT -> List L3.D := fun s => [.lst (s.map .int)]
noncomputable def mL : xT -> Prop := fun s => s.length <= 1000
noncomputable def mO : xT -> T := fun s => (.lst (((iG s).map .str).map T.sh) : T)
structure OL (X : Cx) (CL : Str -> Addr) : Prop extends cP X where
 aP : Ln X 0 "script"
 f9 : Ln X 1 "base"
 bQ : Ln X 2 "mixed"
 bB : Ln X 3 "many"
 dD : Ln X 4 "turn"
 cT : Ln X 5 "three"
 iX : Gl X "_law_name"
 aL : Gl X "_law_cell_at"
 aX : Gl X "_law_mixed"
 xU : Fc X CL "_law_name" 1 1 lM lN lO
 bE : Fc X CL "_law_cell_at" 1 2 cX cY cZ
 dN : Fc X CL "_law_mixed" 1 2 eN eO eS
theorem OO {X : Cx} {CL : Str -> Addr} {b : Bx} (E : OL X CL) {s} (h : mL s) :
   aD X CL b sy ["script", "base", "mixed", "many", "turn", "three"] (mK s) (mO s) := by
 dsimp only [aD, mL, mK, mO] at h ⊢
 have hb : (rH s).length <= 13 := agH (Txt.slice_le _ _ _) (YJ _)
 refine aR E.g E.f9 (aB (Fw (ah (c_ (aW s 0 / 2) E.xU E.iX (ai (ah (dJ (ah (c_ ((s, 0)) E.bE E.aL (ai (aO E.aP) (ai (ah aj) aE)) (show (0 : Int) <= 0 by omega) rfl)) (ah aj) ⟨by decide, by decide⟩)) aE) (trivial) rfl)) ((by rw [age]; have := YJ (aW s 0 / 2); omega)) iV (iW (ah aj))) (t2 := .sh (.str (rH s))) rfl) ?_
 refine aR E.g E.bQ (aB (c_ ((aW s 0, 37)) E.dN E.aX (ai (ah (c_ ((s, 0)) E.bE E.aL (ai (aO E.aP) (ai (ah aj) aE)) (show (0 : Int) <= 0 by omega) rfl)) (ai (ah aj) aE)) (trivial) rfl) (t2 := .sh (.int (Rc s))) rfl) ?_
 have l0 := ags (Rc s) (b := 8) (by decide)
 have l1 := agu (Rc s) (b := 8) (by decide)
 refine aR E.g E.bB (aB (gX (cC (cD (gE (xo (l := [2, 3, 1, 3, 2, 3, 1, 0]) rfl) (aq rfl))) (ah (bq (aO E.bQ) (ah aj) (by decide))) (qx (0 : Int) (l := [2, 3, 1, 3, 2, 3, 1, 0]) l0 (by show _ < (8 : Int); exact l1))) rfl) (t2 := .sh (.int (nn7 s : Nat))) ?n1) ?_
 case n1 =>
   unfold nn7
   obtain ⟨k, hk⟩ : ∃ k : Nat, Rc s % 8 = k := ⟨(Rc s % 8).toNat, by omega⟩
   rw [hk] at l1 ⊢
   have : k < 8 := by omega
   rw [agp]
   match k, this with
   | 0, _ => rfl
   | 1, _ => rfl
   | 2, _ => rfl
   | 3, _ => rfl
   | 4, _ => rfl
   | 5, _ => rfl
   | 6, _ => rfl
   | 7, _ => rfl
 have t0 := ags (Rc s / 8) (b := 3) (by decide)
 refine aR E.g E.dD (aB (bq (ah (dJ (aO E.bQ) (ah aj) ⟨by decide, by decide⟩)) (ah aj) (by decide)) (t2 := .sh (.int (Jz s : Nat))) (by unfold Jz; rw [ahH t0])) ?_
 refine aR E.g E.cT (aB (gE (ak (nT (aO E.f9) (ah cS) ((by rw [age]; show _ + 1 <= _; omega))) (ak (nT (aO E.f9) (ah cS) ((by rw [age]; show _ + 2 <= _; omega))) (ak (nT (aO E.f9) (ah cS) ((by rw [age]; show _ + 1 <= _; omega))) aI))) (aq rfl)) (t2 := .lst (((n5 s).map .str).map T.sh)) rfl) ?_
 have e1 : cutD ((n5 s).map L3.D.str) (some (Jz s : Int)) none ++ cutD ((n5 s).map L3.D.str) none (some (Jz s : Int)) = ((n5 s).drop (Jz s) ++ (n5 s).take (Jz s)).map L3.D.str := by
   rw [pC rfl, n6 rfl, aga, List.map_drop, ahB]
 refine bX (aB (lz (ds := ((n5 s).drop (Jz s) ++ (n5 s).take (Jz s)).map L3.D.str) (e1 ▸ cD (rV (cD (lz (vL E.cT.1) (dX _) (iW (aO E.dD)) iV)) (cD (lz (vL E.cT.1) (dX _) iV (iW (aO E.dD)))) ?i1 ?i2 ?z)) (dX _) iV (iW (aO E.bB))) (t2 := .lst (((iG s).map .str).map T.sh)) ?fin) rfl
 case i1 => rw [pC rfl, ← List.map_drop]; exact dX _
 case i2 => rw [n6 rfl, ← ahB]; exact dX _
 case z =>
   rw [pC rfl, n6 rfl, aht, agv, afO, age]
   show 3 - _ + min _ 3 <= _
   omega
 case fin =>
   rw [n6 rfl, ← ahB]
   rfl
theorem gb : kU (au sy) ([("script", av), ("base", av), ("mixed", av), ("many", av), ("turn", av), ("three", av), ("_law_name", aC), ("_law_cell_at", aC), ("_law_mixed", aC)]) = true := by decide +kernel
theorem J8 : aQ ["script", "base", "mixed", "many", "turn", "three"] ["script"] (au sy) := aZ
noncomputable abbrev sA : Stmt := top 14
noncomputable abbrev xV : Type := Int
noncomputable def jF : xV -> List L3.D := fun a => [.int a]
noncomputable def jG : xV -> Prop := fun a => True
noncomputable def jH : xV -> T := fun a => (.sh (.int (fZ a)) : T)
structure OQ (X : Cx) (CL : Str -> Addr) : Prop extends cP X where
 cO : Ln X 0 "cell"
 Ce : Ln X 1 "size"
theorem OS {X : Cx} {CL : Str -> Addr} {b : Bx} (E : OQ X CL) {a} (h : jG a) :
   aD X CL b sA ["cell", "size"] (jF a) (jH a) := by
 dsimp only [aD, jG, jF, jH] at h ⊢
 refine jC (fS (ah (bq (aO E.cO) (ah aj) (by decide))) (ah aj)).1 (fun hp => ?_) (fun hp => aF ?_)
 . refine bX (wW (ah (bq (ah (dJ (aO E.cO) (ah aj) ⟨by decide, by decide⟩)) (ah aj) (by decide))) (ah aj)) ?_
   show T.sh _ = T.sh (.int (fZ a))
   rw [fZ, agb (agt hp)]
 . have e : ¬ a % 2 = 0 := agL hp
   refine aR E.g E.Ce (aB (bq (ah (jk (ah (dJ (aO E.cO) (ah aj) ⟨by decide, by decide⟩)) (ah aj) (.inr ⟨by decide, by decide⟩))) (ah (wW (ah (HV (ah aj) (ah aj) ⟨by decide, by decide, by decide⟩)) (ah aj))) (by decide)) (t2 := .sh (.int (a / 4 * 48271 % (10 ^ 30 - 1)))) rfl) ?_
   refine jC (fS (ah (bq (aO E.cO) (ah aj) (by decide))) (ah aj)).1 (fun hp => ?_) (fun hp => aF ?_)
   . refine bX (v_ E.Ce.1) ?_
     show T.sh _ = T.sh (.int (fZ a))
     rw [fZ, af1 e, agb (agt hp)]
   . refine bX (gY (aO E.Ce)) ?_
     show T.sh _ = T.sh (.int (fZ a))
     rw [fZ, af1 e, af1 (agL hp)]
theorem AV : kU (au sA) ([("cell", av), ("size", av)]) = true := by decide +kernel
theorem J9 : aQ ["cell", "size"] ["cell"] (au sA) := aZ
noncomputable abbrev xW : Stmt := top 17
noncomputable abbrev xX : Type := Int × Nat
noncomputable def lP : xX -> List L3.D := fun (c, m) => [.int c, .int (m : Nat)]
noncomputable def lQ : xX -> Prop := fun (c, m) => m <= 1000
noncomputable def lR : xX -> T := fun (c, m) => (.sh (.tup [.int (Uu c m), .int (Uv c m)]) : T)
structure UT (X : Cx) (CL : Str -> Addr) : Prop extends cP X where
 cO : Ln X 0 "cell"
 bB : Ln X 1 "many"
 xY : Gl X "_law_small"
 xZ : Fc X CL "_law_small" 1 1 jF jG jH
theorem UU {X : Cx} {CL : Str -> Addr} {b : Bx} (E : UT X CL) {cA : xX} (h : lQ cA) :
   aD X CL b xW ["cell", "many"] (lP cA) (lR cA) := by
 obtain ⟨c, m⟩ := cA
 dsimp only [aD, lQ, lP, lR] at h ⊢
 have h : m <= 1000 := h
 exact bX (aG (ak (wW (ah (bq (aO E.cO) (ah (bz (aO E.bB) (ah aj))) (by omega))) (ah aj)) (ak (c_ (c / ((m : Int) + 1)) E.xZ E.xY (ai (ah (dJ (aO E.cO) (ah (bz (aO E.bB) (ah aj))) (⟨by omega, by omega⟩))) aE) (trivial) rfl) aI)) (aq rfl)) rfl
theorem x6 : kU (au xW) ([("cell", av), ("many", av), ("_law_small", aC)]) = true := by decide +kernel
theorem OU : aQ ["cell", "many"] ["cell", "many"] (au xW) := aZ
noncomputable abbrev x8 : Stmt := top 19
noncomputable abbrev x9 : Type := Int × Nat × List Str
noncomputable def lS : x9 -> List L3.D := fun (c, m, hh) => [.int c, .int (m : Nat), .lst (hh.map .str)]
noncomputable def iO : x9 -> Prop := fun (c, m, hh) => m <= 1000 /\ hh.length <= 1000
noncomputable def lT : x9 -> T := fun (c, m, hh) => (.sh (rG c m hh).d : T)
structure UW (X : Cx) (CL : Str -> Addr) : Prop extends cP X where
 cO : Ln X 0 "cell"
 bB : Ln X 1 "many"
 cT : Ln X 2 "three"
 Ka : Ln X 3 "way"
 oj : Ln X 4 "rest"
 iX : Gl X "_law_name"
 cg : Gl X "len"
 gR : Gl X "_law_term"
 xU : Fc X CL "_law_name" 1 1 lM lN lO
 cj : X.mg "len" = none
 ud : Fc X CL "_law_term" 2 2 lP lQ lR
theorem UX {X : Cx} {CL : Str -> Addr} {b : Bx} (E : UW X CL) {cA : x9} (h : iO cA) :
   aD X CL b x8 ["cell", "many", "three", "way", "rest"] (lS cA) (lT cA) := by
 obtain ⟨c, m, hh⟩ := cA
 dsimp only [aD, iO, lS, lT] at h ⊢
 obtain ⟨h, hl⟩ := h
 refine aR E.g E.Ka (bq (aO E.cO) (ah aj) (by decide)) ?_
 refine aR E.g E.oj (dJ (aO E.cO) (ah aj) ⟨by decide, by decide⟩) ?_
 show dw X CL b _ _ { nx := _, rt := fun uZ _ => uZ = T.sh (rG c m hh).d, bk := _, ct := _ }
 refine jC (fS (aO E.Ka) (ah aj)).1 (fun hp => ?_) (fun hp => aF ?_)
 . rw [show rG c m hh = .call ((hh ++ [fD (c / 5)]).getD (c / 5 % ((hh.length : Int) + 1)).toNat Str.empty) by unfold rG; rw [agb (agt hp)]]
   have l0 := ags (c / 5) (b := (hh.length : Int) + 1) (by omega)
   have l1 := agu (c / 5) (b := (hh.length : Int) + 1) (by omega)
   have e1 : hh.map L3.D.str ++ [.str (fD (c / 5))] = (hh ++ [fD (c / 5)]).map L3.D.str := by rw [aga]; rfl
   refine bX (aG (ds := [.str "call", .str ((hh ++ [fD (c / 5)]).getD (c / 5 % ((hh.length : Int) + 1)).toNat Str.empty)]) (ak cS (ak (gX (cC (ds := (hh ++ [fD (c / 5)]).map L3.D.str) (e1 ▸ cD (rV (aO E.cT) (cD (gE (ds := [.str (fD (c / 5))]) (ak (c_ (c / 5) E.xU E.iX (ai (aO E.oj) aE) (trivial) rfl) aI) (aq rfl))) (dX _) rfl (by rw [age]; simp; omega))) (ah (bq (aO E.oj) (ah (bz (ah (cy (afO ..) E.cj (aO E.cT) E.cg)) (ah aj))) (by omega))) (qx Str.empty l0 (by rw [afY]; exact l1))) rfl) aI)) (aq rfl)) rfl
 have e1 : ¬ c % 5 = 1 := agL hp
 refine jC (uW (oU (fS (aO E.Ka) (ah aj)).1 (fun hb => (ly (fS (aO E.bB) (ah aj)).1)))) (fun hq => ?_) (fun hq => aF ?_)
 . have e2 : c % 5 = 2 \/ m = 0 := by
     simp at hq
     omega
   rw [show rG c m hh = .say (fD (c / 5)) (Uu (c / 5 / 7) m) (Uv (c / 5 / 7) m) by unfold rG; rw [af1 e1, agb e2]]
   exact bX (aG (ak cS (ak (c_ (c / 5) E.xU E.iX (ai (aO E.oj) aE) (trivial) rfl) (ak (c_ ((c / 5 / 7, m)) E.ud E.gR (ai (ah (dJ (aO E.oj) (ah aj) ⟨by decide, by decide⟩)) (ai (aO E.bB) aE)) (h) rfl) aI))) (aq rfl)) rfl
 . have e2 : ¬ (c % 5 = 2 \/ m = 0) := by
     simp at hq
     omega
   rw [show rG c m hh = .put (c / 5 % m) (Uu (c / 5 / m) m) (Uv (c / 5 / m) m) by unfold rG; rw [af1 e1, af1 e2]]
   exact bX (aG (ak cS (ak (bq (aO E.oj) (aO E.bB) (by omega)) (ak (c_ ((c / 5 / m, m)) E.ud E.gR (ai (ah (dJ (aO E.oj) (aO E.bB) (⟨by omega, by omega⟩))) (ai (aO E.bB) aE)) (h) rfl) aI))) (aq rfl)) rfl
theorem iY : kU (au x8) ([("cell", av), ("many", av), ("three", av), ("way", av), ("rest", av), ("_law_name", aC), ("len", aC), ("_law_term", aC)]) = true := by decide +kernel
theorem OV : aQ ["cell", "many", "three", "way", "rest"] ["cell", "many", "three"] (au x8) := aZ
noncomputable abbrev En : Stmt := top 18
noncomputable abbrev Eo : Type := Int × Nat
noncomputable def sC : Eo -> List L3.D := fun (c, m) => [.int c, .int (m : Nat)]
noncomputable def sE : Eo -> Prop := fun (c, m) => m <= 1000
noncomputable def sF : Eo -> T := fun (c, m) => (.sh (YK c m) : T)
structure YW (X : Cx) (CL : Str -> Addr) : Prop extends cP X where
 cO : Ln X 0 "cell"
 bB : Ln X 1 "many"
 uf : Ln X 2 "mark"
 aX : Gl X "_law_mixed"
 gR : Gl X "_law_term"
 dN : Fc X CL "_law_mixed" 1 2 eN eO eS
 ud : Fc X CL "_law_term" 2 2 lP lQ lR
theorem YX {X : Cx} {CL : Str -> Addr} {b : Bx} (E : YW X CL) {cA : Eo} (h : sE cA) :
   aD X CL b En ["cell", "many", "mark"] (sC cA) (sF cA) := by
 obtain ⟨c, m⟩ := cA
 dsimp only [aD, sE, sC, sF] at h ⊢
 have h : m <= 1000 := h
 have l0 := ags (nY c 31) (b := 4) (by decide)
 have l1 := agu (nY c 31) (b := 4) (by decide)
 refine aR E.g E.uf (gX (cC (cD (gE (oX (l := N2) rfl) (aq rfl))) (ah (bq (ah (c_ ((c, 31)) E.dN E.aX (ai (aO E.cO) (ai (ah aj) aE)) (trivial) rfl)) (ah aj) (by decide))) (qx Str.empty (l := N2) l0 (by show _ < (4 : Int); exact l1))) rfl) ?_
 exact bX (aG (ak (v_ E.uf.1) (ak (c_ ((c / 3, m)) E.ud E.gR (ai (ah (dJ (aO E.cO) (ah aj) ⟨by decide, by decide⟩)) (ai (aO E.bB) aE)) (h) rfl) (ak (c_ ((c / 7 + 2, m)) E.ud E.gR (ai (ah (bz (ah (dJ (aO E.cO) (ah aj) ⟨by decide, by decide⟩)) (ah aj))) (ai (aO E.bB) aE)) (h) rfl) aI))) (aq rfl)) rfl
theorem ug : kU (au En) ([("cell", av), ("many", av), ("mark", av), ("_law_mixed", aC), ("_law_term", aC)]) = true := by decide +kernel
theorem UY : aQ ["cell", "many", "mark"] ["cell", "many"] (au En) := aZ
noncomputable abbrev yb : Stmt := top 21
noncomputable abbrev yc : Type := List Int × Nat × Nat × Nat × List Str × Bool
noncomputable def pI : yc -> List L3.D := fun (s, p, t, m, hh, cl) => [.lst (s.map .int), .int (p : Nat), .int (t : Nat), .int (m : Nat), .lst (hh.map .str), .bl cl]
noncomputable def jI : yc -> Prop := fun (s, p, t, m, hh, cl) => s.length <= 1000 /\ p <= 100 /\ t <= 100 /\ m <= 1000 /\ hh.length <= 1000
noncomputable def pJ : yc -> T := fun (s, p, t, m, hh, cl) => (.lst (((FW s p t m hh cl).map qD).map T.sh) : T)
structure UZ (X : Cx) (CL : Str -> Addr) : Prop extends cP X where
 aP : Ln X 0 "script"
 f9 : Ln X 1 "base"
 U0 : X.env.kindOf "base" = some .cell
 dD : Ln X 2 "turn"
 bB : Ln X 3 "many"
 yd : X.env.kindOf "many" = some .cell
 cT : Ln X 4 "three"
 OW : X.env.kindOf "three" = some .cell
 lU : Ln X 5 "closed"
 cO : Ln X 6 "cell"
 Kc : X.env.kindOf "cell" = some .cell
 bQ : Ln X 7 "mixed"
 bL : Ln X 8 "rows"
 Rl : Ln X 9 "k"
 k_k : X.env.kindOf "k" = some .cell
 uh : Ln X 10 "asks"
 gf : Ln X 11 "deeds"
 aL : Gl X "_law_cell_at"
 kO : Gl X "max"
 cg : Gl X "len"
 aX : Gl X "_law_mixed"
 bR : Gl X "range"
 cU : Gl X "tuple"
 lV : Gl X "_law_deed"
 bE : Fc X CL "_law_cell_at" 1 2 cX cY cZ
 kP : X.mg "max" = none
 cj : X.mg "len" = none
 dN : Fc X CL "_law_mixed" 1 2 eN eO eS
 bS : X.mg "range" = none
 cB : X.mg "tuple" = none
 ye : Fc X CL "_law_deed" 3 3 lS iO lT
 YY : Fc X CL "_law_ask" 3 2 sC sE sF
theorem U1 {X : Cx} {CL : Str -> Addr} {b : Bx} (E : UZ X CL) {cA : yc} (h : jI cA) :
   aD X CL b yb ["script", "base", "turn", "many", "three", "closed", "cell", "mixed", "rows", "k", "asks", "deeds"] (pI cA) (pJ cA) := by
 obtain ⟨s, p, t, m, hh, cl⟩ := cA
 dsimp only [aD, jI, pI, pJ] at h ⊢
 obtain ⟨Rm, hp0, ht0, hm, hl⟩ := h
 have hg := Uw s
 have i0 := ags ((p : Int) * 3 + (t : Int)) (b := FU s) (by omega)
 refine aR E.g E.cO (aB (c_ (s, ((p : Int) * 3 + (t : Int)) % FU s) E.bE E.aL (ai (aO E.aP) (ai (ah (bq (ah (bz (ah (jk (aO E.f9) (ah aj) (.inr ⟨by decide, by decide⟩))) (aO E.dD))) (ah (xh E.g E.kP E.kO (ai (ah aj) (ai (ah (cy (afO ..) E.cj (aO E.aP) E.cg)) aE)))) (show 0 < FU s by omega))) aE)) i0 rfl) (t2 := .sh (.int (Mf s p t))) rfl) ?_
 refine aR E.g E.bQ (aB (c_ ((Mf s p t, 41 + (p : Int) * 7 + (t : Int))) E.dN E.aX (ai (aO E.cO) (ai (ah (bz (ah (bz (ah aj) (ah (jk (aO E.f9) (ah aj) (.inr ⟨by decide, by decide⟩))))) (aO E.dD))) aE)) (trivial) rfl) (t2 := .sh (.int (Ax s p t))) rfl) ?_
 show dw X CL b _ _ { nx := _, rt := fun uZ _ => uZ = T.lst (((FW s p t m hh cl).map qD).map T.sh), bk := _, ct := _ }
 unfold FW
 have e1 : ∀ n, WN s p t m hh n = (List.range n).map fun (k : Nat) => (Ux (Mf s p t) (Ax s p t) m k, Uy (Mf s p t) (Ax s p t) p m hh k) := fun n => rfl
 have e2 : Uz s p t m hh cl = if (cl || decide (Ax s p t / 24 % 2 = 0)) = true then [([], [It.fO (rG (Mf s p t + (p : Int)) m hh)].take (Ax s p t / 48 % 2).toNat)] else [] := rfl
 generalize Mf s p t = c at e1 e2 ⊢
 generalize Ax s p t = x at e1 e2 ⊢
 have k0 := ags x (b := 4) (by decide)
 have k1 := agu x (b := 4) (by decide)
 have a0 := ags (x / 4) (b := 2) (by decide)
 have a1 := agu (x / 4) (b := 2) (by decide)
 have d0 := ags (x / 8) (b := 3) (by decide)
 have d1 := agu (x / 8) (b := 3) (by decide)
 have q0 := ags (x / 48) (b := 2) (by decide)
 refine aR E.g E.bL (iK dP (agr _)) ?_
 refine g7 E.g E.Rl (fun j δ => ∃ (o9 v7 Kd : Option T), δ = [some (.sh (.lst (s.map .int))), some (.sh (.int (p : Nat))), some (.sh (.int (t : Nat))), some (.sh (.int (m : Nat))), some (.sh (.lst (hh.map .str))), some (.sh (.bl cl)), some (.sh (.int c)), some (.sh (.int x)), some (.lst (((WN s p t m hh j).map qD).map T.sh)), o9, v7, Kd]) (cI E.bS (ah (bq (aO E.bQ) (ah aj) (by decide))) (by omega) E.bR) ⟨_, _, _, by rw [e1]; rfl⟩ (fun j δ ⟨_, _, _, e⟩ => by subst e; exact afV rfl) ?turn ?fin
 case turn =>
   rintro j d δ hj ⟨o9, v7, Kd, rfl⟩
   obtain ⟨rfl, DE⟩ := gP hj
   rw [agK]
   have Rn : j < 4 := by omega
   refine lD (p := fun _ => true) (gg := fun d => T.sh (YK (c / (d.zA + 2) + 5 * (j : Int)) m)) E.g E.uh (bw (.cons E.cO.1 (.inl E.Kc) (.cons E.Rl.1 (.inl E.k_k) (.cons E.bB.1 (.inl E.yd) .nil))) (by decide +kernel)) (cI E.bS (ah (bz (ah aj) (ah (bq (ah (dJ (aO E.bQ) (ah aj) ⟨by decide, by decide⟩)) (ah aj) (by decide))))) (by omega) E.bR) (.inr rfl) (fun C s0 H0 f0 b' d hd => ?U3) (ahd (gw (by simp [b7]; omega))) ?Ke (by exact afV rfl) (gO ⟨_, rfl⟩)
   case U3 =>
     obtain ⟨a, ha, rfl⟩ := f6 hd
     exact ⟨rfl, fun _ => (c_ ((c / ((a : Int) + 2) + 5 * (j : Int), m)) (fh E.YY) (dh (by decide +kernel)) (ai (ah (bz (ah (dJ (ah (v_ (cJ (i := 1) rfl (by decide +kernel)))) (ah (bz (ah (v_ (ck (i := 0) rfl (by decide +kernel)))) (ah aj))) (⟨by omega, by omega⟩))) (ah (jk (ah aj) (ah (v_ (cJ (i := 2) rfl (by decide +kernel)))) (.inl ⟨by decide, by decide⟩))))) (ai (ah (v_ (cJ (i := 3) rfl (by decide +kernel)))) aE)) (hm) rfl)⟩
   case Ke =>
   rw [fM (f := fun (a : Nat) => YK (c / ((a : Int) + 2) + 5 * (j : Int)) m) (1 + x / 4 % 2) (fun a => by rw [agK]; rfl)]
   refine lD (p := fun _ => true) (gg := fun d => T.sh (It.fO (rG (c / (d.zA + 1) + 3 * (j : Int) + (p : Int)) m hh)).d) E.g E.gf (bw (.cons E.f9.1 (.inl E.U0) (.cons E.cO.1 (.inl E.Kc) (.cons E.Rl.1 (.inl E.k_k) (.cons E.bB.1 (.inl E.yd) (.cons E.cT.1 (.inl E.OW) .nil))))) (by decide +kernel)) (cI E.bS (ah (bq (ah (dJ (aO E.bQ) (ah aj) ⟨by decide, by decide⟩)) (ah aj) (by decide))) (by omega) E.bR) (.inr rfl) (fun C s0 H0 f0 b' d hd => ?Cg) (ahd (gw (by simp [b7]; omega))) ?Kf (by exact afV rfl) (gO ⟨_, rfl⟩)
   case Cg =>
     obtain ⟨a, ha, rfl⟩ := f6 hd
     exact ⟨rfl, fun _ => aB (c_ ((c / ((a : Int) + 1) + 3 * (j : Int) + (p : Int), m, hh)) (fh E.ye) (dh (by decide +kernel)) (ai (ah (bz (ah (bz (ah (dJ (ah (v_ (cJ (i := 2) rfl (by decide +kernel)))) (ah (bz (ah (v_ (ck (i := 0) rfl (by decide +kernel)))) (ah aj))) (⟨by omega, by omega⟩))) (ah (jk (ah aj) (ah (v_ (cJ (i := 3) rfl (by decide +kernel)))) (.inl ⟨by decide, by decide⟩))))) (ah (v_ (cJ (i := 1) rfl (by decide +kernel)))))) (ai (ah (v_ (cJ (i := 4) rfl (by decide +kernel)))) (ai (ah (v_ (cJ (i := 5) rfl (by decide +kernel)))) aE))) (by dsimp only [iO]; exact (⟨hm, hl⟩)) (pA _)) rfl⟩
   case Kf =>
   rw [fM (f := fun (a : Nat) => (It.fO (rG (c / ((a : Int) + 1) + 3 * (j : Int) + (p : Int)) m hh)).d) (x / 8 % 3) (fun a => by rw [agK]; rfl)]
   have hA : ((List.range (1 + x / 4 % 2).toNat).map fun (a : Nat) => YK (c / ((a : Int) + 2) + 5 * (j : Int)) m) = Ux c x m j := rfl
   have hD : ((List.range (x / 8 % 3).toNat).map fun (a : Nat) => (It.fO (rG (c / ((a : Int) + 1) + 3 * (j : Int) + (p : Int)) m hh)).d) = (Uy c x p m hh j).map It.d := by unfold Uy; rw [agh]; rfl
   rw [hA, hD]
   have hlen : (((WN s p t m hh j).map qD).map T.sh).length <= 1000000 := by rw [afO, afO, e1, afO, agc]; omega
   refine qY E.bL.1 rfl (aG (ds := [.tup (Ux c x m j), .tup ((Uy c x p m hh j).map It.d)]) (ak (c5 E.cB (vL E.uh.1) (DW c x m j) E.cU) (ak (c5 E.cB (vL E.gf.1) (di _) E.cU) aI)) (aq rfl)) rfl hlen (aF ?_)
   rw [e1 (j + 1), N3, ← e1 j]
   exact ⟨_, _, _, rfl⟩
 case fin =>
   rintro δ ⟨o9, v7, Kd, rfl⟩
   rw [show (b7 0 (x % 4).toNat).length = (x % 4).toNat by simp [b7]]
   obtain ⟨R, hR⟩ : ∃ R, R = WN s p t m hh (x % 4).toNat := ⟨_, rfl⟩
   have hRl : R.length <= 4 := by rw [hR, e1, afO, agc]; omega
   rw [← hR]
   refine jC (uW (oU (lq (v_ E.lU.1)) (fun _ => ly ((fS (ah (bq (ah (dJ (aO E.bQ) (ah aj) ⟨by decide, by decide⟩)) (ah aj) (by decide))) (ah aj)).1)))) (fun hp => ?_) (fun hp => aF ?_)
   . rw [agb hp] at e2
     refine aR E.g E.gf (aB (gE (ds := [(It.fO (rG (c + (p : Int)) m hh)).d]) (ak (aB (c_ ((c + (p : Int), m, hh)) E.ye E.lV (ai (ah (bz (aO E.cO) (aO E.f9))) (ai (aO E.bB) (ai (aO E.cT) aE))) (by dsimp only [iO]; exact (⟨hm, hl⟩)) (pA _)) (t2 := .sh (It.fO (rG (c + (p : Int)) m hh)).d) rfl) aI) (aq rfl)) (t2 := .lst (([It.fO (rG (c + (p : Int)) m hh)].map It.d).map T.sh)) rfl) ?_
     have e3 : cutD ([It.fO (rG (c + (p : Int)) m hh)].map It.d) none (some (x / 48 % 2)) = ([It.fO (rG (c + (p : Int)) m hh)].take (x / 48 % 2).toNat).map It.d := by rw [n6 (ahH q0).symm, ahB]
     refine qY E.bL.1 rfl (aG (ds := [.tup [], .tup (([It.fO (rG (c + (p : Int)) m hh)].take (x / 48 % 2).toNat).map It.d)]) (ak (aG (ds := []) aI (aq rfl)) (ak (c5 E.cB (Dz (cD (lz (vL E.gf.1) (di _) iV (iW (ah (bq (ah (dJ (aO E.bQ) (ah aj) ⟨by decide, by decide⟩)) (ah aj) (by decide)))))) (congrArg L3.D.lst e3)) (di _) E.cU) aI)) (aq rfl)) rfl (by rw [afO, afO]; omega) (aF ?_)
     refine bX (vM E.bL.1) ?_
     show T.lst _ = T.lst _
     rw [e2, aga, aga]
     rfl
   . rw [af1 (by rw [hp]; exact af4)] at e2
     refine bX (vM E.bL.1) ?_
     show T.lst _ = T.lst _
     rw [e2, agF]
theorem bZ : kU (au yb) ([("script", av), ("base", .cell), ("turn", av), ("many", .cell), ("three", .cell), ("closed", av), ("cell", .cell), ("mixed", av), ("rows", av), ("k", .cell), ("asks", av), ("deeds", av), ("_law_cell_at", aC), ("max", aC), ("len", aC), ("_law_mixed", aC), ("range", aC), ("tuple", aC), ("_law_deed", aC)]) = true := by decide +kernel
theorem OX : aQ ["script", "base", "turn", "many", "three", "closed", "cell", "mixed", "rows", "k", "asks", "deeds"] ["script", "base", "turn", "many", "three", "closed"] (au yb) := aZ
noncomputable abbrev sG : Stmt := top 22
noncomputable abbrev sH : Type := List Int × Nat × Nat × List Str × Bool
noncomputable def mP : sH -> List L3.D := fun (s, n, m, hh, cl) => [.lst (s.map .int), .int (n : Nat), .int (m : Nat), .lst (hh.map .str), .bl cl]
noncomputable def mQ : sH -> Prop := fun (s, n, m, hh, cl) => s.length <= 1000 /\ n <= 100 /\ m <= 1000 /\ hh.length <= 1000
noncomputable def mR : sH -> T := fun (s, n, m, hh, cl) => (.lst ((A7 s m hh cl (3 * n)).map rq) : T)
structure OY (X : Cx) (CL : Str -> Addr) : Prop extends cP X where
 aP : Ln X 0 "script"
 ig : Ln X 1 "bases"
 bB : Ln X 2 "many"
 cT : Ln X 3 "three"
 lU : Ln X 4 "closed"
 sI : Ln X 5 "alike"
 fk : Ln X 6 "faces"
 f9 : Ln X 7 "base"
 dD : Ln X 8 "turn"
 bL : Ln X 9 "rows"
 yf : Ln X 10 "never"
 aX : Gl X "_law_mixed"
 aL : Gl X "_law_cell_at"
 bR : Gl X "range"
 rz : Gl X "_law_face"
 cg : Gl X "len"
 dN : Fc X CL "_law_mixed" 1 2 eN eO eS
 bE : Fc X CL "_law_cell_at" 1 2 cX cY cZ
 bS : X.mg "range" = none
 Kg : Fc X CL "_law_face" 4 6 pI jI pJ
 cj : X.mg "len" = none
theorem OZ {X : Cx} {CL : Str -> Addr} {b : Bx} (E : OY X CL) {cA : sH} (h : mQ cA) :
   aD X CL b sG ["script", "bases", "many", "three", "closed", "alike", "faces", "base", "turn", "rows", "never"] (mP cA) (mR cA) := by
 obtain ⟨s, n, m, hh, cl⟩ := cA
 dsimp only [aD, mQ, mP, mR] at h ⊢
 obtain ⟨Rm, hn, hm, hl⟩ := h
 have iT : ∀ (x : L3.D) (l : List It), x.iF = true -> (L3.D.tup (l.map It.d)).iF = true := fun _ l _ => di l
 refine aR E.g E.sI (aB (fS (ah (bq (ah (c_ ((aW s 0, 47)) E.dN E.aX (ai (ah (c_ ((s, 0)) E.bE E.aL (ai (aO E.aP) (ai (ah aj) aE)) (show (0 : Int) <= 0 by omega) rfl)) (ai (ah aj) aE)) (trivial) rfl)) (ah aj) (by decide))) (ah aj)).2 (t2 := .sh (.bl (xB s))) rfl) ?_
 refine aR E.g E.fk (aB (iK dP (agr _)) (t2 := .lst ((A7 s m hh cl 0).map rq)) rfl) ?_
 refine g7 E.g E.f9 (fun p δ => ∃ (o7 o8 o9 v7 : Option T), δ = [some (.sh (.lst (s.map .int))), some (.sh (.int (n : Nat))), some (.sh (.int (m : Nat))), some (.sh (.lst (hh.map .str))), some (.sh (.bl cl)), some (.sh (.bl (xB s))), some (.lst ((A7 s m hh cl (3 * p)).map rq)), o7, o8, o9, v7]) (cI E.bS (aO E.ig) (by omega) E.bR) ⟨_, _, _, _, rfl⟩ (fun j δ ⟨_, _, _, _, e⟩ => by subst e; exact afV rfl) ?turn ?fin
 case fin =>
   rintro δ ⟨o7, o8, o9, v7, rfl⟩
   rw [show (b7 0 (n : Int).toNat).length = n by simp [b7]]
   exact bX (vM E.fk.1) rfl
 case turn =>
 rintro p d δ hj ⟨o7, o8, o9, v7, rfl⟩
 obtain ⟨rfl, DE⟩ := gP hj
 rw [agK]
 have hpn : p < n := by omega
 refine g7 E.g E.dD (fun t δ => ∃ (o8 o9 v7 : Option T), δ = [some (.sh (.lst (s.map .int))), some (.sh (.int (n : Nat))), some (.sh (.int (m : Nat))), some (.sh (.lst (hh.map .str))), some (.sh (.bl cl)), some (.sh (.bl (xB s))), some (.lst ((A7 s m hh cl (3 * p + t)).map rq)), some (.sh (.int (p : Nat))), o8, o9, v7]) (cI E.bS (ah aj) (by omega) E.bR) ⟨_, _, _, rfl⟩ (fun j δ ⟨_, _, _, e⟩ => by subst e; exact afV rfl) ?um ?fin2
 case fin2 =>
   rintro δ ⟨o8, o9, v7, rfl⟩
   exact aF ⟨_, _, _, _, rfl⟩
 case um =>
 rintro t d δ hj ⟨o8, o9, v7, rfl⟩
 obtain ⟨rfl, afc⟩ := gP hj
 rw [agK]
 have ht3 : t < 3 := by
   have : (3 : Int).toNat = 3 := rfl
   omega
 refine aR E.g E.bL (aB (c_ ((s, p, t, m, hh, cl)) E.Kg E.rz (ai (aO E.aP) (ai (aO E.f9) (ai (aO E.dD) (ai (aO E.bB) (ai (aO E.cT) (ai (aO E.lU) aE)))))) (by dsimp only [jI]; exact (⟨Rm, by omega, by omega, hm, hl⟩)) (qE sd)) (t2 := rq (FW s p t m hh cl)) rfl) ?_
 refine tH (fun δ => δ = [some (.sh (.lst (s.map .int))), some (.sh (.int (n : Nat))), some (.sh (.int (m : Nat))), some (.sh (.lst (hh.map .str))), some (.sh (.bl cl)), some (.sh (.bl (xB s))), some (.lst ((A7 s m hh cl (3 * p + t)).map rq)), some (.sh (.int (p : Nat))), some (.sh (.int (t : Nat))), some (rq (jY s p t m hh cl)), v7]) (lq (v_ E.sI.1)) (fun hp => ?_) (fun hp => ?_) ?_
 . refine aR E.g E.bL (aB (c_ ((s, 0, t, m, hh, true)) E.Kg E.rz (ai (aO E.aP) (ai (ah aj) (ai (aO E.dD) (ai (aO E.bB) (ai (aO E.cT) (ai (ah Dq) aE)))))) (by dsimp only [jI]; exact (⟨Rm, by omega, by omega, hm, hl⟩)) (qE sd)) (t2 := rq (jY s p t m hh cl)) (by unfold jY; rw [if_pos hp]; rfl)) (aF rfl)
 . exact aF (by unfold jY; rw [af1 (by rw [hp]; exact af4)]; rfl)
 rintro δ rfl
 have i1 := @se s p t m hh cl
 have n1 := xD s p t m hh cl
 have q1 := @BZ s p t m hh cl
 have p1 : xB s = true -> 0 < (jY s p t m hh cl).length := fun ha => by unfold jY; rw [agb ha]; exact r9 ..
 refine tH (fun δ => δ = [some (.sh (.lst (s.map .int))), some (.sh (.int (n : Nat))), some (.sh (.int (m : Nat))), some (.sh (.lst (hh.map .str))), some (.sh (.bl cl)), some (.sh (.bl (xB s))), some (.lst ((A7 s m hh cl (3 * p + t)).map rq)), some (.sh (.int (p : Nat))), some (.sh (.int (t : Nat))), some (rq (rm s p t m hh cl)), v7]) (uW (HW (lq (v_ E.sI.1)) (fun _ => Ds (fS (aO E.f9) (ah aj)).1))) (fun hp => ?_) (fun hp => ?_) ?_
 . have zy : (xB s && decide (p = 0)) = true := by
     rw [agk] at hp ⊢
     exact ⟨hp.1, agM (by have := agt hp.2; omega)⟩
   rw [show rm s p t m hh cl = FZ t (jY s p t m hh cl) by unfold rm; rw [agb zy]]
   have An := p1 (agk _ _ ▸ zy).1
   generalize jY s p t m hh cl = R at i1 n1 q1 An ⊢
   have uO : oJ (R.map qD) (-1) = some (qD (R.getD (R.length - 1) kZ)) := by
     rw [UA (by rw [afO]; exact An), af2, afO, af6, afR (by omega)]
     rfl
   have U4 : D.aY (R.getD (R.length - 1) kZ).1 = true := by
     rw [af6, afR (by omega)]
     exact i1 _ (ahh _)
   have e1 : (FZ t R).map qD = (R.map qD).set (R.length - 1) (.tup [.tup (R.getD (R.length - 1) kZ).1, .tup ((R.getD (R.length - 1) kZ).2.map It.d ++ [(FY t).d])]) := by
     unfold FZ
     rw [List.map_set]
     show _ = (R.map qD).set (R.length - 1) _
     congr 1
     show L3.D.tup [_, .tup (((R.getD (R.length - 1) kZ).2 ++ [FY t]).map It.d)] = _
     rw [aga]
     rfl
   have YZ := q1 _ (u5 (l := R) (k := R.length - 1) (z := kZ) (by omega))
   generalize hq : R.getD (R.length - 1) kZ = q at uO U4 e1 YZ
   refine Ik E.bL.1 (aG (ds := [.tup q.1, .tup (q.2.map It.d ++ [(FY t).d])]) (ak (gX (gA (cC (vL E.bL.1) (ah (gY (ah aj))) uO) (ah aj) (aN (j := 0) rfl)) U4) (ak (jE (ds := q.2.map It.d) (nJ := [(FY t).d]) (gX (gA (cC (vL E.bL.1) (ah (gY (ah aj))) uO) (ah aj) (aN (j := 1) rfl)) (di _)) (aB (aG (ak (aG (ak cS (ak cS (ak (aG (ak (gY (ah aj)) (ak (v_ E.dD.1) aI)) (aq rfl)) aI))) (aq rfl)) aI) (aq rfl)) rfl) ?z) aI)) (aq rfl)) (ah (gY (ah aj))) rfl (j := R.length - 1) ?ix (aF ?eq)
   case z => rw [age, afO]; have := YZ.2; show _ + 1 <= _; omega
   case ix => rw [afO, afO]; exact DY An
   case eq =>
     show _ = [_, _, _, _, _, _, _, _, _, some (T.lst (((FZ t R).map qD).map T.sh)), _]
     rw [e1, List.map_set]
     rfl
 . have zy : ¬ (xB s && decide (p = 0)) = true := by
     intro h
     rw [agk] at h
     have : (xB s && decide ((p : Int) = 0)) = true := by rw [agk]; exact ⟨h.1, agM (by have := agt h.2; omega)⟩
     rw [this] at hp
     cases hp
   rw [show rm s p t m hh cl = jY s p t m hh cl by unfold rm; rw [af1 zy]]
   exact aF rfl
 rintro δ rfl
 have i3 := @pD s p t m hh cl
 have n3 := DX s p t m hh cl
 have q3 := @B3 s p t m hh cl
 refine tH (fun δ => ∃ v7, δ = [some (.sh (.lst (s.map .int))), some (.sh (.int (n : Nat))), some (.sh (.int (m : Nat))), some (.sh (.lst (hh.map .str))), some (.sh (.bl cl)), some (.sh (.bl (xB s))), some (.lst ((A7 s m hh cl (3 * p + t)).map rq)), some (.sh (.int (p : Nat))), some (.sh (.int (t : Nat))), some (rq (xC s p t m hh cl)), v7]) (uW (HW (lq (v_ E.sI.1)) (fun _ => Ds (fS (aO E.f9) (ah aj)).1))) (fun hp => ?_) (fun hp => ?_) ?_
 . have zy : (xB s && decide (p = 1)) = true := by
     rw [agk] at hp ⊢
     exact ⟨hp.1, agM (by have := agt hp.2; omega)⟩
   rw [show xC s p t m hh cl = rJ t (rm s p t m hh cl) by unfold xC; rw [agb zy]]
   generalize rm s p t m hh cl = R at i3 n3 q3 ⊢
   refine aR E.g E.yf (aB (aG (ak cS (ak (aG (ak (gY (ah aj)) (ak (v_ E.dD.1) aI)) (aq rfl)) (ak (aG (ak (gY (ah aj)) (ak (v_ E.dD.1) aI)) (aq rfl)) aI))) (aq rfl)) (t2 := .sh (n9 t)) rfl) ?_
   refine jC (QL (ah (cy (afO ..) E.cj (vE E.bL.1 rfl (JC R)) E.cg)) (ah aj)).1 (fun hq => ?_) (fun hq => ?_)
   . have hq : 1 < R.length := by have := agt hq; omega
     have uO : oJ (R.map qD) 0 = some (qD (R.getD 0 kZ)) := qx kZ (by omega) (by omega)
     have U4 : D.aY (R.getD 0 kZ).1 = true := by
       rw [af6, afR (by omega)]
       exact i3 _ (ahh _)
     have e1 : (rJ t R).map qD = (R.map qD).set 0 (.tup [.tup ([n9 t] ++ (R.getD 0 kZ).1), .tup ((R.getD 0 kZ).2.map It.d)]) := by
       unfold rJ
       rw [agb hq, List.map_set]
       rfl
     have YZ := q3 _ (u5 (l := R) (k := 0) (z := kZ) (by omega))
     generalize hq : R.getD 0 kZ = q at uO U4 e1 YZ
     refine Ik E.bL.1 (aG (ds := [.tup ([n9 t] ++ q.1), .tup (q.2.map It.d)]) (ak (jE (ds := [n9 t]) (nJ := q.1) (aB (aG (ds := [n9 t]) (ak (v_ E.yf.1) aI) (aq rfl)) rfl) (gX (gA (cC (vE E.bL.1 rfl (JC R)) (ah aj) uO) (ah aj) (aN (j := 0) rfl)) U4) ?z) (ak (gX (gA (cC (vE E.bL.1 rfl (JC R)) (ah aj) uO) (ah aj) (aN (j := 1) rfl)) (di _)) aI)) (aq rfl)) (ah aj) rfl (j := 0) ?ix (aF (aF ⟨some (.sh (n9 t)), ?eq⟩))
     case z => rw [age]; have := YZ.1; show 1 + _ <= _; omega
     case ix => rw [afO, afO]; exact Io (by omega) (by omega)
     case eq =>
       show _ = [_, _, _, _, _, _, _, _, _, some (T.lst (((rJ t R).map qD).map T.sh)), _]
       rw [e1, List.map_set]
       rfl
   . have hq : ¬ 1 < R.length := by have := agL hq; omega
     have e1 : (rJ t R).map qD = [.tup [.tup [n9 t], .tup []]] ++ R.map qD := by unfold rJ; rw [af1 hq]; rfl
     refine aR E.g E.bL (aB (rV (ds := [.tup [.tup [n9 t], .tup []]]) (nJ := R.map qD) (cD (gE (ds := [.tup [.tup [n9 t], .tup []]]) (ak (aG (ds := [.tup [n9 t], .tup []]) (ak (aG (ds := [n9 t]) (ak (v_ E.yf.1) aI) (aq rfl)) (ak (aG (ds := []) aI (aq rfl)) aI)) (aq rfl)) aI) (aq rfl))) (vE E.bL.1 rfl (JC R)) rfl (tU fun q hq => JA q (i3 q hq)) (by rw [age, afO]; show 1 + _ <= _; omega)) (t2 := rq (rJ t R)) (by unfold rq; rw [e1])) (aF (aF ⟨_, rfl⟩))
 . have zy : ¬ (xB s && decide (p = 1)) = true := by
     intro h
     rw [agk] at h
     have : (xB s && decide ((p : Int) = 1)) = true := by rw [agk]; exact ⟨h.1, agM (by have := agt h.2; omega)⟩
     rw [this] at hp
     cases hp
   rw [show xC s p t m hh cl = rm s p t m hh cl by unfold xC; rw [af1 zy]]
   exact aF ⟨_, rfl⟩
 rintro δ ⟨v7, rfl⟩
 have hlen : ((A7 s m hh cl (3 * p + t)).map rq).length <= 1000000 := by unfold A7; rw [afO, afO, agc]; omega
 refine qY E.fk.1 rfl (vM E.bL.1) rfl hlen (aF ?_)
 rw [show 3 * p + (t + 1) = 3 * p + t + 1 by omega, JB s m hh cl p t ht3]
 exact ⟨_, _, _, rfl⟩
theorem cQ : kU (au sG) ([("script", av), ("bases", av), ("many", av), ("three", av), ("closed", av), ("alike", av), ("faces", av), ("base", av), ("turn", av), ("rows", av), ("never", av), ("_law_mixed", aC), ("_law_cell_at", aC), ("range", aC), ("_law_face", aC), ("len", aC)]) = true := by decide +kernel
theorem Kh : aQ ["script", "bases", "many", "three", "closed", "alike", "faces", "base", "turn", "rows", "never"] ["script", "bases", "many", "three", "closed"] (au sG) := aZ
noncomputable abbrev yg : Stmt := top 23
noncomputable abbrev yh : Type := List Int × List Nat × Nat × Nat × Nat
noncomputable def pK : yh -> List L3.D := fun (s, ks, f, t, r) => [.lst (s.map .int), .lst ((b9 ks).map .int), .int (f : Nat), .int (t : Nat), .int (r : Nat)]
noncomputable def pL : yh -> Prop := fun (s, ks, f, t, r) => s.length <= 1000 /\ f < ks.length /\ ks.length <= 1000 /\ t <= 100 /\ r <= 100
noncomputable def pM : yh -> T := fun (s, ks, f, t, r) => (.sh (.int (F2 s ks f t r : Nat)) : T)
structure U5 (X : Cx) (CL : Str -> Addr) : Prop extends cP X where
 aP : Ln X 0 "script"
 gG : Ln X 1 "kinds"
 O1 : X.env.kindOf "kinds" = some .cell
 bV : Ln X 2 "flat"
 dD : Ln X 3 "turn"
 v8 : Ln X 4 "row"
 ig : Ln X 5 "bases"
 bQ : Ln X 6 "mixed"
 uo : Ln X 7 "wanted"
 Kl : X.env.kindOf "wanted" = some .cell
 aM : Ln X 8 "found"
 kO : Gl X "max"
 aX : Gl X "_law_mixed"
 aL : Gl X "_law_cell_at"
 bR : Gl X "range"
 cg : Gl X "len"
 fJ : Gl X "list"
 kP : X.mg "max" = none
 dN : Fc X CL "_law_mixed" 1 2 eN eO eS
 bE : Fc X CL "_law_cell_at" 1 2 cX cY cZ
 bS : X.mg "range" = none
 cj : X.mg "len" = none
 fK : X.mg "list" = none
theorem U6 {X : Cx} {CL : Str -> Addr} {b : Bx} (E : U5 X CL) {cA : yh} (h : pL cA) :
   aD X CL b yg ["script", "kinds", "flat", "turn", "row", "bases", "mixed", "wanted", "found"] (pK cA) (pM cA) := by
 obtain ⟨s, ks, f, t, r⟩ := cA
 dsimp only [aD, pL, pK, pM] at h ⊢
 obtain ⟨Rm, hf, hk, ht, hr⟩ := h
 have WH : ks ≠ [] := fun z => by subst z; cases hf
 obtain ⟨m1, m2⟩ := UB WH
 have uO := lJ hf
 have lk : ((b9 ks).map L3.D.int).length = ks.length := by unfold b9; rw [afO, afO]
 refine aR E.g E.ig (bz (ah (rY E.g E.kP (aO E.gG) m1 m2 E.kO)) (ah aj)) ?_
 have j0 : (0 : Int) <= ((ks.getD f 0 : Nat) : Int) + (t : Int) + (r : Int) := by omega
 have nb : 0 < ((kX ks : Nat) : Int) + 1 := by omega
 refine aR E.g E.bQ (c_ ((aW s (((ks.getD f 0 : Nat) : Int) + (t : Int) + (r : Int)), 53)) E.dN E.aX (ai (ah (c_ ((s, ((ks.getD f 0 : Nat) : Int) + (t : Int) + (r : Int))) E.bE E.aL (ai (aO E.aP) (ai (ah (bz (ah (bz (cC (aO E.gG) (aO E.bV) (uO)) (aO E.dD))) (aO E.v8))) aE)) (j0) rfl)) (ai (ah aj) aE)) (trivial) rfl) ?_
 refine aR E.g E.uo (bq (aO E.bQ) (aO E.ig) (nb)) ?_
 refine tH (fun δ => δ = [some (.sh (.lst (s.map .int))), some (.sh (.lst ((b9 ks).map .int))), some (.sh (.int (f : Nat))), some (.sh (.int (t : Nat))), some (.sh (.int (r : Nat))), some (.sh (.int (((kX ks : Nat) : Int) + 1))), some (.sh (.int (nY (aW s (((ks.getD f 0 : Nat) : Int) + (t : Int) + (r : Int))) 53))), some (.sh (.int (Rf s ks f t r))), none]) (fS (ah (bq (ah (c_ ((aW s 0, 47)) E.dN E.aX (ai (ah (c_ ((s, 0)) E.bE E.aL (ai (aO E.aP) (ai (ah aj) aE)) (show (0 : Int) <= 0 by omega) rfl)) (ai (ah aj) aE)) (trivial) rfl)) (ah aj) (by decide))) (ah aj)).1 (fun hp => ?_) (fun hp => ?_) ?_
 . have t0 := ags ((t : Int) + (r : Int)) (b := 3) (by decide)
   have t1 := agu ((t : Int) + (r : Int)) (b := 3) (by decide)
   refine aR E.g E.uo (aB (bq (ah (bz (ah (fu (v_ E.gG.1) (aO E.bV) uO)) (cC (cD (gE (xo (l := [1, 0, 2]) rfl) (aq rfl))) (ah (bq (ah (bz (aO E.dD) (aO E.v8))) (ah aj) (by decide))) (qx (0 : Int) (l := [1, 0, 2]) t0 (by show _ < (3 : Int); exact t1))))) (aO E.ig) nb) (t2 := .sh (.int (Rf s ks f t r))) ?_) (aF rfl)
   unfold Rf
   rw [agb (show xB s = true from hp)]
 . refine aF ?_
   unfold Rf
   rw [af1 (by rw [show xB s = false from hp]; exact af4)]
   rfl
 rintro δ rfl
 unfold F2
 generalize Rf s ks f t r = w
 have ef : (((b7 0 (ks.length : Int).toNat).filter fun d => decide (((ks.getD d.zA.toNat 0 : Nat) : Int) = w)).map fun d => T.sh (.int d.zA)) = ((b9 (Mg ks w)).map L3.D.int).map T.sh := by
   unfold Mg b9 b7
   rw [agp, ah5, agh, agh, agh]
   have e1 : ((fun d : L3.D => decide (((ks.getD d.zA.toNat 0 : Nat) : Int) = w)) ∘ fun (k : Nat) => L3.D.int (0 + (k : Int))) = fun (k : Nat) => decide (((ks.getD k 0 : Nat) : Int) = w) := by
     funext k
     show decide (((ks.getD (0 + (k : Int)).toNat 0 : Nat) : Int) = w) = _
     rw [agK, agp]
   rw [e1]
   exact agT fun k _ => by show T.sh (.int (0 + (k : Int))) = _; rw [agK]; rfl
 refine lD (p := fun d => decide (((ks.getD d.zA.toNat 0 : Nat) : Int) = w)) (gg := fun d => T.sh (.int d.zA)) E.g E.aM (bw (.cons E.gG.1 (.inl E.O1) (.cons E.uo.1 (.inl E.Kl) .nil)) (by decide +kernel)) (cI E.bS (ah (cy lk E.cj (aO E.gG) E.cg)) (by omega) E.bR) (.inr rfl) (fun C s0 H0 f0 b' d hd => ?uq) (by simp [b7, age]; omega) ?rest (by exact afV rfl) (gO ⟨_, rfl⟩)
 case uq =>
   obtain ⟨a, ha, rfl⟩ := f6 hd
   have ha : a < ks.length := by omega
   exact ⟨(fS (cC (ah (v_ (cJ (i := 1) rfl (by decide +kernel)))) (ah (v_ (ck (i := 0) rfl (by decide +kernel)))) (lJ ha)) (ah (v_ (cJ (i := 2) rfl (by decide +kernel))))).1, fun _ => aB (v_ (ck (i := 0) rfl (by decide +kernel))) rfl⟩
 case rest =>
 rw [ef]
 have lf : (b9 (Mg ks w)).length <= 1000 := by unfold b9 Mg; rw [afO]; refine agH (List.length_filter_le _ _) ?_; rw [agc]; exact hk
 refine tH (fun δ => δ = [some (.sh (.lst (s.map .int))), some (.sh (.lst ((b9 ks).map .int))), some (.sh (.int (f : Nat))), some (.sh (.int (t : Nat))), some (.sh (.int (r : Nat))), some (.sh (.int (((kX ks : Nat) : Int) + 1))), some (.sh (.int (nY (aW s (((ks.getD f 0 : Nat) : Int) + (t : Int) + (r : Int))) 53))), some (.sh (.int w)), some (.lst (((b9 (F0 ks w)).map .int).map T.sh))]) (By E.u (d1 := .lst ((b9 (Mg ks w)).map .int)) (d2 := .lst (([] : List Int).map .int)) (vL E.aM.1) (cD (iK dP (agr _))) (.lst fun d hd => by obtain ⟨i, _, rfl⟩ := afZ.mp hd; exact .int 59 i) (.lst fun d hd => by cases hd)).1 (fun hp => ?_) (fun hp => ?_) ?_
 . rw [Ad] at hp
   have hp : b9 (Mg ks w) = [] := agt hp
   have hp : Mg ks w = [] := by unfold b9 at hp; exact List.map_eq_nil_iff.mp hp
   refine aR E.g E.aM (aB (IJ E.g E.fK E.bS (ah (cy lk E.cj (aO E.gG) E.cg)) hk E.fJ E.bR) (t2 := .lst (((b9 (F0 ks w)).map .int).map T.sh)) (by unfold F0; rw [agb hp]; rfl)) (aF rfl)
 . rw [Ad] at hp
   have hp : ¬ b9 (Mg ks w) = [] := agL hp
   refine aF ?_
   unfold F0
   rw [af1 fun z => hp (by rw [z]; rfl)]
   rfl
 rintro δ rfl
 have An := D0 ks w (by omega)
 have hl7 : ((b9 (F0 ks w)).map L3.D.int).length = (F0 ks w).length := by unfold b9; rw [afO, afO]
 generalize F0 ks w = F at An hl7 ⊢
 obtain ⟨z0, z1⟩ := D3 (x := nY (aW s (f : Nat)) (59 + (t : Int) * 5 + (r : Int))) An
 have hx := lJ z1
 rw [ahH z0] at hx
 have f0 : (0 : Int) <= (f : Int) := by omega
 exact bX (gX (cC (vL E.aM.1) (ah (bq (ah (c_ ((aW s (f : Nat), 59 + (t : Int) * 5 + (r : Int))) E.dN E.aX (ai (ah (c_ ((s, (f : Int))) E.bE E.aL (ai (aO E.aP) (ai (aO E.bV) aE)) (f0) rfl)) (ai (ah (bz (ah (bz (ah aj) (ah (jk (aO E.dD) (ah aj) (.inr ⟨by decide, by decide⟩))))) (aO E.v8))) aE)) (trivial) rfl)) (ah (cy hl7 E.cj (vL E.aM.1) E.cg)) (by omega))) hx) rfl) rfl
theorem dO : kU (au yg) ([("script", av), ("kinds", .cell), ("flat", av), ("turn", av), ("row", av), ("bases", av), ("mixed", av), ("wanted", .cell), ("found", av), ("max", aC), ("_law_mixed", aC), ("_law_cell_at", aC), ("range", aC), ("len", aC), ("list", aC)]) = true := by decide +kernel
theorem O2 : aQ ["script", "kinds", "flat", "turn", "row", "bases", "mixed", "wanted", "found"] ["script", "kinds", "flat", "turn", "row"] (au yg) := aZ
noncomputable abbrev pN : Stmt := top 24
noncomputable abbrev pO : Type := List It × Nat × Nat × Nat
noncomputable def j5 : pO -> List L3.D := fun (l, f, n, to) => [.tup (l.map It.d), .int (f : Nat), .int (n : Nat), .int (to : Nat)]
noncomputable def j6 : pO -> Prop := fun (l, f, n, to) => l.length <= 1000
noncomputable def j7 : pO -> T := fun (l, f, n, to) => (.sh (.tup ((G4 l f n to).map It.d)) : T)
structure Km (X : Cx) (CL : Str -> Addr) : Prop extends cP X where
 gf : Ln X 0 "deeds"
 bV : Ln X 1 "flat"
 ez : Ln X 2 "number"
 Kn : Ln X 3 "to"
 Ep : Ln X 4 "ahead"
theorem Ko {X : Cx} {CL : Str -> Addr} {b : Bx} (E : Km X CL) {cA : pO} (h : j6 cA) :
   aD X CL b pN ["deeds", "flat", "number", "to", "ahead"] (j5 cA) (j7 cA) := by
 obtain ⟨l, f, n, to⟩ := cA
 dsimp only [aD, j6, j5, j7] at h ⊢
 have hl : l.length <= 1000 := h
 show dw X CL b _ _ { nx := _, rt := fun uZ _ => uZ = T.sh (.tup ((G4 l f n to).map It.d)), bk := _, ct := _ }
 refine jC (fS (ah (bq (aO E.bV) (ah aj) (by decide))) (ah aj)).1 (fun hp => ?_) (fun hp => aF ?_)
 . have hp : f % 3 = 0 := by have := agt hp; omega
   unfold G4
   rw [agb hp]
   exact bX (v_ E.gf.1) rfl
 . have hp : ¬ f % 3 = 0 := by have := agL hp; omega
   unfold G4
   rw [af1 hp]
   have c1 : cutD (l.map It.d) none (some 1) = (l.take 1).map It.d := by rw [n6 (z := 1) (k := 1) rfl, ahB]
   have c2 : cutD (l.map It.d) (some 1) none = (l.drop 1).map It.d := by rw [pC (z := 1) (k := 1) rfl, List.map_drop]
   have n1 : ((l.take 1).map It.d).length <= 1 := by rw [afO, agv]; omega
   have n2 : ((l.drop 1).map It.d).length <= 1000 := by rw [afO, aht]; omega
   refine aR E.g E.Ep (jE (ds := [(It.out ((f : Int) + 1)).d, (It.keep 0 (-1) ((f : Int) + 1)).d]) (nJ := (l.take 1).map It.d) (aB (aG (ak (aG (ak cS (ak (bz (aO E.bV) (ah aj)) aI)) (aq rfl)) (ak (aG (ak cS (ak aj (ak (gY (ah aj)) (ak (bz (aO E.bV) (ah aj)) aI)))) (aq rfl)) aI)) (aq rfl)) rfl) (c1 ▸ tR (v_ E.gf.1) iV (iW (ah aj))) (by rw [age]; show 2 + _ <= _; omega)) ?_
   refine bX (aB (jE (nJ := [(It.uY ((to : Int) + 1)).d]) (jE (nJ := (l.drop 1).map It.d) (jE (nJ := [(It.way (n : Nat)).d]) (v_ E.Ep.1) (aB (aG (ak (aG (ak cS (ak (v_ E.ez.1) aI)) (aq rfl)) aI) (aq rfl)) rfl) ?z1) (c2 ▸ tR (v_ E.gf.1) (iW (ah aj)) iV) ?z2) (aB (aG (ak (aG (ak cS (ak (bz (aO E.Kn) (ah aj)) aI)) (aq rfl)) aI) (aq rfl)) rfl) ?z3) ?e) rfl
   case z1 => rw [age, afY]; show 2 + _ + 1 <= _; omega
   case z2 => rw [age, afY, afY]; show 2 + _ + 1 + _ <= _; omega
   case z3 => rw [age, afY, afY, afY]; show 2 + _ + 1 + _ + 1 <= _; omega
   case e => simp only [aga]; rfl
theorem jJ : kU (au pN) ([("deeds", av), ("flat", av), ("number", av), ("to", av), ("ahead", av)]) = true := by decide +kernel
theorem Ga : aQ ["deeds", "flat", "number", "to", "ahead"] ["deeds", "flat", "number", "to"] (au pN) := aZ
noncomputable abbrev yi : Stmt := top 25
noncomputable abbrev yj : Type := List Int × Nat × Nat
noncomputable def pP : yj -> List L3.D := fun (s, a, m) => [.lst (s.map .int), .int (a : Nat), .int (m : Nat)]
noncomputable def lW : yj -> Prop := fun (s, a, m) => m <= 1000 /\ a <= 1000
noncomputable def pQ : yj -> T := fun (s, a, m) => (.sh (JG s a m) : T)
structure U7 (X : Cx) (CL : Str -> Addr) : Prop extends cP X where
 aP : Ln X 0 "script"
 qH : Ln X 1 "at"
 bB : Ln X 2 "many"
 pR : Ln X 3 "memory"
 aX : Gl X "_law_mixed"
 aL : Gl X "_law_cell_at"
 cU : Gl X "tuple"
 dN : Fc X CL "_law_mixed" 1 2 eN eO eS
 bE : Fc X CL "_law_cell_at" 1 2 cX cY cZ
 cB : X.mg "tuple" = none
theorem U8 {X : Cx} {CL : Str -> Addr} {b : Bx} (E : U7 X CL) {cA : yj} (h : lW cA) :
   aD X CL b yi ["script", "at", "many", "memory"] (pP cA) (pQ cA) := by
 obtain ⟨s, a, m⟩ := cA
 dsimp only [aD, lW, pP, pQ] at h ⊢
 obtain ⟨hm, ha⟩ := h
 refine tH (fun δ => δ = [some (.sh (.lst (s.map .int))), some (.sh (.int (N5 s a : Nat))), some (.sh (.int (m : Nat))), none]) (fS (ah (bq (ah (c_ ((aW s 0, 71)) E.dN E.aX (ai (ah (c_ ((s, 0)) E.bE E.aL (ai (aO E.aP) (ai (ah aj) aE)) (show (0 : Int) <= 0 by omega) rfl)) (ai (ah aj) aE)) (trivial) rfl)) (ah aj) (by decide))) (ah aj)).1 (fun hp => ?_) (fun hp => ?_) ?_
 . have hp : nY (aW s 0) 71 % 4 = 0 := agt hp
   exact aR E.g E.qH (aB (bq (aO E.qH) (ah aj) (by decide)) (t2 := .sh (.int (N5 s a : Nat))) (by unfold N5; rw [agb hp]; rfl)) (aF rfl)
 . have hp : ¬ nY (aW s 0) 71 % 4 = 0 := agL hp
   exact aF (by unfold N5; rw [af1 hp]; rfl)
 rintro δ rfl
 unfold JG mm7
 generalize N5 s a = q
 refine aR E.g E.pR (aB (DC (ds := [.int (-1)]) (k := (m : Int) + 1) (cD (gE (ak (gY (ah aj)) aI) (aq rfl))) (ah (bz (aO E.bB) (ah aj))) rfl (by omega) (by omega) (by rw [age]; show 1 * _ <= _; omega)) (t2 := .lst ((List.replicate (m + 1) (L3.D.int (-1))).map T.sh)) ?r) ?_
 case r =>
   rw [show ((m : Int) + 1).toNat = m + 1 by omega]
   refine congrArg (fun z => T.lst (List.map T.sh z)) ?_
   generalize m + 1 = k
   induction k with
   | zero => rfl
   | succ k ih => rw [agO, aha, ih]; rfl
 have q0 : (0 : Int) <= (q : Int) := by omega
 have nb : 0 < ((m : Int) + 1) := by omega
 refine Ik E.pR.1 (wW (ah (bq (ah (c_ ((aW s (q : Nat), 73)) E.dN E.aX (ai (ah (c_ ((s, (q : Int))) E.bE E.aL (ai (aO E.aP) (ai (aO E.qH) aE)) (q0) rfl)) (ai (ah aj) aE)) (trivial) rfl)) (ah (bz (aO E.bB) (ah aj))) (nb))) (ah aj)) (ah aj) rfl (j := 0) (by rw [afO, agx]; exact Io (by omega) (by omega)) ?_
 have em : ((List.replicate (m + 1) (L3.D.int (-1))).map T.sh).set 0 (.sh (.int (nY (aW s (q : Nat)) 73 % ((m : Int) + 1) - 1))) = (L3.D.int (nY (aW s (q : Nat)) 73 % ((m : Int) + 1) - 1) :: List.replicate m (.int (-1))).map T.sh := by rw [agO]; rfl
 have im : D.aY (L3.D.int (nY (aW s (q : Nat)) 73 % ((m : Int) + 1) - 1) :: List.replicate m (.int (-1))) = true := by
   refine jS fun d hd => ?_
   rcases afX.mp hd with rfl | hd
   . rfl
   . rw [ahE hd]; rfl
 show dw X CL b _ [some (.sh (.lst (s.map .int))), some (.sh (.int (q : Nat))), some (.sh (.int (m : Nat))), some (.lst (((List.replicate (m + 1) (L3.D.int (-1))).map T.sh).set 0 (.sh (.int (nY (aW s (q : Nat)) 73 % ((m : Int) + 1) - 1)))))] _
 rw [em]
 refine jC (fS (ah (bq (aO E.qH) (ah aj) (by decide))) (ah aj)).1 (fun hp => ?_) (fun hp => aF ?_)
 . have hp : q % 3 = 1 := by have := agt hp; omega
   rw [agb hp]
   exact bX (aG (ds := [.tup [.int 0, .int ((q : Int) + 1), .int ((m : Int) + 1)], .tup (L3.D.int (nY (aW s (q : Nat)) 73 % ((m : Int) + 1) - 1) :: List.replicate m (.int (-1)))]) (ak (aB (aG (ak aj (ak (bz (aO E.qH) (ah aj)) (ak (bz (aO E.bB) (ah aj)) aI))) (aq rfl)) rfl) (ak (c5 E.cB (vL E.pR.1) im E.cU) aI)) (aq rfl)) rfl
 . have hp : ¬ q % 3 = 1 := by have := agL hp; omega
   rw [af1 hp]
   exact bX (aG (ds := [.tup [.int 0, .int ((q : Int) + 1)], .tup (L3.D.int (nY (aW s (q : Nat)) 73 % ((m : Int) + 1) - 1) :: List.replicate m (.int (-1)))]) (ak (aB (aG (ak aj (ak (bz (aO E.qH) (ah aj)) aI)) (aq rfl)) rfl) (ak (c5 E.cB (vL E.pR.1) im E.cU) aI)) (aq rfl)) rfl
theorem j8 : kU (au yi) ([("script", av), ("at", av), ("many", av), ("memory", av), ("_law_mixed", aC), ("_law_cell_at", aC), ("tuple", aC)]) = true := by decide +kernel
theorem O4 : aQ ["script", "at", "many", "memory"] ["script", "at", "many"] (au yi) := aZ
noncomputable abbrev sJ : Stmt := top 26
noncomputable abbrev sL : Type := List Int × Nat × Bool
noncomputable def mS : sL -> List L3.D := fun (s, q, cl) => [.lst (s.map .int), .int (q : Nat), .bl cl]
noncomputable def mU : sL -> Prop := fun (s, q, cl) => s.length <= 1000 /\ q <= 100
noncomputable def mV : sL -> T := fun (s, q, cl) => (N9 (uN s) (iG s) (UE s) (Rh s q) (F3 s q cl) : T)
structure O5 (X : Cx) (CL : Str -> Addr) : Prop extends cP X where
 aP : Ln X 0 "script"
 ur : X.env.kindOf "script" = some .cell
 qI : Ln X 1 "most"
 lU : Ln X 2 "closed"
 bB : Ln X 3 "many"
 yd : X.env.kindOf "many" = some .cell
 cT : Ln X 4 "three"
 mW : Ln X 5 "boxes"
 ig : Ln X 6 "bases"
 O6 : X.env.kindOf "bases" = some .cell
 gG : Ln X 7 "kinds"
 fk : Ln X 8 "faces"
 bL : Ln X 9 "rows"
 bV : Ln X 10 "flat"
 dD : Ln X 11 "turn"
 iZ : Ln X 12 "steps"
 uh : Ln X 13 "asks"
 gf : Ln X 14 "deeds"
 Kn : Ln X 15 "to"
 sM : Ln X 16 "flats"
 sN : Ln X 17 "begin"
 kO : Gl X "max"
 Y0 : Gl X "min"
 cg : Gl X "len"
 yk : Gl X "_law_signs"
 bR : Gl X "range"
 aX : Gl X "_law_mixed"
 aL : Gl X "_law_cell_at"
 ym : Gl X "_law_faces"
 AW : Gl X "_law_next"
 u9 : Gl X "_law_marked"
 lV : Gl X "_law_deed"
 kP : X.mg "max" = none
 Y3 : X.mg "min" = none
 cj : X.mg "len" = none
 O7 : Fc X CL "_law_signs" 2 1 mK mL mO
 bS : X.mg "range" = none
 dN : Fc X CL "_law_mixed" 1 2 eN eO eS
 bE : Fc X CL "_law_cell_at" 1 2 cX cY cZ
 O8 : Fc X CL "_law_faces" 5 5 mP mQ mR
 U9 : Fc X CL "_law_next" 2 5 pK pL pM
 Kp : Fc X CL "_law_marked" 1 4 j5 j6 j7
 ye : Fc X CL "_law_deed" 3 3 lS iO lT
 Y4 : X.mg "str" = none
 xZ : Fc X CL "_law_small" 1 1 jF jG jH
 Va : Fc X CL "_law_flat" 2 3 pP lW pQ
theorem O9 {X : Cx} {CL : Str -> Addr} {b : Bx} (E : O5 X CL) {cA : sL} (h : mU cA) :
   aD X CL b sJ ["script", "most", "closed", "many", "three", "boxes", "bases", "kinds", "faces", "rows", "flat", "turn", "steps", "asks", "deeds", "to", "flats", "begin"] (mS cA) (mV cA) := by
 obtain ⟨s, q, cl⟩ := cA
 dsimp only [aD, mU, mS, mV] at h ⊢
 obtain ⟨Rm, hq⟩ := h
 have hn1 : 1 <= n7 s q := by unfold n7; omega
 have QB : n7 s q <= 100 := by unfold n7; omega
 obtain ⟨b1, b2, b3⟩ := JN s
 have QS := JH s
 have hsl := xG s
 have ml : s.length % 4 < 4 := Nat.mod_lt _ (by decide)
 refine aR E.g E.bB (aB (xh E.g E.kP E.kO (ai (ah aj) (ai (ah (M5 E.g E.Y3 E.Y0 (ai (ah (cy (afO ..) E.cj (aO E.aP) E.cg)) (ai (aO E.qI) aE)))) aE))) (t2 := .sh (.int (n7 s q : Nat))) ?n) ?_
 case n =>
   refine congrArg (fun z => T.sh (.int z)) ?_
   unfold n7
   repeat' split
   all_goals omega
 refine aR E.g E.cT (aB (c_ (s) E.O7 E.yk (ai (aO E.aP) aE) (Rm) ((bF (dX _)))) (t2 := .lst (((iG s).map .str).map T.sh)) rfl) ?_
 refine lD (p := fun _ => true) (gg := fun d => T.sh (dR (Rg d.zA.toNat, fZ (aW s (d.zA + 2))))) E.g E.mW (bw (.cons E.aP.1 (.inl E.ur) .nil) (by decide +kernel)) (cI E.bS (ah (bq (ah (cy (afO ..) E.cj (aO E.aP) E.cg)) (ah aj) (by decide))) (by omega) E.bR) (.inr rfl) (fun C s0 H0 f0 b' d hd => ?U3) (by simp [b7, age]; omega) ?Ke (by exact afV rfl) (gO ⟨_, rfl⟩)
 case U3 =>
   obtain ⟨a, ha, rfl⟩ := f6 hd
   have ha : a < 4 := by omega
   obtain ⟨⟨q1, q2⟩, q3, q4⟩ := D5 a ha
   have a0 : (0 : Int) <= (a : Int) + 2 := by omega
   refine ⟨rfl, fun _ => aB (aG (ds := [.str (Rg a), .int (fZ (aW s ((a : Int) + 2)))]) (ak (aB (nT (ah cS) (ah (M6 E.Y4 (dh (by decide +kernel)) (ah (v_ (ck (i := 0) rfl (by decide +kernel)))) (q4))) ((by rw [age, q3]; show 3 + 1 <= _; omega))) rfl) (ak (c_ (aW s ((a : Int) + 2)) (fh E.xZ) (dh (by decide +kernel)) (ai (ah (c_ ((s, (a : Int) + 2)) (fh E.bE) (dh (by decide +kernel)) (ai (ah (v_ (cJ (i := 1) rfl (by decide +kernel)))) (ai (ah (bz (ah (v_ (ck (i := 0) rfl (by decide +kernel)))) (ah aj))) aE)) (a0) rfl)) aE) (trivial) rfl) aI)) (aq rfl)) rfl⟩
 case Ke =>
 have eB : ((b7 0 ((s.length : Int) % 4).toNat).filter fun _ => true).map (fun d => T.sh (dR (Rg d.zA.toNat, fZ (aW s (d.zA + 2))))) = ((uN s).map dR).map T.sh := by
   rw [fM (f := fun (k : Nat) => dR (Rg k, fZ (aW s ((k : Int) + 2)))) _ (fun k => by show T.sh (dR (Rg (0 + (k : Int)).toNat, fZ (aW s ((0 + (k : Int)) + 2)))) = _; rw [agK, agp])]
   unfold uN
   rw [show ((s.length : Int) % 4).toNat = s.length % 4 by omega]
   simp only [agh]
   rfl
 rw [eB]
 refine aR E.g E.ig (aB (bz (ah aj) (ah (bq (ah (c_ ((aW s 0, 43)) E.dN E.aX (ai (ah (c_ ((s, 0)) E.bE E.aL (ai (aO E.aP) (ai (ah aj) aE)) (show (0 : Int) <= 0 by omega) rfl)) (ai (ah aj) aE)) (trivial) rfl)) (ah aj) (by decide)))) (t2 := .sh (.int (u6 s : Nat))) (by rw [b3])) ?_
 have bp : 0 < ((u6 s : Nat) : Int) := by omega
 refine lD (p := fun _ => true) (gg := fun d => T.sh (.int (nY (aW s d.zA) 61 % ((u6 s : Nat) : Int)))) E.g E.gG (bw (.cons E.ig.1 (.inl E.O6) (.cons E.aP.1 (.inl E.ur) .nil)) (by decide +kernel)) (cI E.bS (aO E.bB) (by omega) E.bR) (.inr rfl) (fun C s0 H0 f0 b' d hd => ?Cg) (by simp [b7, age]; omega) ?Kf (by exact afV rfl) (gO ⟨_, rfl⟩)
 case Cg =>
   obtain ⟨a, ha, rfl⟩ := f6 hd
   have a0 : (0 : Int) <= (a : Int) := by omega
   exact ⟨rfl, fun _ => (bq (ah (c_ ((aW s (a : Int), 61)) (fh E.dN) (dh (by decide +kernel)) (ai (ah (c_ ((s, (a : Int))) (fh E.bE) (dh (by decide +kernel)) (ai (ah (v_ (cJ (i := 2) rfl (by decide +kernel)))) (ai (ah (v_ (ck (i := 0) rfl (by decide +kernel)))) aE)) (a0) rfl)) (ai (ah aj) aE)) (trivial) rfl)) (ah (v_ (cJ (i := 1) rfl (by decide +kernel)))) (bp))⟩
 case Kf =>
 have eK : ((b7 0 ((n7 s q : Nat) : Int).toNat).filter fun _ => true).map (fun d => T.sh (.int (nY (aW s d.zA) 61 % ((u6 s : Nat) : Int)))) = ((b9 (qm s q)).map L3.D.int).map T.sh := by
   rw [fM (f := fun (k : Nat) => .int (nY (aW s (k : Nat)) 61 % ((u6 s : Nat) : Int))) _ (fun k => by rw [show (L3.D.int (0 + (k : Int))).zA = (k : Int) from agK _])]
   unfold b9 qm
   rw [agh, agh, agh, agh, agp]
   refine agT fun k _ => ?_
   show T.sh (.int _) = T.sh (.int (((nY (aW s (k : Nat)) 61 % ((u6 s : Nat) : Int)).toNat : Nat) : Int))
   rw [ahH (ags _ (by omega))]
 rw [eK]
 have bl := N8 s
 refine aR E.g E.fk (rW (d := .lst (Ob (Az s cl))) (aB (c_ (s, u6 s, (uN s).length, iG s, cl) E.O8 E.ym (ai (aO E.aP) (ai (aO E.ig) (ai (ah (cy (afO ..) E.cj (vL E.mW.1) E.cg)) (ai (vL E.cT.1) (ai (aO E.lU) aE))))) ⟨Rm, by omega, by omega, by omega⟩ ?cl) (t2 := .lst ((Az s cl).map rq)) rfl) (Oc _)) ?_
 case cl =>
   show (T.lst ((A7 s (uN s).length (iG s) cl (3 * u6 s)).map rq)).clean = true
   rw [T.clean]
   refine xH fun t ht => ?_
   obtain ⟨r, hr, rfl⟩ := afZ.mp ht
   unfold A7 at hr
   obtain ⟨i, _, rfl⟩ := afZ.mp hr
   exact qE xF
 refine aR E.g E.bL (aB tP (t2 := .dct (aT (d7 (vX s (qm s q) (iG s) (Az s cl) 0)))) rfl) ?_
 have Ak := D6 s q
 have hkt := JQ s q
 show dw X CL b _ _ { nx := _, rt := fun uZ _ => uZ = N9 (uN s) (iG s) (UE s) (Rh s q) (F3 s q cl), bk := _, ct := _ }
 have eR : F3 s q cl = vX s (qm s q) (iG s) (Az s cl) (n7 s q * (iG s).length) := rfl
 rw [eR]
 have eP : Rh s q = (List.range (n7 s q)).map fun (k : Nat) => JG s k (n7 s q) := rfl
 have eG : UE s = [.uY 0, .uY 1, .fO (rG (aW s 1) (uN s).length (iG s))] := rfl
 have hFF := @JR s cl
 have hF2 : ∀ k : Nat, k < 3 * u6 s -> ∀ r ∈ (Az s cl).getD k [], D.aY r.1 = true /\ N4 4 r := fun k hk r hr => by
   rw [af6, hFF hk] at hr
   exact ⟨xF r hr, JF r hr⟩
 have hF3 : ∀ k : Nat, k < 3 * u6 s -> ((Az s cl).getD k []).length <= 5 /\ (Az s cl)[k]? = some ((Az s cl).getD k []) := fun k hk => by
   rw [af6, hFF hk]
   exact ⟨xE .., rfl⟩
 rw [eP, eG]
 clear eP eG eR hFF
 generalize Az s cl = FF at hF2 hF3 ⊢
 generalize qm s q = ks at Ak hkt ⊢
 generalize iG s = hs at QS hsl ⊢
 generalize uN s = bs at bl ⊢
 generalize n7 s q = n at hn1 QB Ak ⊢
 generalize u6 s = bn at b1 b2 hkt hF2 hF3 ⊢
 refine g7 E.g E.bV (fun j δ => ∃ (v7 Kd Vb G5 G6 Gb : Option T), δ = [some (.sh (.lst (s.map .int))), some (.sh (.int (q : Nat))), some (.sh (.bl cl)), some (.sh (.int (n : Nat))), some (.lst ((hs.map .str).map T.sh)), some (.lst ((bs.map dR).map T.sh)), some (.sh (.int (bn : Nat))), some (.lst (((b9 ks).map .int).map T.sh)), some (.sh (.lst (Ob FF))), some (.dct (aT (d7 (vX s ks hs FF (j * hs.length))))), v7, Kd, Vb, G5, G6, Gb, none, none]) (cI E.bS (aO E.bB) (by omega) E.bR) ⟨_, _, _, _, _, _, by rw [Nat.zero_mul]; rfl⟩ (fun j δ ⟨_, _, _, _, _, _, e⟩ => by subst e; exact afV rfl) ?turn ?fin
 case turn =>
   rintro j d δ hj ⟨v7, Kd, Vb, G5, G6, Gb, rfl⟩
   obtain ⟨rfl, DE⟩ := gP hj
   rw [agK]
   have Rn : j < n := by omega
   refine g7 E.g E.dD (fun t δ => ∃ (Kd Vb G5 G6 Gb : Option T), δ = [some (.sh (.lst (s.map .int))), some (.sh (.int (q : Nat))), some (.sh (.bl cl)), some (.sh (.int (n : Nat))), some (.lst ((hs.map .str).map T.sh)), some (.lst ((bs.map dR).map T.sh)), some (.sh (.int (bn : Nat))), some (.lst (((b9 ks).map .int).map T.sh)), some (.sh (.lst (Ob FF))), some (.dct (aT (d7 (vX s ks hs FF (j * hs.length + t))))), some (.sh (.int (j : Nat))), Kd, Vb, G5, G6, Gb, none, none]) (cI E.bS (ah (cy (afO ..) E.cj (vL E.cT.1) E.cg)) (by omega) E.bR) ⟨_, _, _, _, _, rfl⟩ (fun j δ ⟨_, _, _, _, _, e⟩ => by subst e; exact afV rfl) ?um ?fin2
   case fin2 =>
     rintro δ ⟨Kd, Vb, G5, G6, Gb, rfl⟩
     rw [show (b7 0 ((hs.length : Nat) : Int).toNat).length = hs.length by simp [b7]]
     rw [show j * hs.length + hs.length = (j + 1) * hs.length by rw [Nat.add_mul, Nat.one_mul]]
     exact aF ⟨_, _, _, _, _, _, rfl⟩
   case um =>
   rintro t d δ hj ⟨Kd, Vb, G5, G6, Gb, rfl⟩
   obtain ⟨rfl, htl⟩ := gP hj
   rw [agK]
   have htn : t < hs.length := by omega
   have hkj : ks.getD j 0 < bn := hkt _ (u5 (by omega))
   have WR : ks.getD j 0 * 3 + t < 3 * bn := by omega
   obtain ⟨f5, fat⟩ := hF3 _ WR
   have fim := hF2 _ WR
   have uO := lJ (ks := ks) (f := j) (by omega)
   obtain ⟨F, hF⟩ : ∃ F, F = FF.getD (ks.getD j 0 * 3 + t) [] := ⟨_, rfl⟩
   rw [← hF] at f5 fat fim
   have acd : oJ (Ob FF) (((ks.getD j 0 : Nat) : Int) * 3 + (t : Int)) = some (.lst (F.map qD)) := by
     rw [show ((ks.getD j 0 : Nat) : Int) * 3 + (t : Int) = ((ks.getD j 0 * 3 + t : Nat) : Int) by omega]
     refine aN ?_
     unfold Ob
     rw [af2, fat]
     rfl
   refine aR E.g E.iZ (iK dP (agr _)) ?_
   refine TX E.g (M8 E.g.nd E.g.calm E.uh E.gf) (fun i δ => ∃ (G5 G6 Gb : Option T), δ = [some (.sh (.lst (s.map .int))), some (.sh (.int (q : Nat))), some (.sh (.bl cl)), some (.sh (.int (n : Nat))), some (.lst ((hs.map .str).map T.sh)), some (.lst ((bs.map dR).map T.sh)), some (.sh (.int (bn : Nat))), some (.lst (((b9 ks).map .int).map T.sh)), some (.sh (.lst (Ob FF))), some (.dct (aT (d7 (vX s ks hs FF (j * hs.length + t))))), some (.sh (.int (j : Nat))), some (.sh (.int (t : Nat))), some (.lst (((JK s ks j t F i).map gV).map T.sh)), G5, G6, Gb, none, none]) (Ir (e9 (fu (v_ E.fk.1) (ah (bz (ah (jk (cC (vL E.gG.1) (aO E.bV) uO) (ah aj) (.inr ⟨by decide, by decide⟩))) (aO E.dD))) acd))) ⟨_, _, _, rfl⟩ (fun j δ ⟨_, _, _, e⟩ => by subst e; intro i hi; simp only [afX, af9, agQ] at hi; rcases hi with rfl | rfl <;> exact afV rfl) ?Y5 ?ace
   case Y5 =>
     rintro i d δ hi ⟨G5, G6, Gb, rfl⟩
     rw [af2] at hi
     obtain ⟨r, hr, rfl⟩ := agg.mp hi
     have hil : i < F.length := (af5.mp hr).1
     have er : F.getD i kZ = r := by rw [af6, hr]; rfl
     obtain ⟨im, sm1, sm2⟩ := fim r (af8 hr)
     refine ⟨[.tup r.1, .tup (r.2.map It.d)], rfl, ?_⟩
     have hln : (((JK s ks j t F i).map gV)).length = i := by unfold JK; rw [afO, afO, agc]
     show dw X CL b _ [some (.sh (.lst (s.map .int))), some (.sh (.int (q : Nat))), some (.sh (.bl cl)), some (.sh (.int (n : Nat))), some (.lst ((hs.map .str).map T.sh)), some (.lst ((bs.map dR).map T.sh)), some (.sh (.int (bn : Nat))), some (.lst (((b9 ks).map .int).map T.sh)), some (.sh (.lst (Ob FF))), some (.dct (aT (d7 (vX s ks hs FF (j * hs.length + t))))), some (.sh (.int (j : Nat))), some (.sh (.int (t : Nat))), some (.lst (((JK s ks j t F i).map gV).map T.sh)), some (.sh (.tup r.1)), some (.sh (.tup (r.2.map It.d))), Gb, none, none] _
     refine aR E.g E.Kn (c_ (s, ks, j, t, i) E.U9 E.AW (ai (aO E.aP) (ai (vL E.gG.1) (ai (aO E.bV) (ai (aO E.dD) (ai (ah (cy hln E.cj (vL E.iZ.1) E.cg)) aE))))) ⟨Rm, by omega, by omega, by omega, by omega⟩ rfl) ?_
     refine qY E.iZ.1 rfl (aB (aG (ds := [.tup r.1, .tup ((G4 r.2 j i (F2 s ks j t i)).map It.d), .int (F2 s ks j t i : Nat)]) (ak (v_ E.uh.1) (ak (c_ (r.2, j, i, F2 s ks j t i) E.Kp E.u9 (ai (aO E.gf) (ai (aO E.bV) (ai (ah (cy hln E.cj (vL E.iZ.1) E.cg)) (ai (aO E.Kn) aE)))) (show r.2.length <= 1000 by omega) (di _)) (ak (v_ E.Kn.1) aI))) (aq rfl)) (t2 := .sh (gV (r.1, G4 r.2 j i (F2 s ks j t i), F2 s ks j t i))) rfl) rfl (by rw [afO, hln]; omega) (aF ⟨some (.sh (.tup r.1)), some (.sh (.tup (r.2.map It.d))), some (.sh (.int (F2 s ks j t i : Nat))), ?_⟩)
     show _ = [_, _, _, _, _, _, _, _, _, _, _, _, some (T.lst (((JK s ks j t F (i + 1)).map gV).map T.sh)), _, _, _, _, _]
     rw [JL, er]
     rfl
   case ace =>
     rintro δ ⟨G5, G6, Gb, rfl⟩
     rw [afO]
     have T9 := N7 s ks FF QS (j := j) htn
     have rC : oJ (hs.map L3.D.str) (t : Int) = some (.str (hs.getD t Str.empty)) := qx Str.empty (by omega) (by omega)
     refine DF (kvs := aT (d7 (vX s ks hs FF (j * hs.length + t)))) (mE j (hs.getD t Str.empty)) E.u E.bL.1 (vM E.iZ.1) (aB (jQ (bY (v_ E.bV.1) (bY (gX (cC (vL E.cT.1) (aO E.dD) rC) rfl) dP)) (aq rfl)) (t2 := fB (mE j (hs.getD t Str.empty))) rfl) rfl (by rw [jX, tW]; exact T9) ?z (aF ⟨some (.sh (.int (t : Nat))), none, G5, G6, Gb, ?e⟩)
     case z =>
       unfold aT d7 vX
       rw [afO, afO, afO, agc]
       have : j * hs.length <= 100 * 3 := Nat.mul_le_mul (by omega) hsl
       omega
     case e =>
       show _ = [_, _, _, _, _, _, _, _, _, some (T.dct (aT (d7 (vX s ks hs FF (j * hs.length + t + 1))))), _, _, _, _, _, _, _, _]
       rw [JM s ks hs FF htn, ← hF]
       unfold d7 aT G0
       rw [aga, aga]
       rfl
 case fin =>
   rintro δ ⟨v7, Kd, Vb, G5, G6, Gb, rfl⟩
   rw [show (b7 0 ((n : Nat) : Int).toNat).length = n by simp [b7]]
   refine lD (p := fun _ => true) (gg := fun d => T.sh (JG s d.zA.toNat n)) E.g E.sM (bw (.cons E.bB.1 (.inl E.yd) (.cons E.aP.1 (.inl E.ur) .nil)) (by decide +kernel)) (cI E.bS (aO E.bB) (by omega) E.bR) (.inr rfl) (fun C s0 H0 f0 b' d hd => ?acg) (by simp [b7, age]; omega) ?Y6 (by exact afV rfl) (gO ⟨_, rfl⟩)
   case acg =>
     obtain ⟨a, ha, rfl⟩ := f6 hd
     exact ⟨rfl, fun _ => (c_ ((s, a, n)) (fh E.Va) (dh (by decide +kernel)) (ai (ah (v_ (cJ (i := 2) rfl (by decide +kernel)))) (ai (ah (v_ (ck (i := 0) rfl (by decide +kernel)))) (ai (ah (v_ (cJ (i := 1) rfl (by decide +kernel)))) aE))) (by dsimp only [lW]; exact (⟨by omega, by omega⟩)) (D7 s a n))⟩
   case Y6 =>
   rw [fM (f := fun (k : Nat) => JG s k n) _ (fun k => by show T.sh (JG s (0 + (k : Int)).toNat n) = _; rw [agK, agp]), agp]
   refine aR E.g E.sN (aG (ds := [It.uY 0, .uY 1, .fO (rG (aW s 1) bs.length hs)].map It.d) (ak (aB (aG (ak cS (ak aj aI)) (aq rfl)) rfl) (ak (aB (aG (ak cS (ak aj aI)) (aq rfl)) rfl) (ak (aB (c_ (aW s 1, bs.length, hs) E.ye E.lV (ai (ah (c_ ((s, 1)) E.bE E.aL (ai (aO E.aP) (ai (ah aj) aE)) (show (0 : Int) <= 1 by decide) rfl)) (ai (ah (cy (afO ..) E.cj (vL E.mW.1) E.cg)) (ai (vL E.cT.1) aE))) ⟨by omega, by omega⟩ (pA _)) rfl) aI))) (aq rfl)) ?_
   exact bX (iK (bY (vM E.mW.1) (bY (vM E.cT.1) (bY (v_ E.sN.1) (bY (vM E.sM.1) (bY (vM E.bL.1) dP))))) (aq rfl)) rfl
theorem aS : kU (au sJ) ([("script", .cell), ("most", av), ("closed", av), ("many", .cell), ("three", av), ("boxes", av), ("bases", .cell), ("kinds", av), ("faces", av), ("rows", av), ("flat", av), ("turn", av), ("steps", av), ("asks", av), ("deeds", av), ("to", av), ("flats", av), ("begin", av), ("max", aC), ("min", aC), ("len", aC), ("_law_signs", aC), ("range", aC), ("_law_mixed", aC), ("_law_cell_at", aC), ("_law_faces", aC), ("_law_next", aC), ("_law_marked", aC), ("_law_deed", aC)]) = true := by decide +kernel
theorem Kq : aQ ["script", "most", "closed", "many", "three", "boxes", "bases", "kinds", "faces", "rows", "flat", "turn", "steps", "asks", "deeds", "to", "flats", "begin"] ["script", "most", "closed"] (au sJ) := aZ
noncomputable abbrev iu : Stmt := inClass (top 1) 0
noncomputable abbrev j9 : Type := List L3.D × List L3.D × List L3.D × List L3.D × (List (bC × List L3.D))
noncomputable def lX : j9 -> List L3.D := fun (bs, hs, bg, pr, kvs) => [.lst bs, .lst hs, .tup bg, .lst pr, .dct (cN kvs)]
noncomputable def lY : j9 -> Prop := fun (bs, hs, bg, pr, kvs) => D.aY bs = true /\ D.aY hs = true /\ D.aY pr = true /\ (∀ q ∈ kvs, D.aY q.2 = true) /\ (kvs.map (·.1)).Nodup /\ kvs.length <= 1000
noncomputable def lZ : j9 -> List (Str × T) := fun (bs, hs, bg, pr, kvs) => (kW bs hs bg pr kvs : List (Str × T))
structure yo (X : Cx) (CL : Str -> Addr) : Prop extends cP X where
 qJ : Ln X 0 "self"
 mW : Ln X 1 "boxes"
 yp : Ln X 2 "signs"
 sN : Ln X 3 "begin"
 sM : Ln X 4 "flats"
 bL : Ln X 5 "rows"
 mh : Ln X 6 "key"
 fJ : Gl X "list"
 cU : Gl X "tuple"
 fK : X.mg "list" = none
 cB : X.mg "tuple" = none
 bT : wG X.K (CL "Table")
 jn : bU X.K (CL "Table") "boxes"
 dQ : bU X.K (CL "Table") "signs"
 jo : bU X.K (CL "Table") "begin"
 fE : bU X.K (CL "Table") "flats"
 cF : bU X.K (CL "Table") "rows"
theorem yq {X : Cx} {CL : Str -> Addr} {b : Bx} (E : yo X CL) (bs hs bg pr : List L3.D) (kvs : List (bC × List L3.D)) (y : Addr) (h : D.aY bs = true /\ D.aY hs = true /\ D.aY pr = true /\ (∀ q ∈ kvs, D.aY q.2 = true) /\ (kvs.map (·.1)).Nodup /\ kvs.length <= 1000) :
   dw X CL b (fQ iu) (TN ["self", "boxes", "signs", "begin", "flats", "rows", "key"] y "Table" [.lst bs, .lst hs, .tup bg, .lst pr, .dct (cN kvs)]) { nx := fun δ => δ[0]? = some (some (.pin y (.ins "Table" (kW bs hs bg pr kvs)))), rt := fun _ _ => False } := by
 obtain ⟨h1, h2, h3, h4, h5, h6⟩ := h
 refine z8 E.bT E.jn E.qJ.1 (fU E.fK (aO E.mW) h1 E.fJ c7) rfl (afV rfl) ?_
 rw [lA]
 refine z8 E.bT E.dQ E.qJ.1 (fU E.fK (aO E.yp) h2 E.fJ c7) rfl (afV rfl) ?_
 rw [cM (by decide +kernel), lA]
 refine z8 E.bT E.jo E.qJ.1 (vU E.cB (v_ E.sN.1) E.cU) rfl (afV rfl) ?_
 rw [cM (by decide +kernel), cM (by decide +kernel), lA]
 refine z8 E.bT E.fE E.qJ.1 (fU E.fK (aO E.sM) h3 E.fJ c7) rfl (afV rfl) ?_
 rw [cM (by decide +kernel), cM (by decide +kernel), cM (by decide +kernel), lA]
 refine z8 E.bT E.cF E.qJ.1 tP rfl (afV rfl) ?_
 rw [cM (by decide +kernel), cM (by decide +kernel), cM (by decide +kernel), cM (by decide +kernel), lA]
 refine Nq E.g E.mh (fun j δ => ∃ o, δ = [some (.pin y (.ins "Table" (jW bs hs bg pr (.dct (aT (kvs.take j)))))), some (.sh (.lst bs)), some (.sh (.lst hs)), some (.sh (.tup bg)), some (.sh (.lst pr)), some (.sh (.dct (cN kvs))), o]) (v_ E.bL.1) ⟨_, rfl⟩ (fun j δ ⟨_, e⟩ => by subst e; exact afV rfl) ?turn ?fin
 case turn =>
   rintro b' j k d δ hj ⟨o, rfl⟩
   have hj0 := hj
   unfold cN at hj
   rw [af2] at hj
   obtain ⟨q, hq, e⟩ := agg.mp hj
   cases e
   have hqm := af8 hq
   have DE : j < kvs.length := (af5.mp hq).1
   have hv : eY (cN kvs) q.1 = some (.lst q.2) := N1 (by rw [BX]; exact h5) hj0
   have hn : q.1 ∉ (aT (kvs.take j)).map (·.1) := fun hm => by
     rw [jX, ahB] at hm
     obtain ⟨i, hi, e⟩ := List.getElem_of_mem hm
     rw [agv] at hi
     rw [List.getElem_take] at e
     have Y7 : i < (kvs.map (·.1)).length := by omega
     have := (List.getElem?_inj Y7 h5).mp (show (kvs.map (·.1))[i]? = (kvs.map (·.1))[j]? by
       rw [afR Y7, e, af2, hq]
       rfl)
     omega
   refine Nu q.1 E.u (fU E.fK (IK q.1 E.u (aO E.bL) (xx E.mh.1 rfl) hv) (h4 q hqm) E.fJ c7) (IY E.bT E.cF (jV E.qJ.1 rfl) rfl rfl gB) (xx E.mh.1 rfl) rfl (kvs := aT (kvs.take j)) (by show (List.lookup ("rows" : Str) (jW bs hs bg pr (.dct (aT (kvs.take j))))).bind _ = _; rw [gB]; rfl) hn (by unfold aT; rw [afO, agv]; omega) (aF ⟨some (fB q.1), ?_⟩)
   have e : T.iS [.fld "rows"] (.dct (aT (kvs.take j) ++ [(q.1, .lst (q.2.map T.sh))])) (.pin y (.ins "Table" (jW bs hs bg pr (.dct (aT (kvs.take j)))))) = .pin y (.ins "Table" (jW bs hs bg pr (.dct (aT (kvs.take (j + 1)))))) := by
     have et : aT (kvs.take j) ++ [(q.1, T.lst (q.2.map T.sh))] = aT (kvs.take (j + 1)) := by
       unfold aT
       rw [agJ, hq, aga]
       rfl
     rw [et]
     exact FT
   show [some (T.iS [.fld "rows"] _ _), _, _, _, _, _, _] = _
   rw [e]
 case fin =>
   rintro δ ⟨o, rfl⟩
   rw [show (cN kvs).length = kvs.length by unfold cN; rw [afO], ag5]
   exact aF rfl
theorem cG : kU (au iu) ([("self", av), ("boxes", av), ("signs", av), ("begin", av), ("flats", av), ("rows", av), ("key", av), ("list", aC), ("tuple", aC)]) = true := by decide +kernel
theorem nK : aQ ["self", "boxes", "signs", "begin", "flats", "rows", "key"] ["self", "boxes", "signs", "begin", "flats", "rows"] (au iu) := aZ
noncomputable abbrev sO : Stmt := top 27
noncomputable abbrev sP : Type := (List (Str × Int)) × List Str × List It × List L3.D × (List (bC × List R7))
noncomputable def mX : sP -> List L3.D := fun (bs, hs, bg, pr, R) => [Oa bs hs bg pr R]
noncomputable def mY : sP -> Prop := fun (bs, hs, bg, pr, R) => D.aY pr = true /\ (R.map (·.1)).Nodup /\ R.length <= 1000 /\ ∀ q ∈ R, ∀ r ∈ q.2, D.aY r.1 = true
noncomputable def mZ : sP -> T := fun (bs, hs, bg, pr, R) => (.ins "Table" (kW (bs.map dR) (hs.map .str) (bg.map It.d) pr (d7 R)) : T)
structure Pa (X : Cx) (CL : Str -> Addr) : Prop extends cP X where
 aK : Ln X 0 "parts"
 bL : Ln X 1 "rows"
 mh : Ln X 2 "key"
 iZ : Ln X 3 "steps"
 fJ : Gl X "list"
 Pb : Gl X "Table"
 fK : X.mg "list" = none
 Pg : Fm X CL "Table" 1 6 lX lY lZ
theorem Ph {X : Cx} {CL : Str -> Addr} {b : Bx} (E : Pa X CL) {cA : sP} (h : mY cA) :
   aD X CL b sO ["parts", "rows", "key", "steps"] (mX cA) (mZ cA) := by
 obtain ⟨bs, hs, bg, pr, R⟩ := cA
 dsimp only [aD, mY, mX, mZ] at h ⊢
 obtain ⟨h1, h2, h3, h4⟩ := h
 have i1 : D.aY (bs.map dR) = true := gQ (fun _ => rfl) _
 have h5 : ((d7 R).map (·.1)).Nodup := by rw [tW]; exact h2
 have h6 : ∀ q ∈ d7 R, D.aY q.2 = true := fun q hq => by
   obtain ⟨p, hp, rfl⟩ := afZ.mp hq
   exact tU fun r hr => xQ (h4 p hp r hr)
 have h7 : (d7 R).length <= 1000 := by unfold d7; rw [afO]; exact h3
 show dw X CL b _ [some (.sh (.lst [.lst (bs.map dR), .lst (hs.map .str), .tup (bg.map It.d), .lst pr, .dct (cN (d7 R))])), none, none, none] { nx := _, rt := fun uZ _ => uZ = T.ins "Table" (kW (bs.map dR) (hs.map .str) (bg.map It.d) pr (d7 R)), bk := _, ct := _ }
 generalize d7 R = kvs at h5 h6 h7 ⊢
 refine aR E.g E.bL (aB tP (t2 := .dct (aT (kvs.take 0))) rfl) ?_
 refine Up E.g E.mh E.iZ (fun j δ => ∃ (o2 o3 : Option T), δ = [some (.sh (.lst [.lst (bs.map dR), .lst (hs.map .str), .tup (bg.map It.d), .lst pr, .dct (cN kvs)])), some (.dct (aT (kvs.take j))), o2, o3]) (fu (v_ E.aK.1) (ah aj) (aN (j := 4) rfl)) ⟨_, _, rfl⟩ (fun j δ ⟨_, _, e⟩ => by subst e; exact ⟨afV rfl, afV rfl⟩) ?turn ?fin
 case turn =>
   rintro b' j k d δ hj ⟨o2, o3, rfl⟩
   have hj0 := hj
   unfold cN at hj
   rw [af2] at hj
   obtain ⟨q, hq, e⟩ := agg.mp hj
   cases e
   have hqm := af8 hq
   have DE : j < kvs.length := (af5.mp hq).1
   have hn : q.1 ∉ (aT (kvs.take j)).map (·.1) := fun hm => by
     rw [jX, ahB] at hm
     obtain ⟨i, hi, e⟩ := List.getElem_of_mem hm
     rw [agv] at hi
     rw [List.getElem_take] at e
     have Y7 : i < (kvs.map (·.1)).length := by omega
     have := (List.getElem?_inj Y7 h5).mp (show (kvs.map (·.1))[i]? = (kvs.map (·.1))[j]? by
       rw [afR Y7, e, af2, hq]
       rfl)
     omega
   refine DF (kvs := aT (kvs.take j)) q.1 E.u E.bL.1 (fU E.fK (aO E.iZ) (h6 q hqm) E.fJ c7) (xx E.mh.1 rfl) rfl hn (by unfold aT; rw [afO, agv]; omega) (aF ⟨some (fB q.1), some (.sh (.lst q.2)), ?_⟩)
   have et : aT (kvs.take j) ++ [(q.1, T.lst (q.2.map T.sh))] = aT (kvs.take (j + 1)) := by
     unfold aT
     rw [agJ, hq, aga]
     rfl
   show [_, some (T.dct (aT (kvs.take j) ++ [(q.1, T.lst (q.2.map T.sh))])), _, _] = _
   rw [et]
 case fin =>
   rintro δ ⟨o2, o3, rfl⟩
   rw [show (cN kvs).length = kvs.length by unfold cN; rw [afO], ag5]
   exact bX (aB (mk_ (bs.map dR, hs.map .str, bg.map It.d, pr, kvs) E.Pg E.Pb
     (ai (cD (fU E.fK (cC (aO E.aK) (ah aj) (aN (j := 0) rfl)) i1 E.fJ c7)) (ai (cD (fU E.fK (cC (aO E.aK) (ah aj) (aN (j := 1) rfl)) (dX _) E.fJ c7)) (ai (cC (aO E.aK) (ah aj) (aN (j := 2) rfl)) (ai (cD (fU E.fK (cC (aO E.aK) (ah aj) (aN (j := 3) rfl)) h1 E.fJ c7)) (ai (vE E.bL.1 rfl (by rw [T.bK, mD])) aE)))))
     ⟨i1, dX _, h1, h6, h5, h7⟩ (tT i1 (dX _) (di _) h1 h6)) (t2 := .ins "Table" (kW (bs.map dR) (hs.map .str) (bg.map It.d) pr kvs)) rfl) rfl
theorem jK : kU (au sO) ([("parts", av), ("rows", av), ("key", av), ("steps", av), ("list", aC), ("Table", aC)]) = true := by decide +kernel
theorem Kr : aQ ["parts", "rows", "key", "steps"] ["parts"] (au sO) := aZ
noncomputable abbrev kg : Stmt := top 7
noncomputable abbrev om : Type := List (List L3.D)
noncomputable def iw : om -> List L3.D := fun ks => [.lst (ks.map .tup)]
noncomputable def iy : om -> Prop := fun ks => (∀ k ∈ ks, gF 8 (.tup k)) /\ ks.length <= 1000
noncomputable def iz : om -> T := fun ks => (.lst (((b9 (bP (ks.map L3.D.tup))).map .int).map T.sh) : T)
structure Ci (X : Cx) (CL : Str -> Addr) : Prop extends cP X where
 Er : Ln X 0 "marks"
 gS : Ln X 1 "places"
 k_places : X.env.kindOf "places" = some .cell
 uf : Ln X 2 "mark"
 cg : Gl X "len"
 cj : X.mg "len" = none
theorem Cj {X : Cx} {CL : Str -> Addr} {b : Bx} (E : Ci X CL) {ks} (h : iy ks) :
   aD X CL b kg ["marks", "places", "mark"] (iw ks) (iz ks) := by
 dsimp only [aD, iy, iw, iz] at h ⊢
 obtain ⟨hn, hl⟩ := h
 have QB : ∀ d ∈ ks.map L3.D.tup, gF 8 d := fun d hd => by obtain ⟨k, hk, rfl⟩ := afZ.mp hd; exact hn k hk
 have hl2 : (ks.map L3.D.tup).length <= 1000 := by rw [afO]; exact hl
 have ok := fun j => YM (j := j) QB hl2
 refine aR E.g E.gS (aB DR (t2 := .gq X.w (unq ((ks.map L3.D.tup).take 0))) rfl) ?_
 refine g7 E.g E.uf (fun j δ => ∃ (o : Option T), δ = [some (.sh (.lst (ks.map .tup))), some (.gq X.w (unq ((ks.map L3.D.tup).take j))), o]) (e9 (v_ E.Er.1)) ⟨_, rfl⟩ (fun j δ ⟨_, e⟩ => by subst e; exact afV rfl) ?turn ?fin
 case turn =>
   rintro j d δ hj ⟨o, rfl⟩
   have hj2 := hj
   rw [af2] at hj
   obtain ⟨k, hk, rfl⟩ := agg.mp hj
   refine Nk (NT E.u (ok j) E.gS.1 rfl (v_ E.uf.1) (DT (ok j) E.cj (vE E.gS.1 rfl (by rw [T.bK])) E.cg) (hn k (af8 hk))) (aF ⟨some (.sh (.tup k)), ?_⟩)
   show _ = [_, some (T.gq X.w (unq ((ks.map L3.D.tup).take (j + 1)))), _]
   rw [agJ, hj2]
   show _ = [_, some (T.gq X.w (unq ((ks.map L3.D.tup).take j ++ [.tup k]))), _]
   rw [dY]
   rfl
 case fin =>
   rintro δ ⟨o, rfl⟩
   rw [ag5]
   have ok := ok (ks.map L3.D.tup).length
   rw [ag5] at ok
   refine bX (aB (fX (p := fun _ => true) (g := fun d => T.sh (.int ((unq (ks.map L3.D.tup)).idxOf d : Nat))) (bw (.cons E.gS.1 (.inl E.k_places) .nil) (by decide +kernel)) E.g.calm (e9 (v_ E.Er.1)) (.inl ⟨rfl, fun _ _ => rfl⟩) (fun C s0 H0 f0 b' d hd => ?uq) (by rw [age]; omega)) ?eq) rfl
   case uq =>
     have hd2 := hd
     obtain ⟨k, hk, rfl⟩ := afZ.mp hd
     exact ⟨rfl, fun _ => DS E.u ok (ah (v_ (cJ (i := 1) rfl (by decide +kernel)))) (ah (v_ (ck (i := 0) rfl (by decide +kernel)))) (cz.mpr hd2)⟩
   case eq =>
     rw [dZ]
     unfold b9 bP
     simp only [agh]
     rfl
theorem gT : kU (au kg) ([("marks", av), ("places", .cell), ("mark", av), ("len", aC)]) = true := by decide +kernel
theorem AX : aQ ["marks", "places", "mark"] ["marks"] (au kg) := aZ
noncomputable abbrev yr : Stmt := top 4
noncomputable abbrev Ck : Type := List It
noncomputable def pS : Ck -> List L3.D := fun xs => [.tup (xs.map It.d)]
noncomputable def pT : Ck -> Prop := fun xs => xs.length <= 1000
noncomputable def pU : Ck -> T := fun xs => (.lst (((xs.filter It.told).map It.d).map T.sh) : T)
structure Vc (X : Cx) (CL : Str -> Addr) : Prop extends cP X where
 bL : Ln X 0 "rows"
 yt : GT X "MARKS" ["out", "keep", "way", "in"]
theorem Vd {X : Cx} {CL : Str -> Addr} {b : Bx} (E : Vc X CL) {xs} (h : pT xs) :
   aD X CL b yr ["rows"] (pS xs) (pU xs) := by
 dsimp only [aD, pT, pS, pU] at h ⊢
 have h : xs.length <= 1000 := h
 refine bX (aB (fX (p := fun d => !decide (d.L5.toS ∈ cK)) (g := fun d => T.sh d) (bw .nil (by decide +kernel)) E.g.calm (Ie (v_ E.bL.1)) (.inr rfl) (fun C s0 H0 f0 b' d hd => ?uq) (ahd (gw (by simp; omega)))) ?eq) rfl
 case uq =>
   obtain ⟨r, hr, rfl⟩ := afZ.mp hd
   exact ⟨(Dy (l := cK) (gA (ah (v_ (ck (i := 0) rfl (by decide +kernel)))) (ah aj) (YC r.sj)) (ah (IB (by exact E.yt) (dh (by decide +kernel)))) rfl rfl).1, fun _ => v_ (ck (i := 0) rfl (by decide +kernel))⟩
 case eq =>
   refine congrArg T.lst ?_
   have e : ((fun d : L3.D => !decide (d.L5.toS ∈ cK)) ∘ It.d) = It.told := by
     funext x
     show (!decide (x.sj.w ∈ cK)) = x.told
     rw [r6, Bool.not_not]
   rw [ah5, e]
theorem Pj : kU (au yr) ([("rows", av)]) = true := by decide +kernel
theorem Pk : aQ ["rows"] ["rows"] (au yr) := aZ
noncomputable abbrev m5 : Stmt := top 9
noncomputable abbrev m7 : Type := List L3.D × List L3.D × List L3.D × List L3.D × (List (bC × List R7)) × Nat × Str × Nat
noncomputable def i6 : m7 -> List L3.D := fun (bs, hs, bg, pr, R, a, x, n) => [pB bs hs bg pr (d7 R), .int (a : Nat), .str x]
noncomputable def i7 : m7 -> Prop := fun (bs, hs, bg, pr, R, a, x, n) => eY R (mE a x) = some (gZ R a x) /\ (gZ R a x).length <= 100 /\ ∀ r ∈ gZ R a x, F4 n r
noncomputable def i9 : m7 -> T := fun (bs, hs, bg, pr, R, a, x, n) => (.sh (WO R a x) : T)
structure Gd (X : Cx) (CL : Str -> Addr) : Prop extends cP X where
 bJ : Ln X 0 "table"
 ez : Ln X 1 "number"
 dg : Ln X 2 "sign"
 cU : Gl X "tuple"
 cB : X.mg "tuple" = none
 Ve : Fc X CL "told" 1 1 pS pT pU
 bT : wG X.K (CL "Table")
 cF : bU X.K (CL "Table") "rows"
theorem Ge {X : Cx} {CL : Str -> Addr} {b : Bx} (E : Gd X CL) {cA : m7} (h : i7 cA) :
   aD X CL b m5 ["table", "number", "sign"] (i6 cA) (i9 cA) := by
 obtain ⟨bs, hs, bg, pr, R, a, x, n⟩ := cA
 dsimp only [aD, i7, i6, i9] at h ⊢
 obtain ⟨h1, h2, h3⟩ := h
 show dw X CL b _ _ { nx := _, rt := fun uZ _ => uZ = T.sh (.tup ((gZ R a x).map zC)), bk := _, ct := _ }
 generalize gZ R a x = l at h1 h2 h3 ⊢
 refine bX (c5 E.cB (ds := l.map zC) (cD (aB (fX (p := fun _ => true) (g := fun d => T.sh (fcO d)) (bw .nil (by decide +kernel)) E.g.calm (e9 (jD (mE a x) E.u (xg E.bT E.cF (v_ E.bJ.1) nX) (aB (jQ (bY (v_ E.ez.1) (bY (v_ E.dg.1) dP)) (aq rfl)) (t2 := fB (mE a x)) rfl) (j4 h1))) (.inr rfl) (fun C s0 H0 f0 b' d hd => ?uq) (by rw [afO, age]; omega)) (t2 := .lst ((l.map zC).map T.sh)) ?eq)) (pG h3).2 E.cU) rfl
 case uq =>
   obtain ⟨r, hr, rfl⟩ := afZ.mp hd
   have WT := h3 r hr
   refine ⟨rfl, fun _ => aB (aG (ds := [.tup r.1, .tup ((r.2.1.filter It.told).map It.d)]) (ak (vU E.cB (Bv (v_ (ck (i := 0) rfl (by decide +kernel))) (ah aj) (aN (j := 0) rfl)) (dh (by decide +kernel))) (ak (c5 E.cB (cD (aB (c_ r.2.1 (fh E.Ve) (dh (by decide +kernel)) (ai (gA (ah (v_ (ck (i := 0) rfl (by decide +kernel)))) (ah aj) (aN (j := 1) rfl)) aE) WT.e (bF (di _))) (t2 := .lst (((r.2.1.filter It.told).map It.d).map T.sh)) rfl)) (di _) (dh (by decide +kernel))) aI)) (aq rfl)) ?_⟩
   show T.sh (zC r) = T.sh (fcO (gV r))
   rw [JW]
 case eq =>
   rw [dZ, agh, agh]
   refine congrArg T.lst (agT fun r _ => ?_)
   show T.sh (fcO (gV r)) = T.sh (zC r)
   rw [JW]
theorem kh : kU (au m5) ([("table", av), ("number", av), ("sign", av), ("tuple", aC)]) = true := by decide +kernel
theorem Cm : aQ ["table", "number", "sign"] ["table", "number", "sign"] (au m5) := aZ
noncomputable abbrev yu : Stmt := top 8
noncomputable abbrev yw : Type := List L3.D × List L3.D × List L3.D × List Str × (List (bC × List R7)) × Nat × Nat
noncomputable def pV : yw -> List L3.D := fun (bs, bg, pr, hs, R, a, n) => [pB bs (hs.map .str) bg pr (d7 R), .int (a : Nat)]
noncomputable def pW : yw -> Prop := fun (bs, bg, pr, hs, R, a, n) => rL R hs n /\ a < n
noncomputable def pX : yw -> T := fun (bs, bg, pr, hs, R, a, n) => (.sh (.tup (jl R hs a)) : T)
structure Vf (X : Cx) (CL : Str -> Addr) : Prop extends cP X where
 bJ : Ln X 0 "table"
 m8 : X.env.kindOf "table" = some .cell
 ez : Ln X 1 "number"
 Ks : X.env.kindOf "number" = some .cell
 cU : Gl X "tuple"
 cB : X.mg "tuple" = none
 Gf : Fc X CL "seen_at" 2 3 i6 i7 i9
 bT : wG X.K (CL "Table")
 dQ : bU X.K (CL "Table") "signs"
theorem Vg {X : Cx} {CL : Str -> Addr} {b : Bx} (E : Vf X CL) {cA : yw} (h : pW cA) :
   aD X CL b yu ["table", "number"] (pV cA) (pX cA) := by
 obtain ⟨bs, bg, pr, hs, R, a, n⟩ := cA
 dsimp only [aD, pW, pV, pX] at h ⊢
 obtain ⟨ht, ha⟩ := h
 refine bX (c5 E.cB (ds := jl R hs a) (cD (aB (fX (p := fun _ => true) (g := fun d => T.sh (WO R a d.toS)) (bw (.cons E.ez.1 (.inl E.Ks) (.cons E.bJ.1 (.inl E.m8) .nil)) (by decide +kernel)) E.g.calm (e9 (xg E.bT E.dQ (v_ E.bJ.1) lH)) (.inr rfl) (fun C s0 H0 f0 b' d hd => ?uq) (by rw [afO, age]; have := ht.e; omega)) (t2 := .lst ((jl R hs a).map T.sh)) ?eq)) (ht.look ha).2 E.cU) rfl
 case uq =>
   obtain ⟨x, hx, rfl⟩ := afZ.mp hd
   exact ⟨rfl, fun _ => aB (c_ (bs, hs.map .str, bg, pr, R, a, x, n) (fh E.Gf) (dh (by decide +kernel)) (ai (ah (v_ (cJ (i := 2) rfl (by decide +kernel)))) (ai (ah (v_ (cJ (i := 1) rfl (by decide +kernel)))) (ai (ah (v_ (ck (i := 0) rfl (by decide +kernel)))) aE))) (ht.row ha hx) (pG (ht.row ha hx).2.2).2) rfl⟩
 case eq =>
   rw [dZ]
   unfold jl
   rw [agh, agh]
   rfl
theorem pY : kU (au yu) ([("table", .cell), ("number", .cell), ("tuple", aC)]) = true := by decide +kernel
theorem Pn : aQ ["table", "number"] ["table", "number"] (au yu) := aZ
noncomputable abbrev Es : Stmt := top 10
noncomputable abbrev Et : Type := List L3.D × List L3.D × List L3.D × List Str × (List (bC × List R7)) × Nat × Nat × List Nat
noncomputable def sQ : Et -> List L3.D := fun (bs, bg, pr, hs, R, a, n, F) => [pB bs (hs.map .str) bg pr (d7 R), .int (a : Nat), .lst ((b9 F).map .int)]
noncomputable def sR : Et -> Prop := fun (bs, bg, pr, hs, R, a, n, F) => rL R hs n /\ a < n /\ F.length = n
noncomputable def sS : Et -> T := fun (bs, bg, pr, hs, R, a, n, F) => (.sh (.tup ((b9 (lK R hs F a)).map .int)) : T)
structure Y8 (X : Cx) (CL : Str -> Addr) : Prop extends cP X where
 bJ : Ln X 0 "table"
 ez : Ln X 1 "number"
 aM : Ln X 2 "found"
 gS : Ln X 3 "places"
 dg : Ln X 4 "sign"
 v8 : Ln X 5 "row"
 cU : Gl X "tuple"
 cB : X.mg "tuple" = none
 bT : wG X.K (CL "Table")
 dQ : bU X.K (CL "Table") "signs"
 cF : bU X.K (CL "Table") "rows"
theorem Y9 {X : Cx} {CL : Str -> Addr} {b : Bx} (E : Y8 X CL) {cA : Et} (h : sR cA) :
   aD X CL b Es ["table", "number", "found", "places", "sign", "row"] (sQ cA) (sS cA) := by
 obtain ⟨bs, bg, pr, hs, R, a, n, F⟩ := cA
 dsimp only [aD, sR, sQ, sS] at h ⊢
 obtain ⟨ht, ha, hF⟩ := h
 have h3 := ht.e
 refine aR E.g E.gS (iK dP (agr _)) ?_
 refine g7 E.g E.dg (fun j δ => ∃ (o4 o5 : Option T), δ = [some (.sh (pB bs (hs.map .str) bg pr (d7 R))), some (.sh (.int (a : Nat))), some (.sh (.lst ((b9 F).map .int))), some (.lst (((b9 (lK R (hs.take j) F a)).map .int).map T.sh)), o4, o5]) (e9 (xg E.bT E.dQ (v_ E.bJ.1) lH)) ⟨_, _, rfl⟩ (fun j δ ⟨_, _, e⟩ => by subst e; exact afV rfl) ?turn ?fin
 case fin =>
   rintro δ ⟨o4, o5, rfl⟩
   rw [afO, ag5]
   exact bX (c5 E.cB (vL E.gS.1) (f7 _) E.cU) rfl
 case turn =>
 rintro j d δ hj ⟨o4, o5, rfl⟩
 rw [af2] at hj
 obtain ⟨x, hx, rfl⟩ := agg.mp hj
 have zF := af8 hx
 obtain ⟨q1, q2, q3⟩ := ht.row ha zF
 have g6 := xO ht ha zF hF
 have hsn : lK R (hs.take (j + 1)) F a = lK R (hs.take j) F a ++ (gZ R a x).map fun r => F.getD r.2.2 0 := by
   unfold lK
   rw [agJ, hx, ahG]
   simp
 have DE : j < hs.length := (af5.mp hx).1
 have hbd : ∀ m, m <= hs.length -> (lK R (hs.take m) F a).length <= 100 * m := by
   intro m
   induction m with
   | zero => intro _; unfold lK; simp
   | succ m ih =>
     intro hm
     have h0 := ih (by omega)
     have JZ : hs[m]? = some hs[m] := afR (by omega)
     have h1 := (ht.row ha (af8 JZ)).2.1
     unfold lK at h0 ⊢
     rw [agJ, JZ, ahG, afY]
     have : (List.flatMap (fun x => (gZ R a x).map fun r => F.getD r.2.2 0) (some hs[m]).toList).length <= 100 := by simpa using h1
     omega
 have hb1 := hbd j (by omega)
 rw [hsn]
 generalize lK R (hs.take j) F a = L0 at hb1 ⊢
 generalize gZ R a x = l at q1 q2 q3 g6 ⊢
 refine g7 E.g E.v8 (fun i δ => ∃ (o5 : Option T), δ = [some (.sh (pB bs (hs.map .str) bg pr (d7 R))), some (.sh (.int (a : Nat))), some (.sh (.lst ((b9 F).map .int))), some (.lst (((b9 (L0 ++ (l.take i).map fun r => F.getD r.2.2 0)).map .int).map T.sh)), some (.sh (.str x)), o5]) (e9 (jD (mE a x) E.u (xg E.bT E.cF (v_ E.bJ.1) nX) (aB (jQ (bY (v_ E.ez.1) (bY (v_ E.dg.1) dP)) (aq rfl)) (t2 := fB (mE a x)) rfl) (j4 q1))) ⟨_, by rw [List.take_zero, ahC, agF]; rfl⟩ (fun j δ ⟨_, e⟩ => by subst e; exact afV rfl) ?um ?fin2
 case fin2 =>
   rintro δ ⟨o5, rfl⟩
   rw [afO, ag5]
   exact aF ⟨_, _, rfl⟩
 case um =>
   rintro i d δ hi ⟨o5, rfl⟩
   rw [af2] at hi
   obtain ⟨r, hr, rfl⟩ := agg.mp hi
   have hrm := af8 hr
   have hil : i < l.length := (af5.mp hr).1
   refine qY E.gS.1 rfl (fu (v_ E.aM.1) (gA (aO E.v8) (ah aj) (aN (j := 2) rfl)) (g6 r hrm)) rfl (by rw [afO, afO, eX, afY, afO, agv]; omega) (aF ⟨some (.sh (gV r)), ?_⟩)
   have e : ((b9 (L0 ++ (l.take (i + 1)).map fun r => F.getD r.2.2 0)).map L3.D.int).map T.sh = ((b9 (L0 ++ (l.take i).map fun r => F.getD r.2.2 0)).map L3.D.int).map T.sh ++ [T.sh (.int (F.getD r.2.2 0 : Nat))] := by
     rw [agJ, hr, aga, ← afW, xP (L0 ++ _), aga, aga]
     rfl
   rw [e]
   rfl
theorem oq : kU (au Es) ([("table", av), ("number", av), ("found", av), ("places", av), ("sign", av), ("row", av), ("tuple", aC)]) = true := by decide +kernel
theorem Vh : aQ ["table", "number", "found", "places", "sign", "row"] ["table", "number", "found"] (au Es) := aZ
noncomputable def Vi (R : List (bC × List R7)) (hs : List Str) (n : Nat) : Nat -> Nat
 | 0 => 0
 | k + 1 => cn (eL R hs n k)
noncomputable abbrev m9 : Stmt := top 6
noncomputable abbrev ng : Type := List L3.D × List L3.D × List L3.D × List Str × (List (bC × List R7))
noncomputable def ja : ng -> List L3.D := fun (bs, bg, pr, hs, R) => [pB bs (hs.map .str) bg pr (d7 R)]
noncomputable def jb : ng -> Prop := fun (bs, bg, pr, hs, R) => rL R hs pr.length
noncomputable def jc : ng -> T := fun (bs, bg, pr, hs, R) => (.lst (((b9 (eV R hs pr.length)).map .int).map T.sh) : T)
structure Gg (X : Cx) (CL : Str -> Addr) : Prop extends cP X where
 bJ : Ln X 0 "table"
 m8 : X.env.kindOf "table" = some .cell
 aM : Ln X 1 "found"
 nh : X.env.kindOf "found" = some .cell
 bB : Ln X 2 "many"
 ki : Gl X "numbered"
 bR : Gl X "range"
 cg : Gl X "len"
 Ro : Gl X "set"
 uv : Fc X CL "numbered" 1 1 iw iy iz
 bS : X.mg "range" = none
 cj : X.mg "len" = none
 Rp : X.mg "set" = none
 Vj : Fc X CL "seen" 3 2 pV pW pX
 Za : Fc X CL "led" 1 3 sQ sR sS
 bT : wG X.K (CL "Table")
 fE : bU X.K (CL "Table") "flats"
theorem Gh {X : Cx} {CL : Str -> Addr} {b : Bx} (E : Gg X CL) {cA : ng} (h : jb cA) :
   aD X CL b m9 ["table", "found", "many"] (ja cA) (jc cA) := by
 obtain ⟨bs, bg, pr, hs, R⟩ := cA
 dsimp only [aD, jb, ja, jc] at h ⊢
 have ht : rL R hs pr.length := h
 obtain ⟨n, hn⟩ : ∃ n, n = pr.length := ⟨_, rfl⟩
 have Em : pr.length = n := hn.symm
 rw [Em] at ht
 obtain ⟨n1, n2⟩ := ht.f
 show dw X CL b _ _ { nx := _, rt := fun uZ _ => uZ = T.lst (((b9 (eV R hs pr.length)).map .int).map T.sh), bk := _, ct := _ }
 rw [Em]
 refine aR E.g E.aM (aB (c_ ((List.range n).map (jl R hs)) E.uv E.ki (ai (cD (aB (fX (p := fun _ => true) (g := fun d => T.sh (.tup (jl R hs d.zA.toNat))) (bw (.cons E.bJ.1 (.inl E.m8) .nil) (by decide +kernel)) E.g.calm (cI E.bS (ah (cy Em E.cj (qz E.bT E.fE (aO E.bJ) rg) E.cg)) (by omega) E.bR) (.inr rfl) (fun C s0 H0 f0 b' d hd => ?uq) (by simp [b7, age]; omega)) (t2 := .lst ((((List.range n).map (jl R hs)).map L3.D.tup).map T.sh)) ?eq)) aE) ⟨?p1, ?p2⟩ (bF (f7 _))) (t2 := .lst (((b9 (eL R hs n 0)).map .int).map T.sh)) ?e0) ?_
 case uq =>
   obtain ⟨a, ha, rfl⟩ := f6 hd
   have ha : a < n := by omega
   exact ⟨rfl, fun _ => aB (c_ (bs, bg, pr, hs, R, a, n) (fh E.Vj) (dh (by decide +kernel)) (ai (ah (v_ (cJ (i := 1) rfl (by decide +kernel)))) (ai (ah (v_ (ck (i := 0) rfl (by decide +kernel)))) aE)) ⟨ht, ha⟩ (ht.look ha).2) rfl⟩
 case eq =>
   rw [fM (f := fun (a : Nat) => .tup (jl R hs a)) _ (fun a => by show T.sh (.tup (jl R hs (0 + (a : Int)).toNat)) = _; rw [agK, agp]), agp]
   simp only [agh]
   rfl
 case p1 =>
   intro k hk
   obtain ⟨a, ha, rfl⟩ := afZ.mp hk
   exact oh (ht.look (agX.mp ha)).1 (by decide)
 case p2 => rw [afO, agc]; omega
 case e0 =>
   show T.lst (((b9 (bP (((List.range n).map (jl R hs)).map L3.D.tup))).map .int).map T.sh) = _
   rw [eL, show ((List.range n).map (jl R hs)).map L3.D.tup = (List.range n).map fun (a : Nat) => L3.D.tup (jl R hs a) by rw [agh]; rfl]
 refine aR E.g E.bB aj ?_
 refine Dw E.g (fun m δ => ∃ k, m = n - Vi R hs n k /\ k <= Vi R hs n k /\ Vi R hs n k <= n /\ δ = [some (.sh (pB bs (hs.map .str) bg pr (d7 R))), some (.lst (((b9 (eL R hs n k)).map .int).map T.sh)), some (.sh (.int (Vi R hs n k : Nat)))]) (n - 0) ⟨0, rfl, af3 _, agr _, rfl⟩ ?_
 rintro m δ ⟨k, rfl, k1, k2, rfl⟩
 obtain ⟨c1, c2, c3⟩ := AJ (R := R) (hs := hs) n1 k
 have hl := sf (R := R) (hs := hs) (n := n) k
 have hle : (b9 (eL R hs n k)).length <= 1000 := by rw [eX, hl]; omega
 refine ⟨_, _, (QL (ah (aB (tS E.g E.cj E.Rp (vL E.aM.1) hle E.cg E.Ro) (t2 := .sh (.int (cn (eL R hs n k) : Nat))) (by rw [JX]))) (aO E.bB)).1, fun hp => ?_, fun hp => ?_⟩
 . have hp : Vi R hs n k < cn (eL R hs n k) := by have := agt hp; omega
   refine aR E.g E.bB (aB (tS E.g E.cj E.Rp (vL E.aM.1) hle E.cg E.Ro) (t2 := .sh (.int (cn (eL R hs n k) : Nat))) (by rw [JX])) ?_
   show dw X CL b _ [some (.sh (pB bs (hs.map .str) bg pr (d7 R))), some (.lst (((b9 (eL R hs n k)).map .int).map T.sh)), some (.sh (.int (cn (eL R hs n k) : Nat)))] _
   refine aR E.g E.aM (aB (c_ ((List.range n).map (AG R hs (eL R hs n k))) E.uv E.ki (ai (cD (aB (fX (δc := [some (.sh (.lst ((b9 (eL R hs n k)).map .int))), some (.sh (pB bs (hs.map .str) bg pr (d7 R)))]) (p := fun _ => true) (g := fun d => T.sh (.tup (AG R hs (eL R hs n k) d.zA.toNat))) (bw (.cons E.aM.1 (.inl E.nh) (.cons E.bJ.1 (.inl E.m8) .nil)) (by decide +kernel)) E.g.calm (cI E.bS (ah (cy (ds := (b9 (eL R hs n k)).map .int) (n := n) (by rw [afO, eX, hl]) E.cj (vL E.aM.1) E.cg)) (by omega) E.bR) (.inl ⟨?cap, fun _ _ => Om ..⟩) (fun C s0 H0 f0 b' d hd => ?Cg) (by simp [b7, age]; omega)) (t2 := .lst ((((List.range n).map (AG R hs (eL R hs n k))).map L3.D.tup).map T.sh)) ?eq2)) aE) ⟨?p3, ?p4⟩ (bF (f7 _))) (t2 := .lst (((b9 (eL R hs n (k + 1))).map .int).map T.sh)) ?e1) (aF ⟨n - Vi R hs n (k + 1), by show n - cn (eL R hs n k) < n - _; omega, k + 1, rfl, by show k + 1 <= cn (eL R hs n k); omega, c2, rfl⟩)
   case cap =>
     show _ = [some (T.sh (T.bK (.lst (((b9 (eL R hs n k)).map L3.D.int).map T.sh)))), some (T.sh (T.bK (.sh (pB bs (hs.map .str) bg pr (d7 R)))))]
     rw [fj, T.bK]
   case Cg =>
     obtain ⟨a, ha, rfl⟩ := f6 hd
     have ha : a < n := by omega
     refine ⟨rfl, fun _ => aB (aG (ds := AG R hs (eL R hs n k) a) (ak (fu (v_ (cJ (i := 1) rfl (by decide +kernel))) (ah (v_ (ck (i := 0) rfl (by decide +kernel)))) (lJ (by rw [hl]; exact ha))) (ak (aB (c_ (bs, bg, pr, hs, R, a, n, eL R hs n k) (fh E.Za) (dh (by decide +kernel)) (ai (ah (v_ (cJ (i := 2) rfl (by decide +kernel)))) (ai (ah (v_ (ck (i := 0) rfl (by decide +kernel)))) (ai (ah (v_ (cJ (i := 1) rfl (by decide +kernel)))) aE))) ⟨ht, ha, hl⟩ (f7 _)) rfl) aI)) (aq rfl)) rfl⟩
   case eq2 =>
     rw [fM (f := fun (a : Nat) => .tup (AG R hs (eL R hs n k) a)) _ (fun a => by show T.sh (.tup (AG R hs (eL R hs n k) (0 + (a : Int)).toNat)) = _; rw [agK, agp]), agp]
     simp only [agh]
     rfl
   case p3 =>
     intro d hd
     obtain ⟨a, _, rfl⟩ := afZ.mp hd
     exact Ol _ _
   case p4 => rw [afO, agc]; omega
   case e1 =>
     show T.lst (((b9 (bP (((List.range n).map (AG R hs (eL R hs n k))).map L3.D.tup))).map .int).map T.sh) = _
     rw [eL, show ((List.range n).map (AG R hs (eL R hs n k))).map L3.D.tup = (List.range n).map fun (a : Nat) => L3.D.tup (AG R hs (eL R hs n k) a) by rw [agh]; rfl]
 . have hp : cn (eL R hs n k) <= Vi R hs n k := by have := agL hp; omega
   obtain ⟨k, rfl⟩ : ∃ j, k = j + 1 := by
     cases k with
     | zero => have : cn (eL R hs n 0) <= 0 := hp; omega
     | succ k => exact ⟨k, rfl⟩
   have k1 : k + 1 <= cn (eL R hs n k) := k1
   have k2 : cn (eL R hs n k) <= n := k2
   rw [UG (by omega) hp]
   exact bX (vM E.aM.1) rfl
theorem d8 : kU (au m9) ([("table", .cell), ("found", .cell), ("many", av), ("numbered", aC), ("range", aC), ("len", aC), ("set", aC)]) = true := by decide +kernel
theorem Cp : aQ ["table", "found", "many"] ["table"] (au m9) := aZ
noncomputable abbrev sU : Stmt := top 12
noncomputable abbrev yx : Type := Int
noncomputable def ni : yx -> List L3.D := fun i => [.int i]
noncomputable def nj : yx -> Prop := fun i => True
noncomputable def nk : yx -> T := fun i => (.sh (.bl true) : T)
structure Pp (X : Cx) (CL : Str -> Addr) : Prop extends cP X where
 aM : Ln X 0 "found"
 iA : Gl X "isinstance"
 Zb : Gl X "int"
 g_bool : Gl X "bool"
 iB : X.mg "isinstance" = none
 Zc : X.mg "int" = none
 Vk : X.mg "bool" = none
theorem Pq {X : Cx} {CL : Str -> Addr} {b : Bx} (E : Pp X CL) {i} (h : nj i) :
   aD X CL b sU ["found"] (ni i) (nk i) := by
 dsimp only [aD, nj, ni, nk] at h ⊢
 exact bX (HX (isI E.iB E.Zc E.iA E.Zb (aO E.aM)) (fun _ => Bu (Tf (isB E.iB E.Vk E.iA E.g_bool (aO E.aM))))) rfl
theorem pZ : kU (au sU) ([("found", av), ("isinstance", aC), ("int", aC), ("bool", aC)]) = true := by decide +kernel
theorem Ku : aQ ["found"] ["found"] (au sU) := aZ
noncomputable abbrev gH : Stmt := top 31
noncomputable abbrev gI : Type := List Nat × Nat
noncomputable def fF : gI -> List L3.D := fun (F, n) => [.lst ((b9 F).map .int), .int (n : Nat)]
noncomputable def fG : gI -> Prop := fun (F, n) => bP F = F /\ F.length = n /\ n <= 1000
noncomputable def fH : gI -> T := fun (F, n) => (.sh (.bl true) : T)
structure vd (X : Cx) (CL : Str -> Addr) : Prop extends cP X where
 aM : Ln X 0 "found"
 bB : Ln X 1 "many"
 qI : Ln X 2 "most"
 ez : Ln X 3 "number"
 iA : Gl X "isinstance"
 fJ : Gl X "list"
 cg : Gl X "len"
 yy : Gl X "_law_whole"
 kO : Gl X "max"
 iB : X.mg "isinstance" = none
 fK : X.mg "list" = none
 cj : X.mg "len" = none
 Pr : Fc X CL "_law_whole" 1 1 ni nj nk
 kP : X.mg "max" = none
theorem ve {X : Cx} {CL : Str -> Addr} {b : Bx} (E : vd X CL) {cA : gI} (h : fG cA) :
   aD X CL b gH ["found", "many", "most", "number"] (fF cA) (fH cA) := by
 obtain ⟨F, n⟩ := cA
 dsimp only [aD, fG, fF, fH] at h ⊢
 obtain ⟨h1, h2, h3⟩ := h
 have hl : ((b9 F).map L3.D.int).length = n := by rw [afO, eX, h2]
 refine jC (uW (oU (lu (lq (isL E.iB E.fK E.iA E.fJ (aO E.aM)))) (fun _ => ly (Bt (ah (cy hl E.cj (aO E.aM) E.cg)) (aO E.bB)).1))) (fun hp => by simp at hp) (fun _ => aF ?_)
 refine aR E.g E.qI (aB aj (t2 := .sh (.int ((unq (F.take 0)).length : Nat))) rfl) ?_
 refine g7 E.g E.ez (fun j δ => ∃ (o : Option T), δ = [some (.sh (.lst ((b9 F).map .int))), some (.sh (.int (n : Nat))), some (.sh (.int ((unq (F.take j)).length : Nat))), o]) (e9 (v_ E.aM.1)) ⟨_, rfl⟩ (fun j δ ⟨_, e⟩ => by subst e; exact afV rfl) ?turn ?fin
 case fin =>
   rintro δ ⟨o, rfl⟩
   exact bX Dq rfl
 case turn =>
   rintro j d δ hj ⟨o, rfl⟩
   unfold b9 at hj
   rw [agh, af2] at hj
   obtain ⟨c, hc, rfl⟩ := agg.mp hj
   obtain ⟨r1, r2⟩ := Ou h1 hc
   show dw X CL b _ [some (.sh (.lst ((b9 F).map .int))), some (.sh (.int (n : Nat))), some (.sh (.int ((unq (F.take j)).length : Nat))), some (.sh (.int (c : Nat)))] _
   refine jC (uW (oU (lu (lq (c_ (c : Int) E.Pr E.yy (ai (aO E.ez) aE) trivial rfl))) (fun _ => ly (lu (Ym Qy Qy (ah aj) (aO E.ez) (aO E.qI) (by with_unfolding_all rfl)).1)))) (fun hp => ?no) (fun _ => aF ?_)
   case no =>
     exfalso
     have e : (decide ((0 : Int) <= (c : Int)) && decide ((c : Int) <= ((unq (F.take j)).length : Nat))) = true := by rw [agk]; exact ⟨agM (by omega), agM (by omega)⟩
     have hp : (!true || !(decide ((0 : Int) <= (c : Int)) && decide ((c : Int) <= ((unq (F.take j)).length : Nat)))) = true := hp
     rw [e] at hp
     cases hp
   refine aR E.g E.qI (aB (xh E.g E.kP E.kO (ai (aO E.qI) (ai (ah (bz (aO E.ez) (ah aj))) aE))) (t2 := .sh (.int ((unq (F.take (j + 1))).length : Nat))) ?m) (aF ⟨_, rfl⟩)
   case m =>
     refine congrArg (fun z => T.sh (.int z)) ?_
     rw [← r2]
     split
     all_goals omega
theorem b8 : kU (au gH) ([("found", av), ("many", av), ("most", av), ("number", av), ("isinstance", aC), ("list", aC), ("len", aC), ("_law_whole", aC), ("max", aC)]) = true := by decide +kernel
theorem uw : aQ ["found", "many", "most", "number"] ["found", "many"] (au gH) := aZ
noncomputable abbrev p5 : Stmt := top 33
noncomputable abbrev p6 : Type := (List (Str × Int)) × List Str × List It × List L3.D × (List (bC × List R7)) × Nat × Nat × List Nat
noncomputable def kj : p6 -> List L3.D := fun (bs, hs, bg, pr, R, a, n, F) => [Oa bs hs bg pr R, .int (a : Nat), .lst ((b9 F).map .int)]
noncomputable def ko : p6 -> Prop := fun (bs, hs, bg, pr, R, a, n, F) => rL R hs n /\ a < n /\ F.length = n
noncomputable def kr : p6 -> T := fun (bs, hs, bg, pr, R, a, n, F) => (.sh (.tup ((b9 (lK R hs F a)).map .int)) : T)
structure Kv (X : Cx) (CL : Str -> Addr) : Prop extends cP X where
 aK : Ln X 0 "parts"
 bV : Ln X 1 "flat"
 aM : Ln X 2 "found"
 nh : X.env.kindOf "found" = some .cell
 yz : Ln X 3 "led_v"
 dg : Ln X 4 "sign"
 cU : Gl X "tuple"
 cB : X.mg "tuple" = none
theorem Kw {X : Cx} {CL : Str -> Addr} {b : Bx} (E : Kv X CL) {cA : p6} (h : ko cA) :
   aD X CL b p5 ["parts", "flat", "found", "led_v", "sign"] (kj cA) (kr cA) := by
 obtain ⟨bs, hs, bg, pr, R, a, n, F⟩ := cA
 dsimp only [aD, ko, kj, kr] at h ⊢
 obtain ⟨ht, ha, hF⟩ := h
 have h3 := ht.e
 show dw X CL b _ [some (.sh (.lst [.lst (bs.map dR), .lst (hs.map .str), .tup (bg.map It.d), .lst pr, .dct (cN (d7 R))])), some (.sh (.int (a : Nat))), some (.sh (.lst ((b9 F).map .int))), none, none] _
 refine aR E.g E.yz (aB (iK dP (agr _)) (t2 := .lst (((b9 (lK R (hs.take 0) F a)).map .int).map T.sh)) rfl) ?_
 refine g7 E.g E.dg (fun j δ => ∃ (o4 : Option T), δ = [some (.sh (.lst [.lst (bs.map dR), .lst (hs.map .str), .tup (bg.map It.d), .lst pr, .dct (cN (d7 R))])), some (.sh (.int (a : Nat))), some (.sh (.lst ((b9 F).map .int))), some (.lst (((b9 (lK R (hs.take j) F a)).map .int).map T.sh)), o4]) (e9 (fu (v_ E.aK.1) (ah aj) (aN (j := 1) rfl))) ⟨_, rfl⟩ (fun j δ ⟨_, e⟩ => by subst e; exact afV rfl) ?turn ?fin
 case fin =>
   rintro δ ⟨o4, rfl⟩
   rw [afO, ag5]
   exact bX (c5 E.cB (vL E.yz.1) (f7 _) E.cU) rfl
 case turn =>
 rintro j d δ hj ⟨o4, rfl⟩
 rw [af2] at hj
 obtain ⟨x, hx, rfl⟩ := agg.mp hj
 have zF := af8 hx
 obtain ⟨q1, q2, q3⟩ := ht.row ha zF
 have g6 := xO ht ha zF hF
 have DE : j < hs.length := (af5.mp hx).1
 have hsn : lK R (hs.take (j + 1)) F a = lK R (hs.take j) F a ++ (gZ R a x).map fun r => F.getD r.2.2 0 := by
   unfold lK
   rw [agJ, hx, ahG]
   simp
 have hb1 := Oq ht ha F j (by omega)
 rw [hsn]
 generalize lK R (hs.take j) F a = L0 at hb1 ⊢
 generalize gZ R a x = l at q1 q2 q3 g6 ⊢
 refine Yh E.yz.1 rfl (aB (fX (p := fun _ => true) (g := fun d => T.sh (.int (F.getD (toN d) 0 : Nat))) (bw (.cons E.aM.1 (.inl E.nh) .nil) (by decide +kernel)) E.g.calm (e9 (jD (mE a x) E.u (fu (v_ E.aK.1) (ah aj) (aN (j := 4) rfl)) (aB (jQ (bY (v_ E.bV.1) (bY (v_ E.dg.1) dP)) (aq rfl)) (t2 := fB (mE a x)) rfl) (j4 q1))) (.inr rfl) (fun C s0 H0 f0 b' d hd => ?uq) (by rw [afO, age]; omega)) (t2 := .lst (((b9 (l.map fun r => F.getD r.2.2 0)).map .int).map T.sh)) ?eq) rfl (by rw [afO, afO, eX, afO, afO, eX, afO]; omega) (aF ⟨some (.sh (.str x)), ?_⟩)
 case uq =>
   obtain ⟨r, hr, rfl⟩ := afZ.mp hd
   refine ⟨rfl, fun _ => aB (fu (v_ (cJ (i := 1) rfl (by decide +kernel))) (gA (ah (v_ (ck (i := 0) rfl (by decide +kernel)))) (ah aj) (aN (j := 2) rfl)) (g6 r hr)) ?_⟩
   show T.sh _ = T.sh (.int (F.getD (toN (gV r)) 0 : Nat))
   rw [t6]
 case eq =>
   rw [dZ]
   unfold b9
   simp only [agh]
   refine congrArg T.lst (agT fun r _ => ?_)
   show T.sh (.int (F.getD (toN (gV r)) 0 : Nat)) = T.sh (.int (F.getD r.2.2 0 : Nat))
   rw [t6]
 rw [xP, aga, aga]
 rfl
theorem gC : kU (au p5) ([("parts", av), ("flat", av), ("found", .cell), ("led_v", av), ("sign", av), ("tuple", aC)]) = true := by decide +kernel
theorem Gi : aQ ["parts", "flat", "found", "led_v", "sign"] ["parts", "flat", "found"] (au p5) := aZ
noncomputable abbrev nq : Stmt := top 29
noncomputable abbrev qK : Type := List It
noncomputable def jd : qK -> List L3.D := fun xs => [.tup (xs.map It.d)]
noncomputable def je : qK -> Prop := fun xs => xs.length <= 1000
noncomputable def jf : qK -> T := fun xs => (.lst (((xs.filter It.told).map It.d).map T.sh) : T)
structure Gj (X : Cx) (CL : Str -> Addr) : Prop extends cP X where
 bL : Ln X 0 "rows"
theorem Gk {X : Cx} {CL : Str -> Addr} {b : Bx} (E : Gj X CL) {xs} (h : je xs) :
   aD X CL b nq ["rows"] (jd xs) (jf xs) := by
 dsimp only [aD, je, jd, jf] at h ⊢
 have h : xs.length <= 1000 := h
 refine bX (aB (fX (p := fun d => !decide (d.L5.toS ∈ cK)) (g := fun d => T.sh d) (bw .nil (by decide +kernel)) E.g.calm (Ie (v_ E.bL.1)) (.inr rfl) (fun C s0 H0 f0 b' d hd => ?uq) (ahd (gw (by simp; omega)))) ?eq) rfl
 case uq =>
   obtain ⟨r, hr, rfl⟩ := afZ.mp hd
   exact ⟨(Dy (l := cK) (gA (ah (v_ (ck (i := 0) rfl (by decide +kernel)))) (ah aj) (YC r.sj)) (ah (aG (ds := cK.map .str) (oX (l := cK) rfl) (aq rfl))) rfl rfl).1, fun _ => v_ (ck (i := 0) rfl (by decide +kernel))⟩
 case eq =>
   refine congrArg T.lst ?_
   have e : ((fun d : L3.D => !decide (d.L5.toS ∈ cK)) ∘ It.d) = It.told := by
     funext x
     show (!decide (x.sj.w ∈ cK)) = x.told
     rw [r6, Bool.not_not]
   rw [ah5, e]
theorem Cq : kU (au nq) ([("rows", av)]) = true := by decide +kernel
theorem Cr : aQ ["rows"] ["rows"] (au nq) := aZ
noncomputable abbrev p7 : Stmt := top 30
noncomputable abbrev p8 : Type := (List (Str × Int)) × List Str × List It × List L3.D × (List (bC × List R7)) × Nat × Str × Nat
noncomputable def iP : p8 -> List L3.D := fun (bs, hs, bg, pr, R, a, x, n) => [Oa bs hs bg pr R, .int (a : Nat), .str x]
noncomputable def iQ : p8 -> Prop := fun (bs, hs, bg, pr, R, a, x, n) => eY R (mE a x) = some (gZ R a x) /\ (gZ R a x).length <= 100 /\ ∀ r ∈ gZ R a x, F4 n r
noncomputable def iR : p8 -> T := fun (bs, hs, bg, pr, R, a, x, n) => (.lst ((gZ R a x).map Oo) : T)
structure Kx (X : Cx) (CL : Str -> Addr) : Prop extends cP X where
 aK : Ln X 0 "parts"
 bV : Ln X 1 "flat"
 dg : Ln X 2 "sign"
 Gm : Fc X CL "_law_told" 1 1 jd je jf
theorem Ky {X : Cx} {CL : Str -> Addr} {b : Bx} (E : Kx X CL) {cA : p8} (h : iQ cA) :
   aD X CL b p7 ["parts", "flat", "sign"] (iP cA) (iR cA) := by
 obtain ⟨bs, hs, bg, pr, R, a, x, n⟩ := cA
 dsimp only [aD, iQ, iP, iR] at h ⊢
 obtain ⟨h1, h2, h3⟩ := h
 show dw X CL b _ [some (.sh (.lst [.lst (bs.map dR), .lst (hs.map .str), .tup (bg.map It.d), .lst pr, .dct (cN (d7 R))])), some (.sh (.int (a : Nat))), some (.sh (.str x))] { nx := _, rt := fun uZ _ => uZ = T.lst ((gZ R a x).map Oo), bk := _, ct := _ }
 generalize gZ R a x = l at h1 h2 h3 ⊢
 refine bX (aB (fX (p := fun _ => true) (g := fgO) (bw .nil (by decide +kernel)) E.g.calm (e9 (jD (mE a x) E.u (fu (v_ E.aK.1) (ah aj) (aN (j := 4) rfl)) (aB (jQ (bY (v_ E.bV.1) (bY (v_ E.dg.1) dP)) (aq rfl)) (t2 := fB (mE a x)) rfl) (j4 h1))) (.inr rfl) (fun C s0 H0 f0 b' d hd => ?uq) (by rw [afO, age]; omega)) ?eq) rfl
 case uq =>
   obtain ⟨r, hr, rfl⟩ := afZ.mp hd
   have WT := h3 r hr
   refine ⟨rfl, fun _ => aB (jQ (bY (Bv (v_ (ck (i := 0) rfl (by decide +kernel))) (ah aj) (aN (j := 0) rfl)) (bY (c_ r.2.1 (fh E.Gm) (dh (by decide +kernel)) (ai (gA (ah (v_ (ck (i := 0) rfl (by decide +kernel)))) (ah aj) (aN (j := 1) rfl)) aE) WT.e (bF (di _))) dP)) (aq rfl)) ?_⟩
   rw [JY]
   rfl
 case eq =>
   rw [dZ, agh]
   exact congrArg T.lst (agT fun r _ => JY r)
theorem qL : kU (au p7) ([("parts", av), ("flat", av), ("sign", av)]) = true := by decide +kernel
theorem Gn : aQ ["parts", "flat", "sign"] ["parts", "flat", "sign"] (au p7) := aZ
noncomputable abbrev yC : Stmt := top 32
noncomputable abbrev yE : Type := (List (Str × Int)) × List Str × List It × List L3.D × (List (bC × List R7)) × Nat × Nat
noncomputable def p9 : yE -> List L3.D := fun (bs, hs, bg, pr, R, a, n) => [Oa bs hs bg pr R, .int (a : Nat)]
noncomputable def qa : yE -> Prop := fun (bs, hs, bg, pr, R, a, n) => rL R hs n /\ a < n
noncomputable def qb : yE -> T := fun (bs, hs, bg, pr, R, a, n) => (.sh (.tup (jl R hs a)) : T)
structure Vl (X : Cx) (CL : Str -> Addr) : Prop extends cP X where
 aK : Ln X 0 "parts"
 bV : Ln X 1 "flat"
 ux : Ln X 2 "look"
 dg : Ln X 3 "sign"
 cU : Gl X "tuple"
 gJ : Gl X "_law_facing"
 cB : X.mg "tuple" = none
 qc : Fc X CL "_law_facing" 2 3 iP iQ iR
theorem Vm {X : Cx} {CL : Str -> Addr} {b : Bx} (E : Vl X CL) {cA : yE} (h : qa cA) :
   aD X CL b yC ["parts", "flat", "look", "sign"] (p9 cA) (qb cA) := by
 obtain ⟨bs, hs, bg, pr, R, a, n⟩ := cA
 dsimp only [aD, qa, p9, qb] at h ⊢
 obtain ⟨ht, ha⟩ := h
 have h3 := ht.e
 show dw X CL b _ [some (.sh (.lst [.lst (bs.map dR), .lst (hs.map .str), .tup (bg.map It.d), .lst pr, .dct (cN (d7 R))])), some (.sh (.int (a : Nat))), none, none] _
 refine aR E.g E.ux (iK dP (agr _)) ?_
 refine g7 E.g E.dg (fun j δ => ∃ (o3 : Option T), δ = [some (.sh (.lst [.lst (bs.map dR), .lst (hs.map .str), .tup (bg.map It.d), .lst pr, .dct (cN (d7 R))])), some (.sh (.int (a : Nat))), some (.lst ((jl R (hs.take j) a).map T.sh)), o3]) (e9 (fu (v_ E.aK.1) (ah aj) (aN (j := 1) rfl))) ⟨_, rfl⟩ (fun j δ ⟨_, e⟩ => by subst e; exact afV rfl) ?turn ?fin
 case fin =>
   rintro δ ⟨o3, rfl⟩
   rw [afO, ag5]
   exact bX (c5 E.cB (vL E.ux.1) (ht.look ha).2 E.cU) rfl
 case turn =>
 rintro j d δ hj ⟨o3, rfl⟩
 rw [af2] at hj
 obtain ⟨x, hx, rfl⟩ := agg.mp hj
 have zF := af8 hx
 have DE : j < hs.length := (af5.mp hx).1
 have ack := ht.row ha zF
 obtain ⟨q1, q2, q3⟩ := ack
 have e1 : jl R (hs.take (j + 1)) a = jl R (hs.take j) a ++ [WO R a x] := by
   unfold jl
   rw [agJ, hx, aga]
   rfl
 have hll : (jl R (hs.take j) a).length <= 3 := by unfold jl; rw [afO, agv]; omega
 refine qY E.ux.1 rfl (aB (c5 E.cB (ds := (gZ R a x).map zC) (cD (aB (fX (p := fun _ => true) (g := fun d => T.sh (fhO d)) (bw .nil (by decide +kernel)) E.g.calm (e9 (rW (d := .lst ((gZ R a x).map zE)) (c_ (bs, hs, bg, pr, R, a, x, n) E.qc E.gJ (ai (aO E.aK) (ai (aO E.bV) (ai (aO E.dg) aE))) (ht.row ha zF) (qF q3)) (xR _))) (.inr rfl) (fun C s0 H0 f0 b' d hd => ?uq) (by rw [afO, age]; omega)) (t2 := .lst (((gZ R a x).map zC).map T.sh)) ?eq)) (pG q3).2 E.cU) (t2 := .sh (WO R a x)) rfl) rfl (by rw [afO]; omega) (aF ⟨some (.sh (.str x)), ?_⟩)
 case uq =>
   obtain ⟨r, hr, rfl⟩ := afZ.mp hd
   exact ⟨rfl, fun _ => aB (aG (ds := [.tup r.1, .tup ((r.2.1.filter It.told).map It.d)]) (ak (Bv (v_ (ck (i := 0) rfl (by decide +kernel))) (ah aj) (aN (j := 0) rfl)) (ak (c5 E.cB (gA (ah (v_ (ck (i := 0) rfl (by decide +kernel)))) (ah aj) (aN (j := 1) rfl)) (di _) (dh (by decide +kernel))) aI)) (aq rfl)) rfl⟩
 case eq =>
   rw [dZ, agh, agh]
   rfl
 rw [e1, aga]
 rfl
theorem nu : kU (au yC) ([("parts", av), ("flat", av), ("look", av), ("sign", av), ("tuple", aC), ("_law_facing", aC)]) = true := by decide +kernel
theorem Pu : aQ ["parts", "flat", "look", "sign"] ["parts", "flat"] (au yC) := aZ
noncomputable def Kz (R : List (bC × List R7)) (hs : List Str) (n : Nat) : Nat -> Nat
 | 0 => 0
 | k + 1 => cn (lit R hs n k)
noncomputable def kyL (R : List (bC × List R7)) (hs : List Str) (n : Nat) (F : List Nat) : List L3.D := (List.range n).map fun (a : Nat) => L3.D.tup (tX R hs F a)
theorem Vo {R : List (bC × List R7)} {hs : List Str} {n : Nat} {F : List Nat} {j : Nat} (h : j < n) : (kyL R hs n F)[j]? = some (.tup (tX R hs F j)) := by
 unfold kyL
 rw [af2, ag1 h]
 rfl
noncomputable abbrev iC : Stmt := top 34
noncomputable abbrev iD : Type := (List (Str × Int)) × List Str × List It × List L3.D × (List (bC × List R7))
noncomputable def gi : iD -> List L3.D := fun (bs, hs, bg, pr, R) => [Oa bs hs bg pr R]
noncomputable def gj : iD -> Prop := fun (bs, hs, bg, pr, R) => rL R hs pr.length
noncomputable def gk : iD -> T := fun (bs, hs, bg, pr, R) => (.sh (.int (cn (eV R hs pr.length) : Nat)) : T)
structure yF (X : Cx) (CL : Str -> Addr) : Prop extends cP X where
 aK : Ln X 0 "parts"
 yG : X.env.kindOf "parts" = some .cell
 bV : Ln X 1 "flat"
 fk : Ln X 2 "faces"
 sV : Ln X 3 "count"
 aM : Ln X 4 "found"
 mj : Ln X 5 "seen_v"
 yH : Ln X 6 "finer"
 mh : Ln X 7 "key"
 bR : Gl X "range"
 cg : Gl X "len"
 kO : Gl X "max"
 Ct : Gl X "_law_led"
 bS : X.mg "range" = none
 cj : X.mg "len" = none
 kP : X.mg "max" = none
 KC : Fc X CL "_law_led" 1 3 kj ko kr
 Vp : Fc X CL "_law_look" 3 2 p9 qa qb
theorem yI {X : Cx} {CL : Str -> Addr} {b : Bx} (E : yF X CL) {cA : iD} (h : gj cA) :
   aD X CL b iC ["parts", "flat", "faces", "count", "found", "seen_v", "finer", "key"] (gi cA) (gk cA) := by
 obtain ⟨bs, hs, bg, pr, R⟩ := cA
 dsimp only [aD, gj, gi, gk] at h ⊢
 have ht : rL R hs pr.length := h
 obtain ⟨n, hn⟩ : ∃ n, n = pr.length := ⟨_, rfl⟩
 have Em : pr.length = n := hn.symm
 rw [Em] at ht
 obtain ⟨n1, n2⟩ := ht.f
 show dw X CL b _ [some (.sh (.lst [.lst (bs.map dR), .lst (hs.map .str), .tup (bg.map It.d), .lst pr, .dct (cN (d7 R))])), none, none, none, none, none, none, none] { nx := _, rt := fun uZ _ => uZ = T.sh (.int (cn (eV R hs pr.length) : Nat)), bk := _, ct := _ }
 rw [Em]
 refine lD (p := fun _ => true) (gg := fun d => T.sh (.tup (jl R hs d.zA.toNat))) E.g E.fk (bw (.cons E.aK.1 (.inl E.yG) .nil) (by decide +kernel)) (cI E.bS (ah (cy Em E.cj (cC (aO E.aK) (ah aj) (aN (j := 3) rfl)) E.cg)) (by omega) E.bR) (.inr rfl) (fun C s0 H0 f0 b' d hd => ?uq) (by simp [b7, age]; omega) ?rest (by exact afV rfl) (gO ⟨_, rfl⟩)
 case uq =>
   obtain ⟨a, ha, rfl⟩ := f6 hd
   have ha : a < n := by omega
   exact ⟨rfl, fun _ => aB (c_ (bs, hs, bg, pr, R, a, n) (fh E.Vp) (dh (by decide +kernel)) (ai (ah (v_ (cJ (i := 1) rfl (by decide +kernel)))) (ai (ah (v_ (ck (i := 0) rfl (by decide +kernel)))) aE)) ⟨ht, ha⟩ (ht.look ha).2) rfl⟩
 case rest =>
 rw [fM (f := fun (a : Nat) => .tup (jl R hs a)) _ (fun a => by show T.sh (.tup (jl R hs (0 + (a : Int)).toNat)) = _; rw [agK, agp]), agp]
 obtain ⟨FC, hFC⟩ : ∃ FC, FC = (List.range n).map fun (a : Nat) => L3.D.tup (jl R hs a) := ⟨_, rfl⟩
 rw [← hFC]
 have Mh : FC.length = n := by rw [hFC, afO, agc]
 have hFa : ∀ a, a < n -> oJ FC (a : Nat) = some (.tup (jl R hs a)) := fun a ha => by
   refine aN ?_
   rw [hFC, af2, ag1 ha]
   rfl
 refine aR E.g E.sV (aB aj (t2 := .sh (.int (Kz R hs n 0 : Nat))) rfl) ?_
 refine aR E.g E.aM (aB (DC (ds := [.int 0]) (k := (n : Int)) (cD (gE (ak aj aI) (aq rfl))) (ah (cy Mh E.cj (vL E.fk.1) E.cg)) rfl (by omega) (by omega) (by rw [age]; show 1 * _ <= _; omega)) (t2 := .lst (((b9 (lit R hs n 0)).map .int).map T.sh)) ?r) ?_
 case r =>
   rw [agp, lit]
   refine congrArg (fun z => T.lst (List.map T.sh z)) ?_
   unfold b9
   rw [agh, List.map_replicate]
   generalize n = k
   induction k with
   | zero => rfl
   | succ k ih => rw [agO, agO, aha, ih]; rfl
 refine Dw E.g (fun m δ => ∃ (k : Nat) (o1 o5 o6 o7 : Option T), m = n - Kz R hs n k /\ k <= Kz R hs n k /\ Kz R hs n k <= n /\ δ = [some (.sh (.lst [.lst (bs.map dR), .lst (hs.map .str), .tup (bg.map It.d), .lst pr, .dct (cN (d7 R))])), o1, some (.lst (FC.map T.sh)), some (.sh (.int (Kz R hs n k : Nat))), some (.lst (((b9 (lit R hs n k)).map .int).map T.sh)), o5, o6, o7]) (n - 0) ⟨0, _, _, _, _, rfl, af3 _, agr _, rfl⟩ ?_
 rintro m δ ⟨k, o1, o5, o6, o7, rfl, k1, k2, rfl⟩
 obtain ⟨c1, c2, c3⟩ := YL (R := R) (hs := hs) n1 k
 have hl := Ea (R := R) (hs := hs) (n := n) k
 have WH : lit R hs n k ≠ [] := fun z => by rw [z] at hl; have : 0 = n := hl; omega
 obtain ⟨m1, m2⟩ := UB WH
 refine ⟨_, _, (Bt (aO E.sV) (ah (aB (bz (ah (rY E.g E.kP (vL E.aM.1) m1 m2 E.kO)) (ah aj)) (t2 := .sh (.int (cn (lit R hs n k) : Nat))) (by rw [← c3]; rfl)))).1, fun hp => ?_, fun hp => ?_⟩
 . have hp : ¬ Kz R hs n k = cn (lit R hs n k) := fun z => by rw [z] at hp; simp at hp
   have hp : Kz R hs n k < cn (lit R hs n k) := by
     cases k with
     | zero => exact c1
     | succ k =>
       have := (AI (R := R) (hs := hs) (n := n) k).1
       have hp : ¬ cn (lit R hs n k) = cn (lit R hs n (k + 1)) := hp
       show cn (lit R hs n k) < _
       omega
   refine aR E.g E.sV (aB (bz (ah (rY E.g E.kP (vL E.aM.1) m1 m2 E.kO)) (ah aj)) (t2 := .sh (.int (cn (lit R hs n k) : Nat))) (by rw [← c3]; rfl)) ?_
   obtain ⟨F, hF⟩ : ∃ F, F = lit R hs n k := ⟨_, rfl⟩
   rw [← hF] at hl
   obtain ⟨K, hK⟩ : ∃ K, K = kyL R hs n F := ⟨_, rfl⟩
   have hKl : K.length = n := by rw [hK]; unfold kyL; rw [afO, agc]
   have hKn : ∀ d ∈ K, gF 8 d := fun d hd => by
     rw [hK] at hd
     obtain ⟨a, ha, rfl⟩ := afZ.mp hd
     exact ht.kL F (agX.mp ha)
   have ok := fun j => YM (j := j) hKn (by omega)
   refine aR E.g E.mj (aB DR (t2 := .gq X.w (unq (K.take 0))) rfl) ?_
   refine aR E.g E.yH (aB (iK dP (agr _)) (t2 := .lst (((b9 ((bP K).take 0)).map .int).map T.sh)) rfl) ?_
   rw [← hF]
   refine g7 E.g E.bV (fun j δ => ∃ (o1 o7 : Option T), δ = [some (.sh (.lst [.lst (bs.map dR), .lst (hs.map .str), .tup (bg.map It.d), .lst pr, .dct (cN (d7 R))])), o1, some (.lst (FC.map T.sh)), some (.sh (.int (cn F : Nat))), some (.lst (((b9 F).map .int).map T.sh)), some (.gq X.w (unq (K.take j))), some (.lst (((b9 ((bP K).take j)).map .int).map T.sh)), o7]) (cI E.bS (ah (cy Mh E.cj (vL E.fk.1) E.cg)) (by omega) E.bR) ⟨_, _, rfl⟩ (fun j δ ⟨_, _, e⟩ => by subst e; exact afV rfl) ?turn ?fin
   case fin =>
     rintro δ ⟨o1, o7, rfl⟩
     rw [show (b7 0 ((n : Nat) : Int).toNat).length = n by simp [b7], show (bP K).take n = bP K from List.take_of_length_le (by rw [j3, hKl]; exact af3 _), show bP K = lit R hs n (k + 1) by rw [lit, ← hF, hK]; rfl]
     refine aR E.g E.aM (vM E.yH.1) (aF ⟨n - Kz R hs n (k + 1), by show n - cn (lit R hs n k) < n - _; omega, k + 1, o1, some (.gq X.w (unq (K.take n))), none, o7, rfl, by show k + 1 <= cn (lit R hs n k); omega, c2, ?_⟩)
     rw [hF]
     rfl
   case turn =>
   rintro j d δ hj ⟨o1, o7, rfl⟩
   obtain ⟨rfl, DE⟩ := gP hj
   rw [agK]
   have Rn : j < n := by omega
   have hKj : K[j]? = some (.tup (tX R hs F j)) := by rw [hK]; exact Vo Rn
   have uO := lJ (ks := F) (f := j) (by omega)
   have U4 := (ht.look Rn).2
   have hT1 : K.take (j + 1) = K.take j ++ [.tup (tX R hs F j)] := by rw [agJ, hKj]; rfl
   have hN : (bP K)[j]? = some ((unq K).idxOf (.tup (tX R hs F j))) := by unfold bP; rw [af2, hKj]; rfl
   have Fv : L3.D.tup (tX R hs F j) ∈ unq (K.take (j + 1)) := by rw [cz, hT1]; simp
   have WR : (unq (K.take (j + 1))).idxOf (.tup (tX R hs F j)) = (unq K).idxOf (.tup (tX R hs F j)) := by
     rw [← B5 (m := K.drop (j + 1)) (cz.mp Fv), List.take_append_drop]
   refine aR E.g E.mh (aB (aG (ds := tX R hs F j) (ak (gX (cC (vL E.aM.1) (aO E.bV) uO) rfl) (ak (gX (cC (vL E.fk.1) (aO E.bV) (hFa j Rn)) U4) (ak (aB (c_ (bs, hs, bg, pr, R, j, n, F) E.KC E.Ct (ai (aO E.aK) (ai (aO E.bV) (ai (vL E.aM.1) aE))) ⟨ht, Rn, hl⟩ (f7 _)) rfl) aI))) (aq rfl)) rfl) ?_
   refine tH (fun δ => δ = [some (.sh (.lst [.lst (bs.map dR), .lst (hs.map .str), .tup (bg.map It.d), .lst pr, .dct (cN (d7 R))])), some (.sh (.int (j : Nat))), some (.lst (FC.map T.sh)), some (.sh (.int (cn F : Nat))), some (.lst (((b9 F).map .int).map T.sh)), some (.gq X.w (unq (K.take (j + 1)))), some (.lst (((b9 ((bP K).take j)).map .int).map T.sh)), some (.sh (.tup (tX R hs F j)))]) (NS E.u (ok j) (aO E.mh) (vE E.mj.1 rfl (by rw [T.bK])) (ht.kL F Rn) rfl) (fun hp => ?_) (fun hp => ?_) ?_
   . have hp : L3.D.tup (tX R hs F j) ∉ unq (K.take j) := of_decide_eq_false (by simpa using hp)
     refine Uo E.u (ok j) E.mj.1 (DT (ok j) E.cj (vE E.mj.1 rfl (by rw [T.bK])) E.cg) (v_ E.mh.1) rfl (ht.kL F Rn) hp (aF ?_)
     rw [hT1, dY, af1 hp]
     rfl
   . have hp : L3.D.tup (tX R hs F j) ∈ unq (K.take j) := of_decide_eq_true (by simpa using hp)
     refine aF ?_
     rw [hT1, dY, agb hp]
     rfl
   rintro δ rfl
   refine qY E.yH.1 rfl (aB (DS E.u (ok (j + 1)) (vE E.mj.1 rfl (by rw [T.bK])) (aO E.mh) Fv) (t2 := .sh (.int ((unq K).idxOf (.tup (tX R hs F j)) : Nat))) (by rw [WR])) rfl (by rw [afO, afO, eX, agv]; omega) (aF ⟨some (.sh (.int (j : Nat))), some (.sh (.tup (tX R hs F j))), ?_⟩)
   have e : ((b9 ((bP K).take (j + 1))).map L3.D.int).map T.sh = ((b9 ((bP K).take j)).map L3.D.int).map T.sh ++ [T.sh (.int ((unq K).idxOf (.tup (tX R hs F j)) : Nat))] := by
     rw [agJ, hN, xP, aga, aga]
     rfl
   rw [e]
   rfl
 . have hp : Kz R hs n k = cn (lit R hs n k) := by
     by_cases z : Kz R hs n k = cn (lit R hs n k)
     . exact z
     . exfalso
       have : ¬ ((Kz R hs n k : Nat) : Int) = (cn (lit R hs n k) : Nat) := by omega
       rw [agm this] at hp
       cases hp
   obtain ⟨k, rfl⟩ : ∃ j, k = j + 1 := by
     cases k with
     | zero => have : 0 = cn (lit R hs n 0) := hp; omega
     | succ k => exact ⟨k, rfl⟩
   have k1 : k + 1 <= cn (lit R hs n k) := k1
   have k2 : cn (lit R hs n k) <= n := k2
   rw [← Oh (R := R) (hs := hs) (n := n) (k := k) (by omega) hp.symm]
   exact bX (v_ E.sV.1) rfl
theorem bA : kU (au iC) ([("parts", .cell), ("flat", av), ("faces", av), ("count", av), ("found", av), ("seen_v", av), ("finer", av), ("key", av), ("range", aC), ("len", aC), ("max", aC), ("_law_led", aC)]) = true := by decide +kernel
theorem vf : aQ ["parts", "flat", "faces", "count", "found", "seen_v", "finer", "key"] ["parts"] (au iC) := aZ
noncomputable abbrev yJ : Stmt := top 35
noncomputable abbrev yK : Type := (List (Str × Int)) × List Str × List It × List L3.D × (List (bC × List R7))
noncomputable def qd : yK -> List L3.D := fun (bs, hs, bg, pr, R) => [Oa bs hs bg pr R, .lst ((b9 (eV R hs pr.length)).map .int)]
noncomputable def qe : yK -> Prop := fun (bs, hs, bg, pr, R) => rL R hs pr.length
noncomputable def qf : yK -> T := fun (bs, hs, bg, pr, R) => (.sh (.bl true) : T)
structure Vq (X : Cx) (CL : Str -> Addr) : Prop extends cP X where
 aK : Ln X 0 "parts"
 aM : Ln X 1 "found"
 nh : X.env.kindOf "found" = some .cell
 bV : Ln X 2 "flat"
 yL : Ln X 3 "other"
 dg : Ln X 4 "sign"
 KD : Ln X 5 "mine"
 rM : Gl X "_law_numbered"
 cg : Gl X "len"
 kO : Gl X "max"
 uy : Gl X "_law_classes"
 bR : Gl X "range"
 gJ : Gl X "_law_facing"
 vg : Fc X CL "_law_numbered" 2 2 fF fG fH
 cj : X.mg "len" = none
 kP : X.mg "max" = none
 yM : Fc X CL "_law_classes" 4 1 gi gj gk
 bS : X.mg "range" = none
 qc : Fc X CL "_law_facing" 2 3 iP iQ iR
theorem Vr {X : Cx} {CL : Str -> Addr} {b : Bx} (E : Vq X CL) {cA : yK} (h : qe cA) :
   aD X CL b yJ ["parts", "found", "flat", "other", "sign", "mine"] (qd cA) (qf cA) := by
 obtain ⟨bs, hs, bg, pr, R⟩ := cA
 dsimp only [aD, qe, qd, qf] at h ⊢
 have ht : rL R hs pr.length := h
 obtain ⟨n, hn⟩ : ∃ n, n = pr.length := ⟨_, rfl⟩
 have Em : pr.length = n := hn.symm
 have E6 := ht
 rw [Em] at ht
 obtain ⟨n1, n2⟩ := ht.f
 have Mh : (eV R hs n).length = n := sf n
 have hFn : bP (eV R hs n) = eV R hs n := Eb n
 have hFm : kX (eV R hs n) + 1 = cn (eV R hs n) := (AJ n1 n).2.2
 have Rq : ∀ {a c : Nat}, a < n -> c < n -> (eV R hs n).getD a 0 = (eV R hs n).getD c 0 -> jl R hs a = jl R hs c /\ lK R hs (eV R hs n) a = lK R hs (eV R hs n) c := fun ha hc e => fin_same n1 ha hc e
 have hcl : ∀ t, t = T.sh (.int (cn (eV R hs pr.length) : Nat)) -> t = T.sh (.int (cn (eV R hs n) : Nat)) := fun t e => by rw [e, Em]
 show dw X CL b _ [some (.sh (.lst [.lst (bs.map dR), .lst (hs.map .str), .tup (bg.map It.d), .lst pr, .dct (cN (d7 R))])), some (.sh (.lst ((b9 (eV R hs pr.length)).map .int))), none, none, none, none] { nx := _, rt := fun uZ _ => uZ = T.sh (.bl true), bk := _, ct := _ }
 rw [Em]
 have ZL := hFm
 generalize hFF : eV R hs n = F at Mh hFn hFm Rq hcl ZL ⊢
 have WH : F ≠ [] := fun z => by rw [z] at Mh; have : 0 = n := Mh; omega
 obtain ⟨m1, m2⟩ := UB WH
 have hll : ((b9 F).map L3.D.int).length = n := by rw [afO, eX, Mh]
 refine jC (uW (oU (lu (lq (c_ (F, n) E.vg E.rM (ai (aO E.aM) (ai (ah (cy Em E.cj (cC (aO E.aK) (ah aj) (aN (j := 3) rfl)) E.cg)) aE)) ⟨hFn, Mh, by omega⟩ rfl))) (fun _ => ly (Bt (ah (aB (bz (ah (rY E.g E.kP (aO E.aM) m1 m2 E.kO)) (ah aj)) (t2 := .sh (.int (cn F : Nat))) (by rw [← hFm]; rfl))) (ah (aB (c_ (bs, hs, bg, pr, R) E.yM E.uy (ai (aO E.aK) aE) E6 rfl) (t2 := .sh (.int (cn F : Nat))) (hcl _ rfl)))).1))) (fun hp => ?no) (fun _ => aF ?_)
 case no =>
   exfalso
   have hp : (!true || !decide (((cn F : Nat) : Int) = (cn F : Nat))) = true := hp
   rw [agM rfl] at hp
   cases hp
 refine g7 E.g E.bV (fun j δ => ∃ (o2 o3 o4 o5 : Option T), δ = [some (.sh (.lst [.lst (bs.map dR), .lst (hs.map .str), .tup (bg.map It.d), .lst pr, .dct (cN (d7 R))])), some (.sh (.lst ((b9 F).map .int))), o2, o3, o4, o5]) (cI E.bS (ah (cy hll E.cj (aO E.aM) E.cg)) (by omega) E.bR) ⟨_, _, _, _, rfl⟩ (fun j δ ⟨_, _, _, _, e⟩ => by subst e; exact afV rfl) ?turn ?fin
 case fin =>
   rintro δ ⟨o2, o3, o4, o5, rfl⟩
   exact bX Dq rfl
 case turn =>
 rintro a d δ hj ⟨o2, o3, o4, o5, rfl⟩
 obtain ⟨rfl, DE⟩ := gP hj
 rw [agK]
 have han : a < n := by omega
 have uO := lJ (ks := F) (f := a) (by omega)
 have hFa : F[a]? = some (F.getD a 0) := by rw [af6, afR (by omega)]; rfl
 obtain ⟨c, c1, c2, c3⟩ := J1 hFa
 have hcn : c < n := by omega
 have hzI : ∀ k, (b9 F)[k]? = (F[k]?).map fun (x : Nat) => (x : Int) := fun k => by unfold b9; rw [af2]
 have A4 : ∀ i, i < c -> (b9 F)[i]? ≠ some ((F.getD a 0 : Nat) : Int) := fun i hi z => by
   rw [hzI] at z
   obtain ⟨y, h1, h2⟩ := agg.mp z
   have h2 : (y : Int) = ((F.getD a 0 : Nat) : Int) := h2
   have : y = F.getD a 0 := by omega
   exact c3 i hi (by rw [h1, this])
 obtain ⟨s1, s2⟩ := Rq han hcn (by rw [af6 (i := c), c2]; rfl)
 refine aR E.g E.yL (II (j := c) (aO E.aM) (ah (fu (v_ E.aM.1) (aO E.bV) uO)) (by rw [hzI, c2]; rfl) A4) ?_
 refine g7 E.g E.dg (fun j δ => ∃ (o4 o5 : Option T), δ = [some (.sh (.lst [.lst (bs.map dR), .lst (hs.map .str), .tup (bg.map It.d), .lst pr, .dct (cN (d7 R))])), some (.sh (.lst ((b9 F).map .int))), some (.sh (.int (a : Nat))), some (.sh (.int (c : Nat))), o4, o5]) (e9 (fu (v_ E.aK.1) (ah aj) (aN (j := 1) rfl))) ⟨_, _, rfl⟩ (fun j δ ⟨_, _, e⟩ => by subst e; exact afV rfl) ?um ?fin2
 case fin2 =>
   rintro δ ⟨o4, o5, rfl⟩
   exact aF ⟨_, _, _, _, rfl⟩
 case um =>
 rintro j d δ hj ⟨o4, o5, rfl⟩
 rw [af2] at hj
 obtain ⟨x, hx, rfl⟩ := agg.mp hj
 have zF := af8 hx
 obtain ⟨e1, e2⟩ := J2 s1 s2 zF
 have ra := ht.row han zF
 have rc := ht.row hcn zF
 have la := xO ht han zF Mh
 have lc := xO ht hcn zF Mh
 have dA : ic 60 (.lst ((gZ R a x).map zE)) := .lst fun d hd => by
   obtain ⟨r, hr, rfl⟩ := afZ.mp hd
   exact UI (ra.2.2 r hr)
 refine jC (qw E.u (d1 := .lst ((gZ R a x).map zE)) (d2 := .lst ((gZ R a x).map zE)) (ah (rW (c_ (bs, hs, bg, pr, R, a, x, n) E.qc E.gJ (ai (aO E.aK) (ai (aO E.bV) (ai (aO E.dg) aE))) ra (qF ra.2.2)) (xR _))) (ah (rW (c_ (bs, hs, bg, pr, R, c, x, n) E.qc E.gJ (ai (aO E.aK) (ai (aO E.yL) (ai (aO E.dg) aE))) rc (qF rc.2.2)) (by rw [e1]; exact xR _))) dA dA).1 (fun hp => absurd hp (Ri dA)) (fun _ => aF ?_)
 have cm : ∀ l : List R7, ((l.map gV).filter fun _ => true).map (fun d => T.sh (.int (F.getD (toN d) 0 : Nat))) = ((b9 (l.map fun r => F.getD r.2.2 0)).map L3.D.int).map T.sh := fun l => by
   rw [dZ]
   unfold b9
   simp only [agh]
   refine agT fun r _ => ?_
   show T.sh (.int (F.getD (toN (gV r)) 0 : Nat)) = T.sh (.int (F.getD r.2.2 0 : Nat))
   rw [t6]
 refine lD (p := fun _ => true) (gg := fun d => T.sh (.int (F.getD (toN d) 0 : Nat))) E.g E.KD (bw (.cons E.aM.1 (.inl E.nh) .nil) (by decide +kernel)) (e9 (jD (mE a x) E.u (fu (v_ E.aK.1) (ah aj) (aN (j := 4) rfl)) (aB (jQ (bY (v_ E.bV.1) (bY (v_ E.dg.1) dP)) (aq rfl)) (t2 := fB (mE a x)) rfl) (j4 ra.1))) (.inr rfl) (fun C s0 H0 f0 b' d hd => ?uq) (by rw [afO, age]; have := ra.2.1; omega) ?rest (by exact afV rfl) (gO ⟨_, rfl⟩)
 case uq =>
   obtain ⟨r, hr, rfl⟩ := afZ.mp hd
   refine ⟨rfl, fun _ => aB (fu (v_ (cJ (i := 1) rfl (by decide +kernel))) (gA (ah (v_ (ck (i := 0) rfl (by decide +kernel)))) (ah aj) (aN (j := 2) rfl)) (la r hr)) ?_⟩
   show T.sh _ = T.sh (.int (F.getD (toN (gV r)) 0 : Nat))
   rw [t6]
 case rest =>
 rw [cm]
 have dM : ic 60 (.lst ((b9 ((gZ R a x).map fun r => F.getD r.2.2 0)).map L3.D.int)) := .lst fun d hd => by
   obtain ⟨i, _, rfl⟩ := afZ.mp hd
   exact .int _ _
 refine jC (qw E.u (d1 := .lst ((b9 ((gZ R a x).map fun r => F.getD r.2.2 0)).map L3.D.int)) (d2 := .lst ((b9 ((gZ R a x).map fun r => F.getD r.2.2 0)).map L3.D.int)) (vL E.KD.1) (cD (aB (fX (p := fun _ => true) (g := fun d => T.sh (.int (F.getD (toN d) 0 : Nat))) (bw (.cons E.aM.1 (.inl E.nh) .nil) (by decide +kernel)) E.g.calm (e9 (jD (mE c x) E.u (fu (v_ E.aK.1) (ah aj) (aN (j := 4) rfl)) (aB (jQ (bY (v_ E.yL.1) (bY (v_ E.dg.1) dP)) (aq rfl)) (t2 := fB (mE c x)) rfl) (j4 rc.1))) (.inr rfl) (fun C s0 H0 f0 b' d hd => ?Cg) (by rw [afO, age]; have := rc.2.1; omega)) (t2 := .lst (((b9 ((gZ R a x).map fun r => F.getD r.2.2 0)).map L3.D.int).map T.sh)) (by rw [cm, e2]))) dM dM).1 (fun hp => absurd hp (Ri dM)) (fun _ => aF (aF ⟨_, _, rfl⟩))
 case Cg =>
   obtain ⟨r, hr, rfl⟩ := afZ.mp hd
   refine ⟨rfl, fun _ => aB (fu (v_ (cJ (i := 1) rfl (by decide +kernel))) (gA (ah (v_ (ck (i := 0) rfl (by decide +kernel)))) (ah aj) (aN (j := 2) rfl)) (lc r hr)) ?_⟩
   show T.sh _ = T.sh (.int (F.getD (toN (gV r)) 0 : Nat))
   rw [t6]
theorem fq : kU (au yJ) ([("parts", av), ("found", .cell), ("flat", av), ("other", av), ("sign", av), ("mine", av), ("_law_numbered", aC), ("len", aC), ("max", aC), ("_law_classes", aC), ("range", aC), ("_law_facing", aC)]) = true := by decide +kernel
theorem Pw : aQ ["parts", "found", "flat", "other", "sign", "mine"] ["parts", "found"] (au yJ) := aZ
noncomputable abbrev qg : Stmt := top 28
noncomputable abbrev qh : Type := (List (Str × Int)) × List Str × List It × List L3.D × (List (bC × List R7))
noncomputable def ku : qh -> List L3.D := fun (bs, hs, bg, pr, R) => [pB (bs.map dR) (hs.map .str) (bg.map It.d) pr (d7 R), Oa bs hs bg pr R]
noncomputable def kB : qh -> Prop := fun (bs, hs, bg, pr, R) => A8 bs hs bg pr R
noncomputable def kC : qh -> T := fun (bs, hs, bg, pr, R) => (.sh (.bl true) : T)
structure KG (X : Cx) (CL : Str -> Addr) : Prop extends cP X where
 bJ : Ln X 0 "table"
 aK : Ln X 1 "parts"
 bT : wG X.K (CL "Table")
 jn : bU X.K (CL "Table") "boxes"
 dQ : bU X.K (CL "Table") "signs"
 jo : bU X.K (CL "Table") "begin"
 fE : bU X.K (CL "Table") "flats"
 cF : bU X.K (CL "Table") "rows"
theorem KH {X : Cx} {CL : Str -> Addr} {b : Bx} (E : KG X CL) {cA : qh} (h : kB cA) :
   aD X CL b qg ["table", "parts"] (ku cA) (kC cA) := by
 obtain ⟨bs, hs, bg, pr, R⟩ := cA
 dsimp only [aD, kB, ku, kC] at h ⊢
 have h : A8 bs hs bg pr R := h
 show dw X CL b _ [some (.sh (pB (bs.map dR) (hs.map .str) (bg.map It.d) pr (d7 R))), some (.sh (.lst [.lst (bs.map dR), .lst (hs.map .str), .tup (bg.map It.d), .lst pr, .dct (cN (d7 R))]))] _
 refine jC (uW (oU (qw E.u (qz E.bT E.jn (aO E.bJ) Au) (cC (aO E.aK) (ah aj) (aN (j := 0) rfl)) h.d0 h.d0).1 (fun _ => oU (qw E.u (qz E.bT E.dQ (aO E.bJ) lH) (cC (aO E.aK) (ah aj) (aN (j := 1) rfl)) h.d1 h.d1).1 (fun _ => ly (qw E.u (qz E.bT E.jo (aO E.bJ) Av) (cC (aO E.aK) (ah aj) (aN (j := 2) rfl)) h.d2 h.d2).1)))) (fun hp => absurd hp (YN h.d0 h.d1 h.d2)) (fun _ => aF ?_)
 exact bX (aB (HX (By E.u (qz E.bT E.fE (aO E.bJ) rg) (cC (aO E.aK) (ah aj) (aN (j := 3) rfl)) h.d3 h.d3).2 (fun _ => Bu (Nx E.u (qz E.bT E.cF (aO E.bJ) nX) (cC (aO E.aK) (ah aj) (aN (j := 4) rfl)) h.d4).2)) (t2 := .sh (.bl true)) (by rw [iL h.d3]; rfl)) rfl
theorem v9 : kU (au qg) ([("table", av), ("parts", av)]) = true := by decide +kernel
theorem Gp : aQ ["table", "parts"] ["table", "parts"] (au qg) := aZ
noncomputable abbrev Eu : Stmt := top 36
noncomputable abbrev KJ : Type := List Int
noncomputable def ny : KJ -> List L3.D := fun a => [.lst (a.map .int)]
noncomputable def nA : KJ -> Prop := fun a => a.length <= 63
noncomputable def nB : KJ -> T := fun a => (.sh (.bl true) : T)
structure Zd (X : Cx) (CL : Str -> Addr) : Prop extends cP X where
 aP : Ln X 0 "script"
 aK : Ln X 1 "parts"
 bJ : Ln X 2 "table"
 aM : Ln X 3 "found"
 Ew : Ln X 4 "first"
 qH : Ln X 5 "at"
 dg : Ln X 6 "sign"
 yN : Gl X "_law_parts"
 yO : Gl X "_law_table"
 jL : Gl X "classes"
 rA : Gl X "_law_good"
 nL : Gl X "_law_stayed"
 fJ : Gl X "list"
 aL : Gl X "_law_cell_at"
 cg : Gl X "len"
 Px : Fc X CL "_law_parts" 6 3 mS mU mV
 Py : Fc X CL "_law_table" 3 1 mX mY mZ
 qM : Fc X CL "classes" 4 1 ja jb jc
 KL : Fc X CL "_law_good" 5 2 qd qe qf
 AY : Fc X CL "_law_stayed" 1 2 ku kB kC
 fK : X.mg "list" = none
 bE : Fc X CL "_law_cell_at" 1 2 cX cY cZ
 cj : X.mg "len" = none
 bT : wG X.K (CL "Table")
 cF : bU X.K (CL "Table") "rows"
theorem Ze {X : Cx} {CL : Str -> Addr} {b : Bx} (E : Zd X CL) {a} (h : nA a) :
   aD X CL b Eu ["script", "parts", "table", "found", "first", "at", "sign"] (ny a) (nB a) := by
 dsimp only [aD, nA, ny, nB] at h ⊢
 have hs : a.length <= 1000 := by omega
 have z1 : (0 : Int) <= 1 := by decide
 have KN := UK a (q := 40) (by decide) false
 have hn := Ek a 40
 have hnb := YS a (q := 40) (by decide)
 have hsg := xG a
 refine aR E.g E.aK (aB (c_ (a, 40, false) E.Px E.yN (ai (aO E.aP) (ai (ah aj) (ai (ah Dq) aE))) ⟨hs, by decide⟩ (F5 KN)) (t2 := N9 (uN a) (iG a) (UE a) (Rh a 40) (F3 a 40 false)) rfl) ?_
 have h5 := YT a 40 false
 generalize F3 a 40 false = R at KN h5 ⊢
 generalize uN a = bs at KN ⊢
 generalize UE a = bg at KN ⊢
 generalize iG a = mq at KN hsg ⊢
 generalize Rh a 40 = pr at KN hn ⊢
 generalize n7 a 40 = n at hn hnb
 have tb := KN.t
 refine aR E.g E.bJ (aB (c_ (bs, mq, bg, pr, R) E.Py E.yO (ai (vE E.aK.1 rfl (pF ..)) aE) ⟨KN.i, tb.c, tb.d, fun q hq r hr => ((tb.b q hq).2 r hr).b⟩ (F6 KN)) (t2 := .ins "Table" (kW (bs.map dR) (mq.map .str) (bg.map It.d) pr (d7 R))) rfl) ?_
 refine aR E.g E.aM (aB (c_ (bs.map dR, bg.map It.d, pr, mq, R) E.qM E.jL (ai (vE E.bJ.1 rfl (lI ..)) aE) tb (bF (f7 _))) (t2 := .lst (((b9 (eV R mq pr.length)).map .int).map T.sh)) rfl) ?_
 refine jC (uW (oU (lu (lq (aB (c_ (bs, mq, bg, pr, R) E.KL E.rA (ai (vE E.aK.1 rfl (pF ..)) (ai (vL E.aM.1) aE)) tb rfl) (t2 := .sh (.bl true)) rfl))) (fun _ => ly (lu (lq (aB (c_ (bs, mq, bg, pr, R) E.AY E.nL (ai (vE E.bJ.1 rfl (lI ..)) (ai (vE E.aK.1 rfl (pF ..)) aE)) KN rfl) (t2 := .sh (.bl true)) rfl)))))) (fun hp => by cases hp) (fun _ => aF ?_)
 refine aR E.g E.Ew (fU E.fK (vL E.aM.1) (f7 _) E.fJ c7) ?_
 have hfl : (((b9 (eV R mq pr.length)).map L3.D.int).map T.sh).length <= 1000000 := by rw [afO, afO, eX, show (eV R mq pr.length).length = pr.length from sf _]; omega
 refine qY E.aM.1 rfl aj rfl hfl ?_
 have hp0 : 0 < pr.length := by omega
 obtain ⟨w0, w1⟩ := D3 (x := aW a 1) hp0
 obtain ⟨g8, uO⟩ : ∃ i : Nat, i = (aW a 1 % (pr.length : Int)).toNat := ⟨_, rfl⟩
 refine aR E.g E.qH (aB (bq (ah (c_ ((a, 1)) E.bE E.aL (ai (aO E.aP) (ai (ah aj) aE)) (z1) rfl)) (ah (cy rfl E.cj (rX (p := [.ix 3]) (u := .lst (pr.map T.sh)) (tQ (j := 3) (jV E.aK.1 rfl) rfl rfl (ah aj) rfl) rfl rfl (fj _)) E.cg)) (by omega)) (t2 := .sh (.int (g8 : Nat))) (by rw [uO, ahH w0])) ?_
 rw [← uO] at w1
 clear uO w0
 have acs : cutD (mq.map L3.D.str) none (some 1) = (mq.take 1).map .str := by rw [n6 (z := 1) (k := 1) rfl, ahB]
 have ib : D.aY (bs.map dR) = true := gQ (fun _ => rfl) _
 refine g7 E.g E.dg (fun j δ => ∃ (o : Option T) (R2 : List (bC × List R7)), A8 bs mq bg pr R2 /\ (mq = [] -> R2 = R) /\ (j = 0 -> R2 = R) /\ δ = [some (.sh (.lst (a.map .int))), some (N9 bs mq bg pr R2), some (.ins "Table" (kW (bs.map dR) (mq.map .str) (bg.map It.d) pr (d7 R2))), some (.lst (((b9 (eV R mq pr.length)).map .int).map T.sh ++ [.sh (.int 0)])), some (.lst (((b9 (eV R mq pr.length)).map .int).map T.sh)), some (.sh (.int (g8 : Nat))), o]) (e9 (M7 (aB (lz (ds := mq.map .str) (rX (p := [.ix 1]) (u := .lst ((mq.map .str).map T.sh)) (tQ (j := 1) (jV E.aK.1 rfl) rfl rfl (ah aj) rfl) rfl rfl (fj _)) (dX _) iV (iW (ah aj))) (t2 := .lst (((mq.take 1).map .str).map T.sh)) (by rw [acs])))) ⟨_, R, KN, fun _ => rfl, fun _ => rfl, rfl⟩ (fun j δ ⟨_, _, _, _, _, e⟩ => by subst e; exact afV rfl) ?turn ?fin
 case turn =>
   rintro j d δ hj ⟨o, R2, hR, hR0, hR1, rfl⟩
   rw [af2] at hj
   obtain ⟨x, hx, rfl⟩ := agg.mp hj
   have zF : x ∈ mq := ag8 (af8 hx)
   have hj0 : j = 0 := by
     have := (af5.mp hx).1
     rw [agv] at this
     omega
   obtain rfl := hR1 hj0
   have Rr := hR.t
   obtain ⟨q1, q2, q3⟩ := Rr.row w1 zF
   obtain ⟨r, hr⟩ : ∃ r : R7, r = ([], [It.fO (.say "more0" (-1) 5)], g8) := ⟨_, rfl⟩
   have WT : F4 pr.length r := by
     rw [hr]
     refine ⟨w1, rfl, (fun d hd => by cases hd), fun y hy => ?_, by show 1 <= 1000; decide⟩
     rw [agw.mp hy]
     exact t9 (by show PyData.strOk "more0" = true; decide +kernel)
   have hl5 : (gZ R2 g8 x).length <= 5 := h5 _ (xN q1)
   have Zf := AU q1
   have hvD := j4 q1
   have tb3 : rL (iM (mE g8 x) (gZ R2 g8 x ++ [r]) R2) mq pr.length := Rr.more (by rw [afY]; show _ + 1 <= 100; omega) fun y hy => by
     rcases af0.mp hy with z | z
     . exact q3 y z
     . rw [agw.mp z]; exact WT
   have er : (((gZ R2 g8 x) ++ [r]).map gV).map T.sh = ((gZ R2 g8 x).map gV).map T.sh ++ [T.sh (gV r)] := by rw [aga, aga]; rfl
   refine Ud (p := [.fld "rows", .key (mE g8 x)]) (Uk (mE g8 x) E.u (IY E.bT E.cF (jV E.bJ.1 rfl) rfl rfl gB) rfl (OD ..) (Dz (ah (aG (ds := [.int (g8 : Nat), .str x]) (ak (v_ E.qH.1) (ak (v_ E.dg.1) aI)) (aq rfl))) rfl) Zf) rfl (El Zf) (aB (aG (ds := [.tup [], .tup [(It.fO (.say "more0" (-1) 5)).d], .int (g8 : Nat)]) (ak (aG (ds := []) aI (aq rfl)) (ak (aB (aG (ak (aG (ak cS (ak cS (ak (aG (ak (gY (ah aj)) (ak aj aI)) (aq rfl)) aI))) (aq rfl)) aI) (aq rfl)) rfl) (ak (v_ E.qH.1) aI))) (aq rfl)) (t2 := .sh (gV r)) (by rw [hr]; rfl)) rfl (El Zf) (by rw [afO, afO]; omega) ?_
   refine Je (u := .lst (((gZ R2 g8 x).map gV).map T.sh)) (kvs := aT (d7 R2)) (mE g8 x) E.u (aB (rV (ds := (gZ R2 g8 x).map gV) (nJ := [gV r]) (Jd (mE g8 x) E.u (rX (p := [.ix 4]) (u := .dct (aT (d7 R2))) (d := .dct (cN (d7 R2))) (tQ (j := 4) (jV E.aK.1 rfl) rfl rfl (ah aj) rfl) rfl rfl (by rw [T.bK, mD])) (Dz (ah (aG (ds := [.int (g8 : Nat), .str x]) (ak (v_ E.qH.1) (ak (v_ E.dg.1) aI)) (aq rfl))) rfl) hvD) (cD (gE (ds := [gV r]) (ak (aB (aG (ds := [.tup [], .tup [(It.fO (.say "more0" (-1) 5)).d], .int (g8 : Nat)]) (ak (aG (ds := []) aI (aq rfl)) (ak (aB (aG (ak (aG (ak cS (ak cS (ak (aG (ak (gY (ah aj)) (ak aj aI)) (aq rfl)) aI))) (aq rfl)) aI) (aq rfl)) rfl) (ak (v_ E.qH.1) aI))) (aq rfl)) (t2 := .sh (gV r)) (by rw [hr]; rfl)) aI) (aq rfl))) (tU fun y hy => xQ (q3 y hy).b) (tU (f := gV) (l := [r]) fun y hy => by rw [agw.mp hy]; exact xQ WT.b) (by rw [afO, age]; show _ + 1 <= _; omega)) (t2 := .lst ((((gZ R2 g8 x) ++ [r]).map gV).map T.sh)) (by rw [er, aga]; rfl)) (tQ (j := 4) (jV E.aK.1 rfl) rfl rfl (ah aj) rfl) (Dz (ah (aG (ds := [.int (g8 : Nat), .str x]) (ak (v_ E.qH.1) (ak (v_ E.dg.1) aI)) (aq rfl))) rfl) rfl rfl Zf (by rw [jX, tW]; exact Rr.c) (aF ⟨some (.sh (.str x)), iM (mE g8 x) (gZ R2 g8 x ++ [r]) R2, ⟨tb3, hR.b, hR.g, hR.p, hR.i⟩, (fun z => by rw [z] at zF; cases zF), (fun z => by omega), ?_⟩)
   show [_, some (T.iS [.ix 4] (.dct ((aT (d7 R2)).map fun kv => if kv.1 = mE g8 x then (kv.1, T.lst ((((gZ R2 g8 x) ++ [r]).map gV).map T.sh)) else kv)) (N9 bs mq bg pr R2)), some (T.iS [.fld "rows", .key (mE g8 x)] (.lst (((gZ R2 g8 x).map gV).map T.sh ++ [T.sh (gV r)])) (.ins "Table" (kW (bs.map dR) (mq.map .str) (bg.map It.d) pr (d7 R2)))), _, _, _, _] = _
   rw [OB Zf (by rw [er]), AQ R2 Rr.c]
   rfl
 case fin =>
   rintro δ ⟨o, R2, hR, hR0, hR1, rfl⟩
   have Rr := hR.t
   refine jC (uW (oU (lu (lq (aB (c_ (bs, mq, bg, pr, R2) E.KL E.rA (ai (vE E.aK.1 rfl (pF ..)) (ai (cD (aB (c_ (bs.map dR, bg.map It.d, pr, mq, R2) E.qM E.jL (ai (vE E.bJ.1 rfl (lI ..)) aE) Rr (bF (f7 _))) (t2 := .lst (((b9 (eV R2 mq pr.length)).map .int).map T.sh)) rfl)) aE)) Rr rfl) (t2 := .sh (.bl true)) rfl))) (fun _ => ly (lu (lq (aB (c_ (bs, mq, bg, pr, R2) E.AY E.nL (ai (vE E.bJ.1 rfl (lI ..)) (ai (vE E.aK.1 rfl (pF ..)) aE)) hR rfl) (t2 := .sh (.bl true)) rfl)))))) (fun hp => by cases hp) (fun _ => aF ?_)
   have dI : ∀ l : List Int, ic 60 (.lst (l.map .int)) := fun l => .lst fun d hd => by obtain ⟨i, _, rfl⟩ := afZ.mp hd; exact .int _ _
   refine bX (aB (XU (qw E.u (d1 := .lst (mq.map .str)) (d2 := .lst (([] : List Str).map .str)) (rX (p := [.ix 1]) (u := .lst ((mq.map .str).map T.sh)) (tQ (j := 1) (jV E.aK.1 rfl) rfl rfl (ah aj) rfl) rfl rfl (fj _)) (cD (iK dP (agr _))) hR.d1 (.lst fun d hd => by cases hd)).2 (q := true) (fun hp => Bu (aB (By E.u (d1 := .lst ((b9 (eV R2 mq pr.length)).map .int)) (d2 := .lst ((b9 (eV R mq pr.length)).map .int)) (cD (aB (c_ (bs.map dR, bg.map It.d, pr, mq, R2) E.qM E.jL (ai (vE E.bJ.1 rfl (lI ..)) aE) Rr (bF (f7 _))) (t2 := .lst (((b9 (eV R2 mq pr.length)).map .int).map T.sh)) rfl)) (vL E.Ew.1) (dI _) (dI _)).2 (t2 := .sh (.bl true)) ?same))) (t2 := .sh (.bl true)) (by rw [Bool.or_true])) rfl
   case same =>
     have acu : mq = [] := by
       cases mq with
       | nil => rfl
       | cons y ys => cases hp
     rw [hR0 acu, iL (dI _)]
theorem fL : kU (au Eu) ([("script", av), ("parts", av), ("table", av), ("found", av), ("first", av), ("at", av), ("sign", av), ("_law_parts", aC), ("_law_table", aC), ("classes", aC), ("_law_good", aC), ("_law_stayed", aC), ("list", aC), ("_law_cell_at", aC), ("len", aC)]) = true := by decide +kernel
theorem KP : aQ ["script", "parts", "table", "found", "first", "at", "sign"] ["script"] (au Eu) := aZ
noncomputable def cl (aH : Addr) : Str -> Addr := fun c => if c = "Table" then aH else 0
theorem gU {aH : Addr} : cl aH "Table" = aH := by unfold cl; rw [agb rfl]
theorem Vs {aH : Addr} {x : Str} (h : Dm x = true) : cl aH x = 0 := by unfold cl; rw [af1 (fun e => by rw [e] at h; exact absurd h (by decide +kernel))]
theorem all_mk {l : PySem.W.OpenLaw} {w : World} {K : PySem.W.Frag} {h : Heap} {mg : Str -> Option Value} {fa KQ wc Ex Ey Ez KR KS Rt KW EA KY AZ KZ EB iE EC uz K0 wg K1 Ru wj ED nM A0 wk A1 f_look qi K2 A2 Rw aH : Addr} (XX : K.In h) (G : h.Ns mainGlobals mg) (hfa : mg "law" = some (.ref fa))
   {Vt Gq Pz PB PD Vu Vv Zg Vw PF Vx K3 Vy PJ yP PK ki Vz Gr VA Zh jL PL vh K4 Gs K5 VB yQ VC K6 Rx : FuncData}
   (yR : mC K "Table" aH) (uA : PySem.W.plainGet K aH Str.empty = true) (uB : PySem.W.hasDictIn K aH = true) (uC : PySem.W.plainOver K aH = true) (uD : PySem.W.findIn K (.ref aH) "__setattr__" = some (some (.builtin "object.__setattr__"))) (uE : PySem.W.makesIn K aH = true) (uF : PySem.W.keepIn K (.ref aH) = true)
   (jq : PySem.W.findIn K (.ref aH) "boxes" = some none)
   (jr : PySem.W.findIn K (.ref aH) "signs" = some none)
   (jt : PySem.W.findIn K (.ref aH) "begin" = some none)
   (ju : PySem.W.findIn K (.ref aH) "flats" = some none)
   (kD : PySem.W.findIn K (.ref aH) "rows" = some none)
   (Cu : mC K "_law_name" KQ) (VD : jM K "_law_name" "_law_name" xS KQ Vt)
   (qN : mC K "_law_cell_at" wc) (Gu : jM K "_law_cell_at" "_law_cell_at" mH wc Gq)
   (yS : mC K "_law_mixed" Ex) (PN : jM K "_law_mixed" "_law_mixed" sr Ex Pz)
   (yT : mC K "_law_signs" Ey) (PR : jM K "_law_signs" "_law_signs" sy Ey PB)
   (yU : mC K "_law_small" Ez) (PV : jM K "_law_small" "_law_small" sA Ez PD)
   (Cv : mC K "_law_term" KR) (VF : jM K "_law_term" "_law_term" xW KR Vu)
   (Cw : mC K "_law_deed" KS) (VG : jM K "_law_deed" "_law_deed" x8 KS Vv)
   (K7 : mC K "_law_ask" Rt) (Zi : jM K "_law_ask" "_law_ask" En Rt Zg)
   (Cy : mC K "_law_face" KW) (VH : jM K "_law_face" "_law_face" yb KW Vw)
   (yV : mC K "_law_faces" EA) (PX : jM K "_law_faces" "_law_faces" sG EA PF)
   (Cz : mC K "_law_next" KY) (VJ : jM K "_law_next" "_law_next" yg KY Vx)
   (uG : mC K "_law_marked" AZ) (K8 : jM K "_law_marked" "_law_marked" pN AZ K3)
   (CB : mC K "_law_flat" KZ) (VL : jM K "_law_flat" "_law_flat" yi KZ Vy)
   (yW : mC K "_law_parts" EB) (PY : jM K "_law_parts" "_law_parts" sJ EB PJ)
   (kE : PySem.W.findIn K (.ref aH) "__init__" = some (some (.ref iE))) (kF : PySem.W.isFn K (.ref iE) = true) (qj : jM K "__init__" "Table.__init__" iu iE yP)
   (yX : mC K "_law_table" EC) (PZ : jM K "_law_table" "_law_table" sO EC PK)
   (ou : mC K "numbered" uz) (CD : jM K "numbered" "numbered" kg uz ki)
   (CF : mC K "told" K0) (VM : jM K "told" "told" yr K0 Vz)
   (qO : mC K "seen_at" wg) (Gv : jM K "seen_at" "seen_at" m5 wg Gr)
   (CG : mC K "seen" K1) (VN : jM K "seen" "seen" yu K1 VA)
   (K9 : mC K "led" Ru) (Zj : jM K "led" "led" Es Ru Zh)
   (qP : mC K "classes" wj) (Gw : jM K "classes" "classes" m9 wj jL)
   (yZ : mC K "_law_whole" ED) (P0 : jM K "_law_whole" "_law_whole" sU ED PL)
   (jv : mC K "_law_numbered" nM) (vm : jM K "_law_numbered" "_law_numbered" gH nM vh)
   (uH : mC K "_law_led" A0) (La : jM K "_law_led" "_law_led" p5 A0 K4)
   (qQ : mC K "_law_told" wk) (Gy : jM K "_law_told" "_law_told" nq wk Gs)
   (uI : mC K "_law_facing" A1) (Lb : jM K "_law_facing" "_law_facing" p7 A1 K5)
   (CH : mC K "_law_look" f_look) (VP : jM K "_law_look" "_law_look" yC f_look VB)
   (kG : mC K "_law_classes" qi) (y9 : jM K "_law_classes" "_law_classes" iC qi yQ)
   (CJ : mC K "_law_good" K2) (VQ : jM K "_law_good" "_law_good" yJ K2 VC)
   (uJ : mC K "_law_stayed" A2) (Lc : jM K "_law_stayed" "_law_stayed" qg A2 K6)
   (EE : mC K "law" Rw) (Ld : jM K "law" "law" Eu Rw Rx)
   (zb : PySem.W.nsIn K mainGlobals "range" = some none)
   (Le : PySem.W.nsIn K mainGlobals "len" = some none)
   (Lf : PySem.W.nsIn K mainGlobals "max" = some none)
   (zc : PySem.W.nsIn K mainGlobals "tuple" = some none)
   (CK : PySem.W.nsIn K mainGlobals "list" = some none)
   (Lg : PySem.W.nsIn K mainGlobals "min" = some none)
   (Lh : PySem.W.nsIn K mainGlobals "str" = some none)
   {EF : Addr} {Li : Option Addr} {yt : Nat} {Lj : Array (Option Value)} {CM CN CP CQ : Tok} (zf : PySem.W.nsIn K mainGlobals "MARKS" = some (some (.ref EF))) (uK : K.lookup EF = some ⟨.type "tuple", Li, .seq #[.str "out" CM, .str "keep" CN, .str "way" CP, .str "in" CQ] yt, Lj⟩)
   (Lk : PySem.W.nsIn K mainGlobals "set" = some none)
   (kH : PySem.W.nsIn K mainGlobals "isinstance" = some none)
   (Lp : PySem.W.nsIn K mainGlobals "int" = some none)
   (y_bool : PySem.W.nsIn K mainGlobals "bool" = some none)
   : ∃ fd : FuncData, (∀ (s : Shared) (v : Value), BindsTo s fd ⟨[v], []⟩ [("script", v)]) /\ ∀ base : Heap, K.In base -> base.Ns mainGlobals mg -> g9 l.prog w K mg base vI 7 fa fd ["script"] (GZ K (fun _ => 0) 1 ny nA nB) := by
 have e := hfa.symm.trans (aih XX G EE)
 cases e
 have zg := qj.binds (ps := ["self", "boxes", "signs", "begin", "flats", "rows"]) fun _ _ _ _ _ _ => by refine BL ?_; exact fun _ _ _ _ _ _ => rfl
 have adA := aih XX G EE
 have adB := Ld.binds (ps := ["script"]) fun _ _ _ _ _ _ => by refine BL ?_; exact fun _ => rfl
 have P1 := aih XX G yR
 have bT : wG K aH := ⟨uA, uB, uC, uD⟩
 have kI : wG K ((cl aH) "Table") := by rw [gU]; exact bT
 have nO : bU K ((cl aH) "Table") "boxes" := by rw [gU]; exact jq
 have gK : bU K ((cl aH) "Table") "signs" := by rw [gU]; exact jr
 have nP : bU K ((cl aH) "Table") "begin" := by rw [gU]; exact jt
 have jw : bU K ((cl aH) "Table") "flats" := by rw [gU]; exact ju
 have gn : bU K ((cl aH) "Table") "rows" := by rw [gU]; exact kD
 have jg := agR XX G zb
 have kQ := agR XX G Le
 have wm := agR XX G Lf
 have jh := agR XX G zc
 have uL := agR XX G CK
 have Zk := agR XX G Lg
 have Zm := agR XX G Lh
 have P4 := aih XX G zf
 have Zn := agR XX G Lk
 have qk := agR XX G kH
 have Zo := agR XX G Lp
 have VR := agR XX G y_bool
 refine ⟨Rx, ?bind, fun base _ _ => ?_⟩
 case bind =>
   obtain ⟨oc, od, kV, doc, pm, an, ji, ct, Hz, rfl, lk, kK⟩ := Ld.ex
   exact fun s v => .of_eq rfl
 have q := @Ug l.prog w mg base K h (cl aH) XX G
 have Lq := q 0 lM lN lO VD OG Cu fun _ _ _ _ _ _ _ _ hr u p => UQ (by exact ⟨u, bI mG 0, bI mG 1, bI mG 2, bI mG 3, bI mG 4, dU mG 5, jg⟩) p
 have gD := q 0 cX cY cZ Gu Cd qN fun _ _ _ _ _ _ _ _ hr u p => F9 (by exact ⟨u, bI oi 0, bI oi 1, dU oi 2, kQ⟩) p
 have kJ := q 0 eN eO eS PN J7 yS fun _ _ _ _ _ _ _ _ hr u p => OJ (by exact ⟨u, bI uc 0, bI uc 1, bI uc 2⟩) p
 have P5 := q 1 mK mL mO PR J8 yT fun _ _ _ _ _ _ _ _ hr u p => OO (by exact ⟨u, bI gb 0, bI gb 1, bI gb 2, bI gb 3, bI gb 4, bI gb 5, dU gb 6, dU gb 7, dU gb 8, c9 Lq hr, c9 gD hr, c9 kJ hr⟩) p
 have EG := q 0 jF jG jH PV J9 yU fun _ _ _ _ _ _ _ _ hr u p => OS (by exact ⟨u, bI AV 0, bI AV 1⟩) p
 have Lr := q 1 lP lQ lR VF OU Cv fun _ _ _ _ _ _ _ _ hr u p => UU (by exact ⟨u, bI x6 0, bI x6 1, dU x6 2, c9 EG hr⟩) p
 have Ls := q 2 lS iO lT VG OV Cw fun _ _ _ _ _ _ _ _ hr u p => UX (by exact ⟨u, bI iY 0, bI iY 1, bI iY 2, bI iY 3, bI iY 4, dU iY 5, dU iY 6, dU iY 7, c9 Lq hr, kQ, c9 Lr hr⟩) p
 have Zq := q 2 sC sE sF Zi UY K7 fun _ _ _ _ _ _ _ _ hr u p => YX (by exact ⟨u, bI ug 0, bI ug 1, bI ug 2, dU ug 3, dU ug 4, c9 kJ hr, c9 Lr hr⟩) p
 have VW := q 3 pI jI pJ VH OX Cy fun _ _ _ _ _ _ _ _ hr u p => U1 (by exact ⟨u, bI bZ 0, zB bZ 1, cE bZ 1 rfl, bI bZ 2, zB bZ 3, cE bZ 3 rfl, zB bZ 4, cE bZ 4 rfl, bI bZ 5, zB bZ 6, cE bZ 6 rfl, bI bZ 7, bI bZ 8, zB bZ 9, cE bZ 9 rfl, bI bZ 10, bI bZ 11, dU bZ 12, dU bZ 13, dU bZ 14, dU bZ 15, dU bZ 16, dU bZ 17, dU bZ 18, c9 gD hr, wm, kQ, c9 kJ hr, jg, jh, c9 Ls hr, c9 Zq hr⟩) p
 have P6 := q 4 mP mQ mR PX Kh yV fun _ _ _ _ _ _ _ _ hr u p => OZ (by exact ⟨u, bI cQ 0, bI cQ 1, bI cQ 2, bI cQ 3, bI cQ 4, bI cQ 5, bI cQ 6, bI cQ 7, bI cQ 8, bI cQ 9, bI cQ 10, dU cQ 11, dU cQ 12, dU cQ 13, dU cQ 14, dU cQ 15, c9 kJ hr, c9 gD hr, jg, c9 VW hr, kQ⟩) p
 have VX := q 1 pK pL pM VJ O2 Cz fun _ _ _ _ _ _ _ _ hr u p => U6 (by exact ⟨u, bI dO 0, zB dO 1, cE dO 1 rfl, bI dO 2, bI dO 3, bI dO 4, bI dO 5, bI dO 6, zB dO 7, cE dO 7 rfl, bI dO 8, dU dO 9, dU dO 10, dU dO 11, dU dO 12, dU dO 13, dU dO 14, wm, c9 kJ hr, c9 gD hr, jg, kQ, uL⟩) p
 have Lv := q 0 j5 j6 j7 K8 Ga uG fun _ _ _ _ _ _ _ _ hr u p => Ko (by exact ⟨u, bI jJ 0, bI jJ 1, bI jJ 2, bI jJ 3, bI jJ 4⟩) p
 have VY := q 1 pP lW pQ VL O4 CB fun _ _ _ _ _ _ _ _ hr u p => U8 (by exact ⟨u, bI j8 0, bI j8 1, bI j8 2, bI j8 3, dU j8 4, dU j8 5, dU j8 6, c9 kJ hr, c9 gD hr, jh⟩) p
 have P7 := q 5 mS mU mV PY Kq yW fun _ _ _ _ _ _ _ _ hr u p => O9 (by exact ⟨u, zB aS 0, cE aS 0 rfl, bI aS 1, bI aS 2, zB aS 3, cE aS 3 rfl, bI aS 4, bI aS 5, zB aS 6, cE aS 6 rfl, bI aS 7, bI aS 8, bI aS 9, bI aS 10, bI aS 11, bI aS 12, bI aS 13, bI aS 14, bI aS 15, bI aS 16, bI aS 17, dU aS 18, dU aS 19, dU aS 20, dU aS 21, dU aS 22, dU aS 23, dU aS 24, dU aS 25, dU aS 26, dU aS 27, dU aS 28, wm, Zk, kQ, c9 P5 hr, jg, c9 kJ hr, c9 gD hr, c9 P6 hr, c9 VX hr, c9 Lv hr, c9 Ls hr, Zm, c9 EG hr, c9 VY hr⟩) p
 have zj : g9 l.prog w K mg base vI 1 iE _ ["self", "boxes", "signs", "begin", "flats", "rows"] (ZW K (cl aH) "Table" 6 lX lY lZ) := M0 qj nK fun ji Ar outer s H E b a y hr hp => by
   obtain ⟨p0, p1, p2, p3, p4⟩ := a; refine yq ?_ p0 p1 p2 p3 p4 y hp
   exact ⟨⟨⟨nK.nd, rfl, .never⟩, hr.units⟩, bI cG 0, bI cG 1, bI cG 2, bI cG 3, bI cG 4, bI cG 5, bI cG 6, dU cG 7, dU cG 8, uL, jh, kI, nO, gK, nP, jw, gn⟩
 have P8 := q 2 mX mY mZ PZ Kr yX fun _ _ _ _ _ _ _ _ hr u p => Ph (by exact ⟨u, bI jK 0, bI jK 1, bI jK 2, bI jK 3, dU jK 4, dU jK 5, uL, ⟨⟨_, _, _, by rw [gU]; exact ⟨uE, kE, kF, uF⟩, zj, by rw [gU]; exact P1, zg⟩, hr.mono (by decide)⟩⟩) p
 have CT := q 0 iw iy iz CD AX ou fun _ _ _ _ _ _ _ _ hr u p => Cj (by exact ⟨u, bI gT 0, zB gT 1, cE gT 1 rfl, bI gT 2, dU gT 3, kQ⟩) p
 have VZ := q 0 pS pT pU VM Pk CF fun _ _ _ _ _ _ _ _ hr u p => Vd (by exact ⟨u, bI Pj 0, Yj P4 uK (aq rfl) (.cons ⟨_, rfl⟩ (.cons ⟨_, rfl⟩ (.cons ⟨_, rfl⟩ (.cons ⟨_, rfl⟩ (.nil)))))⟩) p
 have Gz := q 1 i6 i7 i9 Gv Cm qO fun _ _ _ _ _ _ _ _ hr u p => Ge (by exact ⟨u, bI kh 0, bI kh 1, bI kh 2, dU kh 3, jh, c9 VZ hr, kI, gn⟩) p
 have V0 := q 2 pV pW pX VN Pn CG fun _ _ _ _ _ _ _ _ hr u p => Vg (by exact ⟨u, zB pY 0, cE pY 0 rfl, zB pY 1, cE pY 1 rfl, dU pY 2, jh, c9 Gz hr, kI, gK⟩) p
 have Zr := q 0 sQ sR sS Zj Vh K9 fun _ _ _ _ _ _ _ _ hr u p => Y9 (by exact ⟨u, bI oq 0, bI oq 1, bI oq 2, bI oq 3, bI oq 4, bI oq 5, dU oq 6, jh, kI, gK, gn⟩) p
 have GA := q 3 ja jb jc Gw Cp qP fun _ _ _ _ _ _ _ _ hr u p => Gh (by exact ⟨u, zB d8 0, cE d8 0 rfl, zB d8 1, cE d8 1 rfl, bI d8 2, dU d8 3, dU d8 4, dU d8 5, dU d8 6, c9 CT hr, jg, kQ, Zn, c9 V0 hr, c9 Zr hr, kI, jw⟩) p
 have P9 := q 0 ni nj nk P0 Ku yZ fun _ _ _ _ _ _ _ _ hr u p => Pq (by exact ⟨u, bI pZ 0, dU pZ 1, dU pZ 2, dU pZ 3, qk, Zo, VR⟩) p
 have vn := q 1 fF fG fH vm uw jv fun _ _ _ _ _ _ _ _ hr u p => ve (by exact ⟨u, bI b8 0, bI b8 1, bI b8 2, bI b8 3, dU b8 4, dU b8 5, dU b8 6, dU b8 7, dU b8 8, qk, uL, kQ, c9 P9 hr, wm⟩) p
 have Lw := q 0 kj ko kr La Gi uH fun _ _ _ _ _ _ _ _ hr u p => Kw (by exact ⟨u, bI gC 0, bI gC 1, zB gC 2, cE gC 2 rfl, bI gC 3, bI gC 4, dU gC 5, jh⟩) p
 have GB := q 0 jd je jf Gy Cr qQ fun _ _ _ _ _ _ _ _ hr u p => Gk (by exact ⟨u, bI Cq 0⟩) p
 have A3 := q 1 iP iQ iR Lb Gn uI fun _ _ _ _ _ _ _ _ hr u p => Ky (by exact ⟨u, bI qL 0, bI qL 1, bI qL 2, c9 GB hr⟩) p
 have V1 := q 2 p9 qa qb VP Pu CH fun _ _ _ _ _ _ _ _ hr u p => Vm (by exact ⟨u, bI nu 0, bI nu 1, bI nu 2, bI nu 3, dU nu 4, dU nu 5, jh, c9 A3 hr⟩) p
 have zk := q 3 gi gj gk y9 vf kG fun _ _ _ _ _ _ _ _ hr u p => yI (by exact ⟨u, zB bA 0, cE bA 0 rfl, bI bA 1, bI bA 2, bI bA 3, bI bA 4, bI bA 5, bI bA 6, bI bA 7, dU bA 8, dU bA 9, dU bA 10, dU bA 11, jg, kQ, wm, c9 Lw hr, c9 V1 hr⟩) p
 have V2 := q 4 qd qe qf VQ Pw CJ fun _ _ _ _ _ _ _ _ hr u p => Vr (by exact ⟨u, bI fq 0, zB fq 1, cE fq 1 rfl, bI fq 2, bI fq 3, bI fq 4, bI fq 5, dU fq 6, dU fq 7, dU fq 8, dU fq 9, dU fq 10, dU fq 11, c9 vn hr, kQ, wm, c9 zk hr, jg, c9 A3 hr⟩) p
 have Lx := q 0 ku kB kC Lc Gp uJ fun _ _ _ _ _ _ _ _ hr u p => KH (by exact ⟨u, bI v9 0, bI v9 1, kI, nO, gK, nP, jw, gn⟩) p
 have Zt : g9 l.prog w K mg base vI 7 _ _ ["script"] (GZ K (cl aH) 1 ny nA nB) := Du Ld KP fun ji Ar outer s H E b a hr hp => by
   refine Ze ?_ hp
   exact ⟨⟨⟨KP.nd, rfl, .never⟩, hr.units⟩, bI fL 0, bI fL 1, bI fL 2, bI fL 3, bI fL 4, bI fL 5, bI fL 6, dU fL 7, dU fL 8, dU fL 9, dU fL 10, dU fL 11, dU fL 12, dU fL 13, dU fL 14, c9 P7 hr, c9 P8 hr, c9 GA hr, c9 V2 hr, c9 Lx hr, uL, c9 gD hr, kQ, kI, gn⟩
 exact Zt.imp (TQ (fun _ => rfl) (fun _ => rfl) fun x hx => Vs hx)
theorem walk {l : PySem.W.OpenLaw} {q : Program} {loose : List Str} {XP : (Str -> Option Value) -> Heap -> Prop} {YP : World -> Heap -> Prop} {d : DefRec} {K : Params -> PySem.W.Frag} (hn : l.most = some 63) (XF : d.params.defaults = [])
   (hY : ∀ (w : World) (h : Heap), YP w h -> (K w.params).In h)
   (F : ∀ (w : World) (mg : Str -> Option Value) (fa : Addr) (h : Heap), (K w.params).In h -> h.Ns mainGlobals mg -> mg d.name = some (.ref fa) →
     ∃ fd : FuncData, (∀ (s : Shared) (u : Value), BindsTo s fd ⟨[u], []⟩ [("script", u)]) /\ ∀ base : Heap, (K w.params).In base -> base.Ns mainGlobals mg -> g9 l.prog w (K w.params) mg base vI 7 fa fd ["script"] (GZ (K w.params) (fun _ => 0) 1 ny nA nB)) :
   PySem.W.WalkO q loose XP YP l.row.toRowW d [] (fun f vs => PySem.call f vs) :=
 L2.ML (n := 63) (k := 7) (x := "script") (CX := fun _ => vI) (sp := fun w => GZ (K w.params) (fun _ => 0) 1 ny nA nB) hn (by decide) XF ⟨rfl, by decide, by decide⟩ hY F (fun _ _ a ns hl _ hS => Tz rfl hl rfl hS) fun _ _ _ _ _ z => z
end Law
namespace PySem.W.Fast
 def tw7866386972369597502 := 0
 def tw13799300503583217307 := 0
 def tw7215916613674694339 := 0
 def tw5266600304009157571 := 0
 def tw8955844197832147989 := 0
 def tw15246308412865156748 := 0
 def tw11450760437294319857 := 0
 def tw12947533735923985068 := 0
 def tw13589011599854662032 := 0
 def tw3173558820829646304 := 0
 def tw14908050264458577184 := 0
 def tw14629077308237063807 := 0
 def tw13371038281189898629 := 0
 def tw6968079842286979944 := 0
 def tw700351816176998790 := 0
 def tw9960808814856512313 := 0
 def tw1344654138439980648 := 0
 def tw11805326383736355579 := 0
 def tw6929735219601702255 := 0
 def tw5693044400875214478 := 0
 def tw793409441354052636 := 0
 def tw3714135435456091432 := 0
 def tw8265264014462076722 := 0
 def tw17120148997687327828 := 0
 def tw14067048436184276481 := 0
 def tw11096525692137618259 := 0
 def tw7443655911757564234 := 0
 def tw17106629019520802048 := 0
 def tw12997642167211162496 := 0
 def tw13455957177741642707 := 0
 def tw8001118950353768450 := 0
 def tw6428484071551650911 := 0
 def tw7901102247548551157 := 0
 def tw88615903919352786 := 0
 def tw6262831465124338677 := 0
 def tw5336190635960444588 := 0
 def tw1816920300001778438 := 0
 def tw8321641428765165601 := 0
 def tw134171634422451389 := 0
 def tw6402337894042124517 := 0
 def tw17217430806237566929 := 0
 def tw10150033998624349395 := 0
 def tw17725132887829632002 := 0
 def tw11513806695523662620 := 0
 def tw15884531715509871546 := 0
 def tw8859590707228162574 := 0
end PySem.W.Fast
open PySem PySem.W PyProof.Rows
set_option maxRecDepth 100000 in
set_option maxHeartbeats 0 in
theorem PySem.Challenge.cw_moodtree_k57_alike_flats_holds : PySem.Challenge.rw_moodtree_k57_alike_flats.Holds := by
 w_on; o_law; k_head; (case hw => w_witness2)
 k_fill
 refine Law.walk (l := PySem.Challenge.rw_moodtree_k57_alike_flats) rfl rfl (fun w h Y => PySem.W.kIn_of Y) ?F
 case F =>
   intro w mg fa h KX G XG
   refine' Law.all_mk KX G XG ?yR ?uA ?uB ?uC ?uD ?uE ?uF ?jq ?jr ?jt ?ju ?kD ?Cu (L2.bM ?jm ?V3 ?V4) ?qN (L2.bM ?GC ?GD ?GF) ?yS (L2.bM ?bQ ?Qa ?Qc) ?yT (L2.bM ?yp ?Qd ?Qe) ?yU (L2.bM ?Qf ?Qg ?Qh) ?Cv (L2.bM ?V5 ?V6 ?V7) ?Cw (L2.bM ?V8 ?V9 ?Wa) ?K7 (L2.bM ?Zu ?Zv ?Zw) ?Cy (L2.bM ?Wb ?Wc ?Wd) ?yV (L2.bM ?fk ?Qi ?Qj) ?Cz (L2.bM ?Wf ?Wg ?Wh) ?uG (L2.bM ?Ly ?Lz ?LC) ?CB (L2.bM ?bV ?Wi ?k_flat) ?yW (L2.bM ?aK ?Qk ?yG) ?kE ?kF (L2.bM ?zl ?zm ?zo) ?yX (L2.bM ?bJ ?Ql ?m8) ?ou (L2.bM ?CV ?CW ?CY) ?CF (L2.bM ?Wj ?Wk ?Wm) ?qO (L2.bM ?GH ?GJ ?GK) ?CG (L2.bM ?Wn ?Wo ?Wq) ?K9 (L2.bM ?Zx ?Zy ?Zz) ?qP (L2.bM ?GL ?GN ?GO) ?yZ (L2.bM ?Qm ?Qn ?k_whole) ?jv (L2.bM ?vo ?vp ?vq) ?uH (L2.bM ?LD ?LJ ?LK) ?qQ (L2.bM ?GP ?GQ ?GR) ?uI (L2.bM ?LN ?LQ ?LR) ?CH (L2.bM ?ux ?Wr ?Ws) ?kG (L2.bM ?zq ?zu ?zv) ?CJ (L2.bM ?Wt ?Wu ?Wv) ?uJ (L2.bM ?LV ?LW ?LX) ?EE (L2.bM ?ZC ?ZD ?ZE) ?zb ?Le ?Lf ?zc ?CK ?Lg ?Lh ?zf ?uK ?Lk ?kH ?Lp ?y_bool
   case yR | uA | uB | uC | uD | uE | uF | jq | jr | jt | ju | kD | Cu | jm | V3 | V4 | qN | GC | GD | GF | yS | bQ | Qa | Qc | yT | yp | Qd | Qe | yU | Qf | Qg | Qh | Cv | V5 | V6 | V7 | Cw | V8 | V9 | Wa | K7 | Zu | Zv | Zw | Cy | Wb | Wc | Wd | yV | fk | Qi | Qj | Cz | Wf | Wg | Wh | uG | Ly | Lz | LC | CB | bV | Wi | k_flat | yW | aK | Qk | yG | kE | kF | zl | zm | zo | yX | bJ | Ql | m8 | ou | CV | CW | CY | CF | Wj | Wk | Wm | qO | GH | GJ | GK | CG | Wn | Wo | Wq | K9 | Zx | Zy | Zz | qP | GL | GN | GO | yZ | Qm | Qn | k_whole | jv | vo | vp | vq | uH | LD | LJ | LK | qQ | GP | GQ | GR | uI | LN | LQ | LR | CH | ux | Wr | Ws | kG | zq | zu | zv | CJ | Wt | Wu | Wv | uJ | LV | LW | LX | EE | ZC | ZD | ZE | zb | Le | Lf | zc | CK | Lg | Lh | zf | uK | Lk | kH | Lp | y_bool => (try delta L3.mC); k_is
