import PyProof.Rows.All
import Wide.All
import OpenK.AllK
import Wide.FinOn
import Lean
import PyProof.EqAt
import PyProof.EqKinds
import PyProof.TupleCall
import PySem.Challenge.RW_moodtree_k19_a_little_text
set_option Elab.async false
set_option linter.all false
set_option maxRecDepth 100000
set_option maxHeartbeats 4000000
namespace L2
open PySem PySem.Spec PyProof.Rows
noncomputable abbrev anb := @Nat.le_of_ble_eq_true
noncomputable abbrev anc := @List.mem_cons_self
noncomputable abbrev ane := @List.mem_cons
noncomputable abbrev anf := @List.mem_append_right
noncomputable abbrev ang := @of_decide_eq_true
noncomputable abbrev anh := @List.length_map
noncomputable abbrev ani := @List.append_assoc
noncomputable abbrev anj := @List.mem_cons_of_mem
noncomputable abbrev ank := @List.mem_append
noncomputable abbrev anl := @List.mem_append_left
noncomputable abbrev anm := @if_neg
noncomputable abbrev ano := @List.not_mem_nil
noncomputable abbrev anp := @List.mem_singleton
noncomputable abbrev anq := @Nat.le_refl
noncomputable abbrev anr := @of_decide_eq_false
noncomputable abbrev ans := @Bool.false_ne_true
noncomputable abbrev ant := @Heap.get?_push_of_some
noncomputable abbrev anu := @if_pos
noncomputable abbrev anv := @List.length_append
noncomputable abbrev anw := @Heap.lt_size
noncomputable abbrev anx := @decide_eq_false
noncomputable abbrev anz := @decide_eq_true
noncomputable abbrev anA := @Option.some.inj
noncomputable abbrev anB := @List.mem_of_getElem?
noncomputable abbrev anC := @List.map_append
noncomputable abbrev anD := @List.map_cons
noncomputable abbrev anE := @Nat.zero_le
noncomputable abbrev anF := @sizeLine_eq
noncomputable abbrev anG := @List.length_cons
noncomputable abbrev anH := @Bool.and_eq_true
noncomputable abbrev anI := @PySem.W.mg_of
noncomputable abbrev anJ := @List.getElem?_map
noncomputable abbrev anK := @List.cons_append
noncomputable abbrev anL := @List.append_nil
noncomputable abbrev anM := @List.mem_map
noncomputable abbrev anN := @List.lookup_cons
noncomputable abbrev anO := @List.getD_eq_getElem?_getD
noncomputable abbrev anP := @wpAny_bind
noncomputable abbrev anQ := @List.size_toArray
noncomputable abbrev anR := @Heap.get?_push_size
noncomputable abbrev anS := @List.getElem?_eq_some_iff
noncomputable abbrev anT := @Nat.ne_of_lt
noncomputable abbrev anU := @List.Perm.append_left
noncomputable abbrev anV := @Nat.lt_of_lt_of_le
noncomputable abbrev anW := @Nat.le_trans
noncomputable abbrev anY := @List.perm_append_comm
noncomputable abbrev anZ := @List.getElem?_eq_getElem
noncomputable abbrev an0 := @wpAny_pure
noncomputable abbrev an1 := @List.map_map
noncomputable abbrev an2 := @List.nodup_cons
noncomputable abbrev an3 := @or_false
noncomputable abbrev an4 := @List.Sublist.refl
noncomputable abbrev an5 := @List.nodup_append
noncomputable abbrev an6 := @PySem.W.mg_none_of
noncomputable abbrev an7 := @List.Sublist.append
noncomputable abbrev an8 := @Int.emod_lt_of_pos
noncomputable abbrev an9 := @Nat.le_of_lt
noncomputable abbrev aoa := @List.mem_range
noncomputable abbrev aob := @wpAny_truthy_bool
noncomputable abbrev aoc := @Bool.not_eq_true'
noncomputable abbrev aod := @List.length_range
noncomputable abbrev aoe := @Int.emod_nonneg
noncomputable abbrev aof := @List.filter_cons_of_neg
noncomputable abbrev aog := @List.filterMap_cons
noncomputable abbrev aoh := @List.perm_middle
noncomputable abbrev aoi := @List.all_eq_true
noncomputable abbrev aoj := @List.any_cons
noncomputable abbrev aok := @decide_eq_true_eq
noncomputable abbrev aol := @PyProof.Rows.callWith_type1
noncomputable abbrev aom := @List.find?_cons
noncomputable abbrev aon := @Ne.symm
noncomputable abbrev aoo := @Array.length_toList
noncomputable abbrev aop := @PySem.mem_of_lookup
noncomputable abbrev aoq := @List.getElem?_range
noncomputable abbrev aor := @wpAny_mono
noncomputable abbrev aos := @List.length_replicate
noncomputable abbrev aot := @List.length_singleton
noncomputable abbrev aou := @Bool.and_false
noncomputable abbrev aov := @Nat.lt_of_le_of_lt
noncomputable abbrev aow := @List.sublist_append_right
noncomputable abbrev aox := @decide_eq_false_iff_not
noncomputable abbrev aoy := @List.length_take
noncomputable abbrev aoz := @List.take_length
noncomputable abbrev aoA := @Option.map_eq_some_iff
noncomputable abbrev aoB := @PySem.F.plainAttrs_str
noncomputable abbrev aoC := @Int.natAbs_natCast
noncomputable abbrev aoD := @Bool.not_eq_false'
noncomputable abbrev aoE := @wpAny_passesOwn
noncomputable abbrev aoF := @Bool.eq_iff_iff
noncomputable abbrev aoG := @List.getElem?_eq_none
noncomputable abbrev aoH := @List.cons.inj
noncomputable abbrev aoI := @List.reverse_cons
noncomputable abbrev aoJ := @List.take_add_one
noncomputable abbrev aoK := @F.called_set
noncomputable abbrev aoL := @beq_eq_false_iff_ne
noncomputable abbrev aoM := @PySem.F.plainAttrs_list
noncomputable abbrev aoN := @wpAny_getItem_str_slice
noncomputable abbrev aoO := @PySem.StrLaws.found_one
noncomputable abbrev aoP := @List.all_cons
noncomputable abbrev aoQ := @PySem.W.kia_one
noncomputable abbrev aoR := @beq_iff_eq
noncomputable abbrev aoS := @Nat.lt_succ_self
noncomputable abbrev aoT := @beq_self_eq_true
noncomputable abbrev aoU := @Str.append_assoc
noncomputable abbrev aoV := @Nat.mul_le_mul_right
noncomputable abbrev aoW := @Nat.lt_irrefl
noncomputable abbrev aoX := @List.getElem?_append_right
noncomputable abbrev aoY := @List.map_congr_left
noncomputable abbrev aoZ := @List.mem_filter
noncomputable abbrev ao0 := @List.nil_append
noncomputable abbrev ao1 := @codeAny_mono
noncomputable abbrev ao2 := @wpAny_Call_Name_kw
noncomputable abbrev ao3 := @tupleKind_room_in1
noncomputable abbrev ao4 := @PySem.F.slot_list_append
noncomputable abbrev ao5 := @PySem.F.type_list_append
noncomputable abbrev ao6 := @Bool.false_and
noncomputable abbrev ao7 := @List.Perm.refl
noncomputable abbrev ao8 := @List.nodup_nil
noncomputable abbrev ao9 := @Nat.add_sub_cancel_left
noncomputable abbrev apa := @List.filter_cons_of_pos
noncomputable abbrev apb := @F.plain_set_update_loop
noncomputable abbrev apc := @Int.eq_ofNat_of_zero_le
noncomputable abbrev apd := @Option.isSome_map
noncomputable abbrev ape := @List.ext_getElem?
noncomputable abbrev apf := @List.getElem?_set
noncomputable abbrev apg := @Int.toNat_natCast
noncomputable abbrev aph := @StrLaws.subAt_one
noncomputable abbrev Key := Sum Int Str
noncomputable def G5 : Key -> Value -> Bool
 | .inl k, v => Value.isInt k v
 | .inr x, v => Value.isStrOf x v
noncomputable def air (w : World) : Key -> Int
 | .inl k => hashInt k
 | .inr x => hashStr w x
theorem e7 : ∀ {k : Key} {v : Value}, G5 k v = true -> (∃ i t, k = Sum.inl i /\ v = Value.int i t) \/ (∃ x t, k = Sum.inr x /\ v = Value.str x t)
 | .inl i, v, h => by
   obtain ⟨t, e⟩ := Value.isInt_shape (k := i) (v := v) h
   exact .inl ⟨i, t, rfl, e⟩
 | .inr x, v, h => by
   obtain ⟨t, e⟩ := Value.isStrOf_shape (x := x) (v := v) h
   exact .inr ⟨x, t, rfl, e⟩
theorem TX (i : Int) (t : Tok) : G5 (.inl i) (.int i t) = true := by simp [G5, Value.isInt]
theorem TY (x : Str) (t : Tok) : G5 (.inr x) (.str x t) = true := by simp [G5, Value.isStrOf]
theorem adt (a b : Int) : decide ((Sum.inl a : Key) = Sum.inl b) = (a == b) := by
 by_cases e : a = b
 . subst e; simp
 . have h : ¬ (Sum.inl a : Key) = Sum.inl b := fun q => e (Sum.inl.inj q)
   rw [anx h]
   exact (aoL.mpr e).symm
theorem adu (a b : Str) : decide ((Sum.inr a : Key) = Sum.inr b) = decide (a = b) := by
 by_cases e : a = b
 . subst e; simp
 . have h : ¬ (Sum.inr a : Key) = Sum.inr b := fun q => e (Sum.inr.inj q)
   rw [anx h, anx e]
theorem adv (a : Int) (b : Str) : decide ((Sum.inl a : Key) = Sum.inr b) = false := anx (fun q => nomatch q)
theorem adw (a : Str) (b : Int) : decide ((Sum.inr a : Key) = Sum.inl b) = false := anx (fun q => nomatch q)
noncomputable def gC (prog : Program) (w : World) : PySem.KeyKind prog w Key where
 is := G5
 hash := air w
 inj := fun v a b ha hb => by
   rcases e7 ha with ⟨i, t, rfl, rfl⟩ | ⟨x, t, rfl, rfl⟩
   . rcases e7 hb with ⟨j, u, rfl, e⟩ | ⟨y, u, rfl, e⟩
     . injection e with e1 _; rw [e1]
     . exact nomatch e
   . rcases e7 hb with ⟨j, u, rfl, e⟩ | ⟨y, u, rfl, e⟩
     . exact nomatch e
     . injection e with e1 _; rw [e1]
 byValue := fun k v h => by
   rcases e7 h with ⟨i, t, rfl, rfl⟩ | ⟨x, t, rfl, rfl⟩ <;> rfl
 pyHash := fun hv h => by
   rcases e7 hv with ⟨i, t, rfl, rfl⟩ | ⟨x, t, rfl, rfl⟩
   . exact wpAny_pyHash_int h
   . exact wpAny_pyHash_str h
 eqBool := fun hu hv h => by
   rcases e7 hu with ⟨i, t, rfl, rfl⟩ | ⟨x, t, rfl, rfl⟩
   . rcases e7 hv with ⟨j, u, rfl, rfl⟩ | ⟨y, u, rfl, rfl⟩
     . rw [adt] at h; exact wpAny_eqBool_int h
     . rw [adv] at h; exact SeqAt.EqAt.int_str i t y u _ _ _ _ h
   . rcases e7 hv with ⟨j, u, rfl, rfl⟩ | ⟨y, u, rfl, rfl⟩
     . rw [adw] at h; exact SeqAt.EqAt.str_int x t j u _ _ _ _ h
     . rw [adu] at h; exact wpAny_eqBool_str h
 «strs» := fun k x t v h => by
   rcases e7 h with ⟨i, u, rfl, e⟩ | ⟨y, u, rfl, e⟩
   . exact nomatch e
   . injection e with e1 _
     subst e1
     cases v <;> rfl
theorem KH (prog : Program) (w : World) (i : Int) (t : Tok) : (gC prog w).is (.inl i) (.int i t) = true := TX i t
theorem KJ (prog : Program) (w : World) (x : Str) (t : Tok) : (gC prog w).is (.inr x) (.str x t) = true := TY x t
inductive V where
 | non | bl (b : Bool) | int (i : Int) | str (x : Str) | RX (b : Array UInt8) | flt (b : UInt64) | ref (a : Addr) | ty (n : String)
 deriving DecidableEq
noncomputable def RelV : V -> Value -> Prop
 | .non, u => u = Value.none
 | .bl b, u => u = Value.bool b
 | .int i, u => ∃ t, u = Value.int i t
 | .str x, u => ∃ t, u = Value.str x t
 | .RX b, u => ∃ t, u = Value.bytes b t
 | .flt b, u => ∃ t, u = Value.float b t
 | .ref a, u => u = Value.ref a
 | .ty n, u => u = Value.type n
noncomputable abbrev Vals : List V -> List Value -> Prop := Paired RelV
theorem Vals.length {xs : List V} {us : List Value} (r : Vals xs us) : xs.length = us.length := Paired.length r
theorem Vals.get : ∀ {xs : List V} {us : List Value} {i : Nat} {x : V}, Vals xs us -> xs[i]? = some x -> ∃ u, us[i]? = some u /\ RelV x u
 | _, _, _, _, .nil, e => by simp at e
 | _, _, 0, _, .cons r _, e => by simp at e; subst e; exact ⟨_, rfl, r⟩
 | _, _, i + 1, x, .cons _ t, e => by
   obtain ⟨u, h1, h2⟩ := Vals.get (i := i) (x := x) t (by simpa using e)
   exact ⟨u, by simpa using h1, h2⟩
theorem Vals.append : ∀ {xs ys : List V} {us ws : List Value}, Vals xs us -> Vals ys ws -> Vals (xs ++ ys) (us ++ ws)
 | _, _, _, _, .nil, s => s
 | _, _, _, _, .cons r t, s => .cons r (Vals.append t s)
theorem Vals.take : ∀ {xs : List V} {us : List Value} (n : Nat), Vals xs us -> Vals (xs.take n) (us.take n)
 | _, _, 0, _ => .nil
 | _, _, _ + 1, .nil => .nil
 | _, _, n + 1, .cons r t => .cons r (Vals.take n t)
theorem Vals.drop : ∀ {xs : List V} {us : List Value} (n : Nat), Vals xs us -> Vals (xs.drop n) (us.drop n)
 | _, _, 0, r => r
 | _, _, _ + 1, .nil => .nil
 | _, _, n + 1, .cons _ t => Vals.drop n t
noncomputable def AG : Option V -> Option Value -> Prop
 | some v, some u => RelV v u
 | none, none => True
 | _, _ => False
noncomputable def KV {κ : Type} : List (κ × V) -> List (κ × Value) -> Prop := Paired fun (p : κ × V) (q : κ × Value) => p.1 = q.1 /\ RelV p.2 q.2
noncomputable def kV : Key -> V
 | .inl i => .int i
 | .inr x => .str x
inductive HO where
 | lst (xs : List V)
 | tup (xs : List V)
 | dK (bq : List (Key × V)) | dT (bq : List (List Key × V))
 | set (S : Int -> Bool) (n : Nat)
 | ins (C dx : Addr) (fs : List (Str × V))
 | own (x : Addr)
 | xd (fs : List (Str × V))
 | met (f x : Addr)
 | rng (lo hi : Int)
 | gS (o : Obj) (u : HO)
 | tbl (ps : Array Value)
 | tabs (q : Str)
 | cod (q : Str)
 | ext (φ : Heap -> Prop)
noncomputable abbrev Hp := Addr -> Option HO
noncomputable def upd (H : Hp) (a : Addr) (o : HO) : Hp := fun b => if b = a then some o else H b
theorem bx {H : Hp} {a : Addr} {o : HO} : upd H a o a = some o := by unfold upd; rw [anu rfl]
theorem aD {H : Hp} {a b : Addr} {o : HO} (h : b ≠ a) : upd H a o b = H b := by unfold upd; rw [anm h]
theorem afZ {H : Hp} {a b : Addr} {o u : HO} (h : H a = some o) (h' : H b = some u) (d : o ≠ u) : a ≠ b := by
 intro e; subst e; rw [h] at h'; exact d (anA h')
theorem bQ {H : Hp} {a b : Addr} {o : HO} (h : H a = some o) (h' : H b = none) : a ≠ b := by
 intro e; subst e; rw [h] at h'; cases h'
section
variable (P : Program) (w : World)
noncomputable def jv (H : Hp) (h : Heap) (a : Addr) : HO -> Prop
 | .lst xs => xs.length <= sizeLine /\ ∃ (its : List Value) (n : Nat), Vals xs its /\ h.get? a = some { cls := .type "list", data := .seq its.toArray n }
 | .tup xs => xs.length <= sizeLine /\ ∃ its : List Value, Vals xs its /\ IsTup h a its.toArray
 | .dK bq => bq.length <= sizeLine /\ (a == sysModules) = false /\ ∃ vs, KV bq vs /\ h.DictOf (gC P w) a vs
 | .dT bq => bq.length <= sizeLine /\ (a == sysModules) = false /\ ∃ xs : List (List Key × Addr × Value),
     Paired (fun (p : List Key × V) (q : List Key × Addr × Value) => p.1 = q.1 /\ H q.2.1 = some (.tup (p.1.map kV)) /\ RelV p.2 q.2.2) bq xs ∧
     ∃ o es ep, h.get? a = some o /\ o.ExactDict /\ o.data = .dict es ep /\ es.toList = xs.map (entryOfKey (tupleKind (gC P w))) /\ (xs.map (·.1)).Nodup
 | .set S n => h.SetOf (intKind P w) a S n
 | .ins C dx fs => H dx = some (.own a) /\ fs.length <= 1000 /\ dx ≠ a /\ h.get? a = some (PySem.W.instObj C dx) ∧
     ∃ mA, h.Ns1 dx mA /\ (∀ f, AG (fs.lookup f) (mA f)) /\ PySem.Within mA (fs.map (·.1))
 | .own _ => ∃ o, h.get? a = some o
 | .xd fs => ∃ mA, h.Ns1 a mA /\ ∀ f, AG (fs.lookup f) (mA f)
 | .rng lo hi => ∃ t u v, h.get? a = some { cls := .type "range", data := .fields #[.int lo t, .int hi u, .int 1 v] }
 | .gS o u => h.get? a = some o /\ jv H h a u
 | .tbl ps => h.get? a = some { cls := .none, data := .fields ps }
 | .tabs q => ∃ ps : Array Value, h.get? a = some { cls := .none, data := .fields ps } /\ TriplesOk ps.toList /\ ∀ pos cv, codeAmong pos ps.toList = some cv -> ∃ c, cv = .ref c /\ H c = some (.cod q)
 | .cod q => ∃ o vs t, h.get? a = some o /\ o.data = .fields vs /\ vs[1]? = some (.str q t)
 | .met f x => h.get? a = some (PySem.W.methodObj (.ref f) (.ref x))
 | .ext φ => φ h /\ (∃ o, h.get? a = some o) /\ ∀ h1 h2 : Heap, φ h1 -> (∀ o, h1.get? a = some o -> h2.get? a = some o) -> φ h2
noncomputable def yt (H : Hp) (h : Heap) : Prop := ∀ a o, H a = some o -> jv P w H h a o
end
section
variable {P : Program} {w : World} {H H' : Hp} {h h' : Heap} {a : Addr} {o : HO}
theorem jv.lt (x : jv P w H h a o) : a < h.objs.size := by
 cases o with
 | lst xs => obtain ⟨_, _, _, _, e⟩ := x; exact anw e
 | tup xs => obtain ⟨_, _, _, p⟩ := x; exact p.lt
 | dK bq => obtain ⟨_, _, _, _, o, _, _, e, _⟩ := x; exact anw e
 | dT bq => obtain ⟨_, _, _, _, o, _, _, e, _⟩ := x; exact anw e
 | set S n => obtain ⟨o, _, _, _, e, _⟩ := x; exact anw e
 | ins C dx fs => obtain ⟨_, _, _, e, _⟩ := x; exact anw e
 | own y => obtain ⟨_, e⟩ := x; exact anw e
 | xd fs => obtain ⟨_, ⟨_, _, _, e, _⟩, _⟩ := x; exact anw e
 | rng lo hi => obtain ⟨_, _, _, e⟩ := x; exact anw e
 | gS ob u => obtain ⟨e, _⟩ := x; exact anw e
 | tbl ps => exact anw (show h.get? a = some _ from x)
 | tabs q => obtain ⟨_, e, _⟩ := x; exact anw e
 | cod q => obtain ⟨_, _, _, e, _⟩ := x; exact anw e
 | met f y => exact anw (show h.get? a = some _ from x)
 | ext φ => obtain ⟨_, ⟨_, e⟩, _⟩ := x; exact anw e
theorem Paired.adz {α β : Type} {F G : α -> β -> Prop} : ∀ {l₁ : List α} {l₂ : List β}, Paired F l₁ l₂ -> (∀ a b, F a b -> G a b) -> Paired G l₁ l₂
 | _, _, .nil, _ => .nil
 | _, _, .cons r t, f => .cons (f _ _ r) (Paired.adz t f)
theorem jv.HP (x : jv P w H h a o) (k : ∀ b u, (b = a \/ H b = some (.own a)) -> h.get? b = some u -> h'.get? b = some u)
   (ho : ∀ b, H b = some (.own a) -> H' b = some (.own a)) (ht : ∀ b xs, H b = some (.tup xs) -> H' b = some (.tup xs)) (uF : ∀ b q, H b = some (.cod q) -> H' b = some (.cod q) := by intro _ _ q; exact q) : jv P w H' h' a o := by
 induction o with
 | lst xs => obtain ⟨z, its, n, r, e⟩ := x; exact ⟨z, its, n, r, k _ _ (.inl rfl) e⟩
 | tup xs => obtain ⟨z, its, r, ob, e, c⟩ := x; exact ⟨z, its, r, ob, k _ _ (.inl rfl) e, c⟩
 | dK bq => obtain ⟨z, y, vs, r, ob, es, ep, e, c⟩ := x; exact ⟨z, y, vs, r, ob, es, ep, k _ _ (.inl rfl) e, c⟩
 | dT bq =>
   obtain ⟨z, y, xs, r, ob, es, ep, e, c⟩ := x
   exact ⟨z, y, xs, Paired.adz r fun p q z => ⟨z.1, ht _ _ z.2.1, z.2.2⟩, ob, es, ep, k _ _ (.inl rfl) e, c⟩
 | set S n => obtain ⟨ob, es, ep, t, e, c⟩ := x; exact ⟨ob, es, ep, t, k _ _ (.inl rfl) e, c⟩
 | ins C dx fs =>
   obtain ⟨d, z, ne, e, mA, ⟨od, es, ep, e2, c⟩, r⟩ := x
   exact ⟨ho _ d, z, ne, k _ _ (.inl rfl) e, mA, ⟨od, es, ep, k _ _ (.inr d) e2, c⟩, r⟩
 | own y => obtain ⟨ob, e⟩ := x; exact ⟨ob, k _ _ (.inl rfl) e⟩
 | xd fs => obtain ⟨mA, ⟨od, es, ep, e, c⟩, r⟩ := x; exact ⟨mA, ⟨od, es, ep, k _ _ (.inl rfl) e, c⟩, r⟩
 | rng lo hi => obtain ⟨t, u, v, e⟩ := x; exact ⟨t, u, v, k _ _ (.inl rfl) e⟩
 | gS ob u ih => obtain ⟨e, q⟩ := x; exact ⟨k _ _ (.inl rfl) e, ih q⟩
 | tbl ps =>
   have e : h.get? a = some { cls := .none, data := .fields ps } := x
   show h'.get? a = some { cls := .none, data := .fields ps }
   exact k a _ (.inl rfl) e
 | met f y =>
   have e : h.get? a = some (PySem.W.methodObj (.ref f) (.ref y)) := x
   show h'.get? a = some (PySem.W.methodObj (.ref f) (.ref y))
   exact k a _ (.inl rfl) e
 | tabs q => obtain ⟨ps, e, tr, cs⟩ := x; exact ⟨ps, k _ _ (.inl rfl) e, tr, fun pos cv z => let ⟨c, e1, e2⟩ := cs pos cv z; ⟨c, e1, uF _ _ e2⟩⟩
 | cod q => obtain ⟨ob, vs, t, e, r⟩ := x; exact ⟨ob, vs, t, k _ _ (.inl rfl) e, r⟩
 | ext φ => obtain ⟨p, ⟨o, e⟩, st⟩ := x; exact ⟨st _ _ p fun o q => k _ _ (.inl rfl) q, ⟨o, k _ _ (.inl rfl) e⟩, st⟩
theorem yt.lt (x : yt P w H h) (e : H a = some o) : a < h.objs.size := (x a o e).lt
theorem yt.fresh (x : yt P w H h) (e : h.objs.size <= a) : H a = none := by
 cases q : H a with
 | none => rfl
 | some u => exact absurd (anV (x.lt q) e) (aoW _)
theorem yt.kept (x : yt P w H h) (k : ∀ b u, h.get? b = some u -> h'.get? b = some u) : yt P w H h' := fun a o e =>
 (x a o e).HP (fun b u _ q => k b u q) (fun _ q => q) fun _ _ q => q
theorem yt.laid (x : yt P w H h) (k : ∀ b u, h.get? b = some u -> h'.get? b = some u) (hp : h.objs.size <= a) (new : jv P w (upd H a o) h' a o) : yt P w (upd H a o) h' := fun b u e => by
 have hn := x.fresh hp
 by_cases hb : b = a
 . subst hb; rw [bx] at e; cases e; exact new
 . rw [aD hb] at e
   exact (x b u e).HP (fun c v _ q => k c v q) (fun c q => by rw [aD (bQ q hn)]; exact q) (fun c xs q => by rw [aD (bQ q hn)]; exact q) fun c z q => by rw [aD (bQ q hn)]; exact q
end
noncomputable def Rd (H : Hp) (a : Addr) (u : HO) : Prop := H a = some u \/ ∃ o, H a = some (.gS o u)
theorem Rd.ok {P : Program} {w : World} {H : Hp} {h : Heap} {a : Addr} {u : HO} (r : Rd H a u) (x : yt P w H h) : jv P w H h a u := by
 rcases r with r | ⟨o, r⟩
 . exact x a u r
 . obtain ⟨_, q⟩ := x a _ r
   exact q
noncomputable def Mut : Option HO -> Prop
 | some (.lst _) => True
 | some (.dK _) => True
 | some (.dT _) => True
 | some (.set _ _) => True
 | some (.ins _ _ _) => True
 | some (.ext _) => True
 | some (.tabs _) => True
 | _ => False
section
variable {P : Program} {w : World} {H : Hp} {h h' : Heap} {x e : Addr} {o' : HO}
theorem yt.write (ok : yt P w H h) (mu : Mut (H x)) (he : e = x \/ H e = some (.own x)) (k : ∀ b u, b ≠ e -> h.get? b = some u -> h'.get? b = some u) (heo : ∃ u, h'.get? e = some u)
   (new : jv P w (upd H x o') h' x o') : yt P w (upd H x o') h' := fun b u q => by
 have af1 : ∀ c y, H c = some (.own y) -> c ≠ x := fun c y r z => by subst z; rw [r] at mu; exact mu
 have ait : ∀ c xs, H c = some (.tup xs) -> c ≠ x := fun c xs r z => by subst z; rw [r] at mu; exact mu
 have aiu : ∀ c q, H c = some (.cod q) -> c ≠ x := fun c q r z => by subst z; rw [r] at mu; exact mu
 by_cases hb : b = x
 . subst hb; rw [bx] at q; cases q; exact new
 . rw [aD hb] at q
   by_cases hbe : b = e
   . have q' : H b = some (.own x) := by
       rcases he with z | z
       . exact absurd (hbe.trans z) hb
       . rw [hbe]; exact z
     rw [q] at q'; cases q'
     obtain ⟨v, hv⟩ := heo
     exact ⟨v, by rw [hbe]; exact hv⟩
   . refine (ok b u q).HP (fun c v hc r => k c v ?_ r) (fun c r => by rw [aD (af1 c b r)]; exact r) (fun c xs r => by rw [aD (ait c xs r)]; exact r) fun c z r => by rw [aD (aiu c z r)]; exact r
     rcases hc with rfl | hc
     . exact hbe
     . rintro rfl
       rcases he with z | z
       . exact af1 c b hc z
       . rw [hc] at z; cases z; exact hb rfl
end
structure Un (fs ex : List Addr) (H H' : Hp) (h h' : Heap) : Prop where
 keep : ∀ b o, h.get? b = some o -> H b = none -> b ∉ fs -> b ∉ ex -> h'.get? b = some o
 slot : ∀ b o, h.get? b = some o -> H b = none -> b ∈ fs -> b ∉ ex -> ∃ sl, h'.get? b = some { o with slots := sl }
 free : ∀ b o, h.get? b = some o -> H b = none -> b ∉ ex -> H' b = none
 there : ∀ b o, h.get? b = some o -> b ∉ ex -> ∃ o', h'.get? b = some o'
 HQ : ∀ b xs, H b = some (.tup xs) -> H' b = some (.tup xs)
 rH : ∀ b o u, H b = some (.gS o u) -> H' b = some (.gS o u)
 HR : ∀ b ps, H b = some (.tbl ps) -> ∃ more, H' b = some (.tbl (ps ++ more))
section
variable {fs ex : List Addr} {H H1 : Hp} {h h1 h' : Heap} {a x e : Addr} {o : HO}
theorem Un.any (u : Un fs ex H H1 h h1) {b : Addr} {ob : Obj} (q : h.get? b = some ob) (n : H b = none) (hx : b ∉ ex) : ∃ sl, h1.get? b = some { ob with slots := sl } := by
 by_cases hb : b ∈ fs
 . exact u.slot b ob q n hb hx
 . exact ⟨ob.slots, u.keep b ob q n hb hx⟩
theorem Un.kept (k : ∀ b u, h.get? b = some u -> h'.get? b = some u) : Un fs ex H H h h' :=
 ⟨fun b ob q _ _ _ => k b ob q, fun b ob q _ _ _ => ⟨ob.slots, k b ob q⟩, fun _ _ _ n _ => n, fun b ob q _ => ⟨ob, k b ob q⟩, fun _ _ q => q, fun _ _ _ q => q, fun _ ps q => ⟨#[], by rw [q]; simp⟩⟩
theorem Un.refl : Un fs ex H H h h := Un.kept fun _ _ q => q
theorem Un.laid (k : ∀ b u, h.get? b = some u -> h'.get? b = some u) (hp : h.objs.size <= a) (hn : H a = none) : Un fs ex H (upd H a o) h h' where
 keep := fun b u q _ _ _ => k b u q
 slot := fun b u q _ _ _ => ⟨u.slots, k b u q⟩
 free := fun b u q n _ => by rw [aD (anT (anV (anw q) hp))]; exact n
 there := fun b u q _ => ⟨u, k b u q⟩
 HQ := fun b xs q => by rw [aD (bQ q hn)]; exact q
 rH := fun b u xs q => by rw [aD (bQ q hn)]; exact q
 HR := fun b ps q => ⟨#[], by rw [aD (bQ q hn), q]; simp⟩
theorem Un.write (mu : Mut (H x)) (he : e = x \/ H e = some (.own x)) (k : ∀ b u, b ≠ e -> h.get? b = some u -> h'.get? b = some u) (heo : ∃ u, h'.get? e = some u) : Un fs ex H (upd H x o) h h' := by
 have hx : ∀ b, H b = none -> b ≠ x := fun b n z => by subst z; rw [n] at mu; exact mu
 have hb : ∀ b, H b = none -> b ≠ e := fun b n z => by
   subst z
   rcases he with r | r
   . exact hx b n r
   . rw [n] at r; cases r
 have hm : ∀ b u, H b = some u -> ¬ Mut (some u) -> b ≠ x := fun b u q nm z => by subst z; rw [q] at mu; exact nm mu
 refine ⟨fun b u q n _ _ => k b u (hb b n) q, fun b u q n _ _ => ⟨u.slots, k b u (hb b n) q⟩, fun b u q n _ => by rw [aD (hx b n)]; exact n, fun b u q _ => ?_,
   fun b xs q => by rw [aD (hm b _ q fun z => z)]; exact q, fun b u xs q => by rw [aD (hm b _ q fun z => z)]; exact q, fun b ps q => ⟨#[], by rw [aD (hm b _ q fun z => z), q]; simp⟩⟩
 by_cases hbe : b = e
 . subst hbe; exact heo
 . exact ⟨u, k b u hbe q⟩
end
noncomputable def trk (h : Heap) (H : Hp) : List Addr := (List.range h.objs.size).filter fun a => (H a).isSome
noncomputable def HS (h : Heap) (H : Hp) : Heap := PySem.W.hideAll h (trk h H)
theorem T3 (h : Heap) (H : Hp) : (HS h H).objs.size = h.objs.size := PySem.W.hideAll_size _ _
theorem WD {h : Heap} {H : Hp} {b : Addr} {o : Obj} (e : h.get? b = some o) (n : H b = none) : (HS h H).get? b = some o :=
 PySem.W.hideAll_get _ e fun hm => by
   have q : (H b).isSome = true := (aoZ.mp hm).2
   rw [n] at q; simp at q
theorem Z9 {h : Heap} {H : Hp} {b : Addr} {o : Obj} (e : (HS h H).get? b = some o) : h.get? b = some o /\ H b = none := by
 have e' : h.get? b = some o := PySem.W.of_hideAll (trk h H) e
 refine ⟨e', ?_⟩
 cases q : H b with
 | none => rfl
 | some x =>
   have hm : b ∈ trk h H := aoZ.mpr ⟨aoa.mpr (anw e'), by simp [q]⟩
   have z : (HS h H).get? b = none := PySem.W.hideAll_none (trk h H) hm
   rw [z] at e; cases e
noncomputable def aac (g h : Heap) (L : Addr) : List (Addr × Obj) := (List.range h.objs.size).filterMap fun a => if a = L \/ (g.get? a).isSome = true then none else (h.get? a).map fun o => (a, o)
noncomputable def rest (g h : Heap) (L d : Addr) : List (Addr × Obj) := (aac g h L).filter fun p => decide (p.1 ≠ d)
structure Mod (K : PySem.W.Frag) (mg : Str -> Option Value) (base : Heap) : Prop where
 kin : K.In base
 glob : base.Ns mainGlobals mg
 blt : ∃ mb, base.Ns builtinsNs mb /\ ∀ x : Str, x ≠ "__name__" -> mb x = bootBuiltins x
 nolimit : base.NoLimit
structure Cx where
 prog : Program
 w : World
 K : PySem.W.Frag
 mg : Str -> Option Value
 base : Heap
 A : Around
 N : List Str
 s₀ : Shared
 H₀ : Hp
 env : Env
 outer : List Env
 stack : List Env
 ex : List Addr
 fn : Str -> Bool
 calm : Bool
 pn : List (Addr × Obj)
 xe : Value -> Shared -> Prop
noncomputable def Wx (l : List Env) : List Addr := l.filterMap (·.frame)
noncomputable abbrev Cx.fs (X : Cx) : List Addr := Wx X.outer
noncomputable def Vis (sc : Scope) (x : Str) : Prop := sc.names.lookup x = some .local \/ sc.names.lookup x = some .cell \/ sc.names.lookup x = some .free
noncomputable def Loc (sc : Scope) (x : Str) : Prop := sc.names.lookup x = some .local \/ sc.names.lookup x = some .cell
noncomputable def Look (env : Env) (h : Heap) (m : Str -> Option Value) (x : Str) (u : Value) : Prop :=
 (env.kindOf x = some .local /\ m x = some u) \/ ((env.kindOf x = some .cell \/ env.kindOf x = some .free) /\ ∃ c, env.cells.lookup x = some c /\ h.IsCell c (some u))
structure Cx.Ok (X : Cx) : Prop where
 mod : Mod X.K X.mg X.base
 kind : X.env.scope.kind = .function
 glob : X.env.globals = mainGlobals
 blt : X.env.builtins = builtinsNs
 above : X.s₀.heap.objs.size <= X.env.locals
 inj : ∀ x y c, X.env.cells.lookup x = some c -> X.env.cells.lookup y = some c -> x = y
 has : ∀ x, (X.env.kindOf x = some .cell \/ X.env.kindOf x = some .free) -> ∃ c, X.env.cells.lookup x = some c
 cab : ∀ x c, X.fn x = true -> X.env.cells.lookup x = some c -> X.s₀.heap.objs.size <= c
 hd : X.calm = true -> X.A.handled = none
 frames : X.A.frames = some X.stack
 stk : X.stack = X.outer \/ (X.stack = X.env :: X.outer /\ X.env.frame = some X.env.locals)
 exf : ∀ b ∈ X.ex, b ≠ X.env.locals /\ ∀ x c, X.env.cells.lookup x = some c -> c ≠ b
 bs : ∀ b o, X.base.get? b = some o -> X.s₀.heap.get? b = some o /\ X.H₀ b = none
 bsz : X.base.objs.size <= X.s₀.heap.objs.size
 WG : ∀ b o, X.base.get? b = some o -> b ∉ X.ex
 aae : ∀ b ∈ X.ex, b ∉ X.fs
 Cr : X.s₀.heap.FunFrames X.base X.outer
 frf : ∀ b ∈ X.fs, X.H₀ b = none
structure Inv (X : Cx) (pins : List (Addr × Obj)) (σ : List (Option V)) (H : Hp) (s : Shared) : Prop where
 ok : X.Ok
 os : s.os = X.s₀.os
 bare : AllBare s.gens
 base : Un X.fs X.ex X.H₀ H X.s₀.heap s.heap
 loc : ∃ m, s.heap.Ns X.env.locals m /\ ∀ (i : Nat) (x : Str) (v : V), X.N[i]? = some x -> σ[i]? = some (some v) -> Vis X.env.scope x -> ∃ u, RelV v u /\ Look X.env s.heap m x u
 cell : ∀ x c, X.env.cells.lookup x = some c -> ∃ v, s.heap.IsCell c v
 free : H X.env.locals = none
 wU : ∀ x c, X.env.cells.lookup x = some c -> H c = none
 pin : ∀ p ∈ X.pn ++ pins, s.heap.get? p.1 = some p.2 /\ H p.1 = none /\ p.1 ≠ X.env.locals /\ p.1 ∉ X.fs /\ ∀ v, p.2.data ≠ .cell v
 d9 : yt X.prog X.w H s.heap
 len : σ.length = X.N.length
section
variable {X : Cx} {pins : List (Addr × Obj)} {σ : List (Option V)} {H H' : Hp} {s : Shared} {h' : Heap}
theorem Cx.Ok.aiv (ok : X.Ok) {b : Addr} {o : Obj} (e : X.base.get? b = some o) : b ∉ X.fs := fun hb => by
 have := (ok.Cr.mem hb).1
 rw [e] at this; cases this
theorem Inv.bs (I : Inv X pins σ H s) : ∀ b o, X.base.get? b = some o -> s.heap.get? b = some o /\ H b = none := fun b o e =>
 ⟨I.base.keep b o (I.ok.bs b o e).1 (I.ok.bs b o e).2 (I.ok.aiv e) (I.ok.WG b o e), I.base.free b o (I.ok.bs b o e).1 (I.ok.bs b o e).2 (I.ok.WG b o e)⟩
theorem Inv.bk (I : Inv X pins σ H s) : ∀ b o, X.base.get? b = some o -> s.heap.get? b = some o := fun b o e => (I.bs b o e).1
theorem Inv.mod (I : Inv X pins σ H s) : Mod X.K X.mg X.base := I.ok.mod
theorem Inv.Kz (I : Inv X pins σ H s) : X.K.In s.heap := I.ok.mod.kin.keeps I.bk
theorem Inv.lt (I : Inv X pins σ H s) : X.env.locals < s.heap.objs.size := let ⟨_, hn, _⟩ := I.loc; hn.lt
theorem Inv.sz (I : Inv X pins σ H s) : X.s₀.heap.objs.size <= s.heap.objs.size := anW I.ok.above (an9 I.lt)
theorem Inv.aiw (I : Inv X pins σ H s) {a : Addr} (h : s.heap.objs.size <= a) : a ∉ X.fs := fun hb => by
 obtain ⟨_, o, ho, _⟩ := I.ok.Cr.mem hb
 exact absurd (anV (anw ho) (anW I.sz h)) (aoW _)
theorem Inv.cne (I : Inv X pins σ H s) : ∀ x c, X.env.cells.lookup x = some c -> c ≠ X.env.locals := fun x c e z => by
 obtain ⟨v, o, ho, hd⟩ := I.cell x c e
 obtain ⟨m, ⟨o', es, ep, Oi, hd', _⟩, _⟩ := I.loc
 rw [z, Oi] at ho; cases ho; rw [hd'] at hd; cases hd
theorem Inv.Cr (I : Inv X pins σ H s) : s.heap.FunFrames X.base X.outer := by
 have all : ∀ (l : List Env), (∀ b ∈ Wx l, b ∈ X.fs) -> X.s₀.heap.FunFrames X.base l -> s.heap.FunFrames X.base l := by
   intro l
   induction l with
   | nil => intro _ _; trivial
   | cons env r ih =>
     intro hs hl
     obtain ⟨hk, ⟨L, o, hf, hn, ho, hd⟩, hr⟩ := hl
     have hL : L ∈ X.fs := hs L (by unfold Wx; rw [aog, hf]; exact anc)
     obtain ⟨sl, e⟩ := I.base.slot L o ho (I.ok.frf L hL) hL fun z => I.ok.aae L z hL
     exact ⟨hk, ⟨L, _, hf, hn, e, hd⟩, ih (fun b hb => hs b (by unfold Wx; rw [aog, hf]; exact anj _ hb)) hr⟩
 exact all X.outer (fun _ hb => hb) I.ok.Cr
theorem Inv.stack (I : Inv X pins σ H s) : s.heap.FunFrames X.base X.stack := by
 rcases I.ok.stk with e | ⟨e, hf⟩
 . rw [e]; exact I.Cr
 . rw [e]
   obtain ⟨m, hn, _⟩ := I.loc
   refine .cons (by rw [I.ok.kind]; decide) hf hn ?_ I.Cr
   exact Heap.get?_none_of_le (anW I.ok.bsz I.ok.above)
theorem Inv.HV (I : Inv X pins σ H s) : ∀ b ∈ Wx X.stack, b ∈ X.env.locals :: X.fs := fun b hb => by
 rcases I.ok.stk with e | ⟨e, hf⟩
 . rw [e] at hb; exact anj _ hb
 . rw [e] at hb
   unfold Wx at hb
   rw [aog, hf] at hb
   exact hb
theorem Inv.RZ (I : Inv X pins σ H s) : ∀ b ∈ Wx X.stack, H b = none := fun b hb => by
 rcases ane.mp (I.HV b hb) with e | hb
 . rw [e]; exact I.free
 . obtain ⟨_, o, ho, _⟩ := I.ok.Cr.mem hb
   exact I.base.free b o ho (I.ok.frf b hb) fun z => I.ok.aae b z hb
theorem Inv.step {g' : Array GenState} {t' : Nat} {d' : Drawn} {ch : List Addr} (I : Inv X pins σ H s)
   (ZW : ∀ b ∈ ch, (b ∈ X.ex \/ X.s₀.heap.objs.size <= b) /\ b ≠ X.env.locals /\ (∀ x c, X.env.cells.lookup x = some c -> c ≠ b) /\ ∀ p ∈ X.pn ++ pins, p.1 ≠ b)
   (keep : ∀ b o, b ≠ X.env.locals -> b ∉ X.fs -> b ∉ ch -> s.heap.get? b = some o -> H b = none -> h'.get? b = some o)
   (slot : ∀ b o, b ≠ X.env.locals -> b ∈ X.fs -> b ∉ ch -> s.heap.get? b = some o -> H b = none -> ∃ sl, h'.get? b = some { o with slots := sl }) (free : ∀ b o, b ∉ ch -> s.heap.get? b = some o -> H b = none -> H' b = none)
   (there : ∀ b o, b ∉ ch -> s.heap.get? b = some o -> ∃ o', h'.get? b = some o')
   (HQ : ∀ b xs, H b = some (.tup xs) -> H' b = some (.tup xs)) (rH : ∀ b o u, H b = some (.gS o u) -> H' b = some (.gS o u)) (HR : ∀ b ps, H b = some (.tbl ps) -> ∃ more, H' b = some (.tbl (ps ++ more)))
   (ns : ∀ m, s.heap.Ns X.env.locals m -> h'.Ns X.env.locals m) (d9 : yt X.prog X.w H' h') (hg : AllBare g') :
   Inv X pins σ H' { s with heap := h', gens := g', drawn := d', toks := t' } := by
 have neL : ∀ b o, X.s₀.heap.get? b = some o -> b ≠ X.env.locals := fun b o e => anT (anV (anw e) I.ok.above)
 have neC : ∀ b o, X.s₀.heap.get? b = some o -> b ∉ X.ex -> b ∉ ch := fun b o e hx hb => by
   rcases (ZW b hb).1 with z | z
   . exact hx z
   . exact absurd (anV (anw e) z) (aoW _)
 have cellK : ∀ x c, X.env.cells.lookup x = some c -> ∀ v, s.heap.IsCell c v -> h'.IsCell c v := fun x c e v ⟨o, ho, hd⟩ => by
   have nch : c ∉ ch := fun z => (ZW c z).2.2.1 x c e rfl
   by_cases hc : c ∈ X.fs
   . obtain ⟨sl, q⟩ := slot c o (I.cne x c e) hc nch ho (I.wU x c e)
     exact ⟨_, q, hd⟩
   . exact ⟨o, keep c o (I.cne x c e) hc nch ho (I.wU x c e), hd⟩
 refine ⟨I.ok, I.os, hg, ⟨fun b o e n hb hx => ?_, fun b o e n hb hx => ?_, fun b o e n hx => ?_, fun b o e hx => ?_, fun b xs e => HQ b xs (I.base.HQ b xs e), fun b o xs e => rH b o xs (I.base.rH b o xs e), fun b ps e => ?_⟩, ?_, fun x c e => ?_, ?_, fun x c e => ?_, fun p hp => ?_, d9, I.len⟩
 . exact keep b o (neL b o e) hb (neC b o e hx) (I.base.keep b o e n hb hx) (I.base.free b o e n hx)
 . obtain ⟨sl, e1⟩ := I.base.slot b o e n hb hx
   obtain ⟨sl', e2⟩ := slot b _ (neL b o e) hb (neC b o e hx) e1 (I.base.free b o e n hx)
   exact ⟨sl', e2⟩
 . obtain ⟨o', e1⟩ := I.base.there b o e hx
   exact free b o' (neC b o e hx) e1 (I.base.free b o e n hx)
 . obtain ⟨o', e1⟩ := I.base.there b o e hx
   exact there b o' (neC b o e hx) e1
 . obtain ⟨m1, e1⟩ := I.base.HR b ps e
   obtain ⟨m2, e2⟩ := HR b _ e1
   exact ⟨m1 ++ m2, by rw [e2, Array.append_assoc]⟩
 . obtain ⟨m, hn, hl⟩ := I.loc
   refine ⟨m, ns m hn, fun i x v e1 e2 e3 => ?_⟩
   obtain ⟨u, r, l⟩ := hl i x v e1 e2 e3
   refine ⟨u, r, ?_⟩
   rcases l with l | ⟨k, c, e, z⟩
   . exact .inl l
   . exact .inr ⟨k, c, e, cellK x c e _ z⟩
 . obtain ⟨v, z⟩ := I.cell x c e
   exact ⟨v, cellK x c e v z⟩
 . obtain ⟨m, ⟨o, _, _, ho, _⟩, _⟩ := I.loc
   exact free _ o (fun z => (ZW _ z).2.1 rfl) ho I.free
 . obtain ⟨v, o, ho, hd⟩ := I.cell x c e
   exact free c o (fun z => (ZW c z).2.2.1 x c e rfl) ho (I.wU x c e)
 . obtain ⟨e, n, ne, nf, d⟩ := I.pin p hp
   have nch : p.1 ∉ ch := fun z => (ZW p.1 z).2.2.2 p hp rfl
   exact ⟨keep p.1 p.2 ne nf nch e n, free p.1 p.2 nch e n, ne, nf, d⟩
theorem Inv.un {t' : Nat} (I : Inv X pins σ H s) (u : Un X.fs [] H H' s.heap h') (d9 : yt X.prog X.w H' h') : Inv X pins σ H' { s with heap := h', toks := t' } := by
 obtain ⟨m, ⟨o, es, ep, ho, r⟩, _⟩ := id I.loc
 obtain ⟨sl, hL⟩ := u.any ho I.free (by simp)
 exact I.step (g' := s.gens) (d' := s.drawn) (ch := []) (fun _ z => nomatch z) (fun b o _ hb _ e n => u.keep b o e n hb (by simp)) (fun b o _ hb _ e n => u.slot b o e n hb (by simp)) (fun b o _ e n => u.free b o e n (by simp)) (fun b o _ e => u.there b o e (by simp)) u.HQ u.rH u.HR (fun m' hm => by
   obtain ⟨o', es', ep', Oi, r'⟩ := hm
   rw [ho] at Oi; cases Oi
   exact ⟨_, es', ep', hL, r'⟩) d9 I.bare
theorem Inv.call {g' : Array GenState} {t' : Nat} {d' : Drawn} {ch : List Addr} (I : Inv X pins σ H s) (u : Un (Wx X.stack) ch H H' s.heap h') (d9 : yt X.prog X.w H' h') (hg : AllBare g')
   (ZW : ∀ b ∈ ch, (b ∈ X.ex \/ X.s₀.heap.objs.size <= b) /\ b ≠ X.env.locals /\ (∀ x c, X.env.cells.lookup x = some c -> c ≠ b) /\ ∀ p ∈ X.pn ++ pins, p.1 ≠ b) :
   Inv X pins σ H' { s with heap := h', gens := g', drawn := d', toks := t' } := by
 obtain ⟨m, ⟨o, es, ep, ho, r⟩, _⟩ := id I.loc
 obtain ⟨sl, hL⟩ := u.any ho I.free fun z => (ZW _ z).2.1 rfl
 exact I.step (ch := ch) ZW (fun b o hL hb hc e n => u.keep b o e n (fun z => (ane.mp (I.HV b z)).elim hL hb) hc) (fun b o _ _ hc e n => u.any e n hc) (fun b o hc e n => u.free b o e n hc) (fun b o hc e => u.there b o e hc) u.HQ u.rH u.HR (fun m' hm => by
   obtain ⟨o', es', ep', Oi, r'⟩ := hm
   rw [ho] at Oi; cases Oi
   exact ⟨_, es', ep', hL, r'⟩) d9 hg
theorem Inv.turned {t' : Nat} {it : Addr} (I : Inv X pins σ H s) (k : ∀ b o, b ≠ it -> s.heap.get? b = some o -> h'.get? b = some o) (hn : H it = none) (hL : it ≠ X.env.locals)
   (h1 : it ∈ X.ex \/ X.s₀.heap.objs.size <= it) (h2 : ∀ x c, X.env.cells.lookup x = some c -> c ≠ it) (h3 : ∀ p ∈ X.pn ++ pins, p.1 ≠ it) : Inv X pins σ H { s with heap := h', toks := t' } := by
 have nit : ∀ b u, H b = some u -> b ≠ it := fun b u e z => by rw [z, hn] at e; cases e
 refine I.step (g' := s.gens) (d' := s.drawn) (ch := [it]) (fun b hb => ?_) (fun b o _ _ hc e _ => k b o (fun z => hc (by simp [z])) e) (fun b o _ _ hc e _ => ⟨o.slots, k b o (fun z => hc (by simp [z])) e⟩) (fun _ _ _ _ n => n)
   (fun b o hc e => ⟨o, k b o (fun z => hc (by simp [z])) e⟩) (fun _ _ e => e) (fun _ _ _ e => e) (fun b ps e => ⟨#[], by rw [e]; simp⟩) (fun m hm => ?_) (fun b u e => ?_) I.bare
 . have e : b = it := by simpa using hb
   subst e
   exact ⟨h1, hL, h2, h3⟩
 . obtain ⟨o, es, ep, ho, r⟩ := hm
   exact ⟨o, es, ep, k _ o (aon hL) ho, r⟩
 . refine (I.d9 b u e).HP (fun c v hc q => k c v ?_ q) (fun _ q => q) fun _ _ q => q
   rcases hc with z | z
   . rw [z]; exact nit b u e
   . exact nit c _ z
theorem Inv.tok (I : Inv X pins σ H s) (t : Nat) : Inv X pins σ H { s with toks := t } := I.un (h' := s.heap) (t' := t) Un.refl I.d9
theorem Inv.kept {t' : Nat} (I : Inv X pins σ H s) (k : ∀ b u, s.heap.get? b = some u -> h'.get? b = some u) : Inv X pins σ H { s with heap := h', toks := t' } := I.un (Un.kept k) (I.d9.kept k)
theorem Inv.laid {a : Addr} {o : HO} {t' : Nat} (I : Inv X pins σ H s) (k : ∀ b u, s.heap.get? b = some u -> h'.get? b = some u) (hp : s.heap.objs.size <= a) (new : jv X.prog X.w (upd H a o) h' a o) :
   Inv X pins σ (upd H a o) { s with heap := h', toks := t' } := I.un (Un.laid k hp (I.d9.fresh hp)) (I.d9.laid k hp new)
theorem Inv.write {x e : Addr} {o : HO} {t' : Nat} (I : Inv X pins σ H s) (mu : Mut (H x)) (he : e = x \/ H e = some (.own x)) (k : ∀ b u, b ≠ e -> s.heap.get? b = some u -> h'.get? b = some u) (heo : ∃ u, h'.get? e = some u)
   (new : jv X.prog X.w (upd H x o) h' x o) : Inv X pins σ (upd H x o) { s with heap := h', toks := t' } := I.un (Un.write mu he k heo) (I.d9.write mu he k heo new)
theorem Inv.DH {R0 : List (Addr × Obj)} (I : Inv X pins σ H s) (h : ∀ p ∈ R0, s.heap.get? p.1 = some p.2 /\ H p.1 = none /\ p.1 ≠ X.env.locals /\ p.1 ∉ X.fs /\ ∀ v, p.2.data ≠ .cell v) : Inv X R0 σ H s :=
 ⟨I.ok, I.os, I.bare, I.base, I.loc, I.cell, I.free, I.wU, fun p hp => (ank.mp hp).elim (fun z => I.pin p (anl _ z)) (h p), I.d9, I.len⟩
theorem KL {N : List Str} (hN : N.Nodup) {i j : Nat} {x : Str} (a : N[i]? = some x) (b : N[j]? = some x) : i = j := by
 obtain ⟨h1, e1⟩ := anS.mp a
 obtain ⟨h2, e2⟩ := anS.mp b
 exact (List.getElem_inj hN).mp (e1.trans e2.symm)
theorem T4 {M : Model} {A : Around} {E : Value -> Shared -> Prop} {i : Nat} {x : Str} {v : V} {u : Value} {Q : Unit -> Shared -> Prop} (I : Inv X pins σ H s) (hN : X.N.Nodup) (hi : X.N[i]? = some x) (hx : Loc X.env.scope x) (r : RelV v u)
   (h : ∀ s', Inv X pins (σ.set i (some v)) H s' -> (∃ a, Heap.SameBut a s.heap s'.heap /\ (a = X.env.locals \/ X.env.cells.lookup x = some a)) -> Q () s') (hf : X.fn x = true \/ X.env.scope.names.lookup x = some .local := by first | exact .inl rfl | exact .inr rfl | assumption) : wpAny M A (storeName X.env x u) Q E s := by
 obtain ⟨m, hn, hl⟩ := id I.loc
 have aiy : (X.env.scope.kind == .class || (X.env.scope.kind == .module && X.env.locals != X.env.globals)) = false := by rw [I.ok.kind]; rfl
 have hiσ : i < σ.length := by rw [I.len]; exact (anS.mp hi).1
 have cne := I.cne
 have tracked : ∀ {a : Addr} {h' : Heap}, (∃ o, s.heap.get? a = some o /\ H a = none) -> Heap.SameBut a s.heap h' -> yt X.prog X.w H h' := fun {a h'} ha hs b ob e => by
   obtain ⟨_, _, acG⟩ := ha
   refine (I.d9 b ob e).HP (fun c w' hc q => (hs.2 c ?_).trans q) (fun _ q => q) fun _ _ q => q
   rintro rfl
   rcases hc with rfl | hc
   . rw [acG] at e; cases e
   . rw [acG] at hc; cases hc
 rcases hx with hk | hk
 . refine wpAny_storeName_local hk hn (fun h' hn' hs => ?_) aiy
   obtain ⟨oL, _, _, hoL, _⟩ := id hn
   refine h _ ⟨I.ok, I.os, I.bare, ⟨fun b o e n hb hx => ?_, fun b o e n hb hx => ?_, I.base.free, fun b o e hx => ?_, I.base.HQ, I.base.rH, I.base.HR⟩, ⟨_, hn', fun j y v' e1 e2 e3 => ?_⟩, fun y c e => ?_, I.free, I.wU, fun p hp => ?_, tracked ⟨oL, hoL, I.free⟩ hs, by simpa using I.len⟩ ⟨_, hs, .inl rfl⟩
   . exact (hs.2 b (anT (anV (anw e) I.ok.above))).trans (I.base.keep b o e n hb hx)
   . obtain ⟨sl, e1⟩ := I.base.slot b o e n hb hx
     exact ⟨sl, (hs.2 b (anT (anV (anw e) I.ok.above))).trans e1⟩
   . obtain ⟨o', e1⟩ := I.base.there b o e hx
     exact ⟨o', (hs.2 b (anT (anV (anw e) I.ok.above))).trans e1⟩
   . by_cases hj : j = i
     . subst hj
       rw [hi] at e1; cases e1
       rw [List.getElem?_set_self hiσ] at e2
       cases e2
       exact ⟨u, r, .inl ⟨hk, by simp⟩⟩
     . rw [List.getElem?_set_ne (aon hj)] at e2
       obtain ⟨u', r', q⟩ := hl j y v' e1 e2 e3
       refine ⟨u', r', ?_⟩
       rcases q with ⟨k, e⟩ | ⟨k, c, e, z⟩
       . refine .inl ⟨k, ?_⟩
         have : y ≠ x := fun e => hj (KL hN e1 (e ▸ hi))
         simp [this, e]
       . exact .inr ⟨k, c, e, z.sameBut hs (cne y c e)⟩
   . obtain ⟨w', z⟩ := I.cell y c e
     exact ⟨w', z.sameBut hs (cne y c e)⟩
   . obtain ⟨e, n, ne, nf, d⟩ := I.pin p hp
     exact ⟨(hs.2 p.1 ne).trans e, n, ne, nf, d⟩
 . have hfn : X.fn x = true := by
     rcases hf with z | z
     . exact z
     . rw [z] at hk; cases hk
   obtain ⟨c, hc⟩ := I.ok.has x (.inl hk)
   obtain ⟨w', z⟩ := I.cell x c hc
   refine wpAny_storeName_cell I.ok.kind hk hc z (fun h' hc' hs => ?_)
   obtain ⟨oc, hoc, aiA⟩ := id z
   refine h { s with heap := h' } ⟨I.ok, I.os, I.bare, ⟨fun b o e n hb hx => ?_, fun b o e n hb hx => ?_, I.base.free, fun b o e hx => ?_, I.base.HQ, I.base.rH, I.base.HR⟩, ⟨m, hn.sameBut hs (Ne.symm (cne x c hc)), fun j y v' e1 e2 e3 => ?_⟩, fun y c' e => ?_, I.free, I.wU, fun p hp => ?_, tracked ⟨oc, hoc, I.wU x c hc⟩ hs, by simpa using I.len⟩ ⟨c, hs, .inr hc⟩
   . exact (hs.2 b (anT (anV (anw e) (I.ok.cab x c hfn hc)))).trans (I.base.keep b o e n hb hx)
   . obtain ⟨sl, e1⟩ := I.base.slot b o e n hb hx
     exact ⟨sl, (hs.2 b (anT (anV (anw e) (I.ok.cab x c hfn hc)))).trans e1⟩
   . obtain ⟨o', e1⟩ := I.base.there b o e hx
     exact ⟨o', (hs.2 b (anT (anV (anw e) (I.ok.cab x c hfn hc)))).trans e1⟩
   . by_cases hj : j = i
     . subst hj
       rw [hi] at e1; cases e1
       rw [List.getElem?_set_self hiσ] at e2
       cases e2
       exact ⟨u, r, .inr ⟨.inl hk, c, hc, hc'⟩⟩
     . rw [List.getElem?_set_ne (aon hj)] at e2
       obtain ⟨u', r', q⟩ := hl j y v' e1 e2 e3
       refine ⟨u', r', ?_⟩
       rcases q with q | ⟨k, c', e, z'⟩
       . exact .inl q
       . refine .inr ⟨k, c', e, z'.sameBut hs ?_⟩
         rintro rfl
         exact hj (KL hN e1 (I.ok.inj _ _ _ e hc ▸ hi))
   . by_cases hcc : c' = c
     . subst hcc; exact ⟨_, hc'⟩
     . obtain ⟨w2, z2⟩ := I.cell y c' e
       exact ⟨w2, z2.sameBut hs hcc⟩
   . obtain ⟨e, n, ne, nf, d⟩ := I.pin p hp
     refine ⟨(hs.2 p.1 ?_).trans e, n, ne, nf, d⟩
     intro q
     rw [q, hoc] at e
     have q' : oc = p.2 := anA e
     exact d w' (by rw [← q']; exact aiA)
theorem D9 {M : Model} {A : Around} {E : Value -> Shared -> Prop} {i : Nat} {x : Str} {v : V} {u : Value} {Q : Unit -> Shared -> Prop} (I : Inv X pins σ H s) (hN : X.N.Nodup) (hi : X.N[i]? = some x) (hx : Loc X.env.scope x) (r : RelV v u)
   (h : ∀ s', Inv X pins (σ.set i (some v)) H s' -> Q () s') (hf : X.fn x = true \/ X.env.scope.names.lookup x = some .local := by first | exact .inl rfl | exact .inr rfl | assumption) : wpAny M A (storeName X.env x u) Q E s :=
 T4 I hN hi hx r (fun s' I' _ => h s' I') hf
end
noncomputable abbrev XK := Value -> Option Addr -> Hp -> Prop
noncomputable abbrev St := List (Option V)
noncomputable abbrev VK := V -> Hp -> Prop
noncomputable abbrev TE := St -> Hp -> VK -> Prop
noncomputable abbrev TT := St -> Hp -> (Bool -> Hp -> Prop) -> Prop
noncomputable abbrev TA := St -> Hp -> (List V -> Hp -> Prop) -> Prop
structure Ends where
 nx : St -> Hp -> Prop
 rt : VK
 bk : St -> Hp -> Prop := fun _ _ => False
 ct : St -> Hp -> Prop := fun _ _ => False
noncomputable abbrev TS := Ends -> St -> Hp -> Prop
noncomputable def EP (X : Cx) (pins : List (Addr × Obj)) (σ : St) (Q : VK) (u : Value) (s' : Shared) : Prop := ∃ v H', Inv X pins σ H' s' /\ RelV v u /\ Q v H'
noncomputable def TP (X : Cx) (pins : List (Addr × Obj)) (σ : St) (Q : Bool -> Hp -> Prop) (b : Bool) (s' : Shared) : Prop := ∃ H', Inv X pins σ H' s' /\ Q b H'
noncomputable def AP (X : Cx) (pins : List (Addr × Obj)) (σ : St) (Q : List V -> Hp -> Prop) (us : List Value) (s' : Shared) : Prop := ∃ vs H', Inv X pins σ H' s' /\ Vals vs us /\ Q vs H'
noncomputable def SP (X : Cx) (pins : List (Addr × Obj)) (D : Ends) (f : Flow) (s' : Shared) : Prop :=
 match f with
 | .next => ∃ σ' H', Inv X pins σ' H' s' /\ D.nx σ' H'
 | .brk => ∃ σ' H', Inv X pins σ' H' s' /\ D.bk σ' H'
 | .cont => ∃ σ' H', Inv X pins σ' H' s' /\ D.ct σ' H'
 | .ret u => ∃ v σ' H', Inv X pins σ' H' s' /\ RelV v u /\ D.rt v H'
noncomputable def PE (X : Cx) (e : Expr) (t : TE) : Prop :=
 ∀ (pins : List (Addr × Obj)) (s : Shared) (σ : St) (H : Hp) (Q : VK), Inv X pins σ H s -> t σ H Q -> wpAny (model X.prog X.w) X.A (eval e X.env) (EP X pins σ Q) X.xe s
noncomputable def PT (X : Cx) (e : Expr) (t : TT) : Prop :=
 ∀ (pins : List (Addr × Obj)) (s : Shared) (σ : St) (H : Hp) (Q : Bool -> Hp -> Prop), Inv X pins σ H s -> t σ H Q -> wpAny (model X.prog X.w) X.A (isTrue e X.env (eval e X.env)) (TP X pins σ Q) X.xe s
noncomputable def PW (X : Cx) (e : Expr) (t : TT) : Prop :=
 ∀ (whole : Sem Value) (pins : List (Addr × Obj)) (s : Shared) (σ : St) (H : Hp) (Q : Bool -> Hp -> Prop), Inv X pins σ H s -> t σ H Q -> wpAny (model X.prog X.w) X.A (isTrue e X.env whole) (TP X pins σ Q) X.xe s
noncomputable def PA (X : Cx) (es : List Expr) (t : TA) : Prop :=
 ∀ (pos : Pos) (pins : List (Addr × Obj)) (s : Shared) (σ : St) (H : Hp) (Q : List V -> Hp -> Prop), Inv X pins σ H s -> t σ H Q -> wpAny (model X.prog X.w) X.A (spliced (backTo pos (starEach es X.env))) (AP X pins σ Q) X.xe s
noncomputable def PS (X : Cx) (st : Stmt) (t : TS) : Prop :=
 ∀ (pins : List (Addr × Obj)) (s : Shared) (σ : St) (H : Hp) (D : Ends), Inv X pins σ H s -> t D σ H -> wpAny (model X.prog X.w) X.A (exec st X.env) (SP X pins D) X.xe s
noncomputable def R1 (X : Cx) (st : List Stmt) (t : TS) : Prop :=
 ∀ (pins : List (Addr × Obj)) (s : Shared) (σ : St) (H : Hp) (D : Ends), Inv X pins σ H s -> t D σ H -> wpAny (model X.prog X.w) X.A (execs st X.env) (SP X pins D) X.xe s
theorem ef {α : Type} {t : Sem α} {Q Q' : α -> Shared -> Prop} {M : Model} {A : Around} {E : Value -> Shared -> Prop} {s : Shared} (h : wpAny M A t Q E s) (hQ : ∀ a s, Q a s -> Q' a s) : wpAny M A t Q' E s := aor h hQ fun _ _ x => x
section
variable {X : Cx}
noncomputable def aiB (i : Nat) : TE := fun σ H Q => ∃ v, σ[i]? = some (some v) /\ Q v H
noncomputable def tC (v : V) : TE := fun _ H Q => Q v H
theorem qZ {i : Nat} {x : Str} {pos : Pos} (hN : X.N[i]? = some x) (hv : Vis X.env.scope x) (hd : (x == ("__debug__" : Str)) = false := by decide) (uF : (x == ("__classdict__" : Str)) = false := by decide) : PE X (.Name x pos) (aiB i) := by
 intro pins s σ H Q I h
 obtain ⟨v, e, h⟩ := h
 obtain ⟨m, hn, hl⟩ := I.loc
 obtain ⟨u, r, l⟩ := hl i x v hN e hv
 have fin : EP X pins σ Q u s := ⟨v, H, I, r, h⟩
 rcases l with ⟨hk, hm⟩ | ⟨hk, c, hc, BP⟩
 . exact wpAny_Name (wpAny_loadName_local I.ok.kind hk hn hm fin) hd
 . rcases hk with hk | hk
   . exact wpAny_Name (wpAny_loadName_cell I.ok.kind hk hc BP fin) hd
   . exact wpAny_Name (wpAny_loadName_free I.ok.kind hk hc BP fin uF) hd
theorem adF {i j pos} : PE X (.Constant (.int i) j pos) (tC (.int i)) := fun _ _ _ H _ I h => wpAny_Constant_int ⟨.int i, H, I.tok _, ⟨_, rfl⟩, h⟩
theorem af6 {b j pos} : PE X (.Constant (.bool b) j pos) (tC (.bl b)) := fun _ _ _ H _ I h => Constant_bool ⟨.bl b, H, I, rfl, h⟩
theorem adG {x j pos} : PE X (.Constant (.str x) j pos) (tC (.str x)) := fun _ _ _ H _ I h => Calls.Constant_str ⟨.str x, H, I.tok _, ⟨_, rfl⟩, h⟩
noncomputable def Gl (X : Cx) (x : Str) : Prop := X.env.kindOf x = some .globalImplicit
theorem DI {E : Value -> Shared -> Prop} {pins : List (Addr × Obj)} {s : Shared} {σ : St} {H : Hp} {x : Str} {u : Value} {pos : Pos} {Q : Value -> Shared -> Prop} (I : Inv X pins σ H s) (hg : Gl X x) (hm : X.mg x = some u) (h : Q u s)
   (hd : (x == ("__debug__" : Str)) = false := by decide) : wpAny (model X.prog X.w) X.A (eval (.Name x pos) X.env) Q E s :=
 Calls.Name_function_global I.ok.kind hg (Calls.loadGlobal_global (by rw [I.ok.glob]; exact I.mod.glob.keeps I.bk) hm h) hd
theorem xm {E : Value -> Shared -> Prop} {pins : List (Addr × Obj)} {s : Shared} {σ : St} {H : Hp} {x : Str} {u : Value} {pos : Pos} {Q : Value -> Shared -> Prop} (I : Inv X pins σ H s) (hg : Gl X x) (hm : X.mg x = none) (hv : bootBuiltins x = some u) (h : Q u s)
   (hn : x ≠ "__name__" := by decide) (hd : (x == ("__debug__" : Str)) = false := by decide) : wpAny (model X.prog X.w) X.A (eval (.Name x pos) X.env) Q E s := by
 obtain ⟨mb, h1, h2⟩ := I.mod.blt
 exact Calls.Name_function_global I.ok.kind hg (Calls.loadGlobal_builtin (by rw [I.ok.glob]; exact I.mod.glob.keeps I.bk) hm (by rw [I.ok.blt]; exact h1.keeps I.bk) ((h2 x hn).trans hv) h) hd
theorem HW {x : Str} {v : V} {u : Value} {pos : Pos} (hg : Gl X x) (hm : X.mg x = some u) (r : RelV v u) (hd : (x == ("__debug__" : Str)) = false := by decide) : PE X (.Name x pos) (tC v) :=
 fun _ _ _ H _ I h => DI I hg hm ⟨v, H, I, r, h⟩ hd
theorem aaf {x : Str} {v : V} {u : Value} {pos : Pos} (hg : Gl X x) (hm : X.mg x = none) (hv : bootBuiltins x = some u) (r : RelV v u) (hn : x ≠ "__name__" := by decide) (hd : (x == ("__debug__" : Str)) = false := by decide) : PE X (.Name x pos) (tC v) :=
 fun _ _ _ H _ I h => xm I hg hm hv ⟨v, H, I, r, h⟩ hn hd
variable {a b : Expr} {ta tb : TE} {pos : Pos}
noncomputable def PC (X : Cx) (op : CmpOp) (a b : Expr) (t : TE) : Prop :=
 ∀ (pins : List (Addr × Obj)) (s : Shared) (σ : St) (H : Hp) (Q : VK), Inv X pins σ H s -> t σ H Q →
   wpAny (model X.prog X.w) X.A (eval a X.env) (fun v s₁ => wpAny (model X.prog X.w) X.A (eval b X.env) (fun u s₂ => wpAny (model X.prog X.w) X.A (compareOp op v u) (EP X pins σ Q) X.xe s₂) X.xe s₁) X.xe s
theorem KN (b : Expr) {op : CmpOp} (h : op ≠ .In) (h2 : op ≠ .NotIn) : behindInMarks op b = false := by
 have e1 : (op == CmpOp.In) = false := by cases op <;> first | rfl | exact absurd rfl h
 have e2 : (op == CmpOp.NotIn) = false := by cases op <;> first | rfl | exact absurd rfl h2
 cases b <;> simp [behindInMarks, e1, e2]
noncomputable def tB (t : TE) : TT := fun σ H Q => t σ H fun x H1 => ∃ c, x = .bl c /\ Q c H1
theorem adH {op : CmpOp} {t : TE} (h : PC X op a b t) (h1 : behindInMarks op b = false := by first | exact KN _ (by decide) (by decide) | rfl) : PE X (.Compare a [op] [b] pos) t := fun pins s σ H Q I hw => wpAny_Compare1 (h pins s σ H Q I hw) h1
theorem adI {op : CmpOp} {t : TE} (h : PC X op a b t) (h1 : behindInMarks op b = false := by first | exact KN _ (by decide) (by decide) | rfl) : PT X (.Compare a [op] [b] pos) (tB t) := by
 intro pins s σ H Q I hw
 refine wpAny_isTrue_Compare1 (ef (h pins s σ H _ I hw) fun v s1 h1 => ef h1 fun u s2 h2 => ef h2 fun c s3 zz => ?_) h1
 obtain ⟨x, H1, I1, r1, q1⟩ := zz
 obtain ⟨d, rfl, q⟩ := q1
 cases r1
 exact aob ⟨H1, I1, q⟩
theorem adJ {e : Expr} {t : TE} (h : PE X e t) (he : ∀ whole, isTrue e X.env whole = (do let v ← whole; standAt e.pos; holding [v] (truthy v)) := by intro _; rfl) : PT X e (tB t) := by
 intro pins s σ H Q I hw
 refine isTrue_plain (ef (h pins s σ H _ I hw) fun v s1 zz => ?_) (he _)
 obtain ⟨x, H1, I1, r1, q1⟩ := zz
 obtain ⟨d, rfl, q⟩ := q1
 cases r1
 exact aob ⟨H1, I1, q⟩
variable {tA tB' : TT} {rest : List Expr}
noncomputable def aiC (t u : TT) : TT := fun σ H Q => t σ H fun c H1 => if c = true then u σ H1 Q else Q false H1
noncomputable def tOr (t u : TT) : TT := fun σ H Q => t σ H fun c H1 => if c = true then Q true H1 else u σ H1 Q
noncomputable def aiD (t : TT) : TT := fun σ H Q => t σ H fun c H1 => Q (!c) H1
theorem aag (ha : PT X a tA) : PW X (.BoolOp .And [a] pos) tA := by
 intro wh pins s σ H Q I h
 refine isTrue_and (ef (ha pins s σ H Q I h) fun c s1 e => ?_)
 cases c with
 | true => exact isTrue_and_nil e
 | false => exact e
theorem adK (ha : PT X a tA) : PW X (.BoolOp .Or [a] pos) tA := by
 intro wh pins s σ H Q I h
 refine isTrue_or (ef (ha pins s σ H Q I h) fun c s1 e => ?_)
 cases c with
 | false => exact isTrue_or_nil e
 | true => exact e
theorem adL (ha : PT X a tA) (hb : PW X (.BoolOp .And (b :: rest) pos) tB') : PW X (.BoolOp .And (a :: b :: rest) pos) (aiC tA tB') := by
 intro wh pins s σ H Q I h
 refine isTrue_and (ef (ha pins s σ H _ I h) fun c s1 zz => ?_)
 obtain ⟨H1, I1, q1⟩ := zz
 cases c with
 | true => exact hb wh pins s1 σ H1 Q I1 q1
 | false => exact ⟨H1, I1, q1⟩
theorem af7 (ha : PT X a tA) (hb : PW X (.BoolOp .Or (b :: rest) pos) tB') : PW X (.BoolOp .Or (a :: b :: rest) pos) (tOr tA tB') := by
 intro wh pins s σ H Q I h
 refine isTrue_or (ef (ha pins s σ H _ I h) fun c s1 zz => ?_)
 obtain ⟨H1, I1, q1⟩ := zz
 cases c with
 | true => exact ⟨H1, I1, q1⟩
 | false => exact hb wh pins s1 σ H1 Q I1 q1
theorem adM (ha : PT X a tA) : PT X (.UnaryOp .Not a pos) (aiD tA) := by
 intro pins s σ H Q I h
 exact isTrue_not (ha pins s σ H (fun c H1 => Q (!c) H1) I h)
noncomputable def af8 (ta tb : TE) : TE := fun σ H Q => ta σ H fun x H1 => ∃ c, x = .bl c /\ if c = true then tb σ H1 Q else Q (.bl false) H1
noncomputable def aiE (ta tb : TE) : TE := fun σ H Q => ta σ H fun x H1 => ∃ c, x = .bl c /\ if c = true then Q (.bl true) H1 else tb σ H1 Q
noncomputable def af9 (ta : TE) : TE := fun σ H Q => ta σ H fun x H1 => ∃ c, x = .bl c /\ Q (.bl (!c)) H1
theorem adN {op} {t : TE} (h : PE X a t) : PE X (.BoolOp op [a] pos) t := fun pins s σ H Q I hw => BoolOp_one (h pins s σ H Q I hw)
theorem adO (ha : PE X a ta) (hb : PE X (.BoolOp .And (b :: rest) pos) tb) : PE X (.BoolOp .And (a :: b :: rest) pos) (af8 ta tb) := by
 intro pins s σ H Q I h
 refine BoolOp_and (ef (ha pins s σ H _ I h) fun v s1 zz => ?_)
 obtain ⟨x, H1, I1, r1, q1⟩ := zz
 obtain ⟨c, rfl, q1⟩ := q1
 cases r1
 refine aob ?_
 cases c with
 | true => exact hb pins s1 σ H1 Q I1 q1
 | false => exact ⟨.bl false, H1, I1, rfl, q1⟩
theorem aga (ha : PE X a ta) (hb : PE X (.BoolOp .Or (b :: rest) pos) tb) : PE X (.BoolOp .Or (a :: b :: rest) pos) (aiE ta tb) := by
 intro pins s σ H Q I h
 refine BoolOp_or (ef (ha pins s σ H _ I h) fun v s1 zz => ?_)
 obtain ⟨x, H1, I1, r1, q1⟩ := zz
 obtain ⟨c, rfl, q1⟩ := q1
 cases r1
 refine aob ?_
 cases c with
 | false => exact hb pins s1 σ H1 Q I1 q1
 | true => exact ⟨.bl true, H1, I1, rfl, q1⟩
theorem adP (ha : PE X a ta) : PE X (.UnaryOp .Not a pos) (af9 ta) := by
 intro pins s σ H Q I h
 refine UnaryOp_ (ef (ha pins s σ H _ I h) fun v s1 zz => ?_)
 obtain ⟨x, H1, I1, r1, q1⟩ := zz
 obtain ⟨c, rfl, q1⟩ := q1
 cases r1
 exact not_of (aob ⟨.bl (!c), H1, I1, rfl, q1⟩)
noncomputable def tIf (t : TT) (ta tb : TE) : TE := fun σ H Q => t σ H fun c H1 => if c = true then ta σ H1 Q else tb σ H1 Q
theorem WH {c : Expr} (hc : PT X c tA) (ha : PE X a ta) (hb : PE X b tb) : PE X (.IfExp c a b pos) (tIf tA ta tb) := by
 intro pins s σ H Q I h
 refine wpAny_IfExp (ef (hc pins s σ H _ I h) fun d s1 zz => ?_)
 obtain ⟨H1, I1, q1⟩ := zz
 cases d with
 | true => exact ha pins s1 σ H1 Q I1 q1
 | false => exact hb pins s1 σ H1 Q I1 q1
end
noncomputable def pA (K : PySem.W.Frag) (H : Hp) (a : Addr) (xs : List V) : Prop :=
 Rd H a (.lst xs) ∨
   ∃ (o : Obj) (its : Array Value) (n : Nat), K.lookup a = some o /\ o.cls = .type "list" /\ o.dict = none /\ o.data = .seq its n /\ its.size <= sizeLine /\ Vals xs its.toList
noncomputable def AH (K : PySem.W.Frag) (H : Hp) (a : Addr) (xs : List V) : Prop :=
 Rd H a (.tup xs) ∨
   ∃ (o : Obj) (its : Array Value) (n : Nat), K.lookup a = some o /\ o.cls = .type "tuple" /\ o.data = .seq its n /\ its.size <= sizeLine /\ Vals xs its.toList
noncomputable def aiF : Value -> Option V
 | .none => some .non
 | .bool b => some (.bl b)
 | .int i _ => some (.int i)
 | .str x _ => some (.str x)
 | .bytes b _ => some (.RX b)
 | .float b _ => some (.flt b)
 | .ref a => some (.ref a)
 | .type n => some (.ty n)
 | _ => none
theorem RelV.abs {x : V} {u : Value} (r : RelV x u) : aiF u = some x := by
 cases x with
 | non => cases r; rfl
 | bl _ => cases r; rfl
 | int _ => obtain ⟨t, rfl⟩ := r; rfl
 | str _ => obtain ⟨t, rfl⟩ := r; rfl
 | RX _ => obtain ⟨t, rfl⟩ := r; rfl
 | flt _ => obtain ⟨t, rfl⟩ := r; rfl
 | ref _ => cases r; rfl
 | ty _ => cases r; rfl
theorem RelV.inj {x y : V} {u : Value} (r : RelV x u) (q : RelV y u) : x = y := anA (r.abs.symm.trans q.abs)
theorem Vals.inj {xs ys : List V} {us : List Value} (h : Vals xs us) (q : Vals ys us) : xs = ys := by
 induction h generalizing ys with
 | nil => cases q; rfl
 | cons r _ i => cases q with
   | cons r' t' => rw [r.inj r', i t']
section
variable {X : Cx} {pins : List (Addr × Obj)} {σ : St} {H : Hp} {s : Shared} {a : Addr} {xs ys : List V}
theorem pA.of {K : PySem.W.Frag} (h : H a = some (.lst xs)) : pA K H a xs := .inl (.inl h)
theorem AH.of {K : PySem.W.Frag} (h : H a = some (.tup xs)) : AH K H a xs := .inl (.inl h)
theorem Inv.list (I : Inv X pins σ H s) (h : pA X.K H a xs) : ∃ its : List Value, Vals xs its /\ PlainL s.heap a its.toArray /\ xs.length <= sizeLine := by
 rcases h with h | ⟨o, its, n, hk, hc, hd, hs, hz, r⟩
 . obtain ⟨z, its, n, r, e⟩ := h.ok I.d9
   exact ⟨its, r, ⟨_, n, e, rfl, rfl, rfl⟩, z⟩
 . refine ⟨its.toList, r, ⟨o, n, I.Kz a o hk, hc, hd, by simpa using hs⟩, ?_⟩
   have e := r.length
   simp only [aoo] at e
   omega
theorem Inv.tuple (I : Inv X pins σ H s) (h : AH X.K H a xs) : ∃ its : List Value, Vals xs its /\ IsTup s.heap a its.toArray /\ xs.length <= sizeLine := by
 rcases h with h | ⟨o, its, n, hk, hc, hs, hz, r⟩
 . obtain ⟨z, its, r, p⟩ := h.ok I.d9
   exact ⟨its, r, p, z⟩
 . refine ⟨its.toList, r, ⟨o, I.Kz a o hk, hc, n, by simpa using hs⟩, ?_⟩
   have e := r.length
   simp only [aoo] at e
   omega
theorem Inv.yu (I : Inv X pins σ H s) (h : pA X.K H a xs) (h' : pA X.K H a ys) : xs = ys := by
 obtain ⟨its, r, ⟨o, n, e, _, _, d⟩, _⟩ := I.list h
 obtain ⟨its', r', ⟨o', n', e', _, _, d'⟩, _⟩ := I.list h'
 rw [e] at e'; cases e'
 rw [d] at d'
 injection d' with d1 _
 have : its = its' := by simpa using congrArg Array.toList d1
 subst this
 exact r.inj r'
theorem Inv.T5 (I : Inv X pins σ H s) (h : AH X.K H a xs) (h' : AH X.K H a ys) : xs = ys := by
 obtain ⟨its, r, ⟨o, e, _, n, d⟩, _⟩ := I.tuple h
 obtain ⟨its', r', ⟨o', e', _, n', d'⟩, _⟩ := I.tuple h'
 rw [e] at e'; cases e'
 rw [d] at d'
 injection d' with d1 _
 have : its = its' := by simpa using congrArg Array.toList d1
 subst this
 exact r.inj r'
end
noncomputable abbrev Cx.wish (X : Cx) (E : Value -> Shared -> Prop) : Cx := { X with xe := E }
noncomputable abbrev Cx.nox (X : Cx) : Cx := X.wish fun _ _ => False
theorem Cx.Ok.wish {X : Cx} (ok : X.Ok) (E : Value -> Shared -> Prop) : (X.wish E).Ok :=
 ⟨ok.mod, ok.kind, ok.glob, ok.blt, ok.above, ok.inj, ok.has, ok.cab, ok.hd, ok.frames, ok.stk, ok.exf, ok.bs, ok.bsz, ok.WG, ok.aae, ok.Cr, ok.frf⟩
theorem Cx.Ok.uH {X : Cx} {E : Value -> Shared -> Prop} (ok : (X.wish E).Ok) : X.Ok :=
 ⟨ok.mod, ok.kind, ok.glob, ok.blt, ok.above, ok.inj, ok.has, ok.cab, ok.hd, ok.frames, ok.stk, ok.exf, ok.bs, ok.bsz, ok.WG, ok.aae, ok.Cr, ok.frf⟩
section
variable {X : Cx} {pins : List (Addr × Obj)} {σ : St} {H : Hp} {s : Shared} {E : Value -> Shared -> Prop}
theorem Inv.wish (I : Inv X pins σ H s) (E : Value -> Shared -> Prop) : Inv (X.wish E) pins σ H s := ⟨I.ok.wish E, I.os, I.bare, I.base, I.loc, I.cell, I.free, I.wU, I.pin, I.d9, I.len⟩
theorem Inv.uH (I : Inv (X.wish E) pins σ H s) : Inv X pins σ H s := ⟨I.ok.uH, I.os, I.bare, I.base, I.loc, I.cell, I.free, I.wU, I.pin, I.d9, I.len⟩
theorem SP.uH {D : Ends} {f : Flow} {s' : Shared} (h : SP (X.wish E) pins D f s') : SP X pins D f s' := by
 cases f with
 | next => obtain ⟨σ', H', I, q⟩ := h; exact ⟨σ', H', I.uH, q⟩
 | brk => obtain ⟨σ', H', I, q⟩ := h; exact ⟨σ', H', I.uH, q⟩
 | cont => obtain ⟨σ', H', I, q⟩ := h; exact ⟨σ', H', I.uH, q⟩
 | ret u => obtain ⟨v, σ', H', I, r, q⟩ := h; exact ⟨v, σ', H', I.uH, r, q⟩
theorem R1.nox {st : List Stmt} {t : TS} (h : R1 X.nox st t) : R1 X st t := fun pins s σ H D I hw =>
 aor (h pins s σ H D (I.wish _) hw) (fun _ _ q => q.uH) fun _ _ z => False.elim z
end
section
variable {X : Cx} {st : Stmt} {rest : List Stmt} {t u : TS} {e : Expr} {te : TE} {pos : Pos}
noncomputable def agb : TS := fun D σ H => D.nx σ H
noncomputable def aiG (t u : TS) : TS := fun D σ H => t { D with nx := u D } σ H
theorem aah : R1 X [] agb := fun _ _ σ H _ I h => wpAny_execs_nil ⟨σ, H, I, h⟩
theorem WK (h1 : PS X st t) (h2 : R1 X rest u) : R1 X (st :: rest) (aiG t u) := by
 intro pins s σ H D I h
 refine wpAny_execs_cons (ef (h1 pins s σ H { D with nx := u D } I h) fun f s1 q => ?_)
 cases f with
 | next =>
   obtain ⟨σ', H', I', q⟩ := q
   exact h2 pins s1 σ' H' D I' q
 | ret v => exact q
 | brk => exact q
 | cont => exact q
theorem Inv.quiet {pins : List (Addr × Obj)} {σ : St} {H : Hp} {s : Shared} (I : Inv X pins σ H s) : interactive X.env = false := by simp [interactive, I.ok.kind]
noncomputable def agc (te : TE) : TS := fun D σ H => te σ H fun _ H1 => D.nx σ H1
theorem yw (he : PE X e te) (hs : swapsWith e none pos.line X.env = pure false := by rfl) : PS X (.Expr e pos) (agc te) := by
 intro pins s σ H D I h
 exact wpAny_Expr_any (ef (he pins s σ H _ I h) fun v s1 ⟨x, H1, I1, r1, q1⟩ => ⟨σ, H1, I1, q1⟩) I.quiet hs
noncomputable def aiH (te : TE) : TS := fun D σ H => te σ H D.rt
theorem adQ (he : PE X e te) : PS X (.Return (some e) pos) (aiH te) := by
 intro pins s σ H D I h
 exact wpAny_Return_some (ef (he pins s σ H _ I h) fun v s1 ⟨x, H1, I1, r1, q1⟩ => ⟨x, σ, H1, I1, r1, q1⟩)
noncomputable def aiI (c : TT) (t u : TS) : TS := fun D σ H => c σ H fun b H1 => if b = true then t D σ H1 else u D σ H1
theorem agd {c : Expr} {a b : List Stmt} {tc : TT} (hc : PT X c tc) (ha : R1 X a t) (hb : R1 X b u) : PS X (.If c a b pos) (aiI tc t u) := by
 intro pins s σ H D I h
 refine wpAny_If (ef (hc pins s σ H _ I h) fun d s1 zz => ?_)
 obtain ⟨H1, I1, q1⟩ := zz
 cases d with
 | true => exact ha pins s1 σ H1 D I1 q1
 | false => exact hb pins s1 σ H1 D I1 q1
end
noncomputable abbrev TG := V -> St -> Hp -> (St -> Hp -> Prop) -> Prop
noncomputable abbrev TGs := List V -> St -> Hp -> (St -> Hp -> Prop) -> Prop
noncomputable def PG (X : Cx) (target : Expr) (t : TG) : Prop :=
 ∀ (pins : List (Addr × Obj)) (s : Shared) (σ : St) (H : Hp) (v : V) (u : Value) (Q : St -> Hp -> Prop), Inv X pins σ H s -> RelV v u -> t v σ H Q →
   wpAny (model X.prog X.w) X.A (assign target X.env u) (fun _ s' => ∃ σ' H', Inv X pins σ' H' s' /\ Q σ' H') X.xe s
noncomputable def PGs (X : Cx) (ts : List Expr) (t : TGs) : Prop :=
 ∀ (pins : List (Addr × Obj)) (s : Shared) (σ : St) (H : Hp) (vs : List V) (us : List Value) (Q : St -> Hp -> Prop), Inv X pins σ H s -> Vals vs us -> t vs σ H Q →
   wpAny (model X.prog X.w) X.A (assignInOrder ((assignEach ts X.env).map (·.2)) us) (fun _ s' => ∃ σ' H', Inv X pins σ' H' s' /\ Q σ' H') X.xe s
noncomputable abbrev TIp := V -> V -> Hp -> VK -> Prop
noncomputable def PIp (X : Cx) (op : Operator) (t : TIp) : Prop :=
 ∀ (pins : List (Addr × Obj)) (s : Shared) (σ : St) (H : Hp) (x y : V) (v u : Value) (Q : VK), Inv X pins σ H s -> RelV x v -> RelV y u -> t x y H Q →
   wpAny (model X.prog X.w) X.A (inplaceOp op v u) (EP X pins σ Q) X.xe s
section
variable {X : Cx} {pos : Pos}
noncomputable def BQ (i : Nat) : TG := fun v σ H Q => Q (σ.set i (some v)) H
theorem yx {i : Nat} {x : Str} (hN : X.N.Nodup) (hi : X.N[i]? = some x) (hx : Loc X.env.scope x) (hf : X.fn x = true \/ X.env.scope.names.lookup x = some .local := by first | exact .inl rfl | exact .inr rfl | assumption) : PG X (.Name x pos) (BQ i) := by
 intro pins s σ H v u Q I r h
 exact wpAny_assign_Name (D9 I hN hi hx r (fun s' I' => ⟨_, H, I', h⟩) hf)
noncomputable def adS : TGs := fun vs σ H Q => vs = [] /\ Q σ H
noncomputable def KP (t : TG) (u : TGs) : TGs := fun vs σ H Q => ∃ v r, vs = v :: r /\ t v σ H fun σ' H' => u r σ' H' Q
theorem aai : PGs X [] adS := by
 intro pins s σ H vs us Q I r h
 obtain ⟨e, h⟩ := h
 subst e
 cases r
 exact assignInOrder_nil ⟨σ, H, I, h⟩
theorem KQ {e : Expr} {es : List Expr} {t : TG} {u : TGs} (h1 : PG X e t) (h2 : PGs X es u)
   (hs : (assignEach (e :: es) X.env).map (·.2) = assign e X.env :: (assignEach es X.env).map (·.2) := by rfl) : PGs X (e :: es) (KP t u) := by
 intro pins s σ H vs us Q I r h
 obtain ⟨v, vr, e1, h⟩ := h
 subst e1
 cases r with
 | cons r rr =>
   rw [hs]
   refine assignInOrder_cons (ef (h1 pins s σ H _ _ _ I r h) fun _ s1 zz => ?_)
   obtain ⟨σ1, H1, I1, q1⟩ := zz
   exact h2 pins s1 σ1 H1 _ _ Q I1 rr q1
noncomputable def adT (K : PySem.W.Frag) (n : Nat) (t : TGs) : TG := fun v σ H Q => ∃ a xs, v = .ref a /\ AH K H a xs /\ xs.length = n /\ t xs σ H Q
theorem adU {es : List Expr} {k : Nat} {t : TGs} {n : Nat} (hc : X.calm = true) (h : PGs X es t)
   (hn : (assignEach es X.env).length = n := by rfl) (hst : (assignEach es X.env).findIdx? (·.1) = none := by rfl) : PG X (.Tuple es k pos) (adT X.K n t) := by
 intro pins s σ H v u Q I r hw
 obtain ⟨a, xs, e1, hq, hl, hw⟩ := hw
 subst e1
 cases r
 obtain ⟨its, rv, ht, hz⟩ := I.tuple hq
 refine assign_Tuple_tuple (I.ok.hd hc) ht (by simp [hn, ← hl, rv.length]) hst fun h' hx => ?_
 have I1 : Inv X pins σ H { s with heap := h' } := I.kept (t' := s.toks) fun b o e => hx b o (anT (anw e)) e
 exact h pins _ σ H xs _ Q I1 (by simpa using rv) hw
noncomputable def aiJ (te : TE) (g : TG) : TS := fun D σ H => te σ H fun x H1 => g x σ H1 D.nx
theorem adV {i : Nat} {x : Str} {e : Expr} {te : TE} {pos' : Pos} (hN : X.N.Nodup) (hi : X.N[i]? = some x) (hx : Loc X.env.scope x) (he : PE X e te) (hs : swapsWith e (some (.Name x pos')) pos.line X.env = pure false := by rfl) (hf : X.fn x = true \/ X.env.scope.names.lookup x = some .local := by first | exact .inl rfl | exact .inr rfl | assumption) :
   PS X (.Assign [.Name x pos'] e pos) (aiJ te (BQ i)) := by
 intro pins s σ H D I h
 refine wpAny_Assign_Name (ef (he pins s σ H _ I h) fun v s1 zz => ?_) hs
 obtain ⟨y, H1, I1, r1, q1⟩ := zz
 exact D9 I1 hN hi hx r1 (fun s2 I2 => ⟨_, H1, I2, q1⟩) hf
noncomputable def aiK (i : Nat) (te : TE) (ti : TIp) : TS := fun D σ H => ∃ x, σ[i]? = some (some x) /\ te σ H fun y H1 => ti x y H1 fun z H2 => D.nx (σ.set i (some z)) H2
theorem adW {i : Nat} {x : Str} {e : Expr} {te : TE} {op : Operator} {ti : TIp} {pos' : Pos} (hN : X.N.Nodup) (hi : X.N[i]? = some x) (hx : Loc X.env.scope x) (he : PE X e te) (ho : PIp X op ti) (hf : X.fn x = true \/ X.env.scope.names.lookup x = some .local := by first | exact .inl rfl | exact .inr rfl | assumption) :
   PS X (.AugAssign (.Name x pos') op e pos) (aiK i te ti) := by
 intro pins s σ H D I h
 obtain ⟨v, e1, h⟩ := h
 obtain ⟨m, hn, hl⟩ := I.loc
 have vis : Vis X.env.scope x := by rcases hx with k | k; exact .inl k; exact .inr (.inl k)
 obtain ⟨u, r, l⟩ := hl i x v hi e1 vis
 refine wpAny_AugAssign_Name ?_
 have go : wpAny (model X.prog X.w) X.A (eval e X.env) (fun w s₂ => wpAny (model X.prog X.w) X.A (inplaceOp op u w) (fun r s₃ => wpAny (model X.prog X.w) X.A (storeName X.env x r) (fun _ => SP X pins D .next) X.xe s₃) X.xe s₂) X.xe s := by
   refine ef (he pins s σ H _ I h) fun w s1 zz => ?_
   obtain ⟨y, H1, I1, r1, q1⟩ := zz
   refine ef (ho pins s1 σ H1 v y u w _ I1 r r1 q1) fun z s2 zz => ?_
   obtain ⟨zv, H2, I2, r2, q2⟩ := zz
   exact D9 I2 hN hi hx r2 (fun s3 I3 => ⟨_, H2, I3, q2⟩) hf
 rcases l with ⟨hk, hm⟩ | ⟨hk, c, hc, BP⟩
 . exact wpAny_loadName_local I.ok.kind hk hn hm go
 . rcases hk with hk | hk
   . exact wpAny_loadName_cell I.ok.kind hk hc BP go
   . rcases hx with k | k
     . have : X.env.scope.names.lookup x = some .free := hk
       rw [k] at this; cases this
     . have : X.env.scope.names.lookup x = some .free := hk
       rw [k] at this; cases this
noncomputable def ipI (f : Int -> Int -> Int) : TIp := fun x y H Q => ∃ i j, x = .int i /\ y = .int j /\ Q (.int (f i j)) H
theorem adX : PIp X .Add (ipI fun i j => i + j) := by
 intro pins s σ H x y v u Q I r1 r2 h
 obtain ⟨i, j, e1, e2, q⟩ := h
 subst e1; subst e2
 obtain ⟨t, rfl⟩ := r1
 obtain ⟨t', rfl⟩ := r2
 exact iadd_int ⟨.int _, H, I.tok _, ⟨_, rfl⟩, q⟩
end
section
variable {X : Cx} {pos : Pos}
noncomputable def adY (c : TT) (tb : TS) : TS := fun D σ H => ∃ W : Nat -> St -> Hp -> Prop, (∃ m, W m σ H) /\ ∀ m σ H, W m σ H →
 c σ H fun b H1 => if b = true then ∃ N : St -> Hp -> Prop, (∀ σ' H', N σ' H' -> ∃ m', m' < m /\ W m' σ' H') /\ tb { D with nx := N, ct := N, bk := D.nx } σ H1 else D.nx σ H1
theorem WL {c : Expr} {body : List Stmt} {tc : TT} {tb : TS} (hp : PassesOwn (model X.prog X.w) X.A X.env X.xe) (hc : PT X c tc) (hb : R1 X body tb) : PS X (.While c body [] pos) (adY tc tb) := by
 intro pins s σ H D I h
 obtain ⟨W, ⟨m0, w0⟩, turn⟩ := h
 refine wpAny_While (codeAny_whileLoop (fun n s' => ∃ σ' H', Inv X pins σ' H' s' /\ W n σ' H') ?_ m0 ⟨σ, H, I, w0⟩)
 rintro n s1 ⟨σ1, H1, I1, w1⟩
 refine aoE hp (ef (hc pins s1 σ1 H1 _ I1 (turn n σ1 H1 w1)) fun b s2 zz => ?_)
 obtain ⟨H2, I2, q2⟩ := zz
 cases b with
 | true =>
   obtain ⟨N, hN, q2⟩ := q2
   rw [anu rfl]
   refine aoE hp (ef (hb pins s2 σ1 H2 _ I2 q2) fun f s3 q3 => ?_)
   cases f with
   | next =>
     obtain ⟨σ3, H3, I3, n3⟩ := q3
     obtain ⟨m', hm, w3⟩ := hN σ3 H3 n3
     exact ⟨m', hm, σ3, H3, I3, w3⟩
   | cont =>
     obtain ⟨σ3, H3, I3, n3⟩ := q3
     obtain ⟨m', hm, w3⟩ := hN σ3 H3 n3
     exact ⟨m', hm, σ3, H3, I3, w3⟩
   | brk => exact q3
   | ret v => exact q3
 | false =>
   rw [anm ans]
   exact wpAny_execs_nil ⟨σ1, H2, I2, q2⟩
end
structure It where
 go : Nat -> Hp -> Prop
 yld : Nat -> Hp -> V -> Hp -> Prop
 stop : Nat -> Hp -> Prop
noncomputable def Ct (X : Cx) (pins : List (Addr × Obj)) (H : Hp) (b : Addr) : Prop :=
 H b = none /\ b ≠ X.env.locals /\ b ∉ X.fs /\ (b ∈ X.ex \/ X.s₀.heap.objs.size <= b) /\ (∀ x c, X.env.cells.lookup x = some c -> c ≠ b) /\ ∀ p ∈ X.pn ++ pins, p.1 ≠ b
theorem Inv.Ea {X : Cx} {pins : List (Addr × Obj)} {σ : St} {H H' : Hp} {s : Shared} {b : Addr} (I : Inv X pins σ H s) (hb : s.heap.objs.size <= b) (hn : H' b = none) : Ct X pins H' b := by
 refine ⟨hn, Nat.ne_of_gt (anV I.lt hb), I.aiw hb, .inr (anW I.sz hb), fun x c e z => ?_, fun p hp z => ?_⟩
 . obtain ⟨v, q⟩ := I.cell x c e
   exact absurd (anV q.lt (by rw [z]; exact hb)) (aoW _)
 . exact absurd (anV (anw (I.pin p hp).1) (by rw [z]; exact hb)) (aoW _)
structure Turn (P : Program) (w : World) (K : PySem.W.Frag) (tg : Expr) (J : It) (fp : List Addr) (it : Addr) (tn : Nat -> Heap -> Prop) : Prop where
 mem : it ∈ fp
 obj : ∀ i h, tn i h -> ∀ b ∈ fp, ∃ o, h.get? b = some o /\ ∀ v, o.data ≠ .cell v
 keep : ∀ i h h', tn i h -> (∀ b ∈ fp, ∀ o, h.get? b = some o -> h'.get? b = some o) -> tn i h'
 item : ∀ (X : Cx), X.prog = P -> X.w = w -> X.K = K -> X.calm = true -> ∀ (i : Nat) (pins : List (Addr × Obj)) (s : Shared) (σ : St) (H : Hp) (E : Value -> Shared -> Prop), Inv X pins σ H s -> (∀ b ∈ fp, Ct X pins H b) -> tn i s.heap -> J.go i H →
   wpAny (model P w) X.A (pyNext (.ref it)) (fun r s1 => ∃ u, r = some u ∧
     wpAny (model P w) X.A (letOwnedTupleGo tg (.ref it) u) (fun _ s2 => ∃ x H', Inv X pins σ H' s2 /\ RelV x u /\ J.yld i H x H' /\ tn (i + 1) s2.heap /\ ∀ b ∈ fp, H' b = none) E s1) E s
 done : ∀ (X : Cx), X.prog = P -> X.w = w -> X.K = K -> X.calm = true -> ∀ (i : Nat) (pins : List (Addr × Obj)) (s : Shared) (σ : St) (H : Hp) (E : Value -> Shared -> Prop), Inv X pins σ H s -> (∀ b ∈ fp, Ct X pins H b) -> tn i s.heap -> J.stop i H →
   wpAny (model P w) X.A (pyNext (.ref it)) (fun r s1 => r = none /\ Inv X pins σ H s1) E s
 self : ∀ (A : Around) (i : Nat) (s : Shared) (Q : Value -> Shared -> Prop) (E : Value -> Shared -> Prop), tn i s.heap -> Q (.ref it) s -> wpAny (model P w) A (pyIter (.ref it)) Q E s
noncomputable abbrev TI := St -> Hp -> (It -> Hp -> Prop) -> Prop
noncomputable def PIE (X : Cx) (pins : List (Addr × Obj)) (σ : St) (tg : Expr) (R : It -> Hp -> Prop) (itv : Value) (s2 : Shared) : Prop :=
 ∃ (it : Addr) (fp : List Addr) (tn : Nat -> Heap -> Prop) (J : It) (H' : Hp), itv = .ref it /\ Inv X pins σ H' s2 /\ Turn X.prog X.w X.K tg J fp it tn /\ tn 0 s2.heap /\ (∀ b ∈ fp, Ct X pins H' b) /\ R J H'
noncomputable def PI (X : Cx) (tg iter : Expr) (wi : TI) : Prop :=
 ∀ (pins : List (Addr × Obj)) (s : Shared) (σ : St) (H : Hp) (R : It -> Hp -> Prop), Inv X pins σ H s -> wi σ H R →
   wpAny (model X.prog X.w) X.A (eval iter X.env) (fun v s1 => wpAny (model X.prog X.w) X.A (pyIter v) (PIE X pins σ tg R) X.xe s1) X.xe s
theorem KR {M : Model} {A : Around} {E : Value -> Shared -> Prop} {s : Shared} {tg : Expr} {it : Addr} {u : Value} {o : Obj} {n : String} {vs : Array Value} {Q : Unit -> Shared -> Prop} (ho : s.heap.get? it = some o) (hc : o.cls = .type n) (hd : o.data = .fields vs)
   (hn : ["enumerate", "zip", "dict_itemiterator", "dict_reverseitemiterator", "odict_iterator", "itertools.zip_longest", "itertools.pairwise"].contains n = false) (hQ : Q () s) : wpAny M A (letOwnedTupleGo tg (.ref it) u) Q E s := by
 unfold letOwnedTupleGo
 cases tg <;> first
   | exact an0 hQ
   | (cases u <;> first
       | exact an0 hQ
       | (refine anP (wpAny_load ho ?_)
          rw [hc, hd]
          show wpAny M A (if (["enumerate", "zip", "dict_itemiterator", "dict_reverseitemiterator", "odict_iterator", "itertools.zip_longest", "itertools.pairwise"].contains n && vs[0]? == some (rawInt _)) = true then _ else _) Q E s
          rw [anm (by intro h; rw [hn, ao6] at h; cases h)]
          exact an0 hQ))
noncomputable def Itl (K : PySem.W.Frag) (a : Addr) : It :=
 ⟨fun i H => ∃ xs x, pA K H a xs /\ xs[i]? = some x, fun i H x H' => H' = H /\ ∀ xs, pA K H a xs -> xs[i]? = some x, fun i H => ∃ xs, pA K H a xs /\ xs.length <= i⟩
noncomputable def Itt (K : PySem.W.Frag) (a : Addr) : It :=
 ⟨fun i H => ∃ xs x, AH K H a xs /\ xs[i]? = some x, fun i H x H' => H' = H /\ ∀ xs, AH K H a xs -> xs[i]? = some x, fun i H => ∃ xs, AH K H a xs /\ xs.length <= i⟩
noncomputable def Itr (lo : Int) (n : Nat) : It := ⟨fun i _ => i < n, fun i H x H' => H' = H /\ x = .int (lo + i), fun i _ => n <= i⟩
theorem T6 {P : Program} {w : World} {K : PySem.W.Frag} {tg : Expr} (a it : Addr) : Turn P w K tg (Itl K a) [it] it (fun i h => h.IsListIter it a i) where
 mem := by simp
 obj := fun i h st b hb => by
   have e : b = it := by simpa using hb
   subst e
   obtain ⟨o, e, c, d⟩ := st
   exact ⟨o, e, fun v z => by rw [d] at z; cases z⟩
 keep := fun i h h' st k => st.at fun o e => k it (by simp) o e
 item := by
   intro X hP hw hK hc i pins s σ H E I hf st hg
   subst hP hw hK
   obtain ⟨xs, x, hq, hx⟩ := hg
   obtain ⟨its, rv, p, hz⟩ := I.list hq
   obtain ⟨u, hu, ru⟩ := rv.get hx
   obtain ⟨f0, f1, f2, f3, f4, f5⟩ := hf it (by simp)
   refine wpAny_pyNext_list_item st p.isList (x := u) (by simpa using hu) fun h' R3 sb => ?_
   have I1 : Inv X pins σ H { s with heap := h' } := I.turned (t' := s.toks) (fun b o hb e => (sb.2 b hb).trans e) f0 f1 f3 f4 f5
   obtain ⟨o, e, c, d⟩ := id R3
   exact ⟨u, rfl, KR (s := { s with heap := h' }) e c d (by decide) ⟨x, H, I1, ru, ⟨rfl, fun ys hy => by rw [I.yu hy hq]; exact hx⟩, R3, fun b hb => (hf b hb).1⟩⟩
 done := by
   intro X hP hw hK hc i pins s σ H E I hf st hg
   subst hP hw hK
   obtain ⟨xs, hq, hx⟩ := hg
   obtain ⟨its, rv, p, hz⟩ := I.list hq
   obtain ⟨f0, f1, f2, f3, f4, f5⟩ := hf it (by simp)
   have hl := rv.length
   exact wpAny_pyNext_list_end (I.ok.hd hc) st p.isList (by simp; omega) fun h' eb => ⟨rfl, I.turned (t' := s.toks) (fun b o hb e => eb b o hb e) f0 f1 f3 f4 f5⟩
 self := fun _ _ _ _ _ st h => wpAny_pyIter_listiter st h
theorem Ol {P : Program} {w : World} {K : PySem.W.Frag} {tg : Expr} (a it : Addr) : Turn P w K tg (Itt K a) [it] it (fun i h => h.IsTupleIter it a i) where
 mem := by simp
 obj := fun i h st b hb => by
   have e : b = it := by simpa using hb
   subst e
   obtain ⟨o, e, c, d⟩ := st
   exact ⟨o, e, fun v z => by rw [d] at z; cases z⟩
 keep := fun i h h' st k => st.at fun o e => k it (by simp) o e
 item := by
   intro X hP hw hK hc i pins s σ H E I hf st hg
   subst hP hw hK
   obtain ⟨xs, x, hq, hx⟩ := hg
   obtain ⟨its, rv, p, hz⟩ := I.tuple hq
   obtain ⟨u, hu, ru⟩ := rv.get hx
   obtain ⟨f0, f1, f2, f3, f4, f5⟩ := hf it (by simp)
   refine wpAny_pyNext_tuple_item st (show s.heap.IsTuple a its.toArray from p) (x := u) (by simpa using hu) fun h' R3 sb => ?_
   have I1 : Inv X pins σ H { s with heap := h' } := I.turned (t' := s.toks) (fun b o hb e => (sb.2 b hb).trans e) f0 f1 f3 f4 f5
   obtain ⟨o, e, c, d⟩ := id R3
   exact ⟨u, rfl, KR (s := { s with heap := h' }) e c d (by decide) ⟨x, H, I1, ru, ⟨rfl, fun ys hy => by rw [I.T5 hy hq]; exact hx⟩, R3, fun b hb => (hf b hb).1⟩⟩
 done := by
   intro X hP hw hK hc i pins s σ H E I hf st hg
   subst hP hw hK
   obtain ⟨xs, hq, hx⟩ := hg
   obtain ⟨its, rv, p, hz⟩ := I.tuple hq
   obtain ⟨f0, f1, f2, f3, f4, f5⟩ := hf it (by simp)
   have hl := rv.length
   exact wpAny_pyNext_tuple_end (I.ok.hd hc) st (show s.heap.IsTuple a its.toArray from p) (by simp; omega) fun h' eb => ⟨rfl, I.turned (t' := s.toks) (fun b o hb e => eb b o hb e) f0 f1 f3 f4 f5⟩
 self := fun _ _ _ _ _ st h => wpAny_pyIter_tupleiter st h
theorem Om {P : Program} {w : World} {K : PySem.W.Frag} {tg : Expr} (it : Addr) (lo : Int) (n : Nat) : Turn P w K tg (Itr lo n) [it] it (fun i h => IsRangeIter h it (lo + (i : Nat) * 1) ((n : Int) - (i : Nat)) 1) where
 mem := by simp
 obj := fun i h st b hb => by
   have e : b = it := by simpa using hb
   subst e
   exact ⟨_, st, fun v z => by
     have z' : Data.fields _ = Data.cell v := z
     cases z'⟩
 keep := fun i h h' st k => k it (by simp) _ st
 item := by
   intro X hP hw hK hc i pins s σ H E I hf st hg
   subst hP hw hK
   obtain ⟨f0, f1, f2, f3, f4, f5⟩ := hf it (by simp)
   have W := Walks.range (prog := X.prog) (w := X.w) (I.ok.hd hc) it lo 1 n
   refine W.item i s _ _ hg st fun v h' tk hv R3 kk => ?_
   obtain ⟨t, rfl⟩ := hv
   have I1 : Inv X pins σ H { s with heap := h', toks := tk } := I.turned (fun b o hb e => kk b o (by simpa using hb) e) f0 f1 f3 f4 f5
   refine ⟨_, rfl, KR (s := { s with heap := h', toks := tk }) (n := "range_iterator") R3 rfl rfl (by decide) ⟨.int (lo + i), H, I1, ⟨t, ?_⟩, ⟨rfl, rfl⟩, R3, fun b hb => (hf b hb).1⟩⟩
   rw [Int.mul_one]
 done := by
   intro X hP hw hK hc i pins s σ H E I hf st hg
   subst hP hw hK
   obtain ⟨f0, f1, f2, f3, f4, f5⟩ := hf it (by simp)
   exact wpAny_pyNext_range_end (I.ok.hd hc) st (by have : n <= i := hg; omega) fun h' eb => ⟨rfl, I.turned (t' := s.toks) (fun b o hb e => eb b o hb e) f0 f1 f3 f4 f5⟩
 self := fun _ _ _ _ _ st h => wpAny_pyIter_rangeiter st h
section
variable {X : Cx} {tg : Expr}
noncomputable def age (K : PySem.W.Frag) (tl : TE) : TI := fun σ H R => tl σ H fun x H1 => ∃ a, x = .ref a /\ (∃ xs, pA K H1 a xs) /\ R (Itl K a) H1
noncomputable def aiL (K : PySem.W.Frag) (tl : TE) : TI := fun σ H R => tl σ H fun x H1 => ∃ a, x = .ref a /\ (∃ xs, AH K H1 a xs) /\ R (Itt K a) H1
theorem aak {l : Expr} {tl : TE} (hl : PE X l tl) : PI X tg l (age X.K tl) := by
 intro pins s σ H R I h
 refine ef (hl pins s σ H _ I h) fun v s1 zz => ?_
 obtain ⟨x, H1, I1, r1, q1⟩ := zz
 obtain ⟨a, e, ⟨xs, hq⟩, q⟩ := q1
 subst e
 cases r1
 obtain ⟨its, rv, p, hz⟩ := I1.list hq
 refine wpAny_pyIter_list p.isList ?_
 refine ⟨s1.heap.objs.size, [s1.heap.objs.size], _, _, H1, rfl, I1.kept (t' := s1.toks) fun b o e => ant _ e, T6 a _, ⟨_, anR _ rfl, rfl, rfl⟩, fun b hb => ?_, q⟩
 have e : b = s1.heap.objs.size := by simpa using hb
 subst e
 exact I1.Ea (anq _) (I1.d9.fresh (anq _))
theorem adZ {l : Expr} {tl : TE} (hl : PE X l tl) : PI X tg l (aiL X.K tl) := by
 intro pins s σ H R I h
 refine ef (hl pins s σ H _ I h) fun v s1 zz => ?_
 obtain ⟨x, H1, I1, r1, q1⟩ := zz
 obtain ⟨a, e, ⟨xs, hq⟩, q⟩ := q1
 subst e
 cases r1
 obtain ⟨its, rv, p, hz⟩ := I1.tuple hq
 refine wpAny_pyIter_tuple (show s1.heap.IsTuple a its.toArray from p) ?_
 refine ⟨s1.heap.objs.size, [s1.heap.objs.size], _, _, H1, rfl, I1.kept (t' := s1.toks) fun b o e => ant _ e, Ol a _, ⟨_, anR _ rfl, rfl, rfl⟩, fun b hb => ?_, q⟩
 have e : b = s1.heap.objs.size := by simpa using hb
 subst e
 exact I1.Ea (anq _) (I1.d9.fresh (anq _))
theorem KS {pins : List (Addr × Obj)} {σ : St} {H : Hp} {s : Shared} {R : It -> Hp -> Prop} {E : Value -> Shared -> Prop} {lo hi : Int} {t u v : Tok} {tk : Nat} (I : Inv X pins σ H s) (h1 : -(2 ^ 62) <= lo) (h2 : lo < 2 ^ 62) (h3 : -(2 ^ 62) <= hi) (h4 : hi < 2 ^ 62)
   (q : R (Itr lo (hi - lo).toNat) H) : wpAny (model X.prog X.w) X.A (pyIter (.ref s.heap.objs.size)) (PIE X pins σ tg R) E { s with heap := s.heap.push { cls := .type "range", data := .fields #[.int lo t, .int hi u, .int 1 v] }, toks := tk } := by
 refine wpAny_pyIter_range (IsRange.new ..) (small_one h1 h2 h3 h4) ?_
 have I1 : Inv X pins σ H { s with heap := s.heap.push { cls := .type "range", data := .fields #[.int lo t, .int hi u, .int 1 v] }, toks := tk } := I.kept fun b o e => ant _ e
 refine ⟨(s.heap.push { cls := .type "range", data := .fields #[.int lo t, .int hi u, .int 1 v] }).objs.size, [(s.heap.push { cls := .type "range", data := .fields #[.int lo t, .int hi u, .int 1 v] }).objs.size], _, _, H, rfl,
   I1.kept (t' := tk) fun b o e => ant _ e, Om _ lo (hi - lo).toNat, ?_, fun b hb => ?_, q⟩
 . have e1 : lo + ((0 : Nat) : Int) * 1 = lo := by simp
   have e2 : (((hi - lo).toNat : Nat) : Int) - ((0 : Nat) : Int) = Builtin.Range.rangeSize lo hi 1 := by rw [rangeSize_one]; split <;> omega
   show IsRangeIter _ _ (lo + ((0 : Nat) : Int) * 1) ((((hi - lo).toNat : Nat) : Int) - ((0 : Nat) : Int)) 1
   rw [e1, e2]
   exact anR _ rfl
 . have e : b = (s.heap.push { cls := .type "range", data := .fields #[.int lo t, .int hi u, .int 1 v] }).objs.size := by simpa using hb
   subst e
   exact I1.Ea (anq _) (I1.d9.fresh (anq _))
noncomputable def agf (ta : TA) : TI := fun σ H R => ta σ H fun vs H1 => ∃ j : Int, vs = [.int j] /\ -(2 ^ 62) <= j /\ j < 2 ^ 62 /\ R (Itr 0 j.toNat) H1
noncomputable def agg (ta : TA) : TI := fun σ H R => ta σ H fun vs H1 => ∃ i j : Int, vs = [.int i, .int j] /\ (-(2 ^ 62) <= i /\ i < 2 ^ 62 /\ -(2 ^ 62) <= j /\ j < 2 ^ 62) /\ R (Itr i (j - i).toNat) H1
theorem T7 {a : Expr} {ta : TA} {p pos : Pos} (hg : Gl X "range") (hm : X.mg "range" = none) (ha : PA X [a] ta) (hs : starEach [a] X.env = [(false, eval a X.env)] := by rfl) : PI X tg (.Call (.Name "range" p) [a] [] pos) (agf ta) := by
 intro pins s σ H R I h
 refine Call_ (xm I hg hm boot_range (aol (ef (ha pos pins s σ H _ I h) fun us s1 zz => ?_) hs rfl))
 obtain ⟨vs, H1, I1, r1, q1⟩ := zz
 obtain ⟨j, e, q1, q2, q⟩ := q1
 subst e
 cases r1 with
 | cons r rr =>
   cases rr
   obtain ⟨t, rfl⟩ := r
   exact call_range_1 (KS I1 (by omega) (by omega) q1 q2 (by simpa using q))
theorem T8 {a b : Expr} {ta : TA} {p pos : Pos} (hg : Gl X "range") (hm : X.mg "range" = none) (ha : PA X [a, b] ta) (hs : starEach [a, b] X.env = [(false, eval a X.env), (false, eval b X.env)] := by rfl) (wV : starEach [b] X.env = [(false, eval b X.env)] := by rfl) :
   PI X tg (.Call (.Name "range" p) [a, b] [] pos) (agg ta) := by
 intro pins s σ H R I h
 refine Call_ (xm I hg hm boot_range (aol (ef (ha pos pins s σ H _ I h) fun us s1 zz => ?_) (by rw [hs, wV]) (by rw [wV]; rfl)))
 obtain ⟨vs, H1, I1, r1, q1⟩ := zz
 obtain ⟨i, j, e, ⟨q1, q2, q3, q4⟩, q⟩ := q1
 subst e
 cases r1 with
 | cons r rr =>
   cases rr with
   | cons r' rr =>
     cases rr
     obtain ⟨t, rfl⟩ := r
     obtain ⟨t', rfl⟩ := r'
     exact call_range_2 (KS I1 q1 q2 q3 q4 q)
noncomputable def aiM (wi : TI) (g : TG) (tb : TS) : TS := fun D σ H => wi σ H fun J H1 => ∃ W : Nat -> Nat -> St -> Hp -> Prop, (∃ m, W 0 m σ H1) /\ ∀ i m σ H, W i m σ H →
 (J.stop i H /\ D.nx σ H) \/ (J.go i H /\ ∃ N : St -> Hp -> Prop, (∀ σ' H', N σ' H' -> ∃ m', m' < m /\ W (i + 1) m' σ' H') /\ ∀ x H', J.yld i H x H' -> g x σ H' fun σ2 H2 => tb { D with nx := N, ct := N, bk := D.nx } σ2 H2)
noncomputable def Eb (fp : List Addr) (h : Heap) : List (Addr × Obj) := fp.filterMap fun b => (h.get? b).map fun o => (b, o)
theorem su {fp : List Addr} {h : Heap} {b : Addr} {o : Obj} (hb : b ∈ fp) (e : h.get? b = some o) : (b, o) ∈ Eb fp h := List.mem_filterMap.mpr ⟨b, hb, by rw [e]; rfl⟩
theorem T9 {fp : List Addr} {h : Heap} {p : Addr × Obj} (hp : p ∈ Eb fp h) : p.1 ∈ fp /\ h.get? p.1 = some p.2 := by
 obtain ⟨b, hb, e⟩ := List.mem_filterMap.mp hp
 cases q : h.get? b with
 | none => rw [q] at e; cases e
 | some o =>
   rw [q] at e
   have e' : (b, o) = p := anA e
   subst e'
   exact ⟨hb, q⟩
theorem Inv.pinned {pins : List (Addr × Obj)} {σ : St} {H : Hp} {s : Shared} {fp : List Addr} (I : Inv X pins σ H s) (hf : ∀ b ∈ fp, Ct X pins H b) (ho : ∀ b ∈ fp, ∃ o, s.heap.get? b = some o /\ ∀ v, o.data ≠ .cell v) : Inv X (pins ++ Eb fp s.heap) σ H s :=
 I.DH fun p hp => (ank.mp hp).elim (fun z => I.pin p (anf _ z)) fun z => by
   obtain ⟨hb, e⟩ := T9 z
   obtain ⟨f0, f1, f2, _⟩ := hf p.1 hb
   obtain ⟨o, e', d⟩ := ho p.1 hb
   rw [e] at e'; cases e'
   exact ⟨e, f0, f1, f2, d⟩
theorem Inv.yy {pins pl : List (Addr × Obj)} {σ : St} {H : Hp} {s : Shared} (I : Inv X (pins ++ pl) σ H s) : Inv X pins σ H s := I.DH fun p hp => I.pin p (anf _ (anl _ hp))
theorem WM {iter : Expr} {body : List Stmt} {wi : TI} {g : TG} {tb : TS} {pos : Pos} (hp : PassesOwn (model X.prog X.w) X.A X.env X.xe) (hc : X.calm = true) (hi : PI X tg iter wi) (hg : PG X tg g) (hb : R1 X body tb)
   (hs : ∀ x, foldedSetIterable iter X.env x = pure x := by intro _; rfl) : PS X (.For tg iter body [] pos) (aiM wi g tb) := by
 intro pins s σ H D I h
 refine wpAny_For (ef (hi pins s σ H _ I h) fun v s1 h1 => ef h1 fun itv s2 h2 => ?_) hs
 obtain ⟨it, fp, tn, J, H2, e, I2, T, st2, f2, W, ⟨m0, w0⟩, turn⟩ := h2
 subst e
 have stat : ∀ {H' : Hp}, (∀ b ∈ fp, H' b = none) -> ∀ b ∈ fp, Ct X pins H' b := fun hn b hb => ⟨hn b hb, (f2 b hb).2⟩
 refine codeAny_forLoop_any (fun n s' => ∃ i σ' H', Inv X pins σ' H' s' /\ tn i s'.heap /\ (∀ b ∈ fp, H' b = none) /\ W i n σ' H') ?_ m0 ⟨0, σ, H2, I2, st2, fun b hb => (f2 b hb).1, w0⟩
 rintro n s3 ⟨i, σ3, H3, I3, st3, fr3, w3⟩
 rcases turn i n σ3 H3 w3 with ⟨stop, qn⟩ | ⟨go, N, hN, step⟩
 . refine aoE hp (ef (T.done X rfl rfl rfl hc i pins s3 σ3 H3 X.xe I3 (stat fr3) st3 stop) fun r s4 zz => ?_)
   obtain ⟨hr, I4⟩ := zz
   subst hr
   exact wpAny_execs_nil ⟨σ3, H3, I4, qn⟩
 . refine aoE hp (ef (T.item X rfl rfl rfl hc i pins s3 σ3 H3 X.xe I3 (stat fr3) st3 go) fun r s4 zz => ?_)
   obtain ⟨u, hr, h4⟩ := zz
   subst hr
   refine aoE hp (ef h4 fun _ s5 zz => ?_)
   obtain ⟨x, H5, I5, r5, y5, st5, fr5⟩ := zz
   have I5' := I5.pinned (stat fr5) (T.obj _ _ st5)
   refine aoE hp (ef (hg _ s5 σ3 H5 x u _ I5' r5 (step x H5 y5)) fun _ s6 zz => ?_)
   obtain ⟨σ6, H6, I6, q6⟩ := zz
   refine aoE hp (ef (hb _ s6 σ6 H6 _ I6 q6) fun f s7 q7 => ?_)
   have again : ∀ {σ7 : St} {H7 : Hp}, Inv X (pins ++ Eb fp s5.heap) σ7 H7 s7 -> N σ7 H7 -> ∃ m, m < n /\ ∃ i σ' H', Inv X pins σ' H' s7 /\ tn i s7.heap /\ (∀ b ∈ fp, H' b = none) /\ W i m σ' H' := fun {σ7 H7} I7 n7 => by
     obtain ⟨m', hm, w7⟩ := hN σ7 H7 n7
     refine ⟨m', hm, i + 1, σ7, H7, I7.yy, T.keep _ _ _ st5 fun b hb o e => (I7.pin (b, o) (anf _ (anf _ (su hb e)))).1, fun b hb => ?_, w7⟩
     obtain ⟨o, e, d⟩ := T.obj _ _ st5 b hb
     exact (I7.pin (b, o) (anf _ (anf _ (su hb e)))).2.1
   cases f with
   | next => obtain ⟨σ7, H7, I7, n7⟩ := q7; exact again I7 n7
   | cont => obtain ⟨σ7, H7, I7, n7⟩ := q7; exact again I7 n7
   | brk => obtain ⟨σ7, H7, I7, q7⟩ := q7; exact ⟨σ7, H7, I7.yy, q7⟩
   | ret v => obtain ⟨x7, σ7, H7, I7, r7, q7⟩ := q7; exact ⟨x7, σ7, H7, I7.yy, r7, q7⟩
end
noncomputable abbrev R2 := V -> V -> Hp -> VK -> Prop
noncomputable def wW (X : Cx) (f : Value -> Value -> Sem Value) (r : R2) : Prop :=
 ∀ (pins : List (Addr × Obj)) (s : Shared) (σ : St) (H : Hp) (x y : V) (v u : Value) (Q : VK), Inv X pins σ H s -> RelV x v -> RelV y u -> r x y H Q →
   wpAny (model X.prog X.w) X.A (f v u) (EP X pins σ Q) X.xe s
noncomputable def UnR (X : Cx) (f : Value -> Sem Value) (r : V -> Hp -> VK -> Prop) : Prop :=
 ∀ (pins : List (Addr × Obj)) (s : Shared) (σ : St) (H : Hp) (x : V) (v : Value) (Q : VK), Inv X pins σ H s -> RelV x v -> r x H Q →
   wpAny (model X.prog X.w) X.A (f v) (EP X pins σ Q) X.xe s
noncomputable def rJ (X : Cx) (f : Value) (r : List V -> Hp -> VK -> Prop) : Prop :=
 ∀ (pins : List (Addr × Obj)) (s : Shared) (σ : St) (H : Hp) (xs : List V) (us : List Value) (Q : VK), Inv X pins σ H s -> Vals xs us -> r xs H Q →
   wpAny (model X.prog X.w) X.A (call f us) (EP X pins σ Q) X.xe s
noncomputable def aiO (X : Cx) (r : V -> Hp -> (Bool -> Hp -> Prop) -> Prop) : Prop :=
 ∀ (pins : List (Addr × Obj)) (s : Shared) (σ : St) (H : Hp) (x : V) (v : Value) (Q : Bool -> Hp -> Prop), Inv X pins σ H s -> RelV x v -> r x H Q →
   wpAny (model X.prog X.w) X.A (truthy v) (TP X pins σ Q) X.xe s
noncomputable def tOp (r : R2) (ta tb : TE) : TE := fun σ H Q => ta σ H fun x H1 => tb σ H1 fun y H2 => r x y H2 Q
noncomputable def tUn (r : V -> Hp -> VK -> Prop) (ta : TE) : TE := fun σ H Q => ta σ H fun x H1 => r x H1 Q
noncomputable def rI (C : Int -> Int -> Prop) (g : Int -> Int -> V) : R2 := fun x y H Q => ∃ i j, x = .int i /\ y = .int j /\ C i j /\ Q (g i j) H
noncomputable def rI0 (g : Int -> Int -> V) : R2 := fun x y H Q => ∃ i j, x = .int i /\ y = .int j /\ Q (g i j) H
noncomputable def rU (g : Int -> V) : V -> Hp -> VK -> Prop := fun x H Q => ∃ i, x = .int i /\ Q (g i) H
section
variable {X : Cx} {a b : Expr} {ta tb : TE} {pos : Pos}
theorem ad0 (ha : PE X a ta) (hb : PE X b tb) {pins : List (Addr × Obj)} {s : Shared} {σ : St} {H : Hp} {R : V -> V -> Hp -> Prop} (I : Inv X pins σ H s)
   (h : ta σ H fun x H1 => tb σ H1 fun y H2 => R x y H2) {Q : Value -> Shared -> Prop} {f : Value -> Value -> Sem Value}
   (hf : ∀ v u s2 x y H2, Inv X pins σ H2 s2 -> RelV x v -> RelV y u -> R x y H2 -> wpAny (model X.prog X.w) X.A (f v u) Q X.xe s2) :
   wpAny (model X.prog X.w) X.A (eval a X.env) (fun v s₁ => wpAny (model X.prog X.w) X.A (eval b X.env) (fun u s₂ => wpAny (model X.prog X.w) X.A (f v u) Q X.xe s₂) X.xe s₁) X.xe s := by
 refine ef (ha pins s σ H _ I h) fun v s1 zz => ?_
 obtain ⟨x, H1, I1, r1, q1⟩ := zz
 refine ef (hb pins s1 σ H1 _ I1 q1) fun u s2 zz => ?_
 obtain ⟨y, H2, I2, r2, q2⟩ := zz
 exact hf v u s2 x y H2 I2 r1 r2 q2
theorem acJ {op : Operator} {r : R2} (ho : wW X (binaryOp op) r) (ha : PE X a ta) (hb : PE X b tb) : PE X (.BinOp a op b pos) (tOp r ta tb) := by
 intro pins s σ H Q I h
 exact wpAny_BinOp (ad0 ha hb I h fun v u s2 x y H2 I2 rx ry q => ho pins s2 σ H2 x y v u Q I2 rx ry q)
theorem agi {op : UnaryOp} {r : V -> Hp -> VK -> Prop} (ho : UnR X (unaryOp op) r) (ha : PE X a ta) : PE X (.UnaryOp op a pos) (tUn r ta) := by
 intro pins s σ H Q I h
 exact UnaryOp_ (ef (ha pins s σ H _ I h) fun v s1 ⟨x, H1, I1, r1, q1⟩ => ho pins s1 σ H1 x v Q I1 r1 q1)
theorem opI {f : Value -> Value -> Sem Value} {C : Int -> Int -> Prop} {g : Int -> Int -> Int}
   (rule : ∀ (i j : Int) (t u : Tok) (s : Shared) (Q : Value -> Shared -> Prop) (E : Value -> Shared -> Prop), C i j -> Q (.int (g i j) s.toks) { s with toks := s.toks + 1 } -> wpAny (model X.prog X.w) X.A (f (.int i t) (.int j u)) Q E s) :
   wW X f (rI C fun i j => .int (g i j)) := by
 intro pins s σ H x y v u Q I rx ry h
 obtain ⟨i, j, rfl, rfl, hc, q⟩ := h
 obtain ⟨t, rfl⟩ := rx
 obtain ⟨t', rfl⟩ := ry
 exact rule i j t t' s _ _ hc ⟨.int (g i j), H, I.tok _, ⟨_, rfl⟩, q⟩
theorem agj {f : Value -> Value -> Sem Value} {g : Int -> Int -> Int}
   (rule : ∀ (i j : Int) (t u : Tok) (s : Shared) (Q : Value -> Shared -> Prop) (E : Value -> Shared -> Prop), Q (.int (g i j) s.toks) { s with toks := s.toks + 1 } -> wpAny (model X.prog X.w) X.A (f (.int i t) (.int j u)) Q E s) :
   wW X f (rI0 fun i j => .int (g i j)) := by
 intro pins s σ H x y v u Q I rx ry h
 obtain ⟨i, j, rfl, rfl, q⟩ := h
 obtain ⟨t, rfl⟩ := rx
 obtain ⟨t', rfl⟩ := ry
 exact rule i j t t' s _ _ ⟨.int (g i j), H, I.tok _, ⟨_, rfl⟩, q⟩
theorem ad1 {f : Value -> Value -> Sem Value} {g : Int -> Int -> Bool}
   (rule : ∀ (i j : Int) (t u : Tok) (s : Shared) (Q : Value -> Shared -> Prop) (E : Value -> Shared -> Prop), Q (.bool (g i j)) s -> wpAny (model X.prog X.w) X.A (f (.int i t) (.int j u)) Q E s) :
   wW X f (rI0 fun i j => .bl (g i j)) := by
 intro pins s σ H x y v u Q I rx ry h
 obtain ⟨i, j, rfl, rfl, q⟩ := h
 obtain ⟨t, rfl⟩ := rx
 obtain ⟨t', rfl⟩ := ry
 exact rule i j t t' s _ _ ⟨.bl (g i j), H, I, rfl, q⟩
noncomputable def agk (i j : Int) : Prop := 0 < j /\ j < 1073741824
noncomputable def agl (i j : Int) : Prop := 0 <= j /\ j <= 1000000 /\ i.natAbs < 2 ^ 64
noncomputable def aam (i j : Int) : Prop := (-(2 ^ 64) < i /\ i < 2 ^ 64) \/ (-(2 ^ 64) < j /\ j < 2 ^ 64)
theorem aam.ok {i j : Int} (h : aam i j) : IntMulOk i j := by
 rcases h with ⟨h1, h2⟩ | ⟨h1, h2⟩
 . exact .of_left (intBits_le_64 h1 h2)
 . exact .of_right (intBits_le_64 h1 h2)
theorem ad2 : wW X (binaryOp .Add) (rI0 fun i j => .int (i + j)) := agj fun _ _ _ _ _ _ _ q => add_int q
theorem ad3 : wW X (binaryOp .Sub) (rI0 fun i j => .int (i - j)) := agj fun _ _ _ _ _ _ _ q => sub_int q
theorem ad4 : wW X (binaryOp .Mult) (rI aam fun i j => .int (i * j)) := opI fun _ _ _ _ _ _ _ hc q => mul_int q hc.ok
theorem aan : wW X (binaryOp .FloorDiv) (rI agk fun i j => .int (i / j)) := opI fun i j _ _ _ _ _ hc q => by
 have h1 : (0 : Int) < j := hc.1
 have h2 : j < 1073741824 := hc.2
 exact floordiv_int (by omega) (by rw [Int.fdiv_eq_ediv_of_nonneg i (by omega)]; exact q) (.inl (PyProof.noPylong_small (by omega)))
theorem ad5 : wW X (binaryOp .Mod) (rI (fun _ j => 0 < j) fun i j => .int (i % j)) := opI fun i j _ _ _ _ _ hc q => by
 have h1 : (0 : Int) < j := hc
 exact mod_int' (by omega) (by rw [Int.fmod_eq_emod_of_nonneg i (by omega)]; exact q)
theorem ad6 : wW X (binaryOp .Pow) (rI agl fun i j => .int (i ^ j.toNat)) := opI fun _ _ _ _ _ _ _ hc q => pow_int_small hc.1 hc.2.1 hc.2.2 q
theorem unI {f : Value -> Sem Value} {g : Int -> Int}
   (rule : ∀ (i : Int) (t : Tok) (s : Shared) (Q : Value -> Shared -> Prop) (E : Value -> Shared -> Prop), Q (.int (g i) s.toks) { s with toks := s.toks + 1 } -> wpAny (model X.prog X.w) X.A (f (.int i t)) Q E s) :
   UnR X f (rU fun i => .int (g i)) := by
 intro pins s σ H x v Q I rx h
 obtain ⟨i, rfl, q⟩ := h
 obtain ⟨t, rfl⟩ := rx
 exact rule i t s _ _ ⟨.int (g i), H, I.tok _, ⟨_, rfl⟩, q⟩
theorem ad7 : UnR X (unaryOp .USub) (rU fun i => .int (-i)) := unI fun _ _ _ _ _ q => neg_int q
end
noncomputable def ad8 : V -> V -> Bool
 | .non, .non => true | .non, .int _ => true | .int _, .non => true | .non, .bl _ => true | .bl _, .non => true | .non, .str _ => true | .str _, .non => true
 | .int _, .int _ => true | .bl _, .bl _ => true | .str _, .str _ => true | .RX _, .RX _ => true
 | .int _, .str _ => true | .str _, .int _ => true | .bl _, .str _ => true | .str _, .bl _ => true
 | _, _ => false
noncomputable def rEq : R2 := fun x y H Q => ad8 x y = true /\ Q (.bl (decide (x = y))) H
noncomputable def rNe : R2 := fun x y H Q => ad8 x y = true /\ Q (.bl (!decide (x = y))) H
theorem R4 {i j : Int} : decide (V.int i = V.int j) = (i == j) := by
 rw [aoF]
 simp
theorem WN {i j : Bool} : decide (V.bl i = V.bl j) = (i == j) := by
 rw [aoF]
 simp
theorem R5 {i j : Str} : decide (V.str i = V.str j) = (i == j) := by
 rw [aoF]
 simp
theorem R6 {i j : Array UInt8} : decide (V.RX i = V.RX j) = (i.toList == j.toList) := by
 rw [aoF]
 cases i
 cases j
 simp
section
variable {X : Cx} {a b c : Expr} {ta tb tc : TE} {pos : Pos}
theorem cu {pins : List (Addr × Obj)} {σ : St} {H : Hp} {s : Shared} {Q : VK} {k k' : Bool} (I : Inv X pins σ H s) (q : Q (.bl k) H) (e : k = k') : EP X pins σ Q (.bool k') s := by
 subst e
 exact ⟨.bl k, H, I, rfl, q⟩
theorem WO : wW X (compareOp .Eq) rEq := by
 intro pins s σ H x y v u Q I rx ry h
 obtain ⟨hs, q⟩ := h
 cases x with
 | non =>
   cases rx
   cases y with
   | non => cases ry; exact PySem.EqNone.eq_none_none (cu I q (by simp))
   | bl j => cases ry; exact PySem.EqNone.eq_none_bool (cu I q (by simp))
   | int j => obtain ⟨t', rfl⟩ := ry; exact PySem.EqNone.eq_none_int (cu I q (by simp))
   | str j => obtain ⟨t', rfl⟩ := ry; exact PySem.EqNone.eq_none_str (cu I q (by simp))
   | _ => exact absurd (show false = true from hs) ans
 | bl i =>
   cases rx
   cases y with
   | non => cases ry; exact PySem.EqNone.eq_bool_none (cu I q (by simp))
   | bl j => cases ry; exact eq_bool (cu I q WN)
   | str j => obtain ⟨t', rfl⟩ := ry; exact PySem.EqMixed.eq_bool_str (cu I q (by simp))
   | _ => exact absurd (show false = true from hs) ans
 | int i =>
   obtain ⟨t, rfl⟩ := rx
   cases y with
   | non => cases ry; exact PySem.EqNone.eq_int_none (cu I q (by simp))
   | int j => obtain ⟨t', rfl⟩ := ry; exact eq_int (cu I q R4)
   | str j => obtain ⟨t', rfl⟩ := ry; exact PySem.EqMixed.eq_int_str (cu I q (by simp))
   | _ => exact absurd (show false = true from hs) ans
 | str i =>
   obtain ⟨t, rfl⟩ := rx
   cases y with
   | non => cases ry; exact PySem.EqNone.eq_str_none (cu I q (by simp))
   | bl j => cases ry; exact PySem.EqMixed.eq_str_bool (cu I q (by simp))
   | int j => obtain ⟨t', rfl⟩ := ry; exact PySem.EqMixed.eq_str_int (cu I q (by simp))
   | str j => obtain ⟨t', rfl⟩ := ry; exact eq_str (cu I q R5)
   | _ => exact absurd (show false = true from hs) ans
 | RX i =>
   obtain ⟨t, rfl⟩ := rx
   cases y with
   | RX j => obtain ⟨t', rfl⟩ := ry; exact PySem.W.eq_bytes (cu I q R6)
   | _ => exact absurd (show false = true from hs) ans
 | _ => cases y <;> exact absurd (show false = true from hs) ans
theorem WQ : wW X (compareOp .NotEq) rNe := by
 intro pins s σ H x y v u Q I rx ry h
 obtain ⟨hs, q⟩ := h
 cases x with
 | non =>
   cases rx
   cases y with
   | non => cases ry; exact PySem.EqNone.ne_none_none (cu I q (by simp))
   | bl j => cases ry; exact PySem.EqNone.ne_none_bool (cu I q (by simp))
   | int j => obtain ⟨t', rfl⟩ := ry; exact PySem.EqNone.ne_none_int (cu I q (by simp))
   | str j => obtain ⟨t', rfl⟩ := ry; exact PySem.EqNone.ne_none_str (cu I q (by simp))
   | _ => exact absurd (show false = true from hs) ans
 | bl i =>
   cases rx
   cases y with
   | non => cases ry; exact PySem.EqNone.ne_bool_none (cu I q (by simp))
   | bl j => cases ry; exact ne_bool (cu I q (congrArg not WN))
   | str j => obtain ⟨t', rfl⟩ := ry; exact PySem.EqMixed.ne_bool_str (cu I q (by simp))
   | _ => exact absurd (show false = true from hs) ans
 | int i =>
   obtain ⟨t, rfl⟩ := rx
   cases y with
   | non => cases ry; exact PySem.EqNone.ne_int_none (cu I q (by simp))
   | int j => obtain ⟨t', rfl⟩ := ry; exact ne_int (cu I q (congrArg not R4))
   | str j => obtain ⟨t', rfl⟩ := ry; exact PySem.EqMixed.ne_int_str (cu I q (by simp))
   | _ => exact absurd (show false = true from hs) ans
 | str i =>
   obtain ⟨t, rfl⟩ := rx
   cases y with
   | non => cases ry; exact PySem.EqNone.ne_str_none (cu I q (by simp))
   | bl j => cases ry; exact PySem.EqMixed.ne_str_bool (cu I q (by simp))
   | int j => obtain ⟨t', rfl⟩ := ry; exact PySem.EqMixed.ne_str_int (cu I q (by simp))
   | str j => obtain ⟨t', rfl⟩ := ry; exact ne_str (cu I q (congrArg not R5))
   | _ => exact absurd (show false = true from hs) ans
 | RX i =>
   obtain ⟨t, rfl⟩ := rx
   cases y with
   | RX j => obtain ⟨t', rfl⟩ := ry; exact PySem.W.ne_bytes (cu I q (congrArg not R6))
   | _ => exact absurd (show false = true from hs) ans
 | _ => cases y <;> exact absurd (show false = true from hs) ans
theorem R7 : wW X (compareOp .Lt) (rI0 fun i j => .bl (decide (i < j))) := ad1 fun _ _ _ _ _ _ _ q => lt_int q
theorem acK : wW X (compareOp .LtE) (rI0 fun i j => .bl (decide (i <= j))) := ad1 fun _ _ _ _ _ _ _ q => le_int q
theorem agm : wW X (compareOp .Gt) (rI0 fun i j => .bl (decide (j < i))) := ad1 fun _ _ _ _ _ _ _ q => gt_int q
theorem Ua : wW X (compareOp .In) (fun x y H Q => ∃ i j, x = .str i /\ y = .str j /\ Q (.bl (!(Builtin.Str.occurrences j i 0 j.length 1).isEmpty)) H) := by
 intro pins s σ H x y v u Q I rx ry h
 obtain ⟨i, j, rfl, rfl, q⟩ := h
 obtain ⟨t, rfl⟩ := rx
 obtain ⟨t', rfl⟩ := ry
 exact in_str (cu I q rfl)
theorem HX : wW X (compareOp .NotIn) (fun x y H Q => ∃ i j, x = .str i /\ y = .str j /\ Q (.bl (!(!(Builtin.Str.occurrences j i 0 j.length 1).isEmpty))) H) := by
 intro pins s σ H x y v u Q I rx ry h
 obtain ⟨i, j, rfl, rfl, q⟩ := h
 obtain ⟨t, rfl⟩ := rx
 obtain ⟨t', rfl⟩ := ry
 exact notIn_str (cu I q rfl)
theorem sy (b : Expr) {op : CmpOp} (h : op ≠ .In := by decide) (h2 : op ≠ .NotIn := by decide) : behindInMarks op b = false := by
 have e1 : (op == CmpOp.In) = false := by cases op <;> first | rfl | exact absurd rfl h
 have e2 : (op == CmpOp.NotIn) = false := by cases op <;> first | rfl | exact absurd rfl h2
 cases b <;> simp [behindInMarks, e1, e2]
theorem yz {op : CmpOp} {r : R2} (ho : wW X (compareOp op) r) (ha : PE X a ta) (hb : PE X b tb) (hm : behindInMarks op b = false) : PE X (.Compare a [op] [b] pos) (tOp r ta tb) := by
 intro pins s σ H Q I h
 exact wpAny_Compare1 (ad0 ha hb I h fun v u s2 x y H2 I2 rx ry q => ho pins s2 σ H2 x y v u Q I2 rx ry q) hm
noncomputable def acL (t : TE) : TT := fun σ H Q => t σ H fun x H' => ∃ k, x = .bl k /\ Q k H'
theorem yC {op : CmpOp} {r : R2} (ho : wW X (compareOp op) r) (ha : PE X a ta) (hb : PE X b tb) (hm : behindInMarks op b = false) : PT X (.Compare a [op] [b] pos) (acL (tOp r ta tb)) := by
 intro pins s σ H Q I h
 refine wpAny_isTrue_Compare1 (ef (ha pins s σ H _ I h) fun v s1 ⟨x, H1, I1, r1, q1⟩ => ef (hb pins s1 σ H1 _ I1 q1) fun u s2 ⟨y, H2, I2, r2, q2⟩ =>
   ef (ho pins s2 σ H2 x y v u _ I2 r1 r2 q2) fun c s3 ⟨z, H3, I3, r3, k, e, q3⟩ => ?_) hm
 subst e
 cases r3
 exact aob ⟨H3, I3, q3⟩
noncomputable def WR (r r' : R2) (ta tb tc : TE) : TE := fun σ H Q => ta σ H fun x H1 => tb σ H1 fun y H2 => r x y H2 fun z H3 => ∃ k, z = .bl k ∧
 (if k = true then tc σ H3 fun w' H4 => r' y w' H4 Q else Q (.bl false) H3)
theorem WT {op op' : CmpOp} {r r' : R2} (ho : wW X (compareOp op) r) (Oi : wW X (compareOp op') r') (ha : PE X a ta) (hb : PE X b tb) (hc : PE X c tc)
   (hm : lastMarks [op, op'] [b, c] = false := by with_unfolding_all rfl) : PE X (.Compare a [op, op'] [b, c] pos) (WR r r' ta tb tc) := by
 intro pins s σ H Q I h
 refine Compare_chain (ef (ha pins s σ H _ I h) fun v s1 ⟨x, H1, I1, r1, q1⟩ => chain_link (ef (hb pins s1 σ H1 _ I1 q1) fun u s2 ⟨y, H2, I2, r2, q2⟩ =>
   ef (ho pins s2 σ H2 x y v u _ I2 r1 r2 q2) fun d s3 ⟨z, H3, I3, r3, k, e, q3⟩ => ?_)) hm
 subst e
 cases r3
 refine aob ?_
 cases k with
 | false => exact ite_ff ⟨.bl false, H3, I3, rfl, q3⟩
 | true => exact ite_tt (chain_last (ef (hc pins s3 σ H3 _ I3 q3) fun w' s4 ⟨z', H4, I4, r4, q4⟩ => Oi pins s4 σ H4 y z' u w' Q I4 r2 r4 q4))
theorem WU {op op' : CmpOp} {r r' : R2} (ho : wW X (compareOp op) r) (Oi : wW X (compareOp op') r') (ha : PE X a ta) (hb : PE X b tb) (hc : PE X c tc)
   (hm : lastMarks [op, op'] [b, c] = false := by with_unfolding_all rfl) : PT X (.Compare a [op, op'] [b, c] pos) (acL (WR r r' ta tb tc)) := by
 intro pins s σ H Q I h
 refine isTrue_chain (ef (ha pins s σ H _ I h) fun v s1 ⟨x, H1, I1, r1, q1⟩ => test_link (ef (hb pins s1 σ H1 _ I1 q1) fun u s2 ⟨y, H2, I2, r2, q2⟩ =>
   ef (ho pins s2 σ H2 x y v u _ I2 r1 r2 q2) fun d s3 ⟨z, H3, I3, r3, k, e, q3⟩ => ?_)) hm
 subst e
 cases r3
 refine aob ?_
 cases k with
 | false =>
   obtain ⟨k', e', q'⟩ := q3
   cases e'
   exact ite_ff ⟨H3, I3, q'⟩
 | true =>
   refine ite_tt (test_last (ef (hc pins s3 σ H3 _ I3 q3) fun w' s4 ⟨z', H4, I4, r4, q4⟩ => ef (Oi pins s4 σ H4 y z' u w' _ I4 r2 r4 q4) fun d' s5 zz => ?_))
   obtain ⟨z2, H5, I5, r5, k2, e2, q5⟩ := zz
   subst e2
   cases r5
   exact aob ⟨H5, I5, q5⟩
noncomputable def agn (K : PySem.W.Frag) (x : V) (H : Hp) (k : Bool) : Prop :=
 match x with
 | .non => k = false
 | .bl b => k = b
 | .int i => k = (i != 0)
 | .str y => y.length <= sizeLine /\ k = ((y.length : Int) != 0)
 | .RX y => y.size <= sizeLine /\ k = ((y.size : Int) != 0)
 | .ref p => (∃ xs, pA K H p xs /\ k = !xs.isEmpty) \/ (∃ xs, AH K H p xs /\ k = !xs.isEmpty) \/ ∃ bq, H p = some (.dK bq) /\ k = !bq.isEmpty
 | _ => False
theorem Oo {κ : Type} {bq : List (κ × V)} {vs : List (κ × Value)} (r : KV bq vs) : (!vs.isEmpty) = !bq.isEmpty := by
 cases r <;> rfl
theorem Ec {xs : List V} {its : List Value} (r : Vals xs its) : (!its.toArray.isEmpty) = !xs.isEmpty := by
 cases r <;> simp
theorem AI : (sizeLine : Nat) < 2 ^ 63 := by rw [anF]; decide
theorem ad9 : aiO X (fun x H Q => ∃ k, agn X.K x H k /\ Q k H) := by
 intro pins s σ H x v Q I rx h
 obtain ⟨k, e, q⟩ := h
 have hl := AI
 have hs : sizeLine = 16777216 := anF
 cases x with
 | non =>
   cases rx
   have e' : k = false := e
   subst e'
   exact truthy_none ⟨H, I, q⟩
 | bl b =>
   cases rx
   have e' : k = b := e
   subst e'
   exact aob ⟨H, I, q⟩
 | int i =>
   obtain ⟨t, rfl⟩ := rx
   have e' : k = (i != 0) := e
   subst e'
   exact PySem.P.truthy_int ⟨H, I, q⟩
 | str y =>
   obtain ⟨t, rfl⟩ := rx
   obtain ⟨hy, e'⟩ : y.length <= sizeLine /\ k = ((y.length : Int) != 0) := e
   subst e'
   exact PySem.P.truthy_str (by omega) ⟨H, I.tok _, q⟩
 | RX y =>
   obtain ⟨t, rfl⟩ := rx
   obtain ⟨hy, e'⟩ : y.size <= sizeLine /\ k = ((y.size : Int) != 0) := e
   subst e'
   exact PySem.W.truthy_bytes (by omega) ⟨H, I.tok _, q⟩
 | ref p =>
   cases rx
   have e' : (∃ xs, pA X.K H p xs /\ k = !xs.isEmpty) \/ (∃ xs, AH X.K H p xs /\ k = !xs.isEmpty) \/ ∃ bq, H p = some (.dK bq) /\ k = !bq.isEmpty := e
   rcases e' with ⟨xs, hx, e'⟩ | ⟨xs, hx, e'⟩ | ⟨bq, hx, e'⟩
   . subst e'
     obtain ⟨its, r, pl, hz⟩ := I.list hx
     have hlen := r.length
     exact wpAny_truthy_list pl.isList (by simp only [anQ]; omega) ⟨H, I.tok _, by rw [Ec r]; exact q⟩
   . subst e'
     obtain ⟨its, r, pl, hz⟩ := I.tuple hx
     have hlen := r.length
     exact truthy_tuple pl (by simp only [anQ]; omega) ⟨H, I.tok _, by rw [Ec r]; exact q⟩
   . subst e'
     obtain ⟨hz, hS, vs, r, m⟩ : bq.length <= sizeLine /\ (p == sysModules) = false /\ ∃ vs, KV bq vs /\ s.heap.DictOf (gC X.prog X.w) p vs := I.d9 p _ hx
     have hlen : bq.length = vs.length := Paired.length r
     exact wpAny_truthy_dict hS m (by omega) ⟨H, I.tok _, by rw [Oo r]; exact q⟩
 | _ => exact (show False from e).elim
theorem WV (ha : PE X a ta) (he : ∀ whole, isTrue a X.env whole = (do let v ← whole; standAt a.pos; holding [v] (truthy v))) :
   PT X a (fun σ H Q => ta σ H fun x H' => ∃ k, agn X.K x H' k /\ Q k H') := by
 intro pins s σ H Q I h
 exact isTrue_plain (ef (ha pins s σ H _ I h) fun v s1 ⟨x, H1, I1, r1, q1⟩ => ad9 pins s1 σ H1 x v Q I1 r1 q1) (he _)
theorem Oq : wW X (binaryOp .Add) (fun x y H Q => ∃ i j, x = .str i /\ y = .str j /\ i.length + j.length <= sizeLine /\ Q (.str (i ++ j)) H) := by
 intro pins s σ H x y v u Q I rx ry h
 obtain ⟨i, j, rfl, rfl, hz, q⟩ := h
 obtain ⟨t, rfl⟩ := rx
 obtain ⟨t', rfl⟩ := ry
 exact add_str (fun t' tk => ⟨.str (i ++ j), H, I.tok _, ⟨_, rfl⟩, q⟩) hz
theorem vals1 {x : V} {us : List Value} (r : Vals [x] us) : ∃ u, us = [u] /\ RelV x u := by
 cases r with
 | cons r1 r2 => cases r2; exact ⟨_, rfl, r1⟩
theorem WW : rJ X (.builtin "abs") (fun xs H Q => ∃ i, xs = [.int i] /\ Q (.int (if i < 0 then -i else i)) H) := by
 intro pins s σ H xs us Q I r h
 obtain ⟨i, rfl, q⟩ := h
 obtain ⟨u, rfl, t, rfl⟩ := vals1 r
 exact call_abs_int fun u tk => ⟨.int (if i < 0 then -i else i), H, I.tok _, ⟨_, rfl⟩, q⟩
theorem Ub : rJ X (.type "int") (fun xs H Q => (∃ i, xs = [.int i] /\ Q (.int i) H) \/ ∃ k, xs = [.bl k] /\ Q (.int (if k then 1 else 0)) H) := by
 intro pins s σ H xs us Q I r h
 rcases h with ⟨i, rfl, q⟩ | ⟨k, rfl, q⟩
 . obtain ⟨u, rfl, t, rfl⟩ := vals1 r
   exact call_int_int ⟨.int i, H, I, ⟨_, rfl⟩, q⟩
 . obtain ⟨u, rfl, r1⟩ := vals1 r
   cases r1
   exact call_int_bool ⟨.int (if k then 1 else 0), H, I.tok _, ⟨_, rfl⟩, q⟩
theorem HY : rJ X (.type "str") (fun xs H Q => ∃ i, xs = [.int i] /\ i.natAbs.log2 < 1920 /\ Q (.str (toString i)) H) := by
 intro pins s σ H xs us Q I r h
 obtain ⟨i, rfl, hz, q⟩ := h
 obtain ⟨u, rfl, t, rfl⟩ := vals1 r
 exact PySem.P.str_of_int hz ⟨.str _, H, I.tok _, ⟨_, rfl⟩, q⟩
end
structure Uc (h : Heap) (x dx C : Addr) (mA : Str -> Option Value) : Prop where
 obj : h.get? x = some (PySem.W.instObj C dx)
 ns : h.Ns1 dx mA
 ne : dx ≠ x
theorem Ud {h : Heap} {dx : Addr} {mA : Str -> Option Value} (n : h.Ns1 dx mA) : ∃ od, h.get? dx = some od /\ ∀ name, PySem.W.lookIn name od = some (mA name) := by
 obtain ⟨o, es, ep, ho, hd, hk, _, hm⟩ := n
 refine ⟨o, ho, fun name => ?_⟩
 have e := hm name
 unfold nsFind findBy at e
 rw [← Array.find?_toList] at e
 unfold PySem.W.lookIn
 rw [hd]
 dsimp only
 split
 . rename_i y q
   rw [q] at e
   exact congrArg some e
 . rename_i q
   rw [q] at e
   have a : es.toList.any (·.refKey) = false := by
     rw [List.any_eq_false]
     intro y hy
     obtain ⟨z, t, aiP⟩ := hk y (Array.mem_toList_iff.mp hy)
     simp [DictEntry.refKey, aiP]
   have a' : ¬ es.toList.any (·.refKey) = true := by rw [a]; exact ans
   rw [anm a']
   exact congrArg some e
theorem Uc.look {h : Heap} {x dx C : Addr} {mA : Str -> Option Value} (I : Uc h x dx C mA) : ∃ od, PySem.W.InstAt h x (PySem.W.instObj C dx) C (some od) /\ ∀ name, PySem.W.lookIn name od = some (mA name) :=
 let ⟨od, ho, hl⟩ := Ud I.ns
 ⟨od, ⟨I.obj, rfl, rfl, ho⟩, hl⟩
section
variable {prog : Program} {w : World} {A : Around} {E : Value -> Shared -> Prop} {s : Shared} {K : PySem.W.Frag} {x dx C f : Addr} {mA : Str -> Option Value} {name : Str} {v : Value}
theorem get_map {expr : Bool} {Q : Value -> Shared -> Prop} (X : K.In s.heap) (I : Uc s.heap x dx C mA) (hg : PySem.W.plainGet K C name = true) (hh : PySem.W.hasDictIn K C = true)
   (ha : PySem.W.findIn K (.ref C) name = some none) (hv : mA name = some v) (hv' : PySem.W.handedIn v = true) (h : Q v { s with toks := s.toks + 1 }) :
   wpAny (model prog w) A (getAttr (.ref x) name expr) Q E s := by
 obtain ⟨od, J, hl⟩ := I.look
 exact PySem.W.get_value X J (PySem.W.plainGet_of hg).1 (PySem.W.findObj_own hh ha rfl (by rw [hl, hv])) hv' h
theorem aao {ns : List Str} {Q : Unit -> Shared -> Prop} (X : K.In s.heap) (I : Uc s.heap x dx C mA)
   (hs : PySem.W.findIn K (.ref C) "__setattr__" = some (some (.builtin "object.__setattr__"))) (hp : PySem.W.plainOver K C = true) (ht : PySem.W.takerIn K C name = some none) (hh : PySem.W.hasDictIn K C = true)
   (hw : PySem.Within mA ns) (hsz : ns.length <= sizeLine)
   (h : ∀ h', Uc h' x dx C (fun y => if y = name then some v else mA y) -> Heap.SameBut dx s.heap h' -> Q () { s with heap := h', toks := s.toks + 2 }) :
   wpAny (model prog w) A (setAttr (.ref x) name v) Q E s := by
 obtain ⟨od, J, hl⟩ := I.look
 refine PySem.W.set_plain X J hs (PySem.W.osa_open (s := { s with toks := s.toks + 1 }) (r := none) X J hp ht fun b => ?_)
 obtain ⟨cd, hc, hd'⟩ := PySem.W.any_some hh
 have hx : s.heap.get? x = some ⟨.ref C, some dx, .plain, #[]⟩ := I.obj
 refine anP (an0 (anP (anP (wpAny_loadPart hx (anP (PySem.W.Looks.here (s := { s with toks := s.toks + 1 }) (PySem.W.looks_clsIn X hc) ?_))))))
 rw [hd']
 refine an0 (a := some dx) (anP (an0 (anP ?_)))
 refine wpAny_nsSet1 (s := { s with toks := s.toks + 1 }) I.ns fun h' hn2 wV => ?_
 obtain ⟨oD, esD, epD, hoD, hdD, hcD⟩ := hn2.count (PySem.Within.cons name v hw)
 refine anP (wpAny_lookBehind hoD (by rw [hdD]; exact pastItsLine_dict (anW hcD (by rw [anG]; omega))) ?_)
 exact an0 (h _ ⟨(wV.2 _ (aon I.ne)).trans I.obj, hn2, I.ne⟩ wV)
theorem WX {R : Result -> Shared -> Prop} {vs : List Value} {kw : List (Str × Value)} (X : K.In s.heap) (hm : PySem.W.makesIn K C = true)
   (hi : PySem.W.findIn K (.ref C) "__init__" = some (some (.ref f))) (hf : PySem.W.typeIn K (.ref f) = some (.type "function"))
   (h : codeAny (model prog w) (A.under (.builtin "type.__call__" ⟨.ref C :: vs, kw⟩)) (.call (.ref f) ⟨.ref (s.heap.objs.size + 1) :: vs, kw⟩) (PySem.W.InitBack (s.heap.objs.size + 1) R)
     { s with heap := (s.heap.push PySem.W.emptyDict).push (PySem.W.instObj C s.heap.objs.size) }) :
   codeAny (model prog w) A (.call (.ref C) ⟨vs, kw⟩) R s := by
 obtain ⟨hh, g, d, t, os⟩ := s
 exact PySem.W.make_core (PySem.W.makes_of X hm) (PySem.W.looks_findIn X hi) (fun self => PySem.W.bind_fn X self hf) (.inl rfl) h
end
noncomputable def pB (f : Str) (v : V) : List (Str × V) -> List (Str × V)
 | [] => [(f, v)]
 | (g, x) :: r => if g = f then (g, v) :: r else (g, x) :: pB f v r
theorem BR (f g : Str) (v : V) : ∀ fs : List (Str × V), (pB f v fs).lookup g = if g = f then some v else fs.lookup g
 | [] => by
   show List.lookup g [(f, v)] = _
   by_cases h : g = f
   . have hb : (g == f) = true := aoR.mpr h
     simp only [List.lookup, hb, anu h]
   . have hb : (g == f) = false := aoL.mpr h
     simp only [List.lookup, hb, anm h]
 | (k, x) :: r => by
   have ih := BR f g v r
   rw [show pB f v ((k, x) :: r) = (if k = f then (k, v) :: r else (k, x) :: pB f v r) from rfl]
   by_cases hk : k = f
   . rw [anu hk]
     by_cases h : g = k
     . have hb : (g == k) = true := aoR.mpr h
       simp only [List.lookup, hb, anu (h.trans hk)]
     . have hb : (g == k) = false := aoL.mpr h
       simp only [List.lookup, hb, anm (fun e : g = f => h (e.trans hk.symm))]
   . rw [anm hk]
     by_cases h : g = k
     . have hb : (g == k) = true := aoR.mpr h
       simp only [List.lookup, hb, anm (fun e : g = f => hk (h.symm.trans e))]
     . have hb : (g == k) = false := aoL.mpr h
       simp only [List.lookup, hb]
       exact ih
theorem AJ (f : Str) (v : V) : ∀ fs : List (Str × V), f ∈ (pB f v fs).map (·.1) /\ ∀ g, g ∈ fs.map (·.1) -> g ∈ (pB f v fs).map (·.1)
 | [] => ⟨by simp [pB], fun g h => by simp at h⟩
 | (k, x) :: r => by
   obtain ⟨i1, i2⟩ := AJ f v r
   rw [show pB f v ((k, x) :: r) = (if k = f then (k, v) :: r else (k, x) :: pB f v r) from rfl]
   by_cases hk : k = f
   . rw [anu hk]
     subst hk
     exact ⟨by simp, fun g h => by simpa using h⟩
   . rw [anm hk]
     refine ⟨?_, fun g h => ?_⟩
     . rw [anD]
       exact anj _ i1
     . rw [anD] at h ⊢
       rcases ane.mp h with e | e
       . exact ane.mpr (.inl e)
       . exact anj _ (i2 g e)
theorem BU (f : Str) (v : V) : ∀ fs : List (Str × V), (pB f v fs).length <= fs.length + 1
 | [] => by simp [pB]
 | (k, x) :: r => by
   have ih := BU f v r
   rw [show pB f v ((k, x) :: r) = (if k = f then (k, v) :: r else (k, x) :: pB f v r) from rfl]
   by_cases hk : k = f
   . rw [anu hk, anG, anG]; omega
   . rw [anm hk, anG, anG]; omega
theorem AG.some_of {v : V} {o : Option Value} (r : AG (some v) o) : ∃ u, o = some u /\ RelV v u := by
 cases o with
 | none => exact (show False from r).elim
 | some u => exact ⟨u, rfl, r⟩
theorem Ue {v : V} {u : Value} (r : RelV v u) : PySem.W.handedIn u = true := by
 cases v with
 | non => cases (show u = Value.none from r); rfl
 | bl b => cases (show u = Value.bool b from r); rfl
 | int i => obtain ⟨t, e⟩ := (show ∃ t, u = Value.int i t from r); cases e; rfl
 | str x => obtain ⟨t, e⟩ := (show ∃ t, u = Value.str x t from r); cases e; rfl
 | RX b => obtain ⟨t, e⟩ := (show ∃ t, u = Value.bytes b t from r); cases e; rfl
 | flt b => obtain ⟨t, e⟩ := (show ∃ t, u = Value.float b t from r); cases e; rfl
 | ref a => cases (show u = Value.ref a from r); rfl
 | ty n => cases (show u = Value.type n from r); rfl
section
variable {P : Program} {w : World} {H : Hp} {h : Heap} {a C dx : Addr} {fs : List (Str × V)}
theorem R8 (d9 : yt P w H h) (e : H a = some (.ins C dx fs)) : ∃ mA, Uc h a dx C mA /\ (∀ f, AG (fs.lookup f) (mA f)) /\ PySem.Within mA (fs.map (·.1)) /\ fs.length <= 1000 /\ H dx = some (.own a) := by
 obtain ⟨d, z, ne, ob, mA, n, r, q⟩ := (show jv P w H h a (.ins C dx fs) from d9 a _ e)
 exact ⟨mA, ⟨ob, n, ne⟩, r, q, z, d⟩
end
structure uA (K : PySem.W.Frag) (C : Addr) : Prop where
 pg : PySem.W.plainGet K C Str.empty = true
 hd : PySem.W.hasDictIn K C = true
 po : PySem.W.plainOver K C = true
 sa : PySem.W.findIn K (.ref C) "__setattr__" = some (some (.builtin "object.__setattr__"))
theorem uA.get {K : PySem.W.Frag} {C : Addr} (c : uA K C) (f : Str) : PySem.W.plainGet K C f = true := c.pg
noncomputable def aN (K : PySem.W.Frag) (C : Addr) (f : Str) : Prop := PySem.W.findIn K (.ref C) f = some none
theorem aN.agp {K : PySem.W.Frag} {C : Addr} {f : Str} (n : aN K C f) : PySem.W.takerIn K C f = some none := by
 unfold PySem.W.takerIn
 rw [show PySem.W.findIn K (.ref C) f = some none from n]
 rfl
section
variable {X : Cx} {pins : List (Addr × Obj)} {σ : St} {H : Hp} {s : Shared} {a C dx : Addr} {fs : List (Str × V)} {f : Str} {v : V} {A : Around} {E : Value -> Shared -> Prop}
theorem Ot {b : Bool} {Q : Value -> Shared -> Prop} (I : Inv X pins σ H s) (e : H a = some (.ins C dx fs)) (c : uA X.K C) (n : aN X.K C f) (l : fs.lookup f = some v)
   (h : ∀ u s', Inv X pins σ H s' -> RelV v u -> Q u s') : wpAny (model X.prog X.w) A (getAttr (.ref a) f b) Q E s := by
 obtain ⟨mA, O, r, _, _, _⟩ := R8 I.d9 e
 obtain ⟨u, hu, ru⟩ := AG.some_of (v := v) (o := mA f) (by rw [← l]; exact r f)
 exact get_map I.Kz O (c.get f) c.hd n hu (Ue ru) (h u _ (I.tok _) ru)
theorem Ou {y : V} {u : Value} {Q : Unit -> Shared -> Prop} (I : Inv X pins σ H s) (e : H a = some (.ins C dx fs)) (c : uA X.K C) (n : aN X.K C f) (hl : fs.length < 1000) (ry : RelV y u)
   (h : ∀ s', Inv X pins σ (upd H a (.ins C dx (pB f y fs))) s' -> Q () s') : wpAny (model X.prog X.w) A (setAttr (.ref a) f u) Q E s := by
 obtain ⟨mA, O, r, wi, _, ho⟩ := R8 I.d9 e
 have hz : (fs.map (·.1)).length <= sizeLine := by rw [anh, anF]; omega
 refine aao I.Kz O c.sa c.po n.agp c.hd wi hz fun h' O' sb => h _ ?_
 have hd : ∃ o, h'.get? dx = some o := let ⟨o, _, _, e', _⟩ := O'.ns; ⟨o, e'⟩
 refine I.write (x := a) (e := dx) (by rw [e]; exact True.intro) (.inr ho) (fun b q hb z => (sb.2 b hb).trans z) hd ?_
 refine ⟨by rw [aD O.ne]; exact ho, ?_, O.ne, O'.obj, _, O'.ns, fun g => ?_, fun g hg => ?_⟩
 . have := BU f y fs; omega
 . show AG ((pB f y fs).lookup g) (if g = f then some u else mA g)
   rw [BR]
   by_cases q : g = f
   . rw [anu q, anu q]; exact ry
   . rw [anm q, anm q]; exact r g
 . by_cases q : g = f
   . rw [q]; exact (AJ f y fs).1
   . refine (AJ f y fs).2 g (wi g fun z => hg ?_)
     show (if g = f then some u else mA g) = none
     rw [anm q]; exact z
theorem Inv.made (I : Inv X pins σ H s) : Inv X pins σ (upd (upd H s.heap.objs.size (.own (s.heap.objs.size + 1))) (s.heap.objs.size + 1) (.ins C s.heap.objs.size []))
   { s with heap := (s.heap.push PySem.W.emptyDict).push (PySem.W.instObj C s.heap.objs.size) } := by
 have e1 : (s.heap.push PySem.W.emptyDict).get? s.heap.objs.size = some PySem.W.emptyDict := anR s.heap rfl
 have e2 : ((s.heap.push PySem.W.emptyDict).push (PySem.W.instObj C s.heap.objs.size)).get? (s.heap.objs.size + 1) = some (PySem.W.instObj C s.heap.objs.size) := by
   have := anR (s.heap.push PySem.W.emptyDict) (o := PySem.W.instObj C s.heap.objs.size) rfl
   rwa [Heap.size_push] at this
 have e3 : (s.heap.push PySem.W.emptyDict).Ns s.heap.objs.size (fun _ => none) := ⟨PySem.W.emptyDict, #[], _, e1, rfl, (fun e he => absurd he (by simp)), fun _ => rfl⟩
 have I1 := I.laid (a := s.heap.objs.size) (o := .own (s.heap.objs.size + 1)) (h' := s.heap.push PySem.W.emptyDict) (t' := s.toks) (fun b u q => ant _ q) (anq _) ⟨_, e1⟩
 refine I1.laid (a := s.heap.objs.size + 1) (o := .ins C s.heap.objs.size []) (t' := s.toks) (fun b u q => ant _ q) (Nat.le_of_eq (Heap.size_push _ _)) ?_
 have ne : s.heap.objs.size ≠ s.heap.objs.size + 1 := anT (aoS _)
 refine ⟨by rw [aD ne, bx], anE _, ne, e2, fun _ => none, (Heap.Ns1.of_empty e3).at fun o q => ant _ q, fun _ => True.intro, fun y hy => absurd rfl hy⟩
theorem aap {prog : Program} {w : World} {env : Env} {e : Expr} {f : Str} {pos : Pos} {s : Shared} {Q : Value -> Shared -> Prop} (hb : attributeBase e f env (eval e env) = eval e env)
   (h : wpAny (model prog w) A (eval e env) (fun o s₁ => wpAny (model prog w) A (getAttr o f true) Q E s₁) E s) : wpAny (model prog w) A (eval (.Attribute e f pos) env) Q E s :=
 Attribute_any_ h (by rw [arm_eval_Attribute, hb])
end
noncomputable def aiQ (K : PySem.W.Frag) (ta : TE) (f : Str) : TE := fun σ H Q => ta σ H fun x H1 => ∃ a C dx fs v, x = .ref a /\ H1 a = some (.ins C dx fs) /\ uA K C /\ aN K C f /\ fs.lookup f = some v /\ Q v H1
noncomputable def aiR (K : PySem.W.Frag) (ta tv : TE) (f : Str) : TS := fun D σ H => tv σ H fun y H1 => ta σ H1 fun x H2 => ∃ a C dx fs, x = .ref a /\ H2 a = some (.ins C dx fs) /\ uA K C /\ aN K C f /\ fs.length < 1000 ∧
 D.nx σ (upd H2 a (.ins C dx (pB f y fs)))
section
variable {X : Cx} {o e value : Expr} {f : Str} {pos pos' : Pos} {ta tv : TE}
theorem WZ (he : PE X e ta) (hb : attributeBase e f X.env (eval e X.env) = eval e X.env) : PE X (.Attribute e f pos) (aiQ X.K ta f) := by
 intro pins s σ H Q I h
 refine aap hb (ef (he pins s σ H _ I h) fun u s1 zz => ?_)
 obtain ⟨x, H1, I1, rx, a, C, dx, fs, v, ex, ea, c, n, l, q⟩ := zz
 subst ex
 obtain rfl : u = Value.ref a := rx
 exact Ot I1 ea c n l fun u' s2 I2 ru => ⟨v, H1, I2, ru, q⟩
theorem aea (ha : PE X o ta) (hv : PE X value tv) (hs : swapsWith value (some (.Attribute o f pos')) pos.line X.env = pure false) : PS X (.Assign [.Attribute o f pos'] value pos) (aiR X.K ta tv f) := by
 intro pins s σ H D I h
 refine plainObj_wpAny_Assign_Attribute (ef (hv pins s σ H _ I h) fun u s1 ⟨y, H1, I1, ry, q⟩ => ef (ha pins s1 σ H1 _ I1 q) fun ov s2 zz => ?_) hs
 obtain ⟨x, H2, I2, rx, a, C, dx, fs, ex, ea, c, n, l, q2⟩ := zz
 subst ex
 obtain rfl : ov = Value.ref a := rx
 exact Ou I2 ea c n l ry fun s3 I3 => ⟨σ, _, I3, q2⟩
end
structure kO (k : Nat) (A : Around) : Prop where
 hd : A.handled = none
 dp : A.depth + 3 * k + 5 < recursionLimit
 un : A.units + 16 * k + 200 < cLine
theorem kO.mono {j k : Nat} {A : Around} (r : kO k A) (h : j <= k) : kO j A := ⟨r.hd, by have := r.dp; omega, by have := r.un; omega⟩
theorem kO.deeper {k : Nat} {A : Around} (r : kO (k + 1) A) (env : Env) : kO k (A.deeper env) :=
 ⟨r.hd, by have := r.dp; show A.depth + 1 + 3 * k + 5 < _; omega, by have := r.un; show A.units + 3 + 16 * k + 200 < _; omega⟩
theorem Ov {A : Around} {C : Addr} {us : List Value} {kw : List (Str × Value)} : (A.under (.builtin "type.__call__" ⟨.ref C :: us, kw⟩)).depth = A.depth + 1 := by
 first | rfl | simp [Around.under, Code.weight, Code.isCreation, Code.isGuard, Code.isCaller, Code.frames, Code.isFrame, guardIds]
theorem Ow {A : Around} {C : Addr} {us : List Value} {kw : List (Str × Value)} : (A.under (.builtin "type.__call__" ⟨.ref C :: us, kw⟩)).units = A.units + 1 := by
 first | rfl | simp [Around.under, Code.cUnits, Code.frames, Code.isFrame]
theorem kO.make {k : Nat} {A : Around} (r : kO (k + 1) A) (C : Addr) (us : List Value) (kw : List (Str × Value)) : kO k (A.under (.builtin "type.__call__" ⟨.ref C :: us, kw⟩)) :=
 ⟨r.hd, by have := r.dp; rw [Ov]; omega, by have := r.un; rw [Ow]; omega⟩
theorem kO.depth {k : Nat} {A : Around} (r : kO k A) : A.depth < recursionLimit := by have := r.dp; omega
theorem kO.units {k : Nat} {A : Around} (r : kO k A) : A.units + 64 < cLine := by have := r.un; omega
noncomputable def aiS : TA := fun _ H Q => Q [] H
noncomputable def agq (ta : TE) (tr : TA) : TA := fun σ H Q => ta σ H fun x H1 => tr σ H1 fun xs H2 => Q (x :: xs) H2
section
variable {X : Cx} {e : Expr} {es : List Expr} {te : TE} {t : TA} {pos : Pos}
theorem cK : PA X [] aiS := fun _ _ _ _ H Q I h => Calls.spliced_nil ⟨[], H, I, .nil, h⟩
theorem bI (ha : PE X e te) (hr : PA X es t) (hs : starEach (e :: es) X.env = (false, eval e X.env) :: starEach es X.env := by rfl) : PA X (e :: es) (agq te t) := by
 intro pos pins s σ H Q I h
 rw [hs]
 show wpAny _ _ (spliced ((false, eval e X.env) :: backTo pos (starEach es X.env))) _ _ s
 refine Calls.spliced_cons (ef (ha pins s σ H _ I h) fun u s1 zz => ?_)
 obtain ⟨x, H1, I1, r1, q1⟩ := zz
 exact ef (hr pos pins s1 σ H1 _ I1 q1) fun us s2 ⟨xs, H2, I2, r2, q2⟩ => ⟨x :: xs, H2, I2, .cons r1 r2, q2⟩
noncomputable def aiT (t : TA) : TE := fun σ H Q => t σ H fun xs H1 => xs.length <= sizeLine /\ ∀ p, H1 p = none -> Q (.ref p) (upd H1 p (.tup xs))
noncomputable def aiU (t : TA) : TE := fun σ H Q => t σ H fun xs H1 => xs.length <= sizeLine /\ ∀ p, H1 p = none -> Q (.ref p) (upd H1 p (.lst xs))
theorem aeb {x1} (h : PA X es t) : PE X (.Tuple es x1 pos) (aiT t) := by
 intro pins s σ H Q I hq
 refine wpAny_Tuple_spliced (ef (h pos pins s σ H _ I hq) fun us s1 ⟨xs, H1, I1, r, z, q⟩ => ⟨by rw [← r.length]; exact z, ?_⟩)
 have hf : H1 s1.heap.objs.size = none := I1.d9.fresh (anq _)
 refine ⟨.ref s1.heap.objs.size, upd H1 s1.heap.objs.size (.tup xs), I1.laid (t' := s1.toks) (fun b u e => ant _ e) (anq _) ?_, rfl, q _ hf⟩
 exact ⟨z, us, r, ⟨_, anR _ rfl, rfl, _, rfl⟩⟩
theorem aec (h : PA X es t) : PE X (.List es pos) (aiU t) := by
 intro pins s σ H Q I hq
 refine wpAny_List_spliced (ef (h pos pins s σ H _ I hq) fun us s1 ⟨xs, H1, I1, r, z, q⟩ => ⟨by rw [← r.length]; exact z, ?_⟩)
 have hf : H1 s1.heap.objs.size = none := I1.d9.fresh (anq _)
 refine ⟨.ref s1.heap.objs.size, upd H1 s1.heap.objs.size (.lst xs), I1.laid (t' := s1.toks) (fun b u e => ant _ e) (anq _) ?_, rfl, q _ hf⟩
 exact ⟨z, us, 0, r, anR _ rfl⟩
end
noncomputable abbrev Sp := List V -> Hp -> VK -> XK -> Prop
noncomputable abbrev W0 := List Env -> Hp -> Shared -> XK -> Value -> Shared -> Prop
structure Ox (P : Program) (w : World) (K : PySem.W.Frag) (mg : Str -> Option Value) (base : Heap) (A : Around) (outer : List Env) (s : Shared) (H : Hp) : Prop where
 frames : A.frames = some outer
 mod : Mod K mg base
 bs : ∀ b o, base.get? b = some o -> s.heap.get? b = some o /\ H b = none
 bsz : base.objs.size <= s.heap.objs.size
 Cr : s.heap.FunFrames base outer
 frf : ∀ b ∈ Wx outer, H b = none
 d9 : yt P w H s.heap
 bare : AllBare s.gens
noncomputable def CE (outer : List Env) (P : Program) (w : World) (H : Hp) (s : Shared) (Q : VK) (u : Value) (s' : Shared) : Prop :=
 ∃ v H', s'.os = s.os /\ AllBare s'.gens /\ Un (Wx outer) [] H H' s.heap s'.heap /\ yt P w H' s'.heap /\ RelV v u /\ Q v H'
noncomputable def CR (CX : W0) (outer : List Env) (P : Program) (w : World) (H : Hp) (s : Shared) (Q : VK) (E : XK) (r : Result) (s' : Shared) : Prop :=
 match r with
 | .ok (.ret u) => CE outer P w H s Q u s'
 | .ok _ => False
 | .error e => CX outer H s E e s'
structure lY (P : Program) (w : World) (K : PySem.W.Frag) (mg : Str -> Option Value) (base : Heap) (CX : W0) (k : Nat) (f : Addr) (fd : FuncData) (ps : List Str) (sp : Sp) : Prop where
 len : ∀ vs H Q E, sp vs H Q E -> vs.length = ps.length
 run : ∀ (A : Around) (outer : List Env) (s : Shared) (H : Hp) (args : Args) (us : List Value) (vs : List V) (Q : VK) (E : XK), kO k A -> Ox P w K mg base A outer s H -> BindsTo s fd args (ps.zip us) -> Vals vs us -> sp vs H Q E →
   codeAny (model P w) A (.call (.ref f) args) (CR CX outer P w H s Q E) s
theorem lY.imp {P : Program} {w : World} {K : PySem.W.Frag} {mg : Str -> Option Value} {base : Heap} {CX : W0} {k : Nat} {f : Addr} {fd : FuncData} {ps : List Str} {sp sp' : Sp} (F : lY P w K mg base CX k f fd ps sp)
   (h : ∀ vs H Q E, sp' vs H Q E -> sp vs H Q E) : lY P w K mg base CX k f fd ps sp' :=
 ⟨fun vs H Q E q => F.len vs H Q E (h _ _ _ _ q), fun A outer s H args us vs Q E hr he hb hv hs => F.run A outer s H args us vs Q E hr he hb hv (h _ _ _ _ hs)⟩
theorem Ox.make {P : Program} {w : World} {K : PySem.W.Frag} {mg : Str -> Option Value} {base : Heap} {A : Around} {outer : List Env} {s : Shared} {H : Hp} (e : Ox P w K mg base A outer s H) (C : Addr) (us : List Value) (kw : List (Str × Value)) :
   Ox P w K mg base (A.under (.builtin "type.__call__" ⟨.ref C :: us, kw⟩)) outer s H := ⟨by first | exact e.frames | (simpa [Around.under, Code.envs, Code.isFrame, pushEnvs] using e.frames), e.mod, e.bs, e.bsz, e.Cr, e.frf, e.d9, e.bare⟩
section
variable {X : Cx} {pins : List (Addr × Obj)} {σ : St} {H : Hp} {s s' : Shared}
theorem Inv.agr (I : Inv X pins σ H s) : Ox X.prog X.w X.K X.mg X.base X.A X.stack s H :=
 ⟨I.ok.frames, I.ok.mod, I.bs, anW I.ok.bsz I.sz, I.stack, I.RZ, I.d9, I.bare⟩
theorem Inv.after {Q : VK} {u : Value} (I : Inv X pins σ H s) (h : CE X.stack X.prog X.w H s Q u s') : EP X pins σ Q u s' := by
 obtain ⟨v, H', os, bare, un, d9, r, q⟩ := h
 obtain ⟨hh, g, d, t, os'⟩ := s'
 obtain rfl : os' = s.os := os
 exact ⟨v, H', I.call (h' := hh) (g' := g) (d' := d) (t' := t) (ch := []) un d9 bare (fun b z => absurd z (by simp)), r, q⟩
end
noncomputable def ags (sp : Sp) (Oz : List V) (E : XK) (t : TA) : TE := fun σ H Q => t σ H fun vs H1 => sp (vs ++ Oz) H1 Q E
noncomputable def agt (C : Addr) (sp : Sp) (Oz : List V) (E : XK) (t : TA) : TE := fun σ H Q => t σ H fun vs H1 => ∀ x dx, H1 x = none -> H1 dx = none -> dx ≠ x →
 sp (.ref x :: (vs ++ Oz)) (upd (upd H1 dx (.own x)) x (.ins C dx [])) (fun v H2 => v = .non /\ Q (.ref x) H2) E
noncomputable def Binds (K : PySem.W.Frag) (fd : FuncData) (ps : List Str) (ds : List Value) : Prop :=
 ∀ (s : Shared) (us : List Value), K.In s.heap -> (us ++ ds).length = ps.length -> BindsTo s fd ⟨us, []⟩ (ps.zip (us ++ ds))
theorem Binds.all {K : PySem.W.Frag} {fd : FuncData} {ps : List Str} (h : ∀ us : List Value, us.length = ps.length -> bindArgs fd ⟨us, []⟩ = pure (ps.zip us)) : Binds K fd ps [] := fun s us _ hl => by
 rw [anL] at hl ⊢
 exact .of_eq (h us hl)
noncomputable def Passes (CX : W0) (X : Cx) (E : XK) : Prop := ∀ (pins : List (Addr × Obj)) (σ : St) (H : Hp) (s : Shared) (e : Value) (s' : Shared), Inv X pins σ H s -> CX X.stack H s E e s' -> X.xe e s'
section
variable {X : Cx} {CX : W0} {k : Nat} {f C : Addr} {fd : FuncData} {ps : List Str} {sp : Sp} {Oz : List V} {ds : List Value} {E : XK} {x : Str} {p pos : Pos} {e : Expr} {es : List Expr} {t : TA}
theorem aed {pins : List (Addr × Obj)} {σ : St} {H : Hp} {s : Shared} {Q : VK} {us : List Value} {vs : List V} (F : lY X.prog X.w X.K X.mg X.base CX k f fd ps sp) (hr : kO k X.A) (hb : Binds X.K fd ps ds) (hd : Vals Oz ds) (hx : Passes CX X E)
   (I : Inv X pins σ H s) (r : Vals vs us) (h : sp (vs ++ Oz) H Q E) : wpAny (model X.prog X.w) X.A (call (.ref f) us) (EP X pins σ Q) X.xe s := by
 have r2 : Vals (vs ++ Oz) (us ++ ds) := r.append hd
 have hl : (us ++ ds).length = ps.length := by rw [← r2.length]; exact F.len _ _ _ _ h
 refine wpAny_call (ao1 (F.run X.A X.stack s H ⟨us, []⟩ (us ++ ds) (vs ++ Oz) Q E hr I.agr (hb s us I.Kz hl) r2 h) fun r s' hq => ?_)
 cases r with
 | error e => exact hx pins σ H s e s' I hq
 | ok fl =>
   cases fl with
   | ret u => exact I.after hq
   | next => exact False.elim hq
   | brk => exact False.elim hq
   | cont => exact False.elim hq
theorem aaq (F : lY X.prog X.w X.K X.mg X.base CX k f fd ps sp) (hr : kO k X.A) (hg : Gl X x) (hm : X.mg x = some (.ref f)) (hk : PySem.W.keepIn X.K (.ref f) = true) (hb : Binds X.K fd ps ds) (hd : Vals Oz ds) (hx : Passes CX X E)
   (ha : PA X (e :: es) t) (KW : (x == ("__debug__" : Str)) = false := by decide) (he : starEach (e :: es) X.env = (false, eval e X.env) :: starEach es X.env := by rfl) (GH : (backTo pos (starEach es X.env)).any (·.1) = false := by rfl) :
   PE X (.Call (.Name x p) (e :: es) [] pos) (ags sp Oz E t) := by
 intro pins s σ H Q I h
 refine ao2 (DI I hg hm ?_ KW)
 refine PySem.W.callWith_K (h₀ := X.base) I.ok.mod.kin hk (ef (ha pos pins s σ H _ I h) fun us s1 ⟨vs, H1, I1, r, q⟩ => ⟨I1.Kz, ?_⟩) he GH
 exact aed F hr hb hd hx I1 r q
structure Mk (K : PySem.W.Frag) (C f : Addr) : Prop where
 makes : PySem.W.makesIn K C = true
 init : PySem.W.findIn K (.ref C) "__init__" = some (some (.ref f))
 fn : PySem.W.isFn K (.ref f) = true
 kp : PySem.W.keepIn K (.ref C) = true
theorem W3 {pins : List (Addr × Obj)} {σ : St} {H : Hp} {s : Shared} {Q : VK} {us : List Value} {vs : List V} (M : Mk X.K C f) (F : lY X.prog X.w X.K X.mg X.base CX k f fd ps sp) (hr : kO (k + 1) X.A) (hb : Binds X.K fd ps ds) (hd : Vals Oz ds)
   (hx : Passes CX X E) (I : Inv X pins σ H s) (r : Vals vs us)
   (h : ∀ x dx, H x = none -> H dx = none -> dx ≠ x -> sp (.ref x :: (vs ++ Oz)) (upd (upd H dx (.own x)) x (.ins C dx [])) (fun v H2 => v = .non /\ Q (.ref x) H2) E) :
   wpAny (model X.prog X.w) X.A (call (.ref C) us) (EP X pins σ Q) X.xe s := by
 have hq := h (s.heap.objs.size + 1) s.heap.objs.size (I.d9.fresh (Nat.le_succ _)) (I.d9.fresh (anq _)) (anT (aoS _))
 have I2 := Inv.made (C := C) I
 have r2 : Vals (V.ref (s.heap.objs.size + 1) :: (vs ++ Oz)) (Value.ref (s.heap.objs.size + 1) :: (us ++ ds)) := .cons rfl (r.append hd)
 have hl : (Value.ref (s.heap.objs.size + 1) :: us ++ ds).length = ps.length := by
   have e := r2.length
   rw [F.len _ _ _ _ hq] at e
   exact e.symm
 refine wpAny_call (WX (f := f) I.Kz M.makes M.init (aoR.mp M.fn) (ao1 (F.run _ X.stack _ _ ⟨Value.ref (s.heap.objs.size + 1) :: us, []⟩ (Value.ref (s.heap.objs.size + 1) :: (us ++ ds)) _ _ E (hr.make C us [])
   (I2.agr.make C us []) (hb _ (Value.ref (s.heap.objs.size + 1) :: us) I2.Kz hl) r2 hq) fun r s' hq' => ?_))
 cases r with
 | error e => exact hx pins σ _ _ e s' I2 hq'
 | ok fl =>
   cases fl with
   | ret u =>
     obtain ⟨v, H', I3, rv, ev, q3⟩ := I2.after hq'
     subst ev
     exact ⟨rv, ⟨V.ref (s.heap.objs.size + 1), H', I3, rfl, q3⟩⟩
   | next => exact False.elim hq'
   | brk => exact False.elim hq'
   | cont => exact False.elim hq'
theorem R9 (M : Mk X.K C f) (F : lY X.prog X.w X.K X.mg X.base CX k f fd ps sp) (hr : kO (k + 1) X.A) (hg : Gl X x) (hm : X.mg x = some (.ref C)) (hb : Binds X.K fd ps ds) (hd : Vals Oz ds) (hx : Passes CX X E)
   (ha : PA X (e :: es) t) (KW : (x == ("__debug__" : Str)) = false := by decide) (he : starEach (e :: es) X.env = (false, eval e X.env) :: starEach es X.env := by rfl) (GH : (backTo pos (starEach es X.env)).any (·.1) = false := by rfl) :
   PE X (.Call (.Name x p) (e :: es) [] pos) (agt C sp Oz E t) := by
 intro pins s σ H Q I h
 refine ao2 (DI I hg hm ?_ KW)
 refine PySem.W.callWith_K (h₀ := X.base) I.ok.mod.kin M.kp (ef (ha pos pins s σ H _ I h) fun us s1 ⟨vs, H1, I1, r, q⟩ => ⟨I1.Kz, ?_⟩) he GH
 exact W3 M F hr hb hd hx I1 r q
end
structure aJ (N P : List Str) (sc : Scope) : Prop where
 kind : sc.kind = .function
 co : sc.isCoroutine = false
 gen : sc.isGenerator = false
 nd : N.Nodup
 pre : N.take P.length = P
 par : ∀ x ∈ P, sc.names.lookup x = some .local \/ sc.names.lookup x = some .cell
 aee : ∀ y ∈ sc.names, y.2 ≠ .free
theorem G6 {kindOf : Str -> Option NameKind} {x : Str} : ∀ {binds : List (Str × Value)} {m : Str -> Option Value}, (∀ v, (x, v) ∉ binds) -> bindL kindOf binds m x = m x
 | [], _, _ => rfl
 | (n, v) :: r, m, h => by
   unfold bindL
   rw [G6 fun w hw => h w (anj _ hw)]
   split
   . have : x ≠ n := by rintro rfl; exact h v anc
     simp [this]
   . rfl
theorem G7 {kindOf : Str -> Option NameKind} {x : Str} : ∀ {binds : List (Str × Value)} {m : Str -> Option Value}, (∀ v, (x, v) ∉ binds) -> bindC kindOf binds m x = m x
 | [], _, _ => rfl
 | (n, v) :: r, m, h => by
   unfold bindC
   rw [G7 fun w hw => h w (anj _ hw)]
   split
   . rfl
   . have : x ≠ n := by rintro rfl; exact h v anc
     simp [this]
theorem G8 {kindOf : Str -> Option NameKind} {x : Str} {v : Value} : ∀ {P : List Str} {vs : List Value} {i : Nat} {m : Str -> Option Value}, P.Nodup -> P[i]? = some x -> vs[i]? = some v -> kindOf x = some .local →
   bindL kindOf (P.zip vs) m x = some v
 | [], _, _, _, _, h, _, _ => by simp at h
 | _ :: _, [], _, _, _, _, h, _ => by simp at h
 | p :: P, w :: vs, 0, m, nd, h1, h2, hk => by
   simp at h1 h2; subst h1; subst h2
   show bindL kindOf ((p, w) :: P.zip vs) m p = _
   unfold bindL
   rw [G6 fun v hv => (an2.mp nd).1 (List.of_mem_zip hv).1, anu hk]
   simp
 | p :: P, w :: vs, i + 1, m, nd, h1, h2, hk => by
   show bindL kindOf ((p, w) :: P.zip vs) m x = _
   unfold bindL
   exact G8 (i := i) (List.nodup_cons.mp nd).2 (by simpa using h1) (by simpa using h2) hk
theorem G9 {kindOf : Str -> Option NameKind} {x : Str} {v : Value} : ∀ {P : List Str} {vs : List Value} {i : Nat} {m : Str -> Option Value}, P.Nodup -> P[i]? = some x -> vs[i]? = some v -> kindOf x ≠ some .local →
   bindC kindOf (P.zip vs) m x = some v
 | [], _, _, _, _, h, _, _ => by simp at h
 | _ :: _, [], _, _, _, _, h, _ => by simp at h
 | p :: P, w :: vs, 0, m, nd, h1, h2, hk => by
   simp at h1 h2; subst h1; subst h2
   show bindC kindOf ((p, w) :: P.zip vs) m p = _
   unfold bindC
   rw [G7 fun v hv => (an2.mp nd).1 (List.of_mem_zip hv).1, anm hk]
   simp
 | p :: P, w :: vs, i + 1, m, nd, h1, h2, hk => by
   show bindC kindOf ((p, w) :: P.zip vs) m x = _
   unfold bindC
   exact G9 (i := i) (List.nodup_cons.mp nd).2 (by simpa using h1) (by simpa using h2) hk
noncomputable def start (N : List Str) (vs : List V) : St := vs.map some ++ List.replicate (N.length - vs.length) none
noncomputable def GJ (CX : W0) (P : Program) (w : World) (K : PySem.W.Frag) (mg : Str -> Option Value) (base : Heap) (N : List Str) (qual : Str) (scope : Scope) (f : Addr) (cd : Value) (A : Around) (outer : List Env) (s : Shared) (H : Hp) (E : XK) : Cx where
 prog := P
 w := w
 K := K
 mg := mg
 base := base
 A := A.deeper (envOfC qual scope s.heap.objs.size f cd)
 N := N
 s₀ := s
 H₀ := H
 env := envOfC qual scope s.heap.objs.size f cd
 outer := outer
 stack := envOfC qual scope s.heap.objs.size f cd :: outer
 ex := []
 calm := true
 fn := fun _ => true
 pn := []
 xe := fun e s' => wpAny (model P w) (A.deeper (envOfC qual scope s.heap.objs.size f cd)) (leaving (envOfC qual scope s.heap.objs.size f cd) e) (fun _ s'' => CX outer H s E e s'') (fun e' s'' => CX outer H s E e' s'') s'
theorem KY {sc : Scope} {n : Nat} {x : Str} (h : sc.names.lookup x = some .cell) : ∃ c, (cellsFrom n sc.names []).lookup x = some c := by
 have q := PySem.W.cellsFrom_some sc.names n [] (.inl h)
 exact Option.isSome_iff_exists.mp q
theorem Ug {CX : W0} {P : Program} {w : World} {K : PySem.W.Frag} {mg : Str -> Option Value} {base : Heap} {N ps : List Str} {qual : Str} {scope : Scope} {f : Addr} {cd : Value} {A : Around} {outer : List Env} {s s1 : Shared} {H : Hp} {E : XK} {us : List Value} {vs : List V}
   (S : aJ N ps scope) (hd : A.handled = none) (e0 : Ox P w K mg base A outer s H) (hl : vs.length = ps.length) (r : Vals vs us)
   (x : InCallC s s.heap.objs.size (bindL (envOfC qual scope s.heap.objs.size f cd).kindOf (ps.zip us) fun _ => none) (cellsFrom (s.heap.objs.size + 1) scope.names []) (bindC (envOfC qual scope s.heap.objs.size f cd).kindOf (ps.zip us) fun _ => none) s1) :
   Inv (GJ CX P w K mg base N qual scope f cd A outer s H E) [] (start N vs) H s1 := by
 have GH : ps.length <= N.length := by have := congrArg List.length S.pre; rw [aoy] at this; omega
 obtain ⟨h1, tk, rfl, hk⟩ := x.done
 have noA : ∀ b : Addr, b ∉ (GJ CX P w K mg base N qual scope f cd A outer s H E).ex := fun b z => absurd (show b ∈ ([] : List Addr) from z) (by simp)
 refine ⟨⟨e0.mod, S.kind, rfl, rfl, anq _, fun y z c h1 h2 => ?_, fun y hy => ?_, fun y c _ h => ?_, fun _ => hd, Around.frames_deeper e0.frames, .inr ⟨rfl, rfl⟩, fun b z => absurd z (noA b), e0.bs, e0.bsz, fun b _ _ => noA b, fun b z => absurd z (noA b), e0.Cr, e0.frf⟩,
   rfl, e0.bare, Un.kept hk, ⟨_, x.toInCall.ns, fun i y v h1 h2 h3 => ?_⟩, fun y c h => ⟨_, x.cell y c h⟩, e0.d9.fresh (anq _), fun y c h => ?_, fun p hp => absurd (show p ∈ ([] : List (Addr × Obj)) from hp) (by simp), e0.d9.kept hk, ?_⟩
 . exact name_of_addr x.apart (aop h1) (aop h2)
 . have hy : scope.names.lookup y = some .cell \/ scope.names.lookup y = some .free := hy
   rcases hy with hy | hy
   . exact KY hy
   . exact absurd rfl (S.aee _ (aop hy))
 . exact an9 (x.above y c (aop h))
 . have hi : i < vs.length := by
     unfold start at h2
     by_cases hi : i < vs.length
     . exact hi
     . rw [List.getElem?_append_right (by simpa using hi)] at h2
       rw [List.getElem?_replicate] at h2
       split at h2 <;> cases h2
   have ha : vs[i]? = some v := by
     unfold start at h2
     rw [List.getElem?_append_left (by simpa using hi), List.getElem?_map] at h2
     cases e : vs[i]? with
     | none => rw [e] at h2; cases h2
     | some a => rw [e] at h2; cases h2; rfl
   obtain ⟨u, hu, rv⟩ := r.get ha
   have hp : ps[i]? = some y := by
     rw [← S.pre, List.getElem?_take_of_lt (by omega)]; exact h1
   have ndP : ps.Nodup := by rw [← S.pre]; exact S.nd.sublist (List.take_sublist _ _)
   refine ⟨u, rv, ?_⟩
   rcases S.par y (anB hp) with k | k
   . exact .inl ⟨k, G8 ndP hp hu k⟩
   . obtain ⟨c, e⟩ := KY (n := s.heap.objs.size + 1) k
     refine .inr ⟨.inl k, c, e, ?_⟩
     have q := x.cell y c e
     rw [G9 ndP hp hu (by show scope.names.lookup y ≠ _; rw [k]; decide)] at q
     exact q
 . exact e0.d9.fresh (an9 (x.above y c (aop h)))
 . unfold start
   show _ = N.length
   rw [anv, anh, aos]
   omega
theorem agw {CX : W0} {P : Program} {w : World} {K : PySem.W.Frag} {mg : Str -> Option Value} {base : Heap} {k : Nat} {f : Addr} {name qual : Str} {params : Arguments} {body : List Stmt} {scope : Scope} {dV kV doc pm pX ct oc : Value} {an od : Option Addr}
   {osl : Array (Option Value)} {N ps : List Str} {sp : Sp} (lk : K.lookup f = some ⟨oc, od, .func (PySem.W.fnOf name qual params body scope dV kV doc pm an pX ct), osl⟩) (uF : PySem.W.codeIn K pX qual = true) (S : aJ N ps scope)
   (len : ∀ vs H Q E, sp vs H Q E -> vs.length = ps.length)
   (W4 : ∀ (A : Around) (outer : List Env) (s : Shared) (H : Hp) (vs : List V) (Q : VK) (E : XK), kO k (A.deeper (envOfC qual scope s.heap.objs.size f pX)) -> sp vs H Q E →
     ∃ t, R1 (GJ CX P w K mg base N qual scope f pX A outer s H E) body t /\ t { nx := fun _ H' => Q .non H', rt := Q } (start N vs) H) :
   lY P w K mg base CX (k + 1) f (PySem.W.fnOf name qual params body scope dV kV doc pm an pX ct) ps sp := by
 refine ⟨len, fun A outer s H args us vs Q E hr e0 hb r hsp => ?_⟩
 have hl := len _ _ _ _ hsp
 have KX : K.In s.heap := e0.mod.kin.keeps fun b o e => (e0.bs b o e).1
 have lim : s.heap.NoLimit := e0.mod.nolimit.keeps fun b o e => (e0.bs b o e).1
 have Sb : ∀ y ∈ ps.zip us, scope.names.lookup y.1 = some .local \/ (scope.names.lookup y.1 = some .cell /\ ((cellsFrom (s.heap.objs.size + 1) scope.names []).lookup y.1).isSome = true) := fun ⟨n, v⟩ hy => by
   rcases S.par n (List.of_mem_zip hy).1 with q | q
   . exact .inl q
   . exact .inr ⟨q, PySem.W.cellsFrom_some _ _ _ (.inl q)⟩
 refine codeAny_call_function hr.depth (KX _ _ lk) rfl S.co S.gen rfl (PySem.W.codeRec_of KX uF) (hb _ _ _ _ ?_)
 refine wpAny_newFunctionEnv_cells S.kind Sb fun env he s1 x => ?_
 subst he
 refine ⟨lim.keeps x.toInCall.keep, codeAny_func ?_⟩
 obtain ⟨t, ht, hq⟩ := W4 A outer s H vs Q E (hr.deeper _) hsp
 have I : Inv (GJ CX P w K mg base N qual scope f pX A outer s H E) [] (start N vs) H s1 := Ug S hr.hd e0 hl r x
 refine aor (ht [] s1 (start N vs) H _ I hq) (fun fl s' hs => ?_) fun e s' hs => hs
 have fin : ∀ {σ' : St} {H' : Hp} {v : V} {u : Value}, Inv (GJ CX P w K mg base N qual scope f pX A outer s H E) [] σ' H' s' -> RelV v u -> Q v H' -> CE outer P w H s Q u s' :=
   fun {σ' H' v u} J rv q => ⟨v, H', J.os, J.bare, J.base, J.d9, rv, q⟩
 cases fl with
 | ret u =>
   obtain ⟨v, σ', H', J, rv, q⟩ := hs
   exact fin J rv q
 | next =>
   obtain ⟨σ', H', J, q⟩ := hs
   exact fin (v := V.non) (u := Value.none) J rfl q
 | brk =>
   obtain ⟨_, _, _, q⟩ := hs
   exact False.elim q
 | cont =>
   obtain ⟨_, _, _, q⟩ := hs
   exact False.elim q
section
variable {X : Cx} {x : Str} {p pos : Pos} {e : Expr} {es : List Expr} {t : TA} {id T : String} {r : List V -> Hp -> VK -> Prop}
noncomputable def tCB (r : List V -> Hp -> VK -> Prop) (t : TA) : TE := fun σ H Q => t σ H fun vs H1 => r vs H1 Q
theorem rK (hc : rJ X (.builtin id) r) (hg : Gl X x) (hm : X.mg x = none) (hv : bootBuiltins x = some (.builtin id)) (ha : PA X (e :: es) t) (hn : x ≠ "__name__" := by decide) (KW : (x == ("__debug__" : Str)) = false := by decide)
   (he : starEach (e :: es) X.env = (false, eval e X.env) :: starEach es X.env := by rfl) (GH : (backTo pos (starEach es X.env)).any (·.1) = false := by rfl) : PE X (.Call (.Name x p) (e :: es) [] pos) (tCB r t) := by
 intro pins s σ H Q I h
 refine ao2 (xm I hg hm hv ?_ hn KW)
 exact PyProof.Rows.callWith_builtin1 (ef (ha pos pins s σ H _ I h) fun us s1 ⟨vs, H1, I1, r1, q1⟩ => hc pins s1 σ H1 vs us Q I1 r1 q1) he GH
theorem o8 (hc : rJ X (.type T) r) (hg : Gl X x) (hm : X.mg x = none) (hv : bootBuiltins x = some (.type T)) (ha : PA X (e :: es) t) (hn : x ≠ "__name__" := by decide) (KW : (x == ("__debug__" : Str)) = false := by decide)
   (he : starEach (e :: es) X.env = (false, eval e X.env) :: starEach es X.env := by rfl) (GH : (backTo pos (starEach es X.env)).any (·.1) = false := by rfl) : PE X (.Call (.Name x p) (e :: es) [] pos) (tCB r t) := by
 intro pins s σ H Q I h
 refine ao2 (xm I hg hm hv ?_ hn KW)
 exact aol (ef (ha pos pins s σ H _ I h) fun us s1 ⟨vs, H1, I1, r1, q1⟩ => hc pins s1 σ H1 vs us Q I1 r1 q1) he GH
end
end L2
namespace HT
open PySem PyProof.Rows
section
noncomputable def KC (n d : Nat) : Option Int -> Nat
 | none => d
 | some v => if v < 0 then (v + (n : Int)).toNat else min v.toNat n
end
end HT
namespace L2
open PySem PySem.Spec PyProof.Rows
noncomputable abbrev TO := St -> Hp -> (Option Int -> Hp -> Prop) -> Prop
noncomputable def PO (X : Cx) (e : Option Expr) (t : TO) : Prop :=
 ∀ (pins : List (Addr × Obj)) (s : Shared) (σ : St) (H : Hp) (Q : Option Int -> Hp -> Prop), Inv X pins σ H s -> t σ H Q →
   wpAny (model X.prog X.w) X.A (evalPart e X.env) (fun u s' => ∃ o H', Inv X pins σ H' s' /\ IsPart u o /\ Q o H') X.xe s
noncomputable def aas : TO := fun _ H Q => Q none H
noncomputable def agx (t : TE) : TO := fun σ H Q => t σ H fun x H1 => ∃ i, x = .int i /\ Q (some i) H1
section
variable {X : Cx} {e : Expr} {te : TE} {lo hi : Option Expr} {tl th : TO} {pos p2 : Pos}
theorem aat : PO X none aas := by
 intro pins s σ H Q I h
 rw [evalPart_none]
 exact an0 ⟨none, H, I, .none, h⟩
theorem aau (h : PE X e te) : PO X (some e) (agx te) := by
 intro pins s σ H Q I hw
 rw [evalPart_some]
 refine ef (h pins s σ H _ I hw) fun u s1 zz => ?_
 obtain ⟨x, H1, I1, r1, q1⟩ := zz
 obtain ⟨i, rfl, q⟩ := q1
 obtain ⟨t, rfl⟩ := r1
 exact ⟨some i, H1, I1, .int i t, q⟩
noncomputable def SlR (X : Cx) (r : V -> Option Int -> Option Int -> Hp -> VK -> Prop) : Prop :=
 ∀ (pins : List (Addr × Obj)) (s : Shared) (σ : St) (H : Hp) (x : V) (v vl vu : Value) (lo hi : Option Int) (sl : Addr) (Q : VK), Inv X pins σ H s -> RelV x v -> s.heap.IsSliceOf sl vl vu .none -> IsPart vl lo -> IsPart vu hi -> r x lo hi H Q →
   ∃ T id, typeLookup (.type T) "__getitem__" = pure (some (.builtin id)) /\ s.TypeIs v T /\ wpAny (model X.prog X.w) X.A (getItem v (.ref sl)) (EP X pins σ Q) X.xe s
noncomputable def tSl (r : V -> Option Int -> Option Int -> Hp -> VK -> Prop) (te : TE) (tl th : TO) : TE := fun σ H Q => te σ H fun x H1 => tl σ H1 fun l H2 => th σ H2 fun u H3 => r x l u H3 Q
theorem KZ {r : V -> Option Int -> Option Int -> Hp -> VK -> Prop} (hr : SlR X r) (he : PE X e te) (hl : PO X lo tl) (hu : PO X hi th) : PE X (.Subscript e (.Slice lo hi none p2) pos) (tSl r te tl th) := by
 intro pins s σ H Q I h
 refine Subscript_ (ef (he pins s σ H _ I h) fun v s1 zz => ?_)
 obtain ⟨x, H1, I1, r1, q1⟩ := zz
 refine wpAny_Slice (ef (hl pins s1 σ H1 _ I1 q1) fun vl s2 ⟨l, H2, I2, pl, q2⟩ => ef (hu pins s2 σ H2 _ I2 q2) fun vu s3 zz => ?_)
 obtain ⟨u, H3, I3, pu, q3⟩ := zz
 rw [evalPart_none]
 refine an0 ?_
 have I4 : Inv X pins σ H3 { s3 with heap := s3.heap.push { cls := .type "slice", data := .fields #[vl, vu, .none] } } := I3.kept (t' := s3.toks) fun b ob q => ant _ q
 obtain ⟨T, id, hT, ht, hg⟩ := hr pins { s3 with heap := s3.heap.push { cls := .type "slice", data := .fields #[vl, vu, .none] } } σ H3 x v vl vu l u s3.heap.objs.size Q I4 r1 (Heap.IsSliceOf.new ..) pl pu q3
 show wpAny (model X.prog X.w) X.A (subscriptTail e (.Slice lo hi none p2) v (.ref s3.heap.objs.size)) (EP X pins σ Q) X.xe { s3 with heap := s3.heap.push { cls := .type "slice", data := .fields #[vl, vu, .none] } }
 exact tail_any (ops := [.ref s3.heap.objs.size, v]) ht hT hg (by with_unfolding_all rfl)
noncomputable def Uh (xs : List V) (lo hi : Option Int) : List V := (xs.drop (HT.KC xs.length 0 lo)).take (HT.KC xs.length xs.length hi - HT.KC xs.length 0 lo)
theorem K0 (xs : List V) (lo hi : Option Int) : (Uh xs lo hi).length <= xs.length := by
 unfold Uh
 rw [aoy, List.length_drop]
 omega
end
noncomputable def ixN (n : Nat) (i : Int) : Option Nat := if 0 <= i then (if i < n then some i.toNat else none) else if -(n : Int) <= i then some (i + n).toNat else none
noncomputable def Ed {α : Type} (xs : List α) (i : Int) : Option α := (ixN xs.length i).bind fun j => xs[j]?
theorem Sd {n : Nat} {i : Int} {j : Nat} (h : ixN n i = some j) : seqIndex? i n = some j /\ j < n /\ -(n : Int) <= i /\ i < n := by
 unfold ixN at h
 by_cases h0 : 0 <= i
 . rw [anu h0] at h
   by_cases h1 : i < n
   . rw [anu h1] at h
     have e : i.toNat = j := anA h
     exact ⟨by rw [seqIndex_of h0 h1, e], by omega, by omega, h1⟩
   . rw [anm h1] at h; cases h
 . rw [anm h0] at h
   by_cases h1 : -(n : Int) <= i
   . rw [anu h1] at h
     have e : (i + n).toNat = j := anA h
     exact ⟨by rw [seqIndex_neg (by omega) h1, e], by omega, h1, by omega⟩
   . rw [anm h1] at h; cases h
theorem HZ {α : Type} {xs : List α} {i : Int} {v : α} (h : Ed xs i = some v) : ∃ j, seqIndex? i xs.length = some j /\ xs[j]? = some v /\ j < xs.length /\ -(xs.length : Int) <= i /\ i < xs.length := by
 unfold Ed at h
 cases e : ixN xs.length i with
 | none => rw [e] at h; cases h
 | some j =>
   rw [e] at h
   obtain ⟨h1, h2, h3, h4⟩ := Sd e
   exact ⟨j, h1, h, h2, h3, h4⟩
theorem ay {α : Type} {xs : List α} {j : Nat} {v : α} (h : xs[j]? = some v) : Ed xs (j : Int) = some v := by
 have hj : j < xs.length := (anS.mp h).1
 have e : ixN xs.length (j : Int) = some j := by
   unfold ixN
   rw [anu (by omega), anu (by omega)]; simp
 unfold Ed; rw [e]; exact h
noncomputable def sA (b : Expr) : Prop := ∀ o i, subscripted b false o i = operate [o, i] (getItem o i)
noncomputable def IxR (X : Cx) (r : R2) : Prop :=
 ∀ (value slice : Expr) (pins : List (Addr × Obj)) (s : Shared) (σ : St) (H : Hp) (x y : V) (v u : Value) (Q : VK), Inv X pins σ H s -> RelV x v -> RelV y u -> r x y H Q →
   subscripted slice false v u = operate [v, u] (getItem v u) -> wpAny (model X.prog X.w) X.A (subscriptTail value slice v u) (EP X pins σ Q) X.xe s
noncomputable def MtR (X : Cx) (id : String) (r : V -> List V -> Hp -> VK -> Prop) : Prop :=
 ∀ (pins : List (Addr × Obj)) (s : Shared) (σ : St) (H : Hp) (x : V) (xs : List V) (v : Value) (us : List Value) (Q : VK), Inv X pins σ H s -> RelV x v -> Vals xs us -> r x xs H Q →
   wpAny (model X.prog X.w) X.A (call (.builtin id) (v :: us)) (EP X pins σ Q) X.xe s
section
variable {X : Cx} {a b : Expr} {ta tb : TE} {pos : Pos}
theorem Hf {r : R2} (hr : IxR X r) (ha : PE X a ta) (hb : PE X b tb) (hs : sA b) : PE X (.Subscript a b pos) (tOp r ta tb) := by
 intro pins s σ H Q I h
 exact Subscript_ (ad0 ha hb I h fun v u s2 x y H2 I2 rx ry q => hr a b pins s2 σ H2 x y v u Q I2 rx ry q (hs _ _))
noncomputable def aiX (K : PySem.W.Frag) : R2 := fun x y H Q => ∃ p xs i v, x = .ref p /\ y = .int i /\ pA K H p xs /\ Ed xs i = some v /\ Q v H
noncomputable def aiY (K : PySem.W.Frag) : R2 := fun x y H Q => ∃ p xs i v, x = .ref p /\ y = .int i /\ AH K H p xs /\ Ed xs i = some v /\ Q v H
noncomputable def aiZ : R2 := fun x y H Q => ∃ z i c, x = .str z /\ y = .int i /\ z.length <= sizeLine /\ Ed z.cps.toList i = some c /\ Q (.str ⟨#[c]⟩) H
theorem Ic : IxR X (aiX X.K) := by
 intro value slice pins s σ H x y v u Q I rx ry h hs
 obtain ⟨p, xs, i, z, rfl, rfl, hq, he, q⟩ := h
 cases rx
 obtain ⟨t, rfl⟩ := ry
 obtain ⟨its, r, pl, hz⟩ := I.list hq
 obtain ⟨j, h1, h2, h3, h4, h5⟩ := HZ he
 obtain ⟨w, ew, Ui⟩ := r.get h2
 have hl := r.length
 have hn := AI
 have fin : EP X pins σ Q w s := ⟨z, H, I, Ui, q⟩
 by_cases h0 : 0 <= i
 . have hj : i.toNat = j := by
     rw [seqIndex_of h0 h5] at h1
     exact anA h1
   exact item_listR pl.isList h0 (by omega) (by rw [hj]; simpa using ew) fin hs
 . have hj : (i + (its.toArray.size : Int)).toNat = j := by
     rw [seqIndex_neg (by omega) h4] at h1
     rw [anQ, ← hl]
     exact anA h1
   exact subscriptTail_builtinR (x := w) pl.isList.typeIs slot_list_getitem.lookup
     (wpAny_getItem_list_neg (Q := fun r s' => r = w /\ EP X pins σ Q r s') pl.isList (by omega) (by rw [List.size_toArray] <;> omega) (by omega) (by rw [hj]; simpa using ew) ⟨rfl, fin⟩) hs
theorem W5 : IxR X (aiY X.K) := by
 intro value slice pins s σ H x y v u Q I rx ry h hs
 obtain ⟨p, xs, i, z, rfl, rfl, hq, he, q⟩ := h
 cases rx
 obtain ⟨t, rfl⟩ := ry
 obtain ⟨its, r, pl, hz⟩ := I.tuple hq
 obtain ⟨j, h1, h2, h3, h4, h5⟩ := HZ he
 obtain ⟨w, ew, Ui⟩ := r.get h2
 have hl := r.length
 have hn := AI
 have fin : EP X pins σ Q w s := ⟨z, H, I, Ui, q⟩
 exact subscriptTail_builtinR (x := w) pl.typeIs slot_tuple_getitem.lookup
   (getItem_tuple (j := j) (Q := fun r s' => r = w /\ EP X pins σ Q r s') pl (by omega) (by omega) (by rw [List.size_toArray, ← hl]; exact h1) (by simpa using ew) ⟨rfl, fin⟩) hs
theorem aef : IxR X aiZ := by
 intro value slice pins s σ H x y v u Q I rx ry h hs
 obtain ⟨z, i, c, rfl, rfl, hz, he, q⟩ := h
 obtain ⟨t, rfl⟩ := rx
 obtain ⟨t', rfl⟩ := ry
 obtain ⟨j, h1, h2, h3, h4, h5⟩ := HZ he
 have hl : z.cps.toList.length = z.length := by simp [Str.length]
 rw [hl] at h1 h4 h5
 have hn := AI
 exact tail_any (typeIs_str s z t) slot_str_getitem.lookup (getItem_str (c := c) (by
   have e1 : decide (i < -(2 ^ 63 : Int)) = false := anx (by omega)
   have e2 : decide (i ≥ 2 ^ 63) = false := anx (by omega)
   rw [e1, e2, Bool.or_false]) (by rw [h1]; simpa using h2) ⟨.str ⟨#[c]⟩, H, I.tok _, ⟨_, rfl⟩, q⟩) hs
theorem Ie (lo hi : Option Int) (n : Nat) : (sliceBounds lo hi none n).1 = ((HT.KC n 0 lo : Nat) : Int) /\ (sliceBounds lo hi none n).2.1 = ((HT.KC n n hi : Nat) : Int) /\ (sliceBounds lo hi none n).2.2 = 1 := by
 refine ⟨?_, ?_, rfl⟩
 . cases lo with
   | none => simp [sliceBounds, HT.KC]
   | some i =>
     simp only [sliceBounds, HT.KC, Option.getD_none, show (1 : Int) > 0 by decide, if_true]
     by_cases h : i < 0
     . simp only [h, if_true] <;> omega
     . simp only [h, if_false] <;> omega
 . cases hi with
   | none => simp [sliceBounds, HT.KC]
   | some i =>
     simp only [sliceBounds, HT.KC, Option.getD_none, show (1 : Int) > 0 by decide, if_true]
     by_cases h : i < 0
     . simp only [h, if_true] <;> omega
     . simp only [h, if_false] <;> omega
theorem GK (its : List Value) (lo hi : Option Int) : slicePick its.toArray lo hi none = ((its.drop (HT.KC its.length 0 lo)).take (HT.KC its.length its.length hi - HT.KC its.length 0 lo)).toArray := by
 obtain ⟨h1, h2, h3⟩ := Ie lo hi its.toArray.size
 unfold slicePick
 rw [h1, h2, h3]
 simp only [sliceRange_one, pick_run, anQ] <;> rfl
noncomputable def ai0 (K : PySem.W.Frag) : V -> Option Int -> Option Int -> Hp -> VK -> Prop := fun x lo hi H Q => ∃ a xs, x = .ref a /\ pA K H a xs /\ ∀ p, H p = none -> Q (.ref p) (upd H p (.lst (Uh xs lo hi)))
theorem aav : SlR X (ai0 X.K) := by
 intro pins s σ H x v vl vu lo hi sl Q I rx hs pl pu h
 obtain ⟨a, xs, rfl, hx, q⟩ := h
 cases rx
 obtain ⟨its, r, ht, hz⟩ := I.list hx
 have hlen := r.length
 refine ⟨"list", _, slot_list_getitem.lookup, ht.isList.typeIs, ?_⟩
 refine wpAny_getItem_list_slice ht.isList hs pl pu .none (by simp) ?_ (by rw [anQ] <;> omega)
 rw [GK, ← hlen]
 refine ⟨.ref s.heap.objs.size, _, I.laid (t' := s.toks) (o := .lst (Uh xs lo hi)) (fun b ob q => ant _ q) (anq _) ?_, rfl, q _ (I.d9.fresh (anq _))⟩
 exact ⟨anW (K0 xs lo hi) hz, _, 0, (r.drop (HT.KC xs.length 0 lo)).take (HT.KC xs.length xs.length hi - HT.KC xs.length 0 lo), anR _ rfl⟩
noncomputable def wX : V -> Bool
 | .non => true
 | .bl _ => true
 | .int _ => true
 | .str _ => true
 | _ => false
noncomputable def W6 : V -> V -> Bool
 | .non, .non => true
 | .bl a, .bl b => a == b
 | .bl a, .int b => (if a then 1 else 0) == b
 | .int a, .bl b => a == (if b then 1 else 0)
 | .int a, .int b => a == b
 | .str a, .str b => a == b
 | _, _ => false
theorem aeg {A : Around} {s : Shared} {y x : V} {u v : Value} (ry : RelV y u) (rx : RelV x v) (fy : wX y = true) (fx : wX x = true) : SeqAt.EqAt A s u v (W6 y x) := by
 cases y with
 | non =>
   cases ry
   cases x with
   | non => cases rx; exact SeqAt.EqAt.same _
   | bl b => cases rx; exact SeqAt.EqAt.none_bool b
   | int b => obtain ⟨t, rfl⟩ := rx; exact SeqAt.EqAt.none_int b t
   | str b => obtain ⟨t, rfl⟩ := rx; exact SeqAt.EqAt.none_str b t
   | _ => exact absurd (show false = true from fx) ans
 | bl a =>
   cases ry
   cases x with
   | non => cases rx; exact SeqAt.EqAt.bool_none a
   | bl b => cases rx; exact SeqAt.EqAt.bool_bool a b
   | int b => obtain ⟨t, rfl⟩ := rx; exact SeqAt.EqAt.bool_int a b t
   | str b => obtain ⟨t, rfl⟩ := rx; exact SeqAt.EqAt.bool_str a b t
   | _ => exact absurd (show false = true from fx) ans
 | int a =>
   obtain ⟨t', rfl⟩ := ry
   cases x with
   | non => cases rx; exact SeqAt.EqAt.int_none a t'
   | bl b => cases rx; exact SeqAt.EqAt.int_bool a t' b
   | int b => obtain ⟨t, rfl⟩ := rx; exact SeqAt.EqAt.int_int a t' b t
   | str b => obtain ⟨t, rfl⟩ := rx; exact SeqAt.EqAt.int_str a t' b t
   | _ => exact absurd (show false = true from fx) ans
 | str a =>
   obtain ⟨t', rfl⟩ := ry
   cases x with
   | non => cases rx; exact SeqAt.EqAt.str_none a t'
   | bl b => cases rx; exact SeqAt.EqAt.str_bool a t' b
   | int b => obtain ⟨t, rfl⟩ := rx; exact SeqAt.EqAt.str_int a t' b t
   | str b => obtain ⟨t, rfl⟩ := rx; exact SeqAt.EqAt.str_str a t' b t
   | _ => exact absurd (show false = true from fx) ans
 | _ => exact absurd (show false = true from fy) ans
noncomputable def OB (x : V) (u : Value) : Bool := match u with
 | .none => W6 .non x
 | .bool b => W6 (.bl b) x
 | .int i _ => W6 (.int i) x
 | .str z _ => W6 (.str z) x
 | _ => false
theorem W7 {x y : V} {u : Value} (r : RelV y u) (f : wX y = true) : OB x u = W6 y x := by
 cases y with
 | non => cases r; rfl
 | bl b => cases r; rfl
 | int i => obtain ⟨t, rfl⟩ := r; rfl
 | str z => obtain ⟨t, rfl⟩ := r; rfl
 | _ => exact absurd (show false = true from f) ans
theorem yE {x : V} : ∀ {xs : List V} {us : List Value}, Vals xs us -> xs.all wX = true -> us.any (OB x) = xs.any fun y => W6 y x
 | _, _, .nil, _ => rfl
 | y :: xs, u :: us, .cons r t, f => by
   rw [aoP, anH] at f
   rw [aoj, aoj, W7 r f.1, yE t f.2]
theorem uI {A : Around} {s : Shared} {x : V} {v : Value} (rx : RelV x v) (fx : wX x = true) : ∀ {xs : List V} {us : List Value}, Vals xs us -> xs.all wX = true -> ∀ u ∈ us, SeqAt.EqAt A s u v (OB x u)
 | _, _, .nil, _ => fun u hu => by cases hu
 | y :: xs, u :: us, .cons r t, f => fun u' hu => by
   rw [aoP, anH] at f
   rcases ane.mp hu with rfl | hu
   . rw [W7 r f.1]; exact aeg r rx f.1 fx
   . exact uI rx fx t f.2 u' hu
noncomputable def inV (x : V) (xs : List V) : Bool := xs.any fun y => W6 y x
noncomputable def rIn (K : PySem.W.Frag) (neg : Bool) : R2 := fun x y H Q => ∃ p xs, y = .ref p /\ (pA K H p xs \/ AH K H p xs) /\ wX x = true /\ xs.all wX = true /\ Q (.bl (if neg then !inV x xs else inV x xs)) H
theorem vS : wW X (compareOp .In) (rIn X.K false) := by
 intro pins s σ H x y v u Q I rx ry h
 obtain ⟨p, xs, rfl, hq, fx, fs, q⟩ := h
 cases ry
 rcases hq with hq | hq
 . obtain ⟨its, r, pl, hz⟩ := I.list hq
   refine SeqAt.in_listAt (OB x) pl.isList (fun w hw => uI rx fx r fs w (by simpa using hw)) ⟨.bl _, H, I, rfl, ?_⟩
   rw [show its.toArray.any (OB x) = its.any (OB x) by simp, yE r fs]
   exact q
 . obtain ⟨its, r, pl, hz⟩ := I.tuple hq
   refine SeqAt.in_tupleAt (OB x) pl (fun w hw => uI rx fx r fs w (by simpa using hw)) ⟨.bl _, H, I, rfl, ?_⟩
   rw [show its.toArray.any (OB x) = its.any (OB x) by simp, yE r fs]
   exact q
theorem n9 : wW X (compareOp .NotIn) (rIn X.K true) := by
 intro pins s σ H x y v u Q I rx ry h
 obtain ⟨p, xs, rfl, hq, fx, fs, q⟩ := h
 cases ry
 rcases hq with hq | hq
 . obtain ⟨its, r, pl, hz⟩ := I.list hq
   refine SeqAt.notIn_listAt (OB x) pl.isList (fun w hw => uI rx fx r fs w (by simpa using hw)) ⟨.bl _, H, I, rfl, ?_⟩
   rw [show its.toArray.any (OB x) = its.any (OB x) by simp, yE r fs]
   exact q
 . obtain ⟨its, r, pl, hz⟩ := I.tuple hq
   refine SeqAt.notIn_tupleAt (OB x) pl (fun w hw => uI rx fx r fs w (by simpa using hw)) ⟨.bl _, H, I, rfl, ?_⟩
   rw [show its.toArray.any (OB x) = its.any (OB x) by simp, yE r fs]
   exact q
theorem yF : rJ X (.builtin "len") (fun xs H Q => ∃ p ys, xs = [.ref p] /\ (pA X.K H p ys \/ AH X.K H p ys) /\ Q (.int ys.length) H) := by
 intro pins s σ H xs us Q I r h
 obtain ⟨p, ys, rfl, hq, q⟩ := h
 obtain ⟨u, rfl, rx⟩ := vals1 r
 cases rx
 have hn := AI
 rcases hq with hq | hq
 . obtain ⟨its, r', pl, hz⟩ := I.list hq
   have hlen := r'.length
   exact Calls.call_len_list pl.isList (by simp only [anQ] <;> omega) ⟨.int ys.length, H, I.tok _, ⟨s.toks + 1, by rw [anQ, hlen]⟩, q⟩
 . obtain ⟨its, r', pl, hz⟩ := I.tuple hq
   have hlen := r'.length
   exact len_tuple pl (by simp only [anQ] <;> omega) ⟨.int ys.length, H, I.tok _, ⟨s.toks + 1, by rw [anQ, hlen]⟩, q⟩
theorem Ig : rJ X (.builtin "len") (fun xs H Q => ∃ z, xs = [.str z] /\ z.length <= sizeLine /\ Q (.int z.length) H) := by
 intro pins s σ H xs us Q I r h
 obtain ⟨z, rfl, hz, q⟩ := h
 obtain ⟨u, rfl, t, rfl⟩ := vals1 r
 have hn := AI
 exact len_str (by omega) ⟨.int z.length, H, I.tok _, ⟨_, rfl⟩, q⟩
theorem Ih : rJ X (.type "list") (fun xs H Q => ∃ p ys, xs = [.ref p] /\ (pA X.K H p ys \/ AH X.K H p ys) /\ ∀ l, H l = none -> Q (.ref l) (upd H l (.lst ys))) := by
 intro pins s σ H xs us Q I r h
 obtain ⟨p, ys, rfl, hq, q⟩ := h
 obtain ⟨u, rfl, rx⟩ := vals1 r
 cases rx
 have fin : ∀ (its : List Value), Vals ys its -> ys.length <= sizeLine -> ∀ (h' : Heap) (c' : Nat), (∀ b o', s.heap.get? b = some o' -> h'.get? b = some o') →
     h'.get? s.heap.objs.size = some { cls := .type "list", dict := none, data := .seq its.toArray c', slots := #[] } -> EP X pins σ Q (.ref s.heap.objs.size) { s with heap := h' } := fun its r' hz h' c' kp e =>
   ⟨.ref s.heap.objs.size, _, I.laid (t' := s.toks) kp (anq _) (show jv X.prog X.w _ h' _ (.lst ys) from ⟨hz, its, c', r', e⟩), rfl, q _ (I.d9.fresh (anq _))⟩
 rcases hq with hq | hq
 . obtain ⟨its, r', pl, hz⟩ := I.list hq
   have hlen := r'.length
   obtain ⟨o, ho, hc, n, hd⟩ := pl.isList
   exact call_list_seq p (.inl rfl) ho hc hd (fun h' c' kp e => fin its r' hz h' c' kp e) (by simp only [anQ] <;> omega)
 . obtain ⟨its, r', pl, hz⟩ := I.tuple hq
   have hlen := r'.length
   obtain ⟨o, ho, hc, n, hd⟩ := pl
   exact call_list_seq p (.inr rfl) ho hc hd (fun h' c' kp e => fin its r' hz h' c' kp e) (by simp only [anQ] <;> omega)
theorem GL : rJ X (.type "tuple") (fun xs H Q => ∃ p ys, xs = [.ref p] /\ ((pA X.K H p ys /\ ∀ l, H l = none -> Q (.ref l) (upd H l (.tup ys))) \/ (AH X.K H p ys /\ Q (.ref p) H))) := by
 intro pins s σ H xs us Q I r h
 obtain ⟨p, ys, rfl, h⟩ := h
 obtain ⟨u, rfl, rx⟩ := vals1 r
 cases rx
 rcases h with ⟨hq, q⟩ | ⟨hq, q⟩
 . obtain ⟨its, r', pl, hz⟩ := I.list hq
   have hlen := r'.length
   refine call_tuple_list pl.isList (fun h' kp => ?_) (by simp only [anQ] <;> omega)
   have I1 : Inv X pins σ H { s with heap := h' } := I.kept (t' := s.toks) kp
   have I2 : Inv X pins σ (upd H h'.objs.size (.tup ys)) { s with heap := h'.push { cls := .type "tuple", data := .seq its.toArray } } :=
     I1.laid (t' := s.toks) (fun b o e => ant _ e) (anq _) (show jv X.prog X.w _ _ _ (.tup ys) from ⟨hz, its, r', IsTup.new _ _⟩)
   exact ⟨.ref h'.objs.size, _, I2, rfl, q _ (I1.d9.fresh (anq _))⟩
 . obtain ⟨its, r', pl, hz⟩ := I.tuple hq
   exact call_tuple_same pl ⟨.ref p, H, I, rfl, q⟩
noncomputable def tyV (K : PySem.W.Frag) (T : String) (x : V) (H : Hp) : Prop := match x with
 | .str _ => T = "str"
 | .int _ => T = "int"
 | .ref p => (T = "list" /\ ∃ xs, pA K H p xs) \/ (T = "tuple" /\ ∃ o, K.lookup p = some o /\ o.cls = .type "tuple" /\ o.dict = none) ∨
     (T = "dict" /\ ((∃ bq, H p = some (.dK bq)) \/ ∃ bq, H p = some (.dT bq))) \/ (T = "set" /\ ∃ S n, H p = some (.set S n))
 | _ => False
theorem aeh {pins : List (Addr × Obj)} {σ : St} {H : Hp} {s : Shared} {T : String} {x : V} {v : Value} (I : Inv X pins σ H s) (r : RelV x v) (ty : tyV X.K T x H) :
   s.TypeIs v T /\ ∀ a, v = .ref a -> ∃ ob, s.heap.get? a = some ob /\ ob.dict = none := by
 cases x with
 | str z =>
   obtain ⟨t, rfl⟩ := r
   cases (show T = "str" from ty)
   exact ⟨typeIs_str s z t, fun _ e => nomatch e⟩
 | int i =>
   obtain ⟨t, rfl⟩ := r
   cases (show T = "int" from ty)
   exact ⟨typeIs_int s i t, fun _ e => nomatch e⟩
 | ref p =>
   cases r
   rcases ty with ⟨rfl, xs, hq⟩ | ⟨rfl, o, hk, hc, hd⟩ | ⟨rfl, hk⟩ | ⟨rfl, S, n, hk⟩
   . obtain ⟨its, _, pl, _⟩ := I.list hq
     refine ⟨pl.isList.typeIs, fun a e => ?_⟩
     cases e
     obtain ⟨o, n, e, c, hd, _⟩ := pl
     exact ⟨o, e, hd⟩
   . refine ⟨⟨o, I.Kz p o hk, hc⟩, fun a e => ?_⟩
     cases e
     exact ⟨o, I.Kz _ o hk, hd⟩
   . have z : ∃ o, s.heap.get? p = some o /\ o.ExactDict := by
       rcases hk with ⟨bq, hk⟩ | ⟨bq, hk⟩
       . obtain ⟨_, _, _, _, o, _, _, e, ex, _⟩ := I.d9 p _ hk
         exact ⟨o, e, ex⟩
       . obtain ⟨_, _, _, _, o, _, _, e, ex, _⟩ := I.d9 p _ hk
         exact ⟨o, e, ex⟩
     obtain ⟨o, e, ex⟩ := z
     refine ⟨⟨o, e, ex.1⟩, fun a e2 => ?_⟩
     cases e2
     exact ⟨o, e, ex.2.1⟩
   . obtain ⟨o, _, _, _, e, ex, _⟩ := I.d9 p _ hk
     refine ⟨⟨o, e, ex.1⟩, fun a e2 => ?_⟩
     cases e2
     exact ⟨o, e, ex.2.1⟩
 | _ => exact False.elim ty
noncomputable def tBM (K : PySem.W.Frag) (T : String) (r : V -> List V -> Hp -> VK -> Prop) (to : TE) (t : TA) : TE := fun σ H Q => to σ H fun x H1 => tyV K T x H1 /\ t σ H1 fun xs H2 => r x xs H2 Q
variable {o e : Expr} {es : List Expr} {to : TE} {t : TA} {name : Str} {apos xo : Pos} {T id : String} {r : V -> List V -> Hp -> VK -> Prop}
theorem yG (pa : PlainAttrs T) (slot : Slot T name id) (hty : typeOf (.builtin id) = pure (.type "method_descriptor")) (hm : MtR X id r) (ho : PE X o to) (ha : PA X (e :: es) t)
   (gT : attributeBase o name X.env (eval o X.env) = eval o X.env := by rfl)
   (nM : ((backTo xo (starEach (e :: es) X.env)).all (fun x => !x.1) && (backToKw xo (keywordEach [] X.env)).all (fun x => x.1.isSome)
     && decide ((e :: es).length + ([] : List Keyword).length + (if ([] : List Keyword).isEmpty then 0 else 1) < 30)) = true := by rfl)
   (hline : (apos.endLine == xo.line) = true := by rfl) (hs : starEach (e :: es) X.env = (false, eval e X.env) :: starEach es X.env := by rfl) (Ef : (backTo xo (starEach es X.env)).any (·.1) = false := by rfl) :
   PE X (.Call (.Attribute o name apos) (e :: es) [] xo) (tBM X.K T r to t) := by
 intro pins s σ H Q I h
 refine wpAny_Call_method_late gT nM hline rfl (ef (ho pins s σ H _ I h) fun v s1 zz => ?_)
 obtain ⟨x, H1, I1, r1, ty, q1⟩ := zz
 obtain ⟨h1, h2⟩ := aeh I1 r1 ty
 refine ⟨T, id, pa, slot, hty, h1, h2, ?_⟩
 have hA := ha xo pins s1 σ H1 _ I1 q1
 rw [hs] at hA ⊢
 refine Calls.callWith_builtin (by show (false || (backTo xo (starEach es X.env)).any (·.1)) = false; rw [Ef] <;> rfl) (Calls.evalArgs_plain ?_)
 exact ef hA fun us s2 ⟨vs, H2, I2, r2, q2⟩ => hm pins s2 σ H2 x vs v us Q I2 r1 r2 q2
end
noncomputable def MtM (X : Cx) (id : String) (r : V -> List V -> Hp -> VK -> Prop) : Prop :=
 ∀ (pins : List (Addr × Obj)) (s : Shared) (σ : St) (H : Hp) (x : V) (xs : List V) (v : Value) (us : List Value) (Q : VK), Inv X pins σ H s -> RelV x v -> Vals xs us -> r x xs H Q →
   wpAny (model X.prog X.w) X.A (call (.builtin id) (v :: us)) (EP X pins σ Q) X.xe s
theorem Vals.one {x : V} {us : List Value} (h : Vals [x] us) : ∃ u, us = [u] /\ RelV x u := by
 cases h with
 | cons r h => cases h; exact ⟨_, rfl, r⟩
theorem Vals.two {x y : V} {us : List Value} (h : Vals [x, y] us) : ∃ u v, us = [u, v] /\ RelV x u /\ RelV y v := by
 cases h with
 | cons r h => cases h with
   | cons q h => cases h; exact ⟨_, _, rfl, r, q⟩
section
variable {X : Cx} {pins : List (Addr × Obj)} {σ : St} {H : Hp} {s : Shared} {l : Addr} {xs ys : List V}
theorem Inv.agy {its its' : List Value} {n : Nat} {f : Array Value -> Array Value} {t' : Nat} (I : Inv X pins σ H s) (hH : H l = some (.lst xs))
   (e : s.heap.get? l = some { cls := .type "list", data := .seq its.toArray n }) (hf : f its.toArray = its'.toArray) (hv : Vals ys its') (hz : ys.length <= sizeLine) :
   Inv X pins σ (upd H l (.lst ys)) { s with heap := s.heap.update l (Obj.mapSeq f), toks := t' } := by
 have q := PySem.IsL.update e f
 rw [hf] at q
 refine I.write (x := l) (e := l) (by rw [hH]; exact trivial) (.inl rfl) (fun b' u hb hu => (Heap.get?_update_other s.heap (Obj.mapSeq f) (aon hb)).trans hu) ⟨_, q⟩ ?_
 exact ⟨hz, its', _, hv, q⟩
theorem Inv.agz {its : List Value} {t' : Nat} (I : Inv X pins σ H s) (hv : Vals ys its) (hz : ys.length <= sizeLine) :
   Inv X pins σ (upd H s.heap.objs.size (.lst ys)) { s with heap := s.heap.push { cls := .type "list", data := .seq its.toArray }, toks := t' } :=
 I.laid (fun _ _ q => ant _ q) (anq _) ⟨hz, its, 0, hv, anR _ rfl⟩
theorem Inv.fresh (I : Inv X pins σ H s) : H s.heap.objs.size = none := I.d9.fresh (anq _)
theorem Inv.aei (I : Inv X pins σ H s) (hH : H l = some (.lst xs)) : xs.length <= sizeLine /\ ∃ (its : List Value) (n : Nat), Vals xs its /\ xs.length = its.length /\ s.heap.get? l = some { cls := .type "list", data := .seq its.toArray n } := by
 obtain ⟨z, its, n, r, e⟩ := I.d9 l _ hH
 exact ⟨z, its, n, r, r.length, e⟩
theorem W8 {n : Nat} (h : n <= sizeLine) : Builtin.List.listTooLong n = false := by
 unfold Builtin.List.listTooLong
 exact anx (by omega)
end
section
variable {X : Cx}
noncomputable def aaw : V -> List V -> Hp -> VK -> Prop := fun x vs H Q => ∃ l xs y, x = .ref l /\ vs = [y] /\ H l = some (.lst xs) /\ xs.length < sizeLine /\ Q .non (upd H l (.lst (xs ++ [y])))
theorem vU : MtM X "list.append" aaw := by
 intro pins s σ H x vs v us Q I rx rv h
 obtain ⟨l, xs, y, rfl, rfl, hH, hz, q⟩ := h
 cases rx
 obtain ⟨u, rfl, ru⟩ := rv.one
 obtain ⟨z, its, n, r, hl, e⟩ := I.aei hH
 refine call_meets F.slot_list_append ⟨_, e, rfl⟩ F.entry_list_append (F.args_list_append_2 _ _) (PySem.list_append l its.toArray n u (by rw [anQ]; omega)) ⟨e, ?_⟩
 refine ⟨.non, _, I.agy (its' := its ++ [u]) hH e (by simp) (r.append (.cons ru .nil)) ?_, rfl, q⟩
 rw [anv, aot]
 omega
noncomputable def aax : V -> List V -> Hp -> VK -> Prop := fun x vs H Q => ∃ l b xs zs, x = .ref l /\ vs = [.ref b] /\ H l = some (.lst xs) /\ H b = some (.lst zs) /\ xs.length + zs.length <= sizeLine /\ Q .non (upd H l (.lst (xs ++ zs)))
theorem Uj : MtM X "list.extend" aax := by
 intro pins s σ H x vs v us Q I rx rv h
 obtain ⟨l, b, xs, zs, rfl, rfl, hH, hB, hz, q⟩ := h
 cases rx
 obtain ⟨u, rfl, ru⟩ := rv.one
 cases ru
 obtain ⟨z, its, n, r, hl, e⟩ := I.aei hH
 obtain ⟨z2, Eg, n2, r2, hl2, e2⟩ := I.aei hB
 have hsz : its.toArray.size + Eg.toArray.size <= sizeLine := by rw [anQ, anQ]; omega
 have agA : ¬ (!its.toArray.isEmpty && Builtin.List.listTooLong (its.toArray.size + Eg.toArray.size)) = true := by
   rw [W8 hsz, aou]
   exact ans
 refine call_meets F.slot_list_extend ⟨_, e, rfl⟩ F.entry_list_extend (F.args_list_extend_2 _ _)
   (AutoSeq1.list_extend_list_list_0 l its.toArray n b Eg.toArray n2 agA (by rw [anQ]; omega) (by omega)) ⟨e, e2, ?_⟩
 refine ⟨.non, _, I.agy (its' := its ++ Eg) hH e (by simp) (r.append r2) ?_, rfl, q⟩
 rw [anv]
 omega
end
end L2
namespace Att
open PySem PySem.W PySem.Calls PyProof.Rows
theorem Cu {P : Params} {h : Heap} : ∀ (ns : List Int) (vs : List Value), WellAll P h vs (ns.map WData.int) -> IntsAre vs ns := by
 intro ns
 induction ns with
 | nil =>
   intro vs w
   rw [List.map_nil] at w
   cases w
   exact .nil
 | cons n ns ih =>
   intro vs w
   rw [List.map_cons] at w
   cases w with
   | cons a b =>
     cases a
     exact .cons _ _ (ih _ b)
theorem Uk {l : OpenLaw} {n : Nat} (hn : l.most = some n) {P : Params} {h : Heap} {args : List WData} {vals : List Value}
   (aay : l.row.toRowW.claim.pre args = true) (hwl : WellAll P h vals args) :
   ∃ a vs ns, vals = [Value.ref a] /\ args = [WData.list (ns.map WData.int)] /\ h.get? a = some { cls := .type "list", data := .seq vs.toArray } /\ IntsAre vs ns /\ ns.length <= n := by
 have hsh : WShape.hasAll [] args [.list .int] = true := (pre_splitW aay).1
 have hc : l.pre.holds [] { args := args } = true := (pre_splitW aay).2
 obtain ⟨d, r, rfl, h1, h2⟩ := hasAllW_cons hsh
 obtain rfl := hasAllW_nil h2
 obtain ⟨xs, rfl, h3⟩ := hasW_list h1
 obtain ⟨ns, rfl⟩ := items_int h3
 have hlen : ns.length <= n := by
   unfold OpenLaw.pre at hc
   have h4 : (WTm.not (.lt (.lit (.int (n : Int))) (.len (.arg 0)))).holds [] { args := [.list (ns.map .int)] } = true := by
     have h4 := (holds_andW hc).1
     rw [hn] at h4
     exact h4
   have h5 := condW_of h4 (w_not (w_lt w_lit (w_len_list (w_arg rfl))))
   rw [List.length_map] at h5
   refine Nat.le_of_not_lt fun q => ?_
   have q' : (n : Int) < ((ns.length : Nat) : Int) := by omega
   first
     | (rw [decide_eq_true q'] at h5; exact absurd h5 (by decide))
     | (simp at h5; omega)
 cases hwl with
 | cons w1 w2 =>
   cases w2
   cases w1 with
   | list ho Eh => exact ⟨_, _, ns, rfl, rfl, ho, Cu ns _ Eh, hlen⟩
theorem Ul (l : OpenLaw) (args : List WData) : l.row.toRowW.claim.post args (.bool true) args = true :=
 postW_of (r := l.row.toRowW) (X := (true == true))
   (show WShape.has [] (.bool true) .bool = true by first | rfl | decide | simp [WShape.has, WShape.arms, WShape.armsAll])
   (show (WTm.eq .res (.lit (.bool true))).value [] { args := args, res := some (.bool true), after := args } = some (.bool (true == true)) from w_eq_bool (w_res rfl) w_lit) rfl
theorem K1 {l : OpenLaw} {n : Nat} {q : Program} {loose : List Str} {XP : (Str -> Option Value) -> Heap -> Prop} {YP : World -> Heap -> Prop} {d : DefRec}
   (hn : l.most = some n) (hdf : d.params.defaults = [])
   (call : ∀ (w : World) (s₀ s₁ : Shared) (mg mb : Str -> Option Value) (fa : Addr) (o : Obj) (pm cd doc : Value) (a : Addr) (vs : List Value) (ns : List Int),
     Ground q loose [] XP w s₀ mg mb s₁.heap -> YP w s₁.heap →
     s₁.heap.get? fa = some o -> o.data = .func (docDef d.name d.params d.body d.scope pm cd doc) -> s₁.heap.CodeRec cd d.name -> mg d.name = some (.ref fa) →
     s₁.heap.get? a = some { cls := .type "list", data := .seq vs.toArray } -> IntsAre vs ns -> ns.length <= n -> s₁.gens = #[] →
     codeAny (model l.prog w) callerA (.call (.ref fa) ⟨[.ref a], []⟩) (fun r s' => r = .ok (.ret (.bool true)) /\ OldK s₁.heap s'.heap /\ s'.os = s₁.os /\ AllBare s'.gens) s₁) :
   WalkO q loose XP YP l.row.toRowW d [] (fun f vs => PySem.call f vs) := by
 intro w s₀ s₁ mg mb G Y fa o pm cd doc dV kV ho hd uF hD hmg hg args vals as aay hlay hrd hwl hlo
 obtain rfl : dV = .none := Dflts.none hD hdf
 obtain rfl : kV = .none := Dflts.noKw hD
 obtain ⟨a, vs, ns, rfl, rfl, aej, hints, hlen⟩ := Uk hn aay hwl
 refine enter_call (codeAny_mono (call w s₀ s₁ mg mb fa o pm cd doc a vs ns G Y ho (fd_plain hd) uF hmg aej hints hlen hg) fun r s' hq => ?_)
 obtain ⟨rfl, h2, h3, h4⟩ := hq
 exact ⟨.inl ⟨.bool true, .bool true, [], rfl, fun _ => rfl, .bool true, Ul l _, fun _ => ⟨List.Pairwise.nil, fun _ hm => (nomatch hm)⟩⟩, h2, h3, h4⟩
section
noncomputable def ledger (h : Heap) (L d : Addr) : List (Addr × Obj) := (List.range h.objs.size).filterMap fun a => if a = L \/ a = d then none else (h.get? a).map fun o => (a, o)
end
end Att
namespace L2
open PySem PySem.Spec PyProof.Rows
theorem Hg : ∀ {vs : List Value} {ns : List Int}, IntsAre vs ns -> Vals (ns.map V.int) vs
 | _, _, .nil => .nil
 | _, _, .cons n t h => .cons ⟨t, rfl⟩ (Hg h)
noncomputable def Only (H : Hp) : Prop := ∀ b, H b = none \/ ∃ o xs, H b = some (.gS o (.lst xs))
theorem W9 {P : Program} {w : World} {K : PySem.W.Frag} {mg mb : Str -> Option Value} {CX : W0} {k : Nat} {fa a : Addr} {fd : FuncData} {x : Str} {sp : Sp} {s₁ : Shared} {vs : List Value} {ns : List Int}
   (KX : K.In s₁.heap) (hns : s₁.heap.Ns mainGlobals mg) (hb : s₁.heap.Ns builtinsNs mb) (hbb : ∀ x : Str, x ≠ "__name__" -> mb x = bootBuiltins x) (ai2 : s₁.heap.NoLimit) (hg : s₁.gens = #[])
   (ha : s₁.heap.get? a = some { cls := .type "list", data := .seq vs.toArray }) (hi : IntsAre vs ns) (hl : ns.length <= sizeLine) (hr : kO k callerA)
   (F : ∀ base : Heap, K.In base -> base.Ns mainGlobals mg -> lY P w K mg base CX k fa fd [x] sp) (agD : ∀ (s : Shared) (u : Value), BindsTo s fd ⟨[u], []⟩ [(x, u)])
   (hsp : ∀ H : Hp, Only H -> pA K H a (ns.map V.int) -> sp [.ref a] H (fun v _ => v = .bl true) fun _ _ _ => False)
   (hCX : ∀ H e s', CX [] H s₁ (fun _ _ _ => False) e s' -> False) :
   codeAny (model P w) callerA (.call (.ref fa) ⟨[.ref a], []⟩) (fun r s' => r = .ok (.ret (.bool true)) /\ OldK s₁.heap s'.heap /\ s'.os = s₁.os /\ AllBare s'.gens) s₁ := by
 have rv := Hg hi
 have ai4 := hi.length
 have core : ∀ H : Hp, Only H -> pA K H a (ns.map V.int) -> yt P w H s₁.heap -> (∀ b, H b ≠ none -> b = a) -> (H a ≠ none -> K.lookup a = none) →
     codeAny (model P w) callerA (.call (.ref fa) ⟨[.ref a], []⟩) (fun r s' => r = .ok (.ret (.bool true)) /\ OldK s₁.heap s'.heap /\ s'.os = s₁.os /\ AllBare s'.gens) s₁ := by
   intro H hO hS d9 hA hK
   have Se : ∀ {b : Addr} {o : Obj}, s₁.heap.get? b = some o -> H b = none -> (HS s₁.heap H).get? b = some o := fun e n => WD e n
   have noA : ∀ {b : Addr} {o : Obj} {es : Array DictEntry} {ep : Nat}, s₁.heap.get? b = some o -> o.data = .dict es ep -> H b = none := fun {b o es ep} e d => by
     cases q : H b with
     | none => rfl
     | some u =>
       have e' : b = a := hA b (by rw [q]; simp)
       subst e'
       rw [ha] at e; cases e
       have d' : Data.seq vs.toArray _ = Data.dict es ep := d
       cases d'
   have nsK : ∀ {b : Addr} {m : Str -> Option Value}, s₁.heap.Ns b m -> (HS s₁.heap H).Ns b m := fun {b m} ⟨o, es, ep, e, d, r⟩ => ⟨o, es, ep, Se e (noA e d), d, r⟩
   have hKb : K.In (HS s₁.heap H) := fun b o e => Se (KX b o e) (by
     cases q : H b with
     | none => rfl
     | some u =>
       have e' : b = a := hA b (by rw [q]; simp)
       subst e'
       rw [hK (by rw [q]; simp)] at e; cases e)
   have hM : Mod K mg (HS s₁.heap H) := ⟨hKb, nsK hns, ⟨mb, nsK hb, hbb⟩, let ⟨mc, h1, h2⟩ := ai2; ⟨mc, nsK h1, h2⟩⟩
   have e0 : Ox P w K mg (HS s₁.heap H) callerA [] s₁ H := ⟨rfl, hM, fun b o e => Z9 e, Nat.le_of_eq (T3 _ _), trivial, fun b hb => absurd (show b ∈ ([] : List Addr) from hb) (by simp), d9, .of_eq hg⟩
   refine ao1 ((F _ hKb (nsK hns)).run callerA [] s₁ H ⟨[.ref a], []⟩ [.ref a] [.ref a] _ _ hr e0 (agD s₁ (.ref a)) (.cons rfl .nil) (hsp H hO hS)) fun r s' h => ?_
   cases r with
   | error e => exact (hCX H e s' h).elim
   | ok fl =>
     cases fl with
     | next => exact False.elim h
     | brk => exact False.elim h
     | cont => exact False.elim h
     | ret u =>
       obtain ⟨v, H', os, bare, un, ai5, r', q⟩ := h
       have q' : v = .bl true := q
       subst q'
       obtain rfl : u = Value.bool true := r'
       refine ⟨rfl, OldK.of_keep fun b o e => ?_, os, bare⟩
       cases q : H b with
       | none => exact un.keep b o e q (by intro z; exact absurd (show b ∈ ([] : List Addr) from z) (by simp)) (by simp)
       | some u =>
         rcases hO b with z | ⟨ob, xs, z⟩
         . rw [q] at z; cases z
         . have z2 := un.rH b ob _ z
           obtain ⟨e1, _⟩ := d9 b _ z
           obtain ⟨e2, _⟩ := ai5 b _ z2
           rw [e] at e1; cases e1
           exact e2
 cases hk : K.lookup a with
 | some o =>
   have e := KX a o hk
   rw [ha] at e
   cases e
   refine core (fun _ => none) (fun _ => .inl rfl) (.inr ⟨_, vs.toArray, _, hk, rfl, rfl, rfl, by rw [List.size_toArray, ai4]; exact hl, by simpa using rv⟩) (fun b u z => by have z' : (none : Option HO) = some u := z; cases z') (fun b z => absurd rfl z) fun z => absurd rfl z
 | none =>
   refine core (fun b => if b = a then some (.gS { cls := .type "list", data := .seq vs.toArray } (.lst (ns.map V.int))) else none) (fun b => ?_) (.inl (.inr ⟨{ cls := .type "list", data := .seq vs.toArray }, anu rfl⟩)) (fun b u z => ?_) (fun b z => ?_) fun _ => hk
   . by_cases hb : b = a
     . exact .inr ⟨_, _, anu hb⟩
     . exact .inl (anm hb)
   . by_cases hb : b = a
     . have z' := (anu hb).symm.trans z
       cases z'
       subst hb
       exact ⟨ha, by rw [anh]; exact hl, vs, _, rv, ha⟩
     . have z' := (anm hb).symm.trans z
       cases z'
   . by_cases hb : b = a
     . exact hb
     . exact absurd (anm hb) z
theorem aaz {l : PySem.W.OpenLaw} {n k : Nat} {q : Program} {loose : List Str} {XP : (Str -> Option Value) -> Heap -> Prop} {YP : World -> Heap -> Prop} {d : DefRec} {K : Params -> PySem.W.Frag} {CX : World -> W0} {sp : World -> Sp} {x : Str}
   (hn : l.most = some n) (hn2 : n <= sizeLine) (hdf : d.params.defaults = []) (hr : kO k callerA)
   (hY : ∀ (w : World) (h : Heap), YP w h -> (K w.params).In h)
   (F : ∀ (w : World) (mg : Str -> Option Value) (fa : Addr) (h : Heap), (K w.params).In h -> h.Ns mainGlobals mg -> mg d.name = some (.ref fa) →
     ∃ fd : FuncData, (∀ (s : Shared) (u : Value), BindsTo s fd ⟨[u], []⟩ [(x, u)]) ∧
       ∀ base : Heap, (K w.params).In base -> base.Ns mainGlobals mg -> lY l.prog w (K w.params) mg base (CX w) k fa fd [x] (sp w))
   (hsp : ∀ (w : World) (H : Hp) (a : Addr) (ns : List Int), ns.length <= n -> Only H -> pA (K w.params) H a (ns.map V.int) -> sp w [.ref a] H (fun v _ => v = .bl true) fun _ _ _ => False)
   (hCX : ∀ (w : World) (H : Hp) (s : Shared) (e : Value) (s' : Shared), CX w [] H s (fun _ _ _ => False) e s' -> False) :
   PySem.W.WalkO q loose XP YP l.row.toRowW d [] (fun f vs => PySem.call f vs) := by
 refine Att.K1 hn hdf fun w s₀ s₁ mg mb fa o pm cd doc a vs ns G Y ho hd uF hmg aej hints hlen hg => ?_
 have KX := hY w _ Y
 obtain ⟨fd, hb, hF⟩ := F w mg fa _ KX G.T.g hmg
 exact W9 KX G.T.g G.T.b G.T.builtins G.T.nolimit hg aej hints (anW hlen hn2) hr hF hb (fun H hO hS => hsp w H a ns hlen hO hS) fun H e s' => hCX w H s₁ e s'
noncomputable def inClass (s : Stmt) (j : Nat) : Stmt := match s with
 | .ClassDef _ _ _ body _ _ _ _ _ _ _ => body.getD j (.Pass ⟨0, 0, 0, 0⟩)
 | _ => .Pass ⟨0, 0, 0, 0⟩
noncomputable def yH (s : Stmt) : Arguments := match s with
 | .FunctionDef _ a _ _ _ _ _ _ _ _ => a
 | _ => { posonlyargs := [], args := [], vararg := none, kwonlyargs := [], kw_defaults := [], kwarg := none, defaults := [] }
noncomputable def jP (s : Stmt) : List Stmt := match s with
 | .FunctionDef _ _ b _ _ _ _ _ _ _ => b
 | _ => []
noncomputable def aj (s : Stmt) : Scope := match s with
 | .FunctionDef _ _ _ _ _ _ sc _ _ _ => sc
 | _ => { kind := .function, names := [], isGenerator := false, isCoroutine := false }
noncomputable abbrev DJ : W0 := fun _ _ _ _ _ _ => False
noncomputable abbrev E0 : XK := fun _ _ _ => False
theorem Xa {X : Cx} : Passes DJ X E0 := fun _ _ _ _ _ _ _ h => h.elim
structure jQ (K : PySem.W.Frag) (x qual : Str) (st : Stmt) (f : Addr) (fd : FuncData) : Prop where
 ex : ∃ (oc : Value) (od : Option Addr) (kV doc pm : Value) (an : Option Addr) (pX ct : Value) (osl : Array (Option Value)),
   fd = PySem.W.fnOf x qual (yH st) (jP st) (aj st) .none kV doc pm an pX ct /\ K.lookup f = some ⟨oc, od, .func fd, osl⟩ /\ PySem.W.codeIn K pX qual = true
 kp : PySem.W.keepIn K (.ref f) = true
section
variable {P : Program} {w : World} {K : PySem.W.Frag} {mg : Str -> Option Value} {base : Heap}
theorem jQ.ok {x qual : Str} {st : Stmt} {f : Addr} {fd : FuncData} {N ps : List Str} {k : Nat} {sp : Sp} (F : jQ K x qual st f fd) (S : aJ N ps (aj st)) (len : ∀ vs H Q E, sp vs H Q E -> vs.length = ps.length)
   (W4 : ∀ (pX : Value) (A : Around) (outer : List Env) (s : Shared) (H : Hp) (vs : List V) (Q : VK) (E : XK), kO k (A.deeper (envOfC qual (aj st) s.heap.objs.size f pX)) -> sp vs H Q E →
     ∃ t, R1 (GJ DJ P w K mg base N qual (aj st) f pX A outer s H E).nox (jP st) t /\ t { nx := fun _ H' => Q .non H', rt := Q } (start N vs) H) : lY P w K mg base DJ (k + 1) f fd ps sp := by
 obtain ⟨oc, od, kV, doc, pm, an, pX, ct, osl, rfl, lk, uF⟩ := F.ex
 refine agw lk uF S len fun A outer s H vs Q E hr hsp => ?_
 obtain ⟨t, h, q⟩ := W4 pX A outer s H vs Q E hr hsp
 exact ⟨t, h.nox, q⟩
theorem jQ.binds {x qual : Str} {st : Stmt} {f : Addr} {fd : FuncData} {ps : List Str} (F : jQ K x qual st f fd)
   (h : ∀ (kV doc pm : Value) (an : Option Addr) (pX ct : Value) (us : List Value), us.length = ps.length -> bindArgs (PySem.W.fnOf x qual (yH st) (jP st) (aj st) .none kV doc pm an pX ct) ⟨us, []⟩ = pure (ps.zip us)) : Binds K fd ps [] := by
 obtain ⟨oc, od, kV, doc, pm, an, pX, ct, osl, rfl, lk, uF⟩ := F.ex
 exact .all (h kV doc pm an pX ct)
theorem aX {x qual : Str} {st : Stmt} {f : Addr} {oc : Value} {od an : Option Addr} {osl : Array (Option Value)} {kV doc pm pX ct : Value} (l : K.lookup f = some ⟨oc, od, .func (PySem.W.fnOf x qual (yH st) (jP st) (aj st) .none kV doc pm an pX ct), osl⟩)
   (c : PySem.W.codeIn K pX qual = true) (k : PySem.W.keepIn K (.ref f) = true) : jQ K x qual st f (PySem.W.fnOf x qual (yH st) (jP st) (aj st) .none kV doc pm an pX ct) := ⟨⟨oc, od, kV, doc, pm, an, pX, ct, osl, rfl, l, c⟩, k⟩
end
theorem cJ {n : Nat} (h : n <= 1000) : n < sizeLine := aov h (by decide)
theorem OD {A B : Prop} (h : B) : if false = true then A else B := by
 rw [anm ans]
 exact h
theorem OG {A B : Prop} (h : A) : if true = true then A else B := by
 rw [anu rfl]
 exact h
noncomputable def aL (H H' : Hp) : Prop := ∀ b o, H b = some o -> H' b = some o
theorem aL.refl (H : Hp) : aL H H := fun _ _ h => h
theorem aL.trans {H H1 H2 : Hp} (a : aL H H1) (b : aL H1 H2) : aL H H2 := fun c o h => b c o (a c o h)
theorem aL.free {H H' : Hp} (e : aL H H') {l : Addr} (h : H' l = Option.none) : H l = Option.none := by
 cases q : H l with
 | none => rfl
 | some o =>
   rw [e l o q] at h
   cases h
theorem aL.seq {K : PySem.W.Frag} {H H' : Hp} {a : Addr} {xs : List V} (e : aL H H') (h : pA K H a xs) : pA K H' a xs := by
 rcases h with (h | ⟨o, h⟩) | h
 . exact .inl (.inl (e _ _ h))
 . exact .inl (.inr ⟨o, e _ _ h⟩)
 . exact .inr h
section
variable {κ : Type} [DecidableEq κ]
noncomputable def pY (bq : List (κ × V)) (k : κ) : Option V := (bq.find? fun kv => decide (kv.1 = k)).map (·.2)
noncomputable def putK (bq : List (κ × V)) (k : κ) (v : V) : List (κ × V) :=
 if (bq.any fun kv => decide (kv.1 = k)) = true then bq.map (fun kv => if kv.1 = k then (kv.1, v) else kv) else bq ++ [(k, v)]
theorem uJ {p : κ × V} {r : List (κ × V)} {k : κ} (e : p.1 = k) : pY (p :: r) k = some p.2 := by simp [pY, aom, e]
theorem rL {p : κ × V} {r : List (κ × V)} {k : κ} (e : ¬ p.1 = k) : pY (p :: r) k = pY r k := by simp [pY, aom, e]
theorem K2 (k : κ) : ∀ bq : List (κ × V), (bq.any fun kv => decide (kv.1 = k)) = (pY bq k).isSome
 | [] => rfl
 | p :: r => by
   rw [aoj]
   by_cases e : p.1 = k
   . simp only [uJ e, anz e, Bool.true_or, Option.isSome_some]
   . rw [rL e, anx e, Bool.false_or]; exact K2 k r
theorem uK (bq : List (κ × V)) (k : κ) (v : V) : (putK bq k v).length <= bq.length + 1 := by
 unfold putK
 split
 . rw [anh]; omega
 . rw [anv, anG, List.length_nil]; omega
theorem AG.rM {o : Option V} {u : Option Value} (r : AG o u) : o.isSome = u.isSome := by
 cases o with
 | none => cases u with
   | none => rfl
   | some _ => exact (show False from r).elim
 | some _ => cases u with
   | none => exact (show False from r).elim
   | some _ => rfl
theorem KV.val {bq : List (κ × V)} {vs : List (κ × Value)} (r : KV bq vs) (k : κ) : AG (pY bq k) (valueAt vs k) := by
 unfold KV at r
 induction r with
 | nil => exact True.intro
 | @cons p q ps qs h t ih =>
   obtain ⟨h1, h2⟩ := h
   by_cases e : p.1 = k
   . have e' : q.1 = k := h1.symm.trans e
     have b : valueAt (q :: qs) k = some q.2 := by simp [valueAt, aom, e']
     rw [uJ e, b]; exact h2
   . have e' : ¬ q.1 = k := fun z => e (h1.trans z)
     have b : valueAt (q :: qs) k = valueAt qs k := by simp [valueAt, aom, e']
     rw [rL e, b]; exact ih
theorem KV.any {bq : List (κ × V)} {vs : List (κ × Value)} (r : KV bq vs) (k : κ) : (bq.any fun kv => decide (kv.1 = k)) = vs.any fun kv => decide (kv.1 = k) := by
 unfold KV at r
 induction r with
 | nil => rfl
 | cons h t ih => rw [aoj, aoj, ih, h.1]
theorem KV.repl {bq : List (κ × V)} {vs : List (κ × Value)} (r : KV bq vs) (k : κ) {y : V} {u : Value} (ry : RelV y u) :
   KV (bq.map fun kv => if kv.1 = k then (kv.1, y) else kv) (vs.map fun kv => if kv.1 = k then (kv.1, u) else kv) := by
 unfold KV at r ⊢
 induction r with
 | nil => exact .nil
 | @cons p q ps qs h t ih =>
   rw [anD, anD]
   refine .cons ?_ ih
   obtain ⟨h1, h2⟩ := h
   by_cases e : p.1 = k
   . rw [anu e, anu (h1.symm.trans e)]; exact ⟨h1, ry⟩
   . rw [anm e, anm (fun z => e (h1.trans z))]; exact ⟨h1, h2⟩
theorem KV.put {bq : List (κ × V)} {vs : List (κ × Value)} (r : KV bq vs) (k : κ) {y : V} {u : Value} (ry : RelV y u) : KV (putK bq k y) (stored vs k u) := by
 unfold putK stored
 rw [r.any k]
 by_cases e : (vs.any fun kv => decide (kv.1 = k)) = true
 . rw [anu e, anu e]; exact r.repl k ry
 . rw [anm e, anm e]; exact Paired.snoc r ⟨rfl, ry⟩
theorem KV.length {bq : List (κ × V)} {vs : List (κ × Value)} (r : KV bq vs) : bq.length = vs.length := Paired.length r
end
theorem Hh {P : Program} {w : World} {k : Key} {u : Value} (r : RelV (kV k) u) : (gC P w).is k u = true := by
 cases k with
 | inl i => obtain ⟨t, e⟩ := (show ∃ t, u = Value.int i t from r); subst e; exact KH P w i t
 | inr x => obtain ⟨t, e⟩ := (show ∃ t, u = Value.str x t from r); subst e; exact KJ P w x t
theorem Hi {P : Program} {w : World} : ∀ {ks : List Key} {us : List Value}, Vals (ks.map kV) us -> ItemsAre (gC P w) ks us
 | [], _, r => by rw [List.map_nil] at r; cases r; exact .nil
 | k :: ks, _, r => by
   rw [anD] at r
   cases r with
   | cons h t => exact .cons (Hh h) (Hi t)
noncomputable abbrev KT (H : Hp) : List (List Key × V) -> List (List Key × Addr × Value) -> Prop := Paired fun p q => p.1 = q.1 /\ H q.2.1 = some (.tup (p.1.map kV)) /\ RelV p.2 q.2.2
theorem KT.val {H : Hp} {bq : List (List Key × V)} {xs : List (List Key × Addr × Value)} (r : KT H bq xs) (k : List Key) : AG (pY bq k) ((atKey xs k).map (·.2)) := by
 induction r with
 | nil => exact True.intro
 | @cons p q ps qs h t ih =>
   obtain ⟨h1, _, h2⟩ := h
   by_cases e : p.1 = k
   . have e' : q.1 = k := h1.symm.trans e
     have b : atKey (q :: qs) k = some q.2 := by simp [atKey, aom, e']
     rw [uJ e, b]; exact h2
   . have e' : ¬ q.1 = k := fun z => e (h1.trans z)
     have b : atKey (q :: qs) k = atKey qs k := by simp [atKey, aom, e']
     rw [rL e, b]; exact ih
theorem KT.repl {H : Hp} {bq : List (List Key × V)} {xs : List (List Key × Addr × Value)} (r : KT H bq xs) (k : List Key) {y : V} {u : Value} (ry : RelV y u) :
   KT H (bq.map fun kv => if kv.1 = k then (kv.1, y) else kv) (xs.map (putAt k u)) := by
 induction r with
 | nil => exact .nil
 | @cons p q ps qs h t ih =>
   rw [anD, anD]
   refine .cons ?_ ih
   obtain ⟨h1, h2, h3⟩ := h
   unfold putAt
   by_cases e : p.1 = k
   . rw [anu e, anu (h1.symm.trans e)]; exact ⟨h1, h2, ry⟩
   . rw [anm e, anm (fun z => e (h1.trans z))]; exact ⟨h1, h2, h3⟩
theorem KT.put {H : Hp} {bq : List (List Key × V)} {xs : List (List Key × Addr × Value)} (r : KT H bq xs) (k : List Key) {b : Addr} {y : V} {u : Value} (hb : H b = some (.tup (k.map kV))) (ry : RelV y u) :
   KT H (putK bq k y) (storedH xs k b u) := by
 have e : (bq.any fun kv => decide (kv.1 = k)) = (atKey xs k).isSome := by
   rw [K2, (r.val k).rM, apd]
 unfold putK storedH
 rw [e]
 by_cases q : (atKey xs k).isSome = true
 . rw [anu q, anu q]; exact r.repl k ry
 . rw [anm q, anm q]; exact Paired.snoc r ⟨rfl, hb, ry⟩
theorem KT.keeps {H H' : Hp} {bq : List (List Key × V)} {xs : List (List Key × Addr × Value)} (r : KT H bq xs) (ht : ∀ b ys, H b = some (.tup ys) -> H' b = some (.tup ys)) : KT H' bq xs :=
 Paired.adz r fun _ _ z => ⟨z.1, ht _ _ z.2.1, z.2.2⟩
section
variable {P : Program} {w : World} {H : Hp} {h : Heap} {a : Addr}
theorem acQ {u : HO} (ok : yt P w H h) (e : Rd H a u) : jv P w H h a u := e.ok ok
theorem K3 {bq : List (Key × V)} (ok : yt P w H h) (e : Rd H a (.dK bq)) : bq.length <= sizeLine /\ (a == sysModules) = false /\ ∃ vs, KV bq vs /\ h.DictOf (gC P w) a vs :=
 show jv P w H h a (.dK bq) from acQ ok e
theorem Xb {bq : List (Key × V)} (ok : yt P w H h) (e : H a = some (.dK bq)) : bq.length <= sizeLine /\ (a == sysModules) = false /\ ∃ vs, KV bq vs /\ h.DictOf (gC P w) a vs := K3 ok (.inl e)
theorem Ei {ks : List Key} (ok : yt P w H h) (e : H a = some (.tup (ks.map kV))) : (tupleKind (gC P w)).is h ks a := by
 obtain ⟨_, its, r, o, h1, h2, n, h3⟩ := (show jv P w H h a (.tup (ks.map kV)) from ok a _ e)
 exact ⟨o, its.toArray, n, h1, h2, h3, by simpa using Hi r⟩
theorem K4 {bq : List (List Key × V)} (ok : yt P w H h) (e : Rd H a (.dT bq)) : bq.length <= sizeLine /\ (a == sysModules) = false ∧
   ∃ xs, KT H bq xs /\ h.DictOfH (tupleKind (gC P w)) a xs := by
 obtain ⟨z, y, xs, r, o, es, ep, h1, h2, h3, h4, h5⟩ := (show jv P w H h a (.dT bq) from acQ ok e)
 refine ⟨z, y, xs, r, o, es, ep, h1, h2, h3, h4, fun x hx => ?_, h5⟩
 have all : ∀ {l : List (List Key × V)} {m : List (List Key × Addr × Value)}, KT H l m -> ∀ x ∈ m, (tupleKind (gC P w)).is h x.1 x.2.1 := by
   intro l m q
   induction q with
   | nil => intro x hx; exact nomatch hx
   | @cons p q ps qs hq t ih =>
     intro x hx
     rcases ane.mp hx with e | hx
     . subst e
       exact Ei ok (by rw [← hq.1]; exact hq.2.1)
     . exact ih x hx
 exact all r x hx
theorem agE {bq : List (List Key × V)} (ok : yt P w H h) (e : H a = some (.dT bq)) : bq.length <= sizeLine /\ (a == sysModules) = false ∧
   ∃ xs, KT H bq xs /\ h.DictOfH (tupleKind (gC P w)) a xs := K4 ok (.inl e)
end
noncomputable def Cv (H : Hp) (a : Addr) (y : V) (r : Option V) : Prop :=
 (∃ bq k, Rd H a (.dK bq) /\ y = kV k /\ r = pY bq k) \/ ∃ bq k b, Rd H a (.dT bq) /\ y = .ref b /\ H b = some (.tup (k.map kV)) /\ r = pY bq k
noncomputable def Xc (H : Hp) (a : Addr) (y v : V) (H' : Hp) : Prop :=
 (∃ bq k, H a = some (.dK bq) /\ y = kV k /\ bq.length < sizeLine /\ H' = upd H a (.dK (putK bq k v))) ∨
 ∃ bq k b, H a = some (.dT bq) /\ y = .ref b /\ H b = some (.tup (k.map kV)) /\ bq.length < sizeLine /\ H' = upd H a (.dT (putK bq k v))
theorem Cv.k {H : Hp} {a : Addr} {bq : List (Key × V)} {k : Key} (e : H a = some (.dK bq)) : Cv H a (kV k) (pY bq k) := .inl ⟨bq, k, .inl e, rfl, rfl⟩
theorem Xc.k {H : Hp} {a : Addr} {bq : List (Key × V)} {k : Key} {v : V} (e : H a = some (.dK bq)) (hl : bq.length < sizeLine) : Xc H a (kV k) v (upd H a (.dK (putK bq k v))) := .inl ⟨bq, k, e, rfl, hl, rfl⟩
section
variable {X : Cx} {pins : List (Addr × Obj)} {σ : St} {H : Hp} {s : Shared} {a : Addr} {y v : V} {u r : Value} {o : Option V} {A : Around} {E : Value -> Shared -> Prop}
theorem Inv.big (I : Inv X pins σ H s) : sysModules < s.heap.objs.size := by
 have h : mainGlobals < s.heap.objs.size := (I.mod.glob.keeps I.bk).lt
 exact Nat.lt_trans (by decide) h
theorem Um {Q : Value -> Shared -> Prop} (hu : A.units + 1 < cLine) (I : Inv X pins σ H s) (g : Cv H a y (some v)) (ry : RelV y u) (h : ∀ w' s', Inv X pins σ H s' -> RelV v w' -> Q w' s') :
   wpAny (model X.prog X.w) A (getItem (.ref a) u) Q E s := by
 rcases g with ⟨bq, k, e, ey, l⟩ | ⟨bq, k, b, e, ey, eb, l⟩
 . subst ey
   obtain ⟨z, hd, vs, rel, dd⟩ := K3 I.d9 e
   obtain ⟨w', hw, Ui⟩ := AG.some_of (v := v) (o := valueAt vs k) (by rw [l]; exact rel.val k)
   exact wpAny_getItem_of (Hh ry) dd.mapOf hw (h w' _ (I.tok _) Ui)
 . subst ey
   cases (show u = Value.ref b from ry)
   obtain ⟨z, hd, xs, rel, dd⟩ := K4 I.d9 e
   obtain ⟨w', hw, Ui⟩ := AG.some_of (v := v) (o := (atKey xs k).map (·.2)) (by rw [l]; exact rel.val k)
   obtain ⟨p, hp, hp2⟩ := aoA.mp hw
   refine wpAny_getItem_heap (ao3 hu) (Ei I.d9 eb) dd hp ?_
   rw [hp2]
   exact h w' _ (I.tok _) Ui
theorem ai6 {Q : Value -> Shared -> Prop} (hu : A.units + 1 < cLine) (I : Inv X pins σ H s) (g : Cv H a y o) (ry : RelV y u) (h : ∀ s', Inv X pins σ H s' -> Q (.bool o.isSome) s') :
   wpAny (model X.prog X.w) A (compareOp .In u (.ref a)) Q E s := by
 rcases g with ⟨bq, k, e, ey, l⟩ | ⟨bq, k, b, e, ey, eb, l⟩
 . subst ey
   obtain ⟨z, hd, vs, rel, dd⟩ := K3 I.d9 e
   refine wpAny_in_of (Hh ry) hd dd.mapOf ?_
   rw [← (rel.val k).rM, ← l]
   exact h _ (I.tok _)
 . subst ey
   cases (show u = Value.ref b from ry)
   obtain ⟨z, hd, xs, rel, dd⟩ := K4 I.d9 e
   refine wpAny_in_heap (ao3 hu) (Ei I.d9 eb) hd dd ?_
   have q := (rel.val k).rM
   rw [apd] at q
   rw [← q, ← l]
   exact h _ (I.tok _)
theorem aaA {Q : Value -> Shared -> Prop} (hu : A.units + 1 < cLine) (I : Inv X pins σ H s) (g : Cv H a y o) (ry : RelV y u) (h : ∀ s', Inv X pins σ H s' -> Q (.bool (!o.isSome)) s') :
   wpAny (model X.prog X.w) A (compareOp .NotIn u (.ref a)) Q E s := by
 rcases g with ⟨bq, k, e, ey, l⟩ | ⟨bq, k, b, e, ey, eb, l⟩
 . subst ey
   obtain ⟨z, hd, vs, rel, dd⟩ := K3 I.d9 e
   refine wpAny_notIn_of (Hh ry) hd dd.mapOf ?_
   rw [← (rel.val k).rM, ← l]
   exact h _ (I.tok _)
 . subst ey
   cases (show u = Value.ref b from ry)
   obtain ⟨z, hd, xs, rel, dd⟩ := K4 I.d9 e
   refine wpAny_notIn_heap (ao3 hu) (Ei I.d9 eb) hd dd ?_
   have q := (rel.val k).rM
   rw [apd] at q
   rw [← q, ← l]
   exact h _ (I.tok _)
theorem Ii {h' : Heap} {t' : Nat} {ob : HO} (I : Inv X pins σ H s) (mu : Mut (H a)) (hs : Heap.SameBut a s.heap h') (he : ∃ q, h'.get? a = some q) (new : jv X.prog X.w (upd H a ob) h' a ob) :
   Inv X pins σ (upd H a ob) { s with heap := h', toks := t' } :=
 I.write (x := a) (e := a) mu (.inl rfl) (fun b q hb z => (hs.2 b hb).trans z) he new
theorem Xd {P : Program} {w : World} {H' : Hp} {h' : Heap} {bq : List (Key × V)} {vs : List (Key × Value)} (z : bq.length <= sizeLine) (hd : (a == sysModules) = false) (rel : KV bq vs) (dd : h'.DictOf (gC P w) a vs) :
   jv P w H' h' a (.dK bq) := ⟨z, hd, vs, rel, dd⟩
theorem Uo {H' : Hp} {Q : Unit -> Shared -> Prop} (hu : A.units + 1 < cLine) (I : Inv X pins σ H s) (g : Xc H a y v H') (ry : RelV y u) (rv : RelV v r) (h : ∀ s', Inv X pins σ H' s' -> Q () s') :
   wpAny (model X.prog X.w) A (setItem (.ref a) u r) Q E s := by
 rcases g with ⟨bq, k, e, ey, l, eH⟩ | ⟨bq, k, b, e, ey, eb, l, eH⟩
 . subst ey eH
   obtain ⟨z, hd, vs, rel, dd⟩ := Xb I.d9 e
   have hz : vs.length <= sizeLine := by rw [← rel.length]; exact z
   have hl : (putK bq k v).length <= sizeLine := by have := uK bq k v; omega
   refine wpAny_setItem_pairs (hsz := hz) (Hh ry) dd fun h' dd' hs => h _ ?_
   have he : ∃ q, h'.get? a = some q := let ⟨q, _, _, hq, _⟩ := dd'; ⟨q, hq⟩
   exact Ii I (by rw [e]; exact True.intro) hs he (Xd hl hd (rel.put k rv) dd')
 . subst ey eH
   cases (show u = Value.ref b from ry)
   obtain ⟨z, hd, xs, rel, dd⟩ := agE I.d9 e
   have hz : xs.length <= sizeLine := by rw [← Paired.length rel]; exact z
   have hl : (putK bq k v).length <= sizeLine := by have := uK bq k v; omega
   refine wpAny_setItem_heap (hsz := hz) (ao3 hu) (Ei I.d9 eb) dd fun h' dd' hs => h _ ?_
   obtain ⟨q, es, ep, hq, h2, h3, h4, _, h5⟩ := dd'
   refine Ii I (by rw [e]; exact True.intro) hs ⟨q, hq⟩ ⟨hl, hd, _, (rel.put k eb rv).keeps fun c ys ec => ?_, q, es, ep, hq, h2, h3, h4, h5⟩
   rw [aD (afZ ec e (fun z => nomatch z))]
   exact ec
end
noncomputable def Xe (i : Expr) : Prop := ∀ ov iv, subscripted i false ov iv = operate [ov, iv] (getItem ov iv)
theorem Sf {prog : Program} {w : World} {A : Around} {E : Value -> Shared -> Prop} {s : Shared} {env : Env} {value slice : Expr} {pos : Pos} {T id : String} {Q : Value -> Shared -> Prop}
   (hl : typeLookup (.type T) "__getitem__" = pure (some (.builtin id))) (hs : Xe slice)
   (h : wpAny (model prog w) A (eval value env) (fun o s₁ => wpAny (model prog w) A (eval slice env) (fun i s₂ => s₂.TypeIs o T /\ wpAny (model prog w) A (getItem o i) Q E s₂) E s₁) E s) :
   wpAny (model prog w) A (eval (.Subscript value slice pos) env) Q E s := by
 refine Subscript_ (aor h (fun o s₁ h₁ => aor h₁ (fun i s₂ h₂ => ?_) fun _ _ x => x) fun _ _ x => x)
 obtain ⟨hT, h₂⟩ := h₂
 unfold subscriptTail
 refine anP ?_
 rw [getitemInPython_of_ne hT.not_modules]
 refine anP (wpAny_specialOf hT hl ?_)
 have fin : wpAny (model prog w) A (subscripted slice false o i) (fun r s₃ => wpAny (model prog w) A (letTemporaryGo value o r >>= fun _ => pure r) Q E s₃) E s₂ := by
   rw [hs o i]
   exact wpAny_operating (aor h₂ (fun r s₃ h₃ => anP (wpAny_letTemporaryGo (an0 h₃))) fun _ _ x => x)
 first
   | exact an0 (anP fin)
   | exact anP (an0 (anP fin))
   | exact anP fin
theorem K5 {X : Cx} {pins : List (Addr × Obj)} {σ : St} {H : Hp} {s : Shared} {a : Addr} {y : V} {o : Option V} (I : Inv X pins σ H s) (g : Cv H a y o) : s.TypeIs (.ref a) "dict" := by
 rcases g with ⟨bq, k, e, _, _⟩ | ⟨bq, k, b, e, _, _, _⟩
 . obtain ⟨_, _, vs, _, dd⟩ := K3 I.d9 e
   exact dd.typeIs
 . obtain ⟨_, _, xs, _, dd⟩ := K4 I.d9 e
   exact dd.typeIs
noncomputable def agF (td ty : TE) : TE := fun σ H Q => td σ H fun x H1 => ty σ H1 fun y H2 => ∃ a v, x = .ref a /\ Cv H2 a y (some v) /\ Q v H2
noncomputable def ai7 (ty td : TE) : TE := fun σ H Q => ty σ H fun y H1 => td σ H1 fun x H2 => ∃ a o, x = .ref a /\ Cv H2 a y o /\ Q (.bl o.isSome) H2
noncomputable def aaC (ty td : TE) : TE := fun σ H Q => ty σ H fun y H1 => td σ H1 fun x H2 => ∃ a o, x = .ref a /\ Cv H2 a y o /\ Q (.bl (!o.isSome)) H2
noncomputable def agG (td ty tv : TE) : TS := fun D σ H => tv σ H fun v H1 => td σ H1 fun x H2 => ty σ H2 fun y H3 => ∃ a H4, x = .ref a /\ Xc H3 a y v H4 /\ D.nx σ H4
section
variable {X : Cx} {o i value : Expr} {pos pos' : Pos} {td ty tv : TE}
theorem aaD (hu : X.A.units + 1 < cLine) (ho : PE X o td) (hi : PE X i ty) (hs : Xe i) : PE X (.Subscript o i pos) (agF td ty) := by
 intro pins s σ H Q I h
 refine Sf PySem.F.slot_dict_getitem.lookup hs (ef (ho pins s σ H _ I h) fun u s1 ⟨x, H1, I1, rx, q1⟩ => ef (hi pins s1 σ H1 _ I1 q1) fun iv s2 zz => ?_)
 obtain ⟨y, H2, I2, ry, a, v, ex, g, q2⟩ := zz
 subst ex
 obtain rfl : u = Value.ref a := rx
 exact ⟨K5 I2 g, Um hu I2 g ry fun w' s3 I3 Ui => ⟨v, H2, I3, Ui, q2⟩⟩
theorem aek (hu : X.A.units + 1 < cLine) (hi : PE X i ty) (ho : PE X o td) : PC X .In i o (ai7 ty td) := by
 intro pins s σ H Q I h
 refine ef (hi pins s σ H _ I h) fun iv s1 ⟨y, H1, I1, ry, q1⟩ => ef (ho pins s1 σ H1 _ I1 q1) fun u s2 zz => ?_
 obtain ⟨x, H2, I2, rx, a, ov, ex, g, q2⟩ := zz
 subst ex
 obtain rfl : u = Value.ref a := rx
 exact ai6 hu I2 g ry fun s3 I3 => ⟨.bl ov.isSome, H2, I3, rfl, q2⟩
theorem Up (hu : X.A.units + 1 < cLine) (hi : PE X i ty) (ho : PE X o td) : PC X .NotIn i o (aaC ty td) := by
 intro pins s σ H Q I h
 refine ef (hi pins s σ H _ I h) fun iv s1 ⟨y, H1, I1, ry, q1⟩ => ef (ho pins s1 σ H1 _ I1 q1) fun u s2 zz => ?_
 obtain ⟨x, H2, I2, rx, a, ov, ex, g, q2⟩ := zz
 subst ex
 obtain rfl : u = Value.ref a := rx
 exact aaA hu I2 g ry fun s3 I3 => ⟨.bl (!ov.isSome), H2, I3, rfl, q2⟩
theorem aaE (hu : X.A.units + 1 < cLine) (ho : PE X o td) (hi : PE X i ty) (hv : PE X value tv) (hs : swapsWith value (some (.Subscript o i pos')) pos.line X.env = pure false) :
   PS X (.Assign [.Subscript o i pos'] value pos) (agG td ty tv) := by
 intro pins s σ H D I h
 refine wpAny_Assign_Subscript (ef (hv pins s σ H _ I h) fun r s1 ⟨v, H1, I1, rv, q1⟩ => ef (ho pins s1 σ H1 _ I1 q1) fun u s2 ⟨x, H2, I2, rx, q2⟩ => ef (hi pins s2 σ H2 _ I2 q2) fun iv s3 zz => ?_) hs
 obtain ⟨y, H3, I3, ry, a, H4, ex, g, q3⟩ := zz
 subst ex
 obtain rfl : u = Value.ref a := rx
 exact Uo hu I3 g ry rv fun s4 I4 => ⟨σ, H4, I4, q3⟩
end
theorem Xf {P : Program} {w : World} {H : Hp} (h : Heap) (hb : sysModules < h.objs.size) : jv P w H (h.push { cls := .type "dict", data := .dict #[] }) h.objs.size (.dK []) :=
 ⟨anE _, aoL.mpr (aon (anT hb)), [], .nil, Heap.DictOf.new h⟩
noncomputable def ael : TE := fun _ H Q => ∀ p, H p = none -> Q (.ref p) (upd H p (.dK []))
section
variable {X : Cx} {pos : Pos}
theorem Xg : PE X (.Dict [] [] pos) ael := fun pins s σ H Q I h =>
 wpAny_Dict_empty ⟨.ref s.heap.objs.size, _, I.laid (a := s.heap.objs.size) (o := .dK []) (t' := s.toks) (fun _ _ q => ant _ q) (anq _) (Xf s.heap I.big), rfl, h _ (I.d9.fresh (anq _))⟩
end
end L2
namespace L3
open PySem PySem.Spec PyProof.Rows L2
inductive D where
 | non | bl (b : Bool) | int (i : Int) | str (x : Str)
 | tup (ds : List D) | lst (ds : List D) | ins (c : Str) (fs : List (Str × D)) | lZ (bq : List (Key × D))
 | dct (bq : List (List Key × D))
 | any
 | val (v : V)
 | Ej (w : World) (ds es : List D)
inductive T where
 | sh (d : D) | tup (ts : List T) | lst (ts : List T) | ins (c : Str) (fs : List (Str × T)) | lZ (bq : List (Key × D)) | dct (bq : List (List Key × T))
 | pin (x : Addr) (t : T)
 | Ej (w : World) (ds es : List D)
mutual
noncomputable def T.gS : T -> D
 | .sh d => d
 | .tup ts => .tup (rH ts)
 | .lst ts => .lst (rH ts)
 | .ins c fs => .ins c (wO fs)
 | .lZ bq => .lZ bq
 | .dct bq => .dct (Xh bq)
 | .pin _ t => t.gS
 | .Ej w ds es => .Ej w ds es
noncomputable def T.rH : List T -> List D
 | [] => []
 | t :: ts => t.gS :: T.rH ts
noncomputable def T.wO : List (Str × T) -> List (Str × D)
 | [] => []
 | (x, t) :: fs => (x, t.gS) :: T.wO fs
noncomputable def T.Xh : List (List Key × T) -> List (List Key × D)
 | [] => []
 | (x, t) :: fs => (x, t.gS) :: T.Xh fs
end
mutual
noncomputable def D.hsh (w : World) : D -> Int
 | .int i => hashInt i
 | .str x => hashStr w x
 | .tup ds => reduceHash (Builtin.Tuple.tupleHashOf (D.agH w ds))
 | _ => 0
noncomputable def D.agH (w : World) : List D -> List Int
 | [] => []
 | d :: ds => d.hsh w :: D.agH w ds
end
noncomputable def IxP (w : World) (a : Addr) (ds : List D) (vs us : List V) (h : Heap) : Prop :=
 (a == sysModules) = false /\ ∃ (xs : List (D × Addr × Value)) (o : Obj) (es : Array DictEntry) (ep : Nat), h.get? a = some o /\ o.ExactDict /\ o.data = .dict es ep /\ es.toList = xs.map (fun x => ⟨x.1.hsh w, .ref x.2.1, x.2.2⟩) /\ xs.map (·.1) = ds /\ xs.map (fun x => V.ref x.2.1) = vs /\ Vals us (xs.map fun x => x.2.2)
variable (K : PySem.W.Frag) (CL : Str -> Addr)
mutual
inductive bV (Z : Hp) : D -> V -> Prop where
 | non : bV Z .non .non
 | bl (b : Bool) : bV Z (.bl b) (.bl b)
 | int (i : Int) : bV Z (.int i) (.int i)
 | str (x : Str) : bV Z (.str x) (.str x)
 | any (v : V) : bV Z .any v
 | val (v : V) : bV Z (.val v) v
 | tup {a : Addr} {vs : List V} {ds : List D} : AH K Z a vs -> aI Z ds vs -> bV Z (.tup ds) (.ref a)
 | lst {a : Addr} {vs : List V} {ds : List D} : pA K Z a vs -> aI Z ds vs -> bV Z (.lst ds) (.ref a)
 | ins {a dx : Addr} {c : Str} {gs : List (Str × V)} {fs : List (Str × D)} : Z a = some (.ins (CL c) dx gs) -> uL Z fs gs -> bV Z (.ins c fs) (.ref a)
 | lZ {a : Addr} {gs : List (Key × V)} {fs : List (Key × D)} : Z a = some (.dK gs) -> bT Z fs gs -> bV Z (.lZ fs) (.ref a)
 | dct {a : Addr} {gs : List (List Key × V)} {fs : List (List Key × D)} : Rd Z a (.dT gs) -> BV Z fs gs -> bV Z (.dct fs) (.ref a)
 | Ej {a : Addr} {w : World} {vs us : List V} {ds es : List D} : Z a = some (.ext (IxP w a ds vs us)) -> aI Z ds vs -> aI Z es us -> bV Z (.Ej w ds es) (.ref a)
inductive aI (Z : Hp) : List D -> List V -> Prop where
 | nil : aI Z [] []
 | cons {d : D} {v : V} {ds : List D} {vs : List V} : bV Z d v -> aI Z ds vs -> aI Z (d :: ds) (v :: vs)
inductive uL (Z : Hp) : List (Str × D) -> List (Str × V) -> Prop where
 | nil : uL Z [] []
 | cons {x : Str} {d : D} {v : V} {ds : List (Str × D)} {vs : List (Str × V)} : bV Z d v -> uL Z ds vs -> uL Z ((x, d) :: ds) ((x, v) :: vs)
inductive bT (Z : Hp) : List (Key × D) -> List (Key × V) -> Prop where
 | nil : bT Z [] []
 | cons {x : Key} {d : D} {v : V} {ds : List (Key × D)} {vs : List (Key × V)} : bV Z d v -> bT Z ds vs -> bT Z ((x, d) :: ds) ((x, v) :: vs)
inductive BV (Z : Hp) : List (List Key × D) -> List (List Key × V) -> Prop where
 | nil : BV Z [] []
 | cons {x : List Key} {d : D} {v : V} {ds : List (List Key × D)} {vs : List (List Key × V)} : bV Z d v -> BV Z ds vs -> BV Z ((x, d) :: ds) ((x, v) :: vs)
end
mutual
inductive bN (H Z : Hp) : T -> V -> List Addr -> Prop where
 | sh {d : D} {v : V} : bV K CL Z d v -> bN H Z (.sh d) v []
 | tup {a : Addr} {vs : List V} {ts : List T} {fp : List Addr} : Z a = some (.tup vs) -> bA H Z ts vs fp -> bN H Z (.tup ts) (.ref a) fp
 | lst {a : Addr} {vs : List V} {ts : List T} {fp : List Addr} : H a = some (.lst vs) -> bA H Z ts vs fp -> bN H Z (.lst ts) (.ref a) (a :: fp)
 | ins {a dx : Addr} {c : Str} {gs : List (Str × V)} {fs : List (Str × T)} {fp : List Addr} : H a = some (.ins (CL c) dx gs) -> cY H Z fs gs fp -> bN H Z (.ins c fs) (.ref a) (a :: fp)
 | lZ {a : Addr} {gs : List (Key × V)} {bq : List (Key × D)} : H a = some (.dK gs) -> bT K CL Z bq gs -> bN H Z (.lZ bq) (.ref a) [a]
 | dct {a : Addr} {gs : List (List Key × V)} {bq : List (List Key × T)} {fp : List Addr} : H a = some (.dT gs) -> iQ H Z bq gs fp -> bN H Z (.dct bq) (.ref a) (a :: fp)
 | pin {x : Addr} {t : T} {fp : List Addr} : bN H Z t (.ref x) fp -> bN H Z (.pin x t) (.ref x) fp
 | Ej {a : Addr} {w : World} {vs us : List V} {ds es : List D} : H a = some (.ext (IxP w a ds vs us)) -> aI K CL Z ds vs -> aI K CL Z es us -> bN H Z (.Ej w ds es) (.ref a) [a]
inductive bA (H Z : Hp) : List T -> List V -> List Addr -> Prop where
 | nil : bA H Z [] [] []
 | cons {t : T} {v : V} {ts : List T} {vs : List V} {fp gp : List Addr} : bN H Z t v fp -> bA H Z ts vs gp -> bA H Z (t :: ts) (v :: vs) (fp ++ gp)
inductive cY (H Z : Hp) : List (Str × T) -> List (Str × V) -> List Addr -> Prop where
 | nil : cY H Z [] [] []
 | cons {x : Str} {t : T} {v : V} {ts : List (Str × T)} {vs : List (Str × V)} {fp gp : List Addr} : bN H Z t v fp -> cY H Z ts vs gp -> cY H Z ((x, t) :: ts) ((x, v) :: vs) (fp ++ gp)
inductive iQ (H Z : Hp) : List (List Key × T) -> List (List Key × V) -> List Addr -> Prop where
 | nil : iQ H Z [] [] []
 | cons {x : List Key} {t : T} {v : V} {ts : List (List Key × T)} {vs : List (List Key × V)} {fp gp : List Addr} : bN H Z t v fp -> iQ H Z ts vs gp -> iQ H Z ((x, t) :: ts) ((x, v) :: vs) (fp ++ gp)
end
inductive jx (H Z : Hp) : List (Option T) -> L2.St -> List Addr -> Prop where
 | nil : jx H Z [] [] []
 | skip {o : Option V} {δ : List (Option T)} {σ : L2.St} {fp : List Addr} : jx H Z δ σ fp -> jx H Z (none :: δ) (o :: σ) fp
 | cons {t : T} {v : V} {δ : List (Option T)} {σ : L2.St} {fp gp : List Addr} : bN K CL H Z t v fp -> jx H Z δ σ gp -> jx H Z (some t :: δ) (some v :: σ) (fp ++ gp)
section
variable {K : PySem.W.Frag} {CL : Str -> Addr}
theorem Rd.mono {H H' : Hp} {a : Addr} {u : HO} (e : aL H H') (h : Rd H a u) : Rd H' a u := h.imp (e _ _) fun ⟨o, q⟩ => ⟨o, e _ _ q⟩
theorem aL.sqT {H H' : Hp} {a : Addr} {xs : List V} (e : aL H H') (h : AH K H a xs) : AH K H' a xs := by
 rcases h with (h | ⟨o, h⟩) | h
 . exact .inl (.inl (e _ _ h))
 . exact .inl (.inr ⟨o, e _ _ h⟩)
 . exact .inr h
theorem bV.mono {Z Z' : Hp} (e : aL Z Z') {d : D} {v : V} (h : bV K CL Z d v) : bV K CL Z' d v :=
 bV.rec (motive_1 := fun d v _ => bV K CL Z' d v) (motive_2 := fun d v _ => aI K CL Z' d v) (motive_3 := fun d v _ => uL K CL Z' d v) (motive_4 := fun d v _ => bT K CL Z' d v) (motive_5 := fun d v _ => BV K CL Z' d v)
   .non .bl .int .str .any .val (fun h _ r => .tup (aL.sqT e h) r) (fun h _ r => .lst (e.seq h) r) (fun h _ r => .ins (e _ _ h) r) (fun h _ r => .lZ (e _ _ h) r) (fun h _ r => .dct (Rd.mono e h) r) (fun h _ _ r q => .Ej (e _ _ h) r q) .nil (fun _ _ h r => .cons h r) .nil (fun _ _ h r => .cons h r) .nil (fun _ _ h r => .cons h r) .nil (fun _ _ h r => .cons h r) h
theorem aI.mono {Z Z' : Hp} (e : aL Z Z') {d : List D} {v : List V} (h : aI K CL Z d v) : aI K CL Z' d v :=
 aI.rec (motive_1 := fun d v _ => bV K CL Z' d v) (motive_2 := fun d v _ => aI K CL Z' d v) (motive_3 := fun d v _ => uL K CL Z' d v) (motive_4 := fun d v _ => bT K CL Z' d v) (motive_5 := fun d v _ => BV K CL Z' d v)
   .non .bl .int .str .any .val (fun h _ r => .tup (aL.sqT e h) r) (fun h _ r => .lst (e.seq h) r) (fun h _ r => .ins (e _ _ h) r) (fun h _ r => .lZ (e _ _ h) r) (fun h _ r => .dct (Rd.mono e h) r) (fun h _ _ r q => .Ej (e _ _ h) r q) .nil (fun _ _ h r => .cons h r) .nil (fun _ _ h r => .cons h r) .nil (fun _ _ h r => .cons h r) .nil (fun _ _ h r => .cons h r) h
theorem bT.mono {Z Z' : Hp} (e : aL Z Z') {d : List (Key × D)} {v : List (Key × V)} (h : bT K CL Z d v) : bT K CL Z' d v :=
 bT.rec (motive_1 := fun d v _ => bV K CL Z' d v) (motive_2 := fun d v _ => aI K CL Z' d v) (motive_3 := fun d v _ => uL K CL Z' d v) (motive_4 := fun d v _ => bT K CL Z' d v) (motive_5 := fun d v _ => BV K CL Z' d v)
   .non .bl .int .str .any .val (fun h _ r => .tup (aL.sqT e h) r) (fun h _ r => .lst (e.seq h) r) (fun h _ r => .ins (e _ _ h) r) (fun h _ r => .lZ (e _ _ h) r) (fun h _ r => .dct (Rd.mono e h) r) (fun h _ _ r q => .Ej (e _ _ h) r q) .nil (fun _ _ h r => .cons h r) .nil (fun _ _ h r => .cons h r) .nil (fun _ _ h r => .cons h r) .nil (fun _ _ h r => .cons h r) h
theorem bN.mono {H H' Z Z' : Hp} (e : aL Z Z') {t : T} {v : V} {fp : List Addr} (k : ∀ a ∈ fp, H' a = H a) (h : bN K CL H Z t v fp) : bN K CL H' Z' t v fp :=
 bN.rec (motive_1 := fun t v fp _ => (∀ a ∈ fp, H' a = H a) -> bN K CL H' Z' t v fp) (motive_2 := fun t v fp _ => (∀ a ∈ fp, H' a = H a) -> bA K CL H' Z' t v fp) (motive_3 := fun t v fp _ => (∀ a ∈ fp, H' a = H a) -> cY K CL H' Z' t v fp) (motive_4 := fun t v fp _ => (∀ a ∈ fp, H' a = H a) -> iQ K CL H' Z' t v fp)
   (fun h _ => .sh (h.mono e)) (fun h _ r k => .tup (e _ _ h) (r k)) (fun h _ r k => .lst ((k _ anc).trans h) (r fun a ha => k a (anj _ ha))) (fun h _ r k => .ins ((k _ anc).trans h) (r fun a ha => k a (anj _ ha))) (fun h f k => .lZ ((k _ anc).trans h) (bT.mono e f)) (fun h _ r k => .dct ((k _ anc).trans h) (r fun a ha => k a (anj _ ha))) (fun _ r k => .pin (r k)) (fun h f g k => .Ej ((k _ anc).trans h) (aI.mono e f) (aI.mono e g)) (fun _ => .nil) (fun _ _ h r k => .cons (h fun a ha => k a (anl _ ha)) (r fun a ha => k a (anf _ ha))) (fun _ => .nil) (fun _ _ h r k => .cons (h fun a ha => k a (anl _ ha)) (r fun a ha => k a (anf _ ha))) (fun _ => .nil) (fun _ _ h r k => .cons (h fun a ha => k a (anl _ ha)) (r fun a ha => k a (anf _ ha))) h k
theorem bA.mono {H H' Z Z' : Hp} (e : aL Z Z') {t : List T} {v : List V} {fp : List Addr} (k : ∀ a ∈ fp, H' a = H a) (h : bA K CL H Z t v fp) : bA K CL H' Z' t v fp :=
 bA.rec (motive_1 := fun t v fp _ => (∀ a ∈ fp, H' a = H a) -> bN K CL H' Z' t v fp) (motive_2 := fun t v fp _ => (∀ a ∈ fp, H' a = H a) -> bA K CL H' Z' t v fp) (motive_3 := fun t v fp _ => (∀ a ∈ fp, H' a = H a) -> cY K CL H' Z' t v fp) (motive_4 := fun t v fp _ => (∀ a ∈ fp, H' a = H a) -> iQ K CL H' Z' t v fp)
   (fun h _ => .sh (h.mono e)) (fun h _ r k => .tup (e _ _ h) (r k)) (fun h _ r k => .lst ((k _ anc).trans h) (r fun a ha => k a (anj _ ha))) (fun h _ r k => .ins ((k _ anc).trans h) (r fun a ha => k a (anj _ ha))) (fun h f k => .lZ ((k _ anc).trans h) (bT.mono e f)) (fun h _ r k => .dct ((k _ anc).trans h) (r fun a ha => k a (anj _ ha))) (fun _ r k => .pin (r k)) (fun h f g k => .Ej ((k _ anc).trans h) (aI.mono e f) (aI.mono e g)) (fun _ => .nil) (fun _ _ h r k => .cons (h fun a ha => k a (anl _ ha)) (r fun a ha => k a (anf _ ha))) (fun _ => .nil) (fun _ _ h r k => .cons (h fun a ha => k a (anl _ ha)) (r fun a ha => k a (anf _ ha))) (fun _ => .nil) (fun _ _ h r k => .cons (h fun a ha => k a (anl _ ha)) (r fun a ha => k a (anf _ ha))) h k
theorem cY.mono {H H' Z Z' : Hp} (e : aL Z Z') {t : List (Str × T)} {v : List (Str × V)} {fp : List Addr} (k : ∀ a ∈ fp, H' a = H a) (h : cY K CL H Z t v fp) : cY K CL H' Z' t v fp :=
 cY.rec (motive_1 := fun t v fp _ => (∀ a ∈ fp, H' a = H a) -> bN K CL H' Z' t v fp) (motive_2 := fun t v fp _ => (∀ a ∈ fp, H' a = H a) -> bA K CL H' Z' t v fp) (motive_3 := fun t v fp _ => (∀ a ∈ fp, H' a = H a) -> cY K CL H' Z' t v fp) (motive_4 := fun t v fp _ => (∀ a ∈ fp, H' a = H a) -> iQ K CL H' Z' t v fp)
   (fun h _ => .sh (h.mono e)) (fun h _ r k => .tup (e _ _ h) (r k)) (fun h _ r k => .lst ((k _ anc).trans h) (r fun a ha => k a (anj _ ha))) (fun h _ r k => .ins ((k _ anc).trans h) (r fun a ha => k a (anj _ ha))) (fun h f k => .lZ ((k _ anc).trans h) (bT.mono e f)) (fun h _ r k => .dct ((k _ anc).trans h) (r fun a ha => k a (anj _ ha))) (fun _ r k => .pin (r k)) (fun h f g k => .Ej ((k _ anc).trans h) (aI.mono e f) (aI.mono e g)) (fun _ => .nil) (fun _ _ h r k => .cons (h fun a ha => k a (anl _ ha)) (r fun a ha => k a (anf _ ha))) (fun _ => .nil) (fun _ _ h r k => .cons (h fun a ha => k a (anl _ ha)) (r fun a ha => k a (anf _ ha))) (fun _ => .nil) (fun _ _ h r k => .cons (h fun a ha => k a (anl _ ha)) (r fun a ha => k a (anf _ ha))) h k
theorem iQ.mono {H H' Z Z' : Hp} (e : aL Z Z') {t : List (List Key × T)} {v : List (List Key × V)} {fp : List Addr} (k : ∀ a ∈ fp, H' a = H a) (h : iQ K CL H Z t v fp) : iQ K CL H' Z' t v fp :=
 iQ.rec (motive_1 := fun t v fp _ => (∀ a ∈ fp, H' a = H a) -> bN K CL H' Z' t v fp) (motive_2 := fun t v fp _ => (∀ a ∈ fp, H' a = H a) -> bA K CL H' Z' t v fp) (motive_3 := fun t v fp _ => (∀ a ∈ fp, H' a = H a) -> cY K CL H' Z' t v fp) (motive_4 := fun t v fp _ => (∀ a ∈ fp, H' a = H a) -> iQ K CL H' Z' t v fp)
   (fun h _ => .sh (h.mono e)) (fun h _ r k => .tup (e _ _ h) (r k)) (fun h _ r k => .lst ((k _ anc).trans h) (r fun a ha => k a (anj _ ha))) (fun h _ r k => .ins ((k _ anc).trans h) (r fun a ha => k a (anj _ ha))) (fun h f k => .lZ ((k _ anc).trans h) (bT.mono e f)) (fun h _ r k => .dct ((k _ anc).trans h) (r fun a ha => k a (anj _ ha))) (fun _ r k => .pin (r k)) (fun h f g k => .Ej ((k _ anc).trans h) (aI.mono e f) (aI.mono e g)) (fun _ => .nil) (fun _ _ h r k => .cons (h fun a ha => k a (anl _ ha)) (r fun a ha => k a (anf _ ha))) (fun _ => .nil) (fun _ _ h r k => .cons (h fun a ha => k a (anl _ ha)) (r fun a ha => k a (anf _ ha))) (fun _ => .nil) (fun _ _ h r k => .cons (h fun a ha => k a (anl _ ha)) (r fun a ha => k a (anf _ ha))) h k
theorem bN.there {H Z : Hp} {t : T} {v : V} {fp : List Addr} (h : bN K CL H Z t v fp) : ∀ a ∈ fp, ∃ o, H a = some o :=
 bN.rec (motive_1 := fun t v fp _ => ∀ a ∈ fp, ∃ o, H a = some o) (motive_2 := fun t v fp _ => ∀ a ∈ fp, ∃ o, H a = some o) (motive_3 := fun t v fp _ => ∀ a ∈ fp, ∃ o, H a = some o) (motive_4 := fun t v fp _ => ∀ a ∈ fp, ∃ o, H a = some o)
   (fun _ a ha => absurd ha ano) (fun _ _ r => r) (fun h _ r a ha => (ane.mp ha).elim (fun q => ⟨_, q ▸ h⟩) (r a)) (fun h _ r a ha => (ane.mp ha).elim (fun q => ⟨_, q ▸ h⟩) (r a)) (fun h _ a ha => (ane.mp ha).elim (fun q => ⟨_, q ▸ h⟩) (fun q => absurd q ano)) (fun h _ r a ha => (ane.mp ha).elim (fun q => ⟨_, q ▸ h⟩) (r a)) (fun _ r => r) (fun h _ _ a ha => (ane.mp ha).elim (fun q => ⟨_, q ▸ h⟩) (fun q => absurd q ano)) (fun a ha => absurd ha ano) (fun _ _ h r a ha => (ank.mp ha).elim (h a) (r a)) (fun a ha => absurd ha ano) (fun _ _ h r a ha => (ank.mp ha).elim (h a) (r a)) (fun a ha => absurd ha ano) (fun _ _ h r a ha => (ank.mp ha).elim (h a) (r a)) h
theorem bA.there {H Z : Hp} {t : List T} {v : List V} {fp : List Addr} (h : bA K CL H Z t v fp) : ∀ a ∈ fp, ∃ o, H a = some o :=
 bA.rec (motive_1 := fun t v fp _ => ∀ a ∈ fp, ∃ o, H a = some o) (motive_2 := fun t v fp _ => ∀ a ∈ fp, ∃ o, H a = some o) (motive_3 := fun t v fp _ => ∀ a ∈ fp, ∃ o, H a = some o) (motive_4 := fun t v fp _ => ∀ a ∈ fp, ∃ o, H a = some o)
   (fun _ a ha => absurd ha ano) (fun _ _ r => r) (fun h _ r a ha => (ane.mp ha).elim (fun q => ⟨_, q ▸ h⟩) (r a)) (fun h _ r a ha => (ane.mp ha).elim (fun q => ⟨_, q ▸ h⟩) (r a)) (fun h _ a ha => (ane.mp ha).elim (fun q => ⟨_, q ▸ h⟩) (fun q => absurd q ano)) (fun h _ r a ha => (ane.mp ha).elim (fun q => ⟨_, q ▸ h⟩) (r a)) (fun _ r => r) (fun h _ _ a ha => (ane.mp ha).elim (fun q => ⟨_, q ▸ h⟩) (fun q => absurd q ano)) (fun a ha => absurd ha ano) (fun _ _ h r a ha => (ank.mp ha).elim (h a) (r a)) (fun a ha => absurd ha ano) (fun _ _ h r a ha => (ank.mp ha).elim (h a) (r a)) (fun a ha => absurd ha ano) (fun _ _ h r a ha => (ank.mp ha).elim (h a) (r a)) h
theorem bN.gS {H Z Z' : Hp} (e : aL Z Z') {t : T} {v : V} {fp : List Addr} (k : ∀ a ∈ fp, Z' a = H a) (h : bN K CL H Z t v fp) : bV K CL Z' t.gS v :=
 bN.rec (motive_1 := fun t v fp _ => (∀ a ∈ fp, Z' a = H a) -> bV K CL Z' t.gS v) (motive_2 := fun t v fp _ => (∀ a ∈ fp, Z' a = H a) -> aI K CL Z' (T.rH t) v) (motive_3 := fun t v fp _ => (∀ a ∈ fp, Z' a = H a) -> uL K CL Z' (T.wO t) v) (motive_4 := fun t v fp _ => (∀ a ∈ fp, Z' a = H a) -> BV K CL Z' (T.Xh t) v)
   (fun h _ => by rw [T.gS]; exact h.mono e) (fun h _ r k => by rw [T.gS]; exact .tup (AH.of (e _ _ h)) (r k)) (fun h _ r k => by rw [T.gS]; exact .lst (pA.of ((k _ anc).trans h)) (r fun a ha => k a (anj _ ha))) (fun h _ r k => by rw [T.gS]; exact .ins ((k _ anc).trans h) (r fun a ha => k a (anj _ ha))) (fun h f k => by rw [T.gS]; exact .lZ ((k _ anc).trans h) (bT.mono e f)) (fun h _ r k => by rw [T.gS]; exact .dct (.inl ((k _ anc).trans h)) (r fun a ha => k a (anj _ ha))) (fun _ r k => by rw [T.gS]; exact r k) (fun h f g k => by rw [T.gS]; exact .Ej ((k _ anc).trans h) (aI.mono e f) (aI.mono e g)) (fun _ => by rw [T.rH]; exact .nil) (fun _ _ h r k => by rw [T.rH]; exact .cons (h fun a ha => k a (anl _ ha)) (r fun a ha => k a (anf _ ha))) (fun _ => by rw [T.wO]; exact .nil) (fun _ _ h r k => by rw [T.wO]; exact .cons (h fun a ha => k a (anl _ ha)) (r fun a ha => k a (anf _ ha))) (fun _ => by rw [T.Xh]; exact .nil) (fun _ _ h r k => by rw [T.Xh]; exact .cons (h fun a ha => k a (anl _ ha)) (r fun a ha => k a (anf _ ha))) h k
theorem aI.ind {Z : Hp} {P : List D -> List V -> Prop} (n : P [] []) (c : ∀ {d : D} {v : V} {ds : List D} {vs : List V}, bV K CL Z d v -> aI K CL Z ds vs -> P ds vs -> P (d :: ds) (v :: vs)) {ds : List D} {vs : List V} (h : aI K CL Z ds vs) : P ds vs :=
 aI.rec (motive_1 := fun _ _ _ => True) (motive_2 := fun d v _ => P d v) (motive_3 := fun _ _ _ => True) (motive_4 := fun _ _ _ => True) (motive_5 := fun _ _ _ => True)
   trivial (fun _ => trivial) (fun _ => trivial) (fun _ => trivial) (fun _ => trivial) (fun _ => trivial) (fun _ _ _ => trivial) (fun _ _ _ => trivial) (fun _ _ _ => trivial) (fun _ _ _ => trivial) (fun _ _ _ => trivial) (fun _ _ _ _ _ => trivial) n (fun a b _ i => c a b i) trivial (fun _ _ _ _ => trivial) trivial (fun _ _ _ _ => trivial) trivial (fun _ _ _ _ => trivial) h
theorem bT.ind {Z : Hp} {P : List (Key × D) -> List (Key × V) -> Prop} (n : P [] []) (c : ∀ {x : Key} {d : D} {v : V} {ds : List (Key × D)} {vs : List (Key × V)}, bV K CL Z d v -> bT K CL Z ds vs -> P ds vs -> P ((x, d) :: ds) ((x, v) :: vs)) {ds : List (Key × D)} {vs : List (Key × V)} (h : bT K CL Z ds vs) : P ds vs :=
 bT.rec (motive_1 := fun _ _ _ => True) (motive_2 := fun _ _ _ => True) (motive_3 := fun _ _ _ => True) (motive_4 := fun d v _ => P d v) (motive_5 := fun _ _ _ => True)
   trivial (fun _ => trivial) (fun _ => trivial) (fun _ => trivial) (fun _ => trivial) (fun _ => trivial) (fun _ _ _ => trivial) (fun _ _ _ => trivial) (fun _ _ _ => trivial) (fun _ _ _ => trivial) (fun _ _ _ => trivial) (fun _ _ _ _ _ => trivial) trivial (fun _ _ _ _ => trivial) trivial (fun _ _ _ _ => trivial) n (fun a b _ i => c a b i) trivial (fun _ _ _ _ => trivial) h
theorem bA.ind {H Z : Hp} {P : List T -> List V -> List Addr -> Prop} (n : P [] [] []) (c : ∀ {t : T} {v : V} {ts : List T} {vs : List V} {fp gp : List Addr}, bN K CL H Z t v fp -> bA K CL H Z ts vs gp -> P ts vs gp -> P (t :: ts) (v :: vs) (fp ++ gp)) {ts : List T} {vs : List V} {fp : List Addr} (h : bA K CL H Z ts vs fp) : P ts vs fp :=
 bA.rec (motive_1 := fun _ _ _ _ => True) (motive_2 := fun d v f _ => P d v f) (motive_3 := fun _ _ _ _ => True) (motive_4 := fun _ _ _ _ => True)
   (fun _ => trivial) (fun _ _ _ => trivial) (fun _ _ _ => trivial) (fun _ _ _ => trivial) (fun _ _ => trivial) (fun _ _ _ => trivial) (fun _ _ => trivial) (fun _ _ _ => trivial) n (fun a b _ i => c a b i) trivial (fun _ _ _ _ => trivial) trivial (fun _ _ _ _ => trivial) h
theorem cY.ind {H Z : Hp} {P : List (Str × T) -> List (Str × V) -> List Addr -> Prop} (n : P [] [] []) (c : ∀ {x : Str} {t : T} {v : V} {ts : List (Str × T)} {vs : List (Str × V)} {fp gp : List Addr}, bN K CL H Z t v fp -> cY K CL H Z ts vs gp -> P ts vs gp -> P ((x, t) :: ts) ((x, v) :: vs) (fp ++ gp)) {ts : List (Str × T)} {vs : List (Str × V)} {fp : List Addr} (h : cY K CL H Z ts vs fp) : P ts vs fp :=
 cY.rec (motive_1 := fun _ _ _ _ => True) (motive_2 := fun _ _ _ _ => True) (motive_3 := fun d v f _ => P d v f) (motive_4 := fun _ _ _ _ => True)
   (fun _ => trivial) (fun _ _ _ => trivial) (fun _ _ _ => trivial) (fun _ _ _ => trivial) (fun _ _ => trivial) (fun _ _ _ => trivial) (fun _ _ => trivial) (fun _ _ _ => trivial) trivial (fun _ _ _ _ => trivial) n (fun a b _ i => c a b i) trivial (fun _ _ _ _ => trivial) h
theorem iQ.ind {H Z : Hp} {P : List (List Key × T) -> List (List Key × V) -> List Addr -> Prop} (n : P [] [] []) (c : ∀ {x : List Key} {t : T} {v : V} {ts : List (List Key × T)} {vs : List (List Key × V)} {fp gp : List Addr}, bN K CL H Z t v fp -> iQ K CL H Z ts vs gp -> P ts vs gp -> P ((x, t) :: ts) ((x, v) :: vs) (fp ++ gp)) {ts : List (List Key × T)} {vs : List (List Key × V)} {fp : List Addr} (h : iQ K CL H Z ts vs fp) : P ts vs fp :=
 iQ.rec (motive_1 := fun _ _ _ _ => True) (motive_2 := fun _ _ _ _ => True) (motive_3 := fun _ _ _ _ => True) (motive_4 := fun d v f _ => P d v f)
   (fun _ => trivial) (fun _ _ _ => trivial) (fun _ _ _ => trivial) (fun _ _ _ => trivial) (fun _ _ => trivial) (fun _ _ _ => trivial) (fun _ _ => trivial) (fun _ _ _ => trivial) trivial (fun _ _ _ _ => trivial) trivial (fun _ _ _ _ => trivial) n (fun a b _ i => c a b i) h
theorem aI.length {Z : Hp} {d : List D} {v : List V} (h : aI K CL Z d v) : d.length = v.length :=
 aI.ind (P := fun d v => d.length = v.length) rfl (fun _ _ i => congrArg (· + 1) i) h
theorem bA.length {H Z : Hp} {d : List T} {v : List V} {fp : List Addr} (h : bA K CL H Z d v fp) : d.length = v.length :=
 bA.ind (P := fun d v _ => d.length = v.length) rfl (fun _ _ i => congrArg (· + 1) i) h
theorem aI.get {Z : Hp} : ∀ {ds : List D} {vs : List V} {i : Nat} {d : D}, aI K CL Z ds vs -> ds[i]? = some d -> ∃ v, vs[i]? = some v /\ bV K CL Z d v
 | _, _, _, _, .nil, e => by simp at e
 | _, _, 0, _, .cons r _, e => by simp at e; subst e; exact ⟨_, rfl, r⟩
 | _, _, i + 1, d, .cons _ t, e => by
   obtain ⟨u, h1, h2⟩ := aI.get (i := i) (d := d) t (by simpa using e)
   exact ⟨u, by simpa using h1, h2⟩
theorem aI.Uq {Z : Hp} : ∀ {ds : List D} {vs : List V} {i : Nat} {v : V}, aI K CL Z ds vs -> vs[i]? = some v -> ∃ d, ds[i]? = some d /\ bV K CL Z d v
 | _, _, _, _, .nil, e => by simp at e
 | _, _, 0, _, .cons r _, e => by simp at e; subst e; exact ⟨_, rfl, r⟩
 | _, _, i + 1, d, .cons _ t, e => by
   obtain ⟨u, h1, h2⟩ := aI.Uq (i := i) (v := d) t (by simpa using e)
   exact ⟨u, by simpa using h1, h2⟩
theorem bA.get {H Z : Hp} : ∀ {ds : List T} {vs : List V} {fp : List Addr} {i : Nat} {d : T}, bA K CL H Z ds vs fp -> ds[i]? = some d -> ∃ v gp, vs[i]? = some v /\ bN K CL H Z d v gp /\ gp.Sublist fp
 | _, _, _, _, _, .nil, e => by simp at e
 | _, _, _, 0, _, .cons r _, e => by simp at e; subst e; exact ⟨_, _, rfl, r, List.sublist_append_left _ _⟩
 | _, _, _, i + 1, d, .cons _ t, e => by
   obtain ⟨u, gp, h1, h2, h3⟩ := bA.get (i := i) (d := d) t (by simpa using e)
   exact ⟨u, gp, by simpa using h1, h2, h3.trans (List.sublist_append_right _ _)⟩
theorem jx.get {H Z : Hp} : ∀ {δ : List (Option T)} {σ : L2.St} {fp : List Addr} {i : Nat} {t : T}, jx K CL H Z δ σ fp -> δ[i]? = some (some t) →
   ∃ v f1 f2 f3, σ[i]? = some (some v) /\ fp = f1 ++ (f2 ++ f3) /\ bN K CL H Z t v f2 ∧
     (∀ {H' Z' : Hp} {t' : T} {v' : V} {g : List Addr}, aL Z Z' -> (∀ a ∈ f1 ++ f3, H' a = H a) -> bN K CL H' Z' t' v' g -> jx K CL H' Z' (δ.set i (some t')) (σ.set i (some v')) (f1 ++ (g ++ f3))) ∧
     (∀ {o : Option V}, jx K CL H Z (δ.set i none) (σ.set i o) (f1 ++ f3)) := by
 intro δ σ fp i t h
 have mono : ∀ {H H' Z Z' : Hp} {δ : List (Option T)} {σ : L2.St} {fp : List Addr}, aL Z Z' -> (∀ a ∈ fp, H' a = H a) -> jx K CL H Z δ σ fp -> jx K CL H' Z' δ σ fp := by
   intro H H' Z Z' δ σ fp e k r
   induction r with
   | nil => exact .nil
   | skip _ ih => exact .skip (ih k)
   | cons r _ ih => exact .cons (r.mono e fun a ha => k a (anl _ ha)) (ih fun a ha => k a (anf _ ha))
 induction h generalizing i with
 | nil => intro e; simp at e
 | @skip o δ σ fp r ih =>
   cases i with
   | zero => intro e; simp at e
   | succ i =>
     intro e
     obtain ⟨v, f1, f2, f3, h1, h2, h3, h4, h5⟩ := ih (i := i) (by simpa using e)
     exact ⟨v, f1, f2, f3, by simpa using h1, h2, h3, fun e k q => .skip (h4 e k q), .skip h5⟩
 | @cons t0 v0 δ σ fp gp r0 r ih =>
   cases i with
   | zero =>
     intro e
     simp at e
     subst e
     refine ⟨v0, [], fp, gp, rfl, rfl, r0, fun {H' Z' t' v' g} e k q => jx.cons (fp := g) (gp := gp) q (mono (fp := gp) e (fun a ha => k a (by simpa using ha)) r), .skip (by simpa using r)⟩
   | succ i =>
     intro e
     obtain ⟨v, f1, f2, f3, h1, h2, h3, h4, h5⟩ := ih (i := i) (by simpa using e)
     refine ⟨v, fp ++ f1, f2, f3, by simpa using h1, by rw [h2, List.append_assoc], h3, fun {H' Z' t' v' g} e k q => ?_, fun {o} => ?_⟩
     . rw [ani]
       exact .cons (r0.mono e fun a ha => k a (by simp [ha])) (h4 e (fun a ha => k a (by rw [ani]; exact anf _ ha)) q)
     . rw [ani]
       exact .cons r0 h5
theorem jx.mono {H H' Z Z' : Hp} {δ : List (Option T)} {σ : L2.St} {fp : List Addr} (e : aL Z Z') (k : ∀ a ∈ fp, H' a = H a) (r : jx K CL H Z δ σ fp) : jx K CL H' Z' δ σ fp := by
 induction r with
 | nil => exact .nil
 | skip _ ih => exact .skip (ih k)
 | cons r _ ih => exact .cons (r.mono e fun a ha => k a (anl _ ha)) (ih fun a ha => k a (anf _ ha))
theorem jx.there {H Z : Hp} {δ : List (Option T)} {σ : L2.St} {fp : List Addr} (r : jx K CL H Z δ σ fp) : ∀ a ∈ fp, ∃ o, H a = some o := by
 induction r with
 | nil => intro a ha; cases ha
 | skip _ ih => exact ih
 | cons r _ ih => exact fun a ha => (ank.mp ha).elim (r.there a) (ih a)
theorem jx.put {H Z : Hp} {δ : List (Option T)} {σ : L2.St} {fp : List Addr} (r : jx K CL H Z δ σ fp) {t : T} {v : V} {g : List Addr} (q : bN K CL H Z t v g) :
   ∀ {i : Nat}, i < δ.length -> ∃ f, jx K CL H Z (δ.set i (some t)) (σ.set i (some v)) f /\ ∃ f', f'.Sublist fp /\ f.Perm (g ++ f') := by
 induction r with
 | nil => intro i hi; simp at hi
 | @skip o δ σ fp r ih =>
   intro i hi
   cases i with
   | zero => exact ⟨g ++ fp, .cons q r, fp, an4 _, ao7 _⟩
   | succ i =>
     obtain ⟨f, h1, f', h2, h3⟩ := ih (i := i) (by simpa using hi)
     exact ⟨f, .skip h1, f', h2, h3⟩
 | @cons t0 v0 δ σ fp gp r0 r ih =>
   intro i hi
   cases i with
   | zero => exact ⟨g ++ gp, .cons q r, gp, aow _ _, ao7 _⟩
   | succ i =>
     obtain ⟨f, h1, f', h2, h3⟩ := ih (i := i) (by simpa using hi)
     refine ⟨fp ++ f, .cons r0 h1, fp ++ f', an7 (an4 _) h2, ?_⟩
     refine (anU fp h3).trans ?_
     rw [← ani, ← ani]
     exact List.Perm.append_right f' anY
end
noncomputable def OI (X : Cx) (e : Expr) : TE := fun σ H Q => ∀ (pins : List (Addr × Obj)) (s : Shared), Inv X pins σ H s -> wpAny (model X.prog X.w) X.A (eval e X.env) (EP X pins σ Q) X.xe s
noncomputable def aaG (X : Cx) (e : Expr) : TT := fun σ H Q => ∀ (pins : List (Addr × Obj)) (s : Shared), Inv X pins σ H s -> wpAny (model X.prog X.w) X.A (isTrue e X.env (eval e X.env)) (TP X pins σ Q) X.xe s
noncomputable def Xi (X : Cx) (es : List Expr) : TA := fun σ H Q => ∀ (pos : Pos) (pins : List (Addr × Obj)) (s : Shared), Inv X pins σ H s -> wpAny (model X.prog X.w) X.A (spliced (backTo pos (starEach es X.env))) (AP X pins σ Q) X.xe s
noncomputable def aem (X : Cx) (st : Stmt) : TS := fun D σ H => ∀ (pins : List (Addr × Obj)) (s : Shared), Inv X pins σ H s -> wpAny (model X.prog X.w) X.A (exec st X.env) (SP X pins D) X.xe s
noncomputable def aen (X : Cx) (st : List Stmt) : TS := fun D σ H => ∀ (pins : List (Addr × Obj)) (s : Shared), Inv X pins σ H s -> wpAny (model X.prog X.w) X.A (execs st X.env) (SP X pins D) X.xe s
section
variable {X : Cx}
theorem cM {e : Expr} : PE X e (OI X e) := fun pins s _ _ _ I h => h pins s I
theorem ptS {e : Expr} : PT X e (aaG X e) := fun pins s _ _ _ I h => h pins s I
theorem paS {e : List Expr} : PA X e (Xi X e) := fun pos pins s _ _ _ I h => h pos pins s I
theorem psS {e : Stmt} : PS X e (aem X e) := fun pins s _ _ _ I h => h pins s I
theorem pbS {e : List Stmt} : R1 X e (aen X e) := fun pins s _ _ _ I h => h pins s I
theorem cG {e : Expr} {t : TE} (h : PE X e t) {σ : L2.St} {H : Hp} {Q : VK} (q : t σ H Q) : OI X e σ H Q := fun pins s I => h pins s σ H Q I q
theorem GN {e : Expr} {t : TT} (h : PT X e t) {σ : L2.St} {H : Hp} {Q : Bool -> Hp -> Prop} (q : t σ H Q) : aaG X e σ H Q := fun pins s I => h pins s σ H Q I q
theorem Ur {e : List Expr} {t : TA} (h : PA X e t) {σ : L2.St} {H : Hp} {Q : List V -> Hp -> Prop} (q : t σ H Q) : Xi X e σ H Q := fun pos pins s I => h pos pins s σ H Q I q
theorem yI {e : Stmt} {t : TS} (h : PS X e t) {σ : L2.St} {H : Hp} {D : Ends} (q : t D σ H) : aem X e D σ H := fun pins s I => h pins s σ H D I q
theorem agI {e : List Stmt} {t : TS} (h : R1 X e t) {σ : L2.St} {H : Hp} {D : Ends} (q : t D σ H) : aen X e D σ H := fun pins s I => h pins s σ H D I q
end
noncomputable def notStar : Expr -> Bool
 | .Starred _ _ => false
 | _ => true
theorem bG {e : Expr} {es : List Expr} {env : Env} (h : notStar e = true) : starEach (e :: es) env = (false, eval e env) :: starEach es env := by
 cases e <;> first | rfl | (cases h)
structure Bx where
 B : Hp
 Z : Hp
noncomputable def sC : HO -> Bool
 | .tup _ => true
 | .gS _ _ => true
 | _ => false
noncomputable def Sg (x : Str) : Bool := x.cps[0]? == some 35
noncomputable def ai8 (x : Str) : Str := ⟨x.cps.extract 1 x.cps.size⟩
noncomputable def uM (CL : Str -> Addr) (Z : Hp) : Prop := ∀ x, Sg x = true -> CL x ≠ 0 -> Z (CL x) = some (.tabs (ai8 x))
structure b8 (K : PySem.W.Frag) (CL : Str -> Addr) (b : Bx) (H Z : Hp) (δ : List (Option T)) (σ : L2.St) (ts : List T) (vs : List V) : Prop where
 rep : ∃ fp gp, jx K CL H Z δ σ fp /\ bA K CL H Z ts vs gp /\ (fp ++ gp).Nodup /\ ∀ a ∈ fp ++ gp, Z a = none /\ b.B a = none
 bh : aL b.B H
 zz : aL b.Z Z
 zh : aL Z H
 new : ∀ a o, Z a = some o -> b.Z a = none -> b.B a = none
 tp : ∀ a o, H a = some o -> sC o = true -> Z a = some o
 tab : uM CL b.Z
section
variable {K : PySem.W.Frag} {CL : Str -> Addr} {b : Bx} {H H' Z Z' : Hp} {δ : List (Option T)} {σ : L2.St} {ts : List T} {vs : List V} {t : T} {v : V}
theorem uM.mono {A B : Hp} (h : uM CL A) (e : aL A B) : uM CL B := fun x hx h0 => e _ _ (h x hx h0)
theorem b8.agJ (S : b8 K CL b H Z δ σ ts vs) : uM CL Z := S.tab.mono S.zz
theorem b8.aeo (S : b8 K CL b H Z δ σ ts vs) : uM CL H := S.agJ.mono S.zh
theorem aep {A B : Hp} (e : aL A B) {a : Addr} (h : B a = none) : A a = none := e.free h
theorem aL.upd {H : Hp} {p : Addr} {o : HO} (h : H p = none) : aL H (upd H p o) := fun b u e => by rw [aD (bQ e h)]; exact e
theorem b8.view (S : b8 K CL b H Z δ σ (t :: ts) (v :: vs)) : bV K CL H t.gS v := by
 obtain ⟨fp, gp, _, r, _, _⟩ := S.rep
 cases r with
 | cons r _ => exact r.gS S.zh fun _ _ => rfl
theorem b8.pop (S : b8 K CL b H Z δ σ (t :: ts) (v :: vs)) : b8 K CL b H Z δ σ ts vs := by
 obtain ⟨fp, gp, e, r, nd, k⟩ := S.rep
 cases r with
 | @cons _ _ _ _ f1 f2 r1 r2 =>
   refine ⟨⟨fp, f2, e, r2, nd.sublist (an7 (an4 _) (aow _ _)), fun a ha => k a ?_⟩, S.bh, S.zz, S.zh, S.new, S.tp, S.tab⟩
   rcases ank.mp ha with h | h
   . exact anl _ h
   . exact anf _ (anf _ h)
theorem b8.push {d : D} (S : b8 K CL b H Z δ σ ts vs) (r : bV K CL Z d v) : b8 K CL b H Z δ σ (.sh d :: ts) (v :: vs) := by
 obtain ⟨fp, gp, e, r2, nd, k⟩ := S.rep
 exact ⟨⟨fp, [] ++ gp, e, .cons (.sh r) r2, nd, k⟩, S.bh, S.zz, S.zh, S.new, S.tp, S.tab⟩
theorem b8.Xj (S : b8 K CL b H Z δ σ (t :: ts) (v :: vs)) : ∃ Z', aL Z Z' /\ b8 K CL b H Z' δ σ (.sh t.gS :: ts) (v :: vs) := by
 classical
 obtain ⟨fp, gp, e, r, nd, k⟩ := S.rep
 cases r with
 | @cons _ _ _ _ f1 f2 r1 r2 =>
   have nZ : ∀ a ∈ f1, Z a = none /\ b.B a = none := fun a ha => k a (anf _ (anl _ ha))
   have sz : aL Z (fun a => if a ∈ f1 then H a else Z a) := fun a o q => by
     by_cases ha : a ∈ f1
     . rw [(nZ a ha).1] at q; cases q
     . show (if a ∈ f1 then H a else Z a) = some o
       rw [anm ha]; exact q
   have nd1 := an5.mp nd
   have dj : ∀ a ∈ fp ++ f2, a ∉ f1 := fun a ha h1 => by
     rcases ank.mp ha with h | h
     . exact nd1.2.2 a h a (anl _ h1) rfl
     . exact (an5.mp nd1.2.1).2.2 a h1 a h rfl
   refine ⟨fun a => if a ∈ f1 then H a else Z a, sz, ⟨⟨fp, [] ++ f2, e.mono sz (fun _ _ => rfl), .cons (.sh (r1.gS sz fun a ha => anu ha)) (r2.mono sz fun _ _ => rfl), ?_, fun a ha => ?_⟩, S.bh, S.zz.trans sz, fun a o q => ?_, fun a o q z => ?_, fun a o q i => ?_, S.tab⟩⟩
   . exact nd.sublist (an7 (an4 _) (aow _ _))
   . have ha' : a ∈ fp ++ f2 := ha
     refine ⟨?_, (k a ?_).2⟩
     . show (if a ∈ f1 then H a else Z a) = none
       rw [anm (dj a ha')]
       refine (k a ?_).1
       rcases ank.mp ha' with h | h
       . exact anl _ h
       . exact anf _ (anf _ h)
     . rcases ank.mp ha' with h | h
       . exact anl _ h
       . exact anf _ (anf _ h)
   . have q' : (if a ∈ f1 then H a else Z a) = some o := q
     by_cases ha : a ∈ f1
     . rw [anu ha] at q'; exact q'
     . rw [anm ha] at q'; exact S.zh a o q'
   . have q' : (if a ∈ f1 then H a else Z a) = some o := q
     by_cases ha : a ∈ f1
     . exact (nZ a ha).2
     . rw [anm ha] at q'; exact S.new a o q' z
   . exact sz a o (S.tp a o q i)
theorem b8.aaJ {i : Nat} (S : b8 K CL b H Z δ σ ts vs) (hi : δ[i]? = some (some t)) : ∃ v Z', σ[i]? = some (some v) /\ aL Z Z' /\ b8 K CL b H Z' (δ.set i (some (.sh t.gS))) σ (.sh t.gS :: ts) (v :: vs) := by
 classical
 obtain ⟨fp, gp, e, r, nd, k⟩ := S.rep
 obtain ⟨v, f1, f2, f3, hv, wY, rt, put, _⟩ := e.get hi
 subst wY
 have nZ : ∀ a ∈ f2, Z a = none /\ b.B a = none := fun a ha => k a (by simp [ha])
 have sz : aL Z (fun a => if a ∈ f2 then H a else Z a) := fun a o q => by
   by_cases ha : a ∈ f2
   . rw [(nZ a ha).1] at q; cases q
   . show (if a ∈ f2 then H a else Z a) = some o
     rw [anm ha]; exact q
 have dj : ∀ a ∈ (f1 ++ f3) ++ gp, a ∉ f2 := fun a ha h2 => by
   have hp : ((f1 ++ (f2 ++ f3)) ++ gp).Perm (f2 ++ ((f1 ++ f3) ++ gp)) := by
     rw [← ani, ← ani]
     refine (List.perm_append_right_iff gp).mpr ?_
     rw [← ani]
     exact (List.perm_append_right_iff f3).mpr anY
   exact (an5.mp (hp.nodup_iff.mp nd)).2.2 a h2 a ha rfl
 have rF : bV K CL (fun a => if a ∈ f2 then H a else Z a) t.gS v := rt.gS sz fun a ha => anu ha
 have aeq : σ.set i (some v) = σ := by
   apply ape
   intro j
   rw [apf]
   split
   . rename_i h; subst h
     split
     . exact hv.symm
     . rename_i h2; rw [aoG (by omega)]
   . rfl
 have e2 : jx K CL H (fun a => if a ∈ f2 then H a else Z a) (δ.set i (some (.sh t.gS))) σ (f1 ++ ([] ++ f3)) := by
   have := put (H' := H) (t' := .sh t.gS) (v' := v) (g := []) sz (fun _ _ => rfl) (.sh rF)
   rwa [aeq] at this
 refine ⟨v, fun a => if a ∈ f2 then H a else Z a, hv, sz, ⟨⟨f1 ++ ([] ++ f3), [] ++ gp, e2, .cons (.sh rF) (r.mono sz fun _ _ => rfl), ?_, fun a ha => ?_⟩, S.bh, S.zz.trans sz, fun a o q => ?_, fun a o q z => ?_, fun a o q i => sz a o (S.tp a o q i), S.tab⟩⟩
 . exact nd.sublist (an7 (an7 (an4 _) (aow _ _)) (an4 _))
 . have ha' : a ∈ (f1 ++ f3) ++ gp := ha
   have hm : a ∈ (f1 ++ (f2 ++ f3)) ++ gp := by
     simp only [ank] at ha' ⊢
     rcases ha' with (h | h) | h
     . exact .inl (.inl h)
     . exact .inl (.inr (.inr h))
     . exact .inr h
   refine ⟨?_, (k a hm).2⟩
   show (if a ∈ f2 then H a else Z a) = none
   rw [anm (dj a ha')]
   exact (k a hm).1
 . have q' : (if a ∈ f2 then H a else Z a) = some o := q
   by_cases ha : a ∈ f2
   . rw [anu ha] at q'; exact q'
   . rw [anm ha] at q'; exact S.zh a o q'
 . have q' : (if a ∈ f2 then H a else Z a) = some o := q
   by_cases ha : a ∈ f2
   . exact (nZ a ha).2
   . rw [anm ha] at q'; exact S.new a o q' z
theorem b8.move {i : Nat} (S : b8 K CL b H Z δ σ ts vs) (hi : δ[i]? = some (some t)) : ∃ v, σ[i]? = some (some v) /\ b8 K CL b H Z (δ.set i none) σ (t :: ts) (v :: vs) := by
 obtain ⟨fp, gp, e, r, nd, k⟩ := S.rep
 obtain ⟨v, f1, f2, f3, hv, wY, rt, _, del⟩ := e.get hi
 subst wY
 have aeq : σ.set i (some v) = σ := by
   apply ape
   intro j
   rw [apf]
   split
   . rename_i h; subst h
     split
     . exact hv.symm
     . rename_i h2; rw [aoG (by omega)]
   . rfl
 have hp : ((f1 ++ (f2 ++ f3)) ++ gp).Perm ((f1 ++ f3) ++ (f2 ++ gp)) := by
   have h1 : (f2 ++ f3).Perm (f3 ++ f2) := anY
   have h2 := (anU f1 h1).append_right gp
   simp only [ani] at h2 ⊢
   exact h2
 refine ⟨v, hv, ⟨⟨f1 ++ f3, f2 ++ gp, ?_, .cons rt r, hp.nodup_iff.mp nd, fun a ha => k a (hp.mem_iff.mpr ha)⟩, S.bh, S.zz, S.zh, S.new, S.tp, S.tab⟩⟩
 have := del (o := some v)
 rwa [aeq] at this
theorem b8.look {i : Nat} (S : b8 K CL b H Z δ σ ts vs) (hi : δ[i]? = some (some t)) : ∃ v, σ[i]? = some (some v) /\ bV K CL H t.gS v := by
 obtain ⟨fp, gp, e, r, nd, k⟩ := S.rep
 obtain ⟨v, f1, f2, f3, hv, wY, rt, _, _⟩ := e.get hi
 exact ⟨v, hv, rt.gS S.zh fun _ _ => rfl⟩
theorem b8.Xk {i : Nat} {d : D} (S : b8 K CL b H Z δ σ ts vs) (hi : δ[i]? = some (some (.sh d))) : ∃ v, σ[i]? = some (some v) /\ bV K CL Z d v := by
 obtain ⟨fp, gp, e, r, nd, k⟩ := S.rep
 obtain ⟨v, f1, f2, f3, hv, wY, rt, _, _⟩ := e.get hi
 cases rt with
 | sh h => exact ⟨v, hv, h⟩
theorem b8.set {i : Nat} (S : b8 K CL b H Z δ σ (t :: ts) (v :: vs)) (hi : i < δ.length) : b8 K CL b H Z (δ.set i (some t)) (σ.set i (some v)) ts vs := by
 obtain ⟨fp, gp, e, r, nd, k⟩ := S.rep
 cases r with
 | @cons _ _ _ _ f1 f2 r1 r2 =>
   obtain ⟨f, h1, f', h2, h3⟩ := e.put r1 hi
   have hp : (f ++ f2).Perm (f' ++ (f1 ++ f2)) := by
     refine (h3.append_right f2).trans ?_
     rw [← ani]
     exact anY.append_right f2
   have Xl : (f' ++ (f1 ++ f2)).Sublist (fp ++ (f1 ++ f2)) := an7 h2 (an4 _)
   exact ⟨⟨f, f2, h1, r2, hp.nodup_iff.mpr (nd.sublist Xl), fun a ha => k a (Xl.subset (hp.mem_iff.mp ha))⟩, S.bh, S.zz, S.zh, S.new, S.tp, S.tab⟩
end
mutual
noncomputable def D.pC : D -> Bool
 | .tup ds => D.cP ds
 | .lst _ => false
 | .ins _ _ => false
 | .lZ _ => false
 | .dct _ => false
 | .any => false
 | .Ej _ _ _ => false
 | _ => true
noncomputable def D.cP : List D -> Bool
 | [] => true
 | d :: ds => d.pC && D.cP ds
end
mutual
noncomputable def T.clean : T -> Bool
 | .sh d => d.pC
 | .tup ts => T.l0 ts
 | .lst ts => T.l0 ts
 | .ins _ fs => T.bR fs
 | .lZ bq => D.cP (bq.map (·.2))
 | .dct bq => T.Ij bq
 | .pin _ t => t.clean
 | .Ej _ _ _ => false
noncomputable def T.l0 : List T -> Bool
 | [] => true
 | t :: ts => t.clean && T.l0 ts
noncomputable def T.bR : List (Str × T) -> Bool
 | [] => true
 | (_, t) :: ts => t.clean && T.bR ts
noncomputable def T.Ij : List (List Key × T) -> Bool
 | [] => true
 | (_, t) :: ts => t.clean && T.Ij ts
end
noncomputable def bZ (X : Cx) (CL : Str -> Addr) (b : Bx) (e : Expr) (δ : List (Option T)) (t : T) (δ' : List (Option T)) : Prop :=
 ∀ (H Z : Hp) (σ : L2.St) (ts : List T) (vs : List V) (Q : VK), b8 X.K CL b H Z δ σ ts vs -> (∀ v H' Z', aL Z Z' -> aL H H' -> b8 X.K CL b H' Z' δ' σ (t :: ts) (v :: vs) -> Q v H') -> OI X e σ H Q
noncomputable def cy (X : Cx) (CL : Str -> Addr) (b : Bx) (e : Expr) (δ : List (Option T)) (d : D) (δ' : List (Option T)) : Prop :=
 ∀ (H Z : Hp) (σ : L2.St) (ts : List T) (vs : List V) (Q : VK), b8 X.K CL b H Z δ σ ts vs -> (∀ v H' Z', aL Z Z' -> aL H H' -> b8 X.K CL b H' Z' δ' σ ts vs -> bV X.K CL H' d v -> Q v H') -> OI X e σ H Q
noncomputable def uG (X : Cx) (CL : Str -> Addr) (b : Bx) (e : Expr) (δ : List (Option T)) (p : Bool) (δ' : List (Option T)) : Prop :=
 ∀ (H Z : Hp) (σ : L2.St) (ts : List T) (vs : List V) (Q : Bool -> Hp -> Prop), b8 X.K CL b H Z δ σ ts vs -> (∀ H' Z', aL Z Z' -> aL H H' -> b8 X.K CL b H' Z' δ' σ ts vs -> Q p H') -> aaG X e σ H Q
noncomputable def OJ (X : Cx) (CL : Str -> Addr) (b : Bx) (es : List Expr) (δ : List (Option T)) (tl : List T) (δ' : List (Option T)) : Prop :=
 ∀ (H Z : Hp) (σ : L2.St) (ts : List T) (vs : List V) (Q : List V -> Hp -> Prop), b8 X.K CL b H Z δ σ ts vs →
   (∀ us H' Z', us.length = tl.length -> aL Z Z' -> aL H H' -> b8 X.K CL b H' Z' δ' σ (tl.reverse ++ ts) (us.reverse ++ vs) -> Q us H') -> Xi X es σ H Q
noncomputable def BAv (X : Cx) (CL : Str -> Addr) (b : Bx) (es : List Expr) (δ : List (Option T)) (ds : List D) (δ' : List (Option T)) : Prop :=
 ∀ (H Z : Hp) (σ : L2.St) (ts : List T) (vs : List V) (Q : List V -> Hp -> Prop), b8 X.K CL b H Z δ σ ts vs →
   (∀ us H' Z', aL Z Z' -> aL H H' -> b8 X.K CL b H' Z' δ' σ ts vs -> aI X.K CL H' ds us -> Q us H') -> Xi X es σ H Q
structure gw where
 nx : List (Option T) -> Prop
 rt : T -> List (Option T) -> Prop
 bk : List (Option T) -> Prop := fun _ => False
 ct : List (Option T) -> Prop := fun _ => False
structure Meets (K : PySem.W.Frag) (CL : Str -> Addr) (b : Bx) (Z : Hp) (ts : List T) (vs : List V) (D : gw) (E : Ends) : Prop where
 nx : ∀ δ' σ' H' Z', aL Z Z' -> b8 K CL b H' Z' δ' σ' ts vs -> D.nx δ' -> E.nx σ' H'
 rt : ∀ t v H' Z' δ' σ', aL Z Z' -> b8 K CL b H' Z' δ' σ' (t :: ts) (v :: vs) -> D.rt t δ' -> E.rt v H'
 bk : ∀ δ' σ' H' Z', aL Z Z' -> b8 K CL b H' Z' δ' σ' ts vs -> D.bk δ' -> E.bk σ' H'
 ct : ∀ δ' σ' H' Z', aL Z Z' -> b8 K CL b H' Z' δ' σ' ts vs -> D.ct δ' -> E.ct σ' H'
noncomputable def ZX (X : Cx) (CL : Str -> Addr) (b : Bx) (st : Stmt) (δ : List (Option T)) (D : gw) : Prop :=
 ∀ (H Z : Hp) (σ : L2.St) (ts : List T) (vs : List V) (E : Ends), b8 X.K CL b H Z δ σ ts vs -> Meets X.K CL b Z ts vs D E -> aem X st E σ H
noncomputable def gU (X : Cx) (CL : Str -> Addr) (b : Bx) (st : List Stmt) (δ : List (Option T)) (D : gw) : Prop :=
 ∀ (H Z : Hp) (σ : L2.St) (ts : List T) (vs : List V) (E : Ends), b8 X.K CL b H Z δ σ ts vs -> Meets X.K CL b Z ts vs D E -> aen X st E σ H
section
variable {K : PySem.W.Frag} {CL : Str -> Addr} {b : Bx} {H H' Z Z' : Hp} {δ : List (Option T)} {σ : L2.St} {ts : List T} {vs : List V} {t : T} {v : V}
theorem Meets.mono {D : gw} {E : Ends} (M : Meets K CL b Z ts vs D E) (e : aL Z Z') : Meets K CL b Z' ts vs D E :=
 ⟨fun _ _ _ _ s => M.nx _ _ _ _ (e.trans s), fun _ _ _ _ _ _ s => M.rt _ _ _ _ _ _ (e.trans s), fun _ _ _ _ s => M.bk _ _ _ _ (e.trans s), fun _ _ _ _ s => M.ct _ _ _ _ (e.trans s)⟩
theorem Sh {a : Addr} {xs : List V} (zh : ∀ a o, H a = some o -> sC o = true -> Z a = some o) (h : AH K H a xs) : AH K Z a xs := by
 rcases h with (h | ⟨o, h⟩) | h
 . exact .inl (.inl (zh _ _ h rfl))
 . exact .inl (.inr ⟨o, zh _ _ h rfl⟩)
 . exact .inr h
theorem bV.pC (zh : ∀ a o, H a = some o -> sC o = true -> Z a = some o) {d : D} {v : V} (k : d.pC = true) (h : bV K CL H d v) : bV K CL Z d v :=
 bV.rec (motive_1 := fun d v _ => d.pC = true -> bV K CL Z d v) (motive_2 := fun d v _ => D.cP d = true -> aI K CL Z d v) (motive_3 := fun d v _ => True) (motive_4 := fun d v _ => True) (motive_5 := fun d v _ => True)
   (fun _ => .non) (fun b _ => .bl b) (fun b _ => .int b) (fun b _ => .str b) (fun _ k => by rw [D.pC] at k; cases k) (fun b _ => .val b) (fun h _ r k => .tup (Sh zh h) (r (by rw [D.pC] at k; exact k))) (fun _ _ _ k => by rw [D.pC] at k; cases k) (fun _ _ _ k => by rw [D.pC] at k; cases k) (fun _ _ _ k => by rw [D.pC] at k; cases k) (fun _ _ _ k => by rw [D.pC] at k; cases k) (fun _ _ _ _ _ k => by rw [D.pC] at k; cases k) (fun _ => .nil) (fun _ _ h r k => by rw [D.cP, anH] at k; exact .cons (h k.1) (r k.2)) trivial (fun _ _ _ _ => trivial) trivial (fun _ _ _ _ => trivial) trivial (fun _ _ _ _ => trivial) h k
theorem aI.pC (zh : ∀ a o, H a = some o -> sC o = true -> Z a = some o) {d : List D} {v : List V} (k : D.cP d = true) (h : aI K CL H d v) : aI K CL Z d v :=
 aI.rec (motive_1 := fun d v _ => d.pC = true -> bV K CL Z d v) (motive_2 := fun d v _ => D.cP d = true -> aI K CL Z d v) (motive_3 := fun d v _ => True) (motive_4 := fun d v _ => True) (motive_5 := fun d v _ => True)
   (fun _ => .non) (fun b _ => .bl b) (fun b _ => .int b) (fun b _ => .str b) (fun _ k => by rw [D.pC] at k; cases k) (fun b _ => .val b) (fun h _ r k => .tup (Sh zh h) (r (by rw [D.pC] at k; exact k))) (fun _ _ _ k => by rw [D.pC] at k; cases k) (fun _ _ _ k => by rw [D.pC] at k; cases k) (fun _ _ _ k => by rw [D.pC] at k; cases k) (fun _ _ _ k => by rw [D.pC] at k; cases k) (fun _ _ _ _ _ k => by rw [D.pC] at k; cases k) (fun _ => .nil) (fun _ _ h r k => by rw [D.cP, anH] at k; exact .cons (h k.1) (r k.2)) trivial (fun _ _ _ _ => trivial) trivial (fun _ _ _ _ => trivial) trivial (fun _ _ _ _ => trivial) h k
theorem bT.clean {Z1 : Hp} (zi : ∀ {d : D} {v : V}, d.pC = true -> bV K CL Z1 d v -> bV K CL Z d v) {bq : List (Key × D)} {gs : List (Key × V)} (k : D.cP (bq.map (·.2)) = true) (h : bT K CL Z1 bq gs) : bT K CL Z bq gs :=
 bT.ind (P := fun bq gs => D.cP (bq.map (·.2)) = true -> bT K CL Z bq gs) (fun _ => .nil) (fun h _ i k => by rw [anD, D.cP, anH] at k; exact .cons (zi k.1 h) (i k.2)) h k
theorem bN.clean {Z1 : Hp} (zh : ∀ a xs, Z1 a = some (.tup xs) -> Z a = some (.tup xs)) (zi : ∀ {d : D} {v : V}, d.pC = true -> bV K CL Z1 d v -> bV K CL Z d v) {t : T} {v : V} {fp : List Addr} (k : t.clean = true) (h : bN K CL H Z1 t v fp) : bN K CL H Z t v fp :=
 bN.rec (motive_1 := fun t v fp _ => t.clean = true -> bN K CL H Z t v fp) (motive_2 := fun t v fp _ => T.l0 t = true -> bA K CL H Z t v fp) (motive_3 := fun t v fp _ => T.bR t = true -> cY K CL H Z t v fp) (motive_4 := fun t v fp _ => T.Ij t = true -> iQ K CL H Z t v fp)
   (fun h k => .sh (zi (by rw [T.clean] at k; exact k) h)) (fun h _ r k => .tup (zh _ _ h) (r (by rw [T.clean] at k; exact k))) (fun h _ r k => .lst h (r (by rw [T.clean] at k; exact k))) (fun h _ r k => .ins h (r (by rw [T.clean] at k; exact k))) (fun h f k => .lZ h (bT.clean zi (by rw [T.clean] at k; exact k) f)) (fun h _ r k => .dct h (r (by rw [T.clean] at k; exact k))) (fun _ r k => .pin (r (by rw [T.clean] at k; exact k))) (fun _ _ _ k => by rw [T.clean] at k; cases k) (fun _ => .nil) (fun _ _ h r k => by rw [T.l0, anH] at k; exact .cons (h k.1) (r k.2)) (fun _ => .nil) (fun _ _ h r k => by rw [T.bR, anH] at k; exact .cons (h k.1) (r k.2)) (fun _ => .nil) (fun _ _ h r k => by rw [T.Ij, anH] at k; exact .cons (h k.1) (r k.2)) h k
theorem b8.back {W W' : Hp} {fp : List Addr} (S : b8 K CL b H Z δ σ ts vs) (hh : aL H H') (zw : aL Z W) (ww : aL W W') (wh : aL W' H') (new : ∀ a o, W' a = some o -> W a = none -> H a = none)
   (tp : ∀ a o, H' a = some o -> sC o = true -> W' a = some o) (r : bN K CL H' W' t v fp) (nd : fp.Nodup) (own : ∀ a ∈ fp, W' a = none /\ H a = none) (c : W = Z \/ t.clean = true) :
   ∃ Z', aL Z Z' /\ b8 K CL b H' Z' δ σ (t :: ts) (v :: vs) := by
 classical
 let Z' : Hp := fun a => if (H a).isSome = true then Z a else W' a
 have zs : ∀ {a : Addr} {o : HO}, H a = some o -> Z' a = Z a := fun {a o} e => by
   show (if (H a).isSome = true then Z a else W' a) = Z a
   rw [anu (by rw [e]; rfl)]
 have zn : ∀ {a : Addr}, H a = none -> Z' a = W' a := fun {a} e => by
   show (if (H a).isSome = true then Z a else W' a) = W' a
   rw [anm (by rw [e]; simp)]
 have sz : aL Z Z' := fun a o q => by rw [zs (S.zh a o q)]; exact q
 have zw' : ∀ a o, Z' a = some o -> W' a = some o := fun a o q => by
   cases e : H a with
   | none => rw [zn e] at q; exact q
   | some u => rw [zs e] at q; exact ww a o (zw a o q)
 have ztp : ∀ a o, H' a = some o -> sC o = true -> Z' a = some o := fun a o q i => by
   cases e : H a with
   | none => rw [zn e]; exact tp a o q i
   | some u =>
     rw [zs e]
     have := hh a u e
     rw [q] at this; cases this
     exact S.tp a o e i
 have r' : bN K CL H' Z' t v fp := by
   rcases c with c | c
   . have : Z' = W' := by
       funext a
       cases e : H a with
       | none => exact zn e
       | some u =>
         rw [zs e]
         cases q : W' a with
         | none =>
           cases q2 : Z a with
           | none => rfl
           | some o => rw [ww a o (zw a o q2)] at q; cases q
         | some o =>
           cases q2 : W a with
           | none => rw [new a o q q2] at e; cases e
           | some o2 =>
             have := ww a o2 q2
             rw [q] at this; cases this
             rw [← c]; exact q2
     rw [this]; exact r
   . refine bN.clean (fun a xs h => ?_) (fun {d v} k h => ?_) c r
     . exact ztp a _ (wh a _ h) rfl
     . exact bV.pC (H := H') ztp k (h.mono wh)
 obtain ⟨f0, g0, e0, r0, nd0, k0⟩ := S.rep
 have old : ∀ a ∈ f0 ++ g0, ∃ o, H a = some o := fun a ha => (ank.mp ha).elim (e0.there a) (r0.there a)
 have keep : ∀ a ∈ f0 ++ g0, H' a = H a := fun a ha => by
   obtain ⟨o, e⟩ := old a ha
   rw [e]; exact hh a o e
 refine ⟨Z', sz, ⟨⟨f0, fp ++ g0, e0.mono sz (fun a ha => keep a (anl _ ha)), .cons r' (r0.mono sz fun a ha => keep a (anf _ ha)), ?_, fun a ha => ?_⟩, S.bh.trans hh, S.zz.trans sz, fun a o q => wh a o (zw' a o q), fun a o q z => ?_, ztp, S.tab⟩⟩
 . have hp : (f0 ++ (fp ++ g0)).Perm (fp ++ (f0 ++ g0)) := by
     rw [← ani, ← ani]
     exact anY.append_right g0
   refine hp.nodup_iff.mpr (an5.mpr ⟨nd, nd0, fun a ha c hc e => ?_⟩)
   subst e
   obtain ⟨o, q⟩ := old a hc
   rw [(own a ha).2] at q; cases q
 . have : a ∈ f0 ++ g0 \/ a ∈ fp := by
     simp only [ank] at ha ⊢
     rcases ha with h | h | h
     . exact .inl (.inl h)
     . exact .inr h
     . exact .inl (.inr h)
   rcases this with h | h
   . obtain ⟨o, q⟩ := old a h
     exact ⟨by rw [zs q]; exact (k0 a h).1, (k0 a h).2⟩
   . exact ⟨by rw [zn (own a h).2]; exact (own a h).1, S.bh.free (own a h).2⟩
 . cases e : H a with
   | none => exact S.bh.free e
   | some u => rw [zs e] at q; exact S.new a o q z
end
section
variable {X : Cx} {CL : Str -> Addr} {b : Bx} {δ δ1 δ2 : List (Option T)} {e e1 e2 : Expr} {t : T} {d d1 d2 : D} {pos : Pos}
theorem acT (h : bZ X CL b e δ t δ1) : cy X CL b e δ t.gS δ1 := fun H Z σ ts vs Q S k => h H Z σ ts vs Q S fun v H' Z' z s S' => k v H' Z' z s S'.pop S'.view
theorem ah (h : bZ X CL b e δ (.sh d) δ1) : cy X CL b e δ d δ1 := by have := acT h; rwa [T.gS] at this
theorem aV (h : cy X CL b e δ d δ1) (i : d.pC = true) : bZ X CL b e δ (.sh d) δ1 := fun H Z σ ts vs Q S k => h H Z σ ts vs Q S fun v H' Z' z s S' r => k v H' Z' z s (S'.push (bV.pC S'.tp i r))
theorem Ek (h : bZ X CL b e δ t δ1) : bZ X CL b e δ (.sh t.gS) δ1 := fun H Z σ ts vs Q S k => h H Z σ ts vs Q S fun v H' Z' z s S' => by
 obtain ⟨Z2, z2, S2⟩ := S'.Xj
 exact k v H' Z2 (z.trans z2) s S2
theorem ao {i : Int} {j : Nat} : bZ X CL b (.Constant (.int i) j pos) δ (.sh (.int i)) δ := fun H Z σ ts vs Q S k => cG adF (k _ _ Z (.refl _) (.refl _) (S.push (.int i)))
theorem n6 {i : Bool} {j : Nat} : bZ X CL b (.Constant (.bool i) j pos) δ (.sh (.bl i)) δ := fun H Z σ ts vs Q S k => cG af6 (k _ _ Z (.refl _) (.refl _) (S.push (.bl i)))
theorem aB {x : Str} {j : Nat} : bZ X CL b (.Constant (.str x) j pos) δ (.sh (.str x)) δ := fun H Z σ ts vs Q S k => cG adG (k _ _ Z (.refl _) (.refl _) (S.push (.str x)))
section
variable (i : Nat) {x : Str} (hi : X.N[i]? = some x := by rfl) (hv : Vis X.env.scope x := by first | exact Or.inl rfl | exact Or.inr (Or.inl rfl) | exact Or.inr (Or.inr rfl)) (hd : (x == ("__debug__" : Str)) = false := by decide) (uF : (x == ("__classdict__" : Str)) = false := by decide)
include hi hv hd uF
theorem aer (h : δ[i]? = some (some (.sh d)) := by rfl) : bZ X CL b (.Name x pos) δ (.sh d) δ := fun H Z σ ts vs Q S k => by
 obtain ⟨v, e, r⟩ := S.Xk h
 exact cG (qZ hi hv hd uF) ⟨v, e, k v H Z (.refl _) (.refl _) (S.push r)⟩
theorem aaL (h : δ[i]? = some (some t) := by rfl) : bZ X CL b (.Name x pos) δ t (δ.set i none) := fun H Z σ ts vs Q S k => by
 obtain ⟨v, e, S'⟩ := S.move h
 exact cG (qZ hi hv hd uF) ⟨v, e, k v H Z (.refl _) (.refl _) S'⟩
theorem aes (h : δ[i]? = some (some t) := by rfl) : cy X CL b (.Name x pos) δ t.gS δ := fun H Z σ ts vs Q S k => by
 obtain ⟨v, e, r⟩ := S.look h
 exact cG (qZ hi hv hd uF) ⟨v, e, k v H Z (.refl _) (.refl _) S r⟩
end
noncomputable def scV : D -> Option V
 | .non => some .non
 | .bl b => some (.bl b)
 | .int i => some (.int i)
 | .str x => some (.str x)
 | _ => none
theorem bV.sc {K : PySem.W.Frag} {Z : Hp} {d : D} {v w : V} (r : bV K CL Z d v) (h : scV d = some w) : v = w := by
 cases r <;> first | (exact anA h) | (cases h)
theorem aaN {K : PySem.W.Frag} {Z : Hp} {d : D} {w : V} (h : scV d = some w) : bV K CL Z d w := by
 cases d <;> first | (cases h; constructor) | (cases h)
theorem uN {op : Operator} {r : R2} {w1 w2 w : V} (ho : wW X (binaryOp op) r) (h1 : cy X CL b e1 δ d1 δ1) (h2 : cy X CL b e2 δ1 d2 δ2) (s1 : scV d1 = some w1) (s2 : scV d2 = some w2) (s3 : scV d = some w)
   (hr : ∀ (H : Hp) (Q : VK), Q w H -> r w1 w2 H Q) : bZ X CL b (.BinOp e1 op e2 pos) δ (.sh d) δ2 := fun H Z σ ts vs Q S k => by
 refine cG (acJ ho cM cM) (h1 H Z σ ts vs _ S fun v1 H1 Z1 z1 k1 S1 r1 => h2 H1 Z1 σ ts vs _ S1 fun v2 H2 Z2 z2 k2 S2 r2 => ?_)
 rw [r1.sc s1, r2.sc s2]
 exact hr H2 Q (k w H2 Z2 (z1.trans z2) (k1.trans k2) (S2.push (aaN s3)))
theorem xq {i j : Int} (h1 : cy X CL b e1 δ (.int i) δ1) (h2 : cy X CL b e2 δ1 (.int j) δ2) : bZ X CL b (.BinOp e1 .Add e2 pos) δ (.sh (.int (i + j))) δ2 := uN ad2 h1 h2 rfl rfl rfl fun _ _ q => ⟨i, j, rfl, rfl, q⟩
theorem El {i j : Int} (h1 : cy X CL b e1 δ (.int i) δ1) (h2 : cy X CL b e2 δ1 (.int j) δ2) : bZ X CL b (.BinOp e1 .Sub e2 pos) δ (.sh (.int (i - j))) δ2 := uN ad3 h1 h2 rfl rfl rfl fun _ _ q => ⟨i, j, rfl, rfl, q⟩
theorem Xm {i j : Int} (h1 : cy X CL b e1 δ (.int i) δ1) (h2 : cy X CL b e2 δ1 (.int j) δ2) (c : aam i j) : bZ X CL b (.BinOp e1 .Mult e2 pos) δ (.sh (.int (i * j))) δ2 := uN ad4 h1 h2 rfl rfl rfl fun _ _ q => ⟨i, j, rfl, rfl, c, q⟩
theorem uO {i j : Int} (h1 : cy X CL b e1 δ (.int i) δ1) (h2 : cy X CL b e2 δ1 (.int j) δ2) (c : 0 < j) : bZ X CL b (.BinOp e1 .Mod e2 pos) δ (.sh (.int (i % j))) δ2 := uN ad5 h1 h2 rfl rfl rfl fun _ _ q => ⟨i, j, rfl, rfl, c, q⟩
theorem Ik {i j : Int} (h1 : cy X CL b e1 δ (.int i) δ1) (h2 : cy X CL b e2 δ1 (.int j) δ2) (c : agk i j) : bZ X CL b (.BinOp e1 .FloorDiv e2 pos) δ (.sh (.int (i / j))) δ2 := uN aan h1 h2 rfl rfl rfl fun _ _ q => ⟨i, j, rfl, rfl, c, q⟩
theorem Il {i j : Int} (h1 : cy X CL b e1 δ (.int i) δ1) (h2 : cy X CL b e2 δ1 (.int j) δ2) (c : agl i j) : bZ X CL b (.BinOp e1 .Pow e2 pos) δ (.sh (.int (i ^ j.toNat))) δ2 := uN ad6 h1 h2 rfl rfl rfl fun _ _ q => ⟨i, j, rfl, rfl, c, q⟩
theorem cZ {x y : Str} (h1 : cy X CL b e1 δ (.str x) δ1) (h2 : cy X CL b e2 δ1 (.str y) δ2) (c : x.length + y.length <= sizeLine) : bZ X CL b (.BinOp e1 .Add e2 pos) δ (.sh (.str (x ++ y))) δ2 := uN Oq h1 h2 rfl rfl rfl fun _ _ q => ⟨x, y, rfl, rfl, c, q⟩
theorem uP {op : CmpOp} {r : R2} {p : Bool} {w1 w2 : V} (ho : wW X (compareOp op) r) (h1 : cy X CL b e1 δ d1 δ1) (h2 : cy X CL b e2 δ1 d2 δ2) (s1 : scV d1 = some w1) (s2 : scV d2 = some w2)
   (hr : ∀ (H : Hp) (Q : VK), Q (.bl p) H -> r w1 w2 H Q) (hm : behindInMarks op e2 = false) : uG X CL b (.Compare e1 [op] [e2] pos) δ p δ2 /\ bZ X CL b (.Compare e1 [op] [e2] pos) δ (.sh (.bl p)) δ2 := by
 constructor
 . intro H Z σ ts vs Q S k
   refine GN (yC ho cM cM hm) (h1 H Z σ ts vs _ S fun v1 H1 Z1 z1 k1 S1 r1 => h2 H1 Z1 σ ts vs _ S1 fun v2 H2 Z2 z2 k2 S2 r2 => ?_)
   rw [r1.sc s1, r2.sc s2]
   exact hr H2 _ ⟨p, rfl, k H2 Z2 (z1.trans z2) (k1.trans k2) S2⟩
 . intro H Z σ ts vs Q S k
   refine cG (yz ho cM cM hm) (h1 H Z σ ts vs _ S fun v1 H1 Z1 z1 k1 S1 r1 => h2 H1 Z1 σ ts vs _ S1 fun v2 H2 Z2 z2 k2 S2 r2 => ?_)
   rw [r1.sc s1, r2.sc s2]
   exact hr H2 _ (k _ H2 Z2 (z1.trans z2) (k1.trans k2) (S2.push (.bl p)))
theorem agL {w1 w2 : V} (h1 : cy X CL b e1 δ d1 δ1) (h2 : cy X CL b e2 δ1 d2 δ2) (s1 : scV d1 = some w1) (s2 : scV d2 = some w2) (sc : ad8 w1 w2 = true) :
   uG X CL b (.Compare e1 [.Eq] [e2] pos) δ (decide (w1 = w2)) δ2 /\ bZ X CL b (.Compare e1 [.Eq] [e2] pos) δ (.sh (.bl (decide (w1 = w2)))) δ2 := uP WO h1 h2 s1 s2 (fun _ _ q => ⟨sc, q⟩) (sy _)
theorem dO {i j : Int} (h1 : cy X CL b e1 δ (.int i) δ1) (h2 : cy X CL b e2 δ1 (.int j) δ2) : uG X CL b (.Compare e1 [.Eq] [e2] pos) δ (decide (i = j)) δ2 /\ bZ X CL b (.Compare e1 [.Eq] [e2] pos) δ (.sh (.bl (decide (i = j)))) δ2 :=
 uP WO h1 h2 rfl rfl (fun _ _ q => ⟨rfl, by rw [show decide (V.int i = V.int j) = decide (i = j) by simp]; exact q⟩) (sy _)
theorem nO {i j : Int} (h1 : cy X CL b e1 δ (.int i) δ1) (h2 : cy X CL b e2 δ1 (.int j) δ2) : uG X CL b (.Compare e1 [.NotEq] [e2] pos) δ (!decide (i = j)) δ2 /\ bZ X CL b (.Compare e1 [.NotEq] [e2] pos) δ (.sh (.bl (!decide (i = j)))) δ2 :=
 uP WQ h1 h2 rfl rfl (fun _ _ q => ⟨rfl, by rw [show decide (V.int i = V.int j) = decide (i = j) by simp]; exact q⟩) (sy _)
theorem bB {i j : Str} (h1 : cy X CL b e1 δ (.str i) δ1) (h2 : cy X CL b e2 δ1 (.str j) δ2) : uG X CL b (.Compare e1 [.Eq] [e2] pos) δ (decide (i = j)) δ2 /\ bZ X CL b (.Compare e1 [.Eq] [e2] pos) δ (.sh (.bl (decide (i = j)))) δ2 :=
 uP WO h1 h2 rfl rfl (fun _ _ q => ⟨rfl, by rw [show decide (V.str i = V.str j) = decide (i = j) by simp]; exact q⟩) (sy _)
theorem Im {i j : Str} (h1 : cy X CL b e1 δ (.str i) δ1) (h2 : cy X CL b e2 δ1 (.str j) δ2) : uG X CL b (.Compare e1 [.NotEq] [e2] pos) δ (!decide (i = j)) δ2 /\ bZ X CL b (.Compare e1 [.NotEq] [e2] pos) δ (.sh (.bl (!decide (i = j)))) δ2 :=
 uP WQ h1 h2 rfl rfl (fun _ _ q => ⟨rfl, by rw [show decide (V.str i = V.str j) = decide (i = j) by simp]; exact q⟩) (sy _)
theorem acU {i j : Int} (h1 : cy X CL b e1 δ (.int i) δ1) (h2 : cy X CL b e2 δ1 (.int j) δ2) : uG X CL b (.Compare e1 [.Lt] [e2] pos) δ (decide (i < j)) δ2 /\ bZ X CL b (.Compare e1 [.Lt] [e2] pos) δ (.sh (.bl (decide (i < j)))) δ2 := uP R7 h1 h2 rfl rfl (fun _ _ q => ⟨i, j, rfl, rfl, q⟩) (sy _)
theorem acV {i j : Int} (h1 : cy X CL b e1 δ (.int i) δ1) (h2 : cy X CL b e2 δ1 (.int j) δ2) : uG X CL b (.Compare e1 [.LtE] [e2] pos) δ (decide (i <= j)) δ2 /\ bZ X CL b (.Compare e1 [.LtE] [e2] pos) δ (.sh (.bl (decide (i <= j)))) δ2 := uP acK h1 h2 rfl rfl (fun _ _ q => ⟨i, j, rfl, rfl, q⟩) (sy _)
theorem Em {i j : Int} (h1 : cy X CL b e1 δ (.int i) δ1) (h2 : cy X CL b e2 δ1 (.int j) δ2) : uG X CL b (.Compare e1 [.Gt] [e2] pos) δ (decide (j < i)) δ2 /\ bZ X CL b (.Compare e1 [.Gt] [e2] pos) δ (.sh (.bl (decide (j < i)))) δ2 := uP agm h1 h2 rfl rfl (fun _ _ q => ⟨i, j, rfl, rfl, q⟩) (sy _)
end
section
variable {K : PySem.W.Frag} {CL : Str -> Addr} {H Z : Hp}
theorem bA.split : ∀ {as bs : List T} {us ws : List V} {gp : List Addr}, as.length = us.length -> bA K CL H Z (as ++ bs) (us ++ ws) gp -> ∃ g1 g2, gp = g1 ++ g2 /\ bA K CL H Z as us g1 /\ bA K CL H Z bs ws g2
 | [], _, [], _, gp, _, r => ⟨[], gp, rfl, .nil, r⟩
 | [], _, _ :: _, _, _, h, _ => by simp at h
 | _ :: _, _, [], _, _, h, _ => by simp at h
 | a :: as, bs, u :: us, ws, gp, h, r => by
   cases r with
   | @cons _ _ _ _ f1 f2 r1 r2 =>
     obtain ⟨g1, g2, e, h1, h2⟩ := bA.split (as := as) (us := us) (by simpa using h) r2
     exact ⟨f1 ++ g1, g2, by rw [e, ani], .cons r1 h1, h2⟩
theorem bA.app {as bs : List T} {us ws : List V} {g1 g2 : List Addr} (h : bA K CL H Z as us g1) (q : bA K CL H Z bs ws g2) : bA K CL H Z (as ++ bs) (us ++ ws) (g1 ++ g2) :=
 bA.ind (P := fun as us g1 => bA K CL H Z (as ++ bs) (us ++ ws) (g1 ++ g2)) q (fun r _ i => by rw [ani]; exact .cons r i) h
theorem bA.rev : ∀ {as : List T} {us : List V} {g : List Addr}, bA K CL H Z as.reverse us.reverse g -> ∃ g', bA K CL H Z as us g' /\ g'.Perm g
 | [], [], g, r => by
   have r' : bA K CL H Z [] [] g := r
   cases r'
   exact ⟨[], .nil, ao7 _⟩
 | [], u :: us, g, r => by have := r.length; simp at this
 | a :: as, [], g, r => by have := r.length; simp at this
 | a :: as, u :: us, g, r => by
   rw [aoI, aoI] at r
   have hl := r.length
   obtain ⟨g1, g2, e, r1, r2⟩ := bA.split (by simp at hl ⊢; omega) r
   subst e
   obtain ⟨g', r', p⟩ := bA.rev r1
   cases r2 with
   | @cons _ _ _ _ f1 f2 q1 q2 =>
     cases q2
     refine ⟨f1 ++ g', .cons q1 r', ?_⟩
     rw [anL]
     exact (anU f1 p).trans anY
theorem oh : ∀ (ds : List D), T.rH (ds.map T.sh) = ds
 | [] => rfl
 | d :: ds => by rw [anD, T.rH, oh ds, T.gS]
end
section
variable {K : PySem.W.Frag} {CL : Str -> Addr} {b : Bx} {H Z : Hp} {δ : List (Option T)} {σ : L2.St} {ts tl : List T} {vs us : List V}
theorem b8.OL {p : Addr} (S : b8 K CL b H Z δ σ (tl.reverse ++ ts) (us.reverse ++ vs)) (hl : us.length = tl.length) (hp : H p = none) :
   aL Z (upd Z p (.tup us)) /\ aL H (upd H p (.tup us)) /\ b8 K CL b (upd H p (.tup us)) (upd Z p (.tup us)) δ σ (.tup tl :: ts) (.ref p :: vs) := by
 obtain ⟨fp, gp, e, r, nd, k⟩ := S.rep
 obtain ⟨g1, g2, eg, r1, r2⟩ := bA.split (by simp [hl]) r
 subst eg
 obtain ⟨g', r', pm⟩ := r1.rev
 have zp : Z p = none := S.zh.free hp
 have sz : aL Z (upd Z p (.tup us)) := aL.upd zp
 have sh : aL H (upd H p (.tup us)) := aL.upd hp
 have keep : ∀ a ∈ fp ++ (g1 ++ g2), a ≠ p := fun a ha => by
   have : ∃ o, H a = some o := by
     rcases ank.mp ha with h | h
     . exact e.there a h
     . exact r.there a h
   obtain ⟨o, q⟩ := this
   exact bQ q hp
 have pm2 : (fp ++ (g' ++ g2)).Perm (fp ++ (g1 ++ g2)) := (pm.append_right g2).append_left fp
 have kk : ∀ a ∈ fp ++ (g' ++ g2), a ≠ p := fun a ha => keep a (pm2.mem_iff.mp ha)
 refine ⟨sz, sh, ⟨⟨fp, g' ++ g2, e.mono sz (fun a ha => aD (keep a (anl _ ha))), .cons (.tup bx (r'.mono sz fun a ha => aD (kk a (by simp [ha])))) (r2.mono sz fun a ha => aD (keep a (by simp [ha]))), pm2.nodup_iff.mpr nd, fun a ha => ?_⟩, S.bh.trans sh, S.zz.trans sz, fun a o q => ?_, fun a o q z => ?_, fun a o q i => ?_, S.tab⟩⟩
 . exact ⟨by rw [aD (kk a ha)]; exact (k a (pm2.mem_iff.mp ha)).1, (k a (pm2.mem_iff.mp ha)).2⟩
 . by_cases ha : a = p
   . subst ha; rw [bx] at q ⊢; exact q
   . rw [aD ha] at q ⊢; exact S.zh a o q
 . by_cases ha : a = p
   . subst ha; exact S.bh.free hp
   . rw [aD ha] at q; exact S.new a o q z
 . by_cases ha : a = p
   . subst ha; rw [bx] at q ⊢; exact q
   . rw [aD ha] at q ⊢; exact S.tp a o q i
theorem b8.En {p : Addr} {g0 : List Addr} (S : b8 K CL b H Z δ σ (tl.reverse ++ ts) (us.reverse ++ vs)) (hl : us.length = tl.length) (hp : H p = none) :
   aL H (upd H p (.lst us)) /\ b8 K CL b (upd H p (.lst us)) Z δ σ (.lst tl :: ts) (.ref p :: vs) := by
 obtain ⟨fp, gp, e, r, nd, k⟩ := S.rep
 obtain ⟨g1, g2, eg, r1, r2⟩ := bA.split (by simp [hl]) r
 subst eg
 obtain ⟨g', r', pm⟩ := r1.rev
 have zp : Z p = none := S.zh.free hp
 have sh : aL H (upd H p (.lst us)) := aL.upd hp
 have keep : ∀ a ∈ fp ++ (g1 ++ g2), a ≠ p := fun a ha => by
   have : ∃ o, H a = some o := by
     rcases ank.mp ha with h | h
     . exact e.there a h
     . exact r.there a h
   obtain ⟨o, q⟩ := this
   exact bQ q hp
 have pm2 : (fp ++ (g' ++ g2)).Perm (fp ++ (g1 ++ g2)) := (pm.append_right g2).append_left fp
 have kk : ∀ a ∈ fp ++ (g' ++ g2), a ≠ p := fun a ha => keep a (pm2.mem_iff.mp ha)
 have pm3 : (fp ++ ((p :: g') ++ g2)).Perm (p :: (fp ++ (g' ++ g2))) := by
   rw [anK]; exact aoh
 refine ⟨sh, ⟨⟨fp, (p :: g') ++ g2, e.mono (.refl _) (fun a ha => aD (keep a (anl _ ha))), .cons (.lst bx (r'.mono (.refl _) fun a ha => aD (kk a (by simp [ha])))) (r2.mono (.refl _) fun a ha => aD (keep a (by simp [ha]))), ?_, fun a ha => ?_⟩, S.bh.trans sh, S.zz, S.zh.trans sh, S.new, fun a o q i => ?_, S.tab⟩⟩
 . refine pm3.nodup_iff.mpr (an2.mpr ⟨fun h => kk p h rfl, pm2.nodup_iff.mpr nd⟩)
 . rcases ane.mp (pm3.mem_iff.mp ha) with h | h
   . subst h; exact ⟨zp, S.bh.free hp⟩
   . exact k a (pm2.mem_iff.mp h)
 . by_cases ha : a = p
   . subst ha; rw [bx] at q; cases q; cases i
   . rw [aD ha] at q; exact S.tp a o q i
end
section
variable {X : Cx} {CL : Str -> Addr} {b : Bx} {δ δ1 δ2 : List (Option T)} {e e1 e2 : Expr} {es : List Expr} {t : T} {d : D} {tl : List T} {ds : List D} {p q : Bool} {pos : Pos}
theorem cL : OJ X CL b [] δ [] δ := fun H Z σ ts vs Q S k => Ur cK (k [] H Z rfl (.refl _) (.refl _) S)
theorem aY (h1 : bZ X CL b e δ t δ1) (h2 : OJ X CL b es δ1 tl δ2) (hs : starEach (e :: es) X.env = (false, eval e X.env) :: starEach es X.env := by exact bG rfl) : OJ X CL b (e :: es) δ (t :: tl) δ2 := fun H Z σ ts vs Q S k =>
 Ur (bI cM paS hs) (h1 H Z σ ts vs _ S fun v H1 Z1 z1 k1 S1 => h2 H1 Z1 σ _ _ _ S1 fun us H2 Z2 hl z2 k2 S2 => k (v :: us) H2 Z2 (by simp [hl]) (z1.trans z2) (k1.trans k2) (by
   rw [aoI, aoI, ani, ani]
   exact S2))
theorem aC : BAv X CL b [] δ [] δ := fun H Z σ ts vs Q S k => Ur cK (k [] H Z (.refl _) (.refl _) S .nil)
theorem ai (h1 : cy X CL b e δ d δ1) (h2 : BAv X CL b es δ1 ds δ2) (hs : starEach (e :: es) X.env = (false, eval e X.env) :: starEach es X.env := by exact bG rfl) : BAv X CL b (e :: es) δ (d :: ds) δ2 := fun H Z σ ts vs Q S k =>
 Ur (bI cM paS hs) (h1 H Z σ ts vs _ S fun v H1 Z1 z1 k1 S1 r1 => h2 H1 Z1 σ _ _ _ S1 fun us H2 Z2 z2 k2 S2 r2 => k (v :: us) H2 Z2 (z1.trans z2) (k1.trans k2) S2 (.cons (r1.mono k2) r2))
theorem aeu {j : Nat} (h : OJ X CL b es δ tl δ1) (hl : tl.length <= sizeLine) : bZ X CL b (.Tuple es j pos) δ (.tup tl) δ1 := fun H Z σ ts vs Q S k =>
 cG (aeb paS) (h H Z σ ts vs _ S fun us H1 Z1 hu z1 k1 S1 => ⟨by rw [hu]; exact hl, fun p hp => by
   obtain ⟨a, c, S2⟩ := S1.OL hu hp
   exact k _ _ _ (z1.trans a) (k1.trans c) S2⟩)
theorem cN {j : Nat} (h : OJ X CL b es δ (ds.map T.sh) δ1) (hl : ds.length <= sizeLine) : bZ X CL b (.Tuple es j pos) δ (.sh (.tup ds)) δ1 := by
 have := Ek (aeu (pos := pos) (j := j) h (by simpa using hl))
 rwa [T.gS, oh] at this
theorem mh (h : OJ X CL b es δ tl δ1) (hl : tl.length <= sizeLine) : bZ X CL b (.List es pos) δ (.lst tl) δ1 := fun H Z σ ts vs Q S k =>
 cG (aec paS) (h H Z σ ts vs _ S fun us H1 Z1 hu z1 k1 S1 => ⟨by rw [hu]; exact hl, fun p hp => by
   obtain ⟨c, S2⟩ := S1.En (g0 := []) hu hp
   exact k _ _ _ z1 (k1.trans c) S2⟩)
theorem eo (h : bZ X CL b e δ (.sh (.bl p)) δ1) (he : ∀ whole, isTrue e X.env whole = (do let v ← whole; standAt e.pos; holding [v] (truthy v)) := by intro _; rfl) : uG X CL b e δ p δ1 := fun H Z σ ts vs Q S k =>
 GN (adJ cM he) (h H Z σ ts vs _ S fun v H1 Z1 z1 k1 S1 => ⟨p, by have := S1.view; rw [T.gS] at this; exact this.sc rfl, k H1 Z1 z1 k1 S1.pop⟩)
theorem fN (h : uG X CL b e δ p δ1) : uG X CL b (.UnaryOp .Not e pos) δ (!p) δ1 := fun H Z σ ts vs Q S k => GN (adM ptS) (h H Z σ ts vs _ S fun H1 Z1 z1 k1 S1 => k H1 Z1 z1 k1 S1)
noncomputable def aev (X : Cx) (e : Expr) : TT := fun σ H Q => ∀ (whole : Sem Value) (pins : List (Addr × Obj)) (s : Shared), Inv X pins σ H s -> wpAny (model X.prog X.w) X.A (isTrue e X.env whole) (TP X pins σ Q) X.xe s
theorem pwS {e : Expr} : PW X e (aev X e) := fun whole pins s _ _ _ I h => h whole pins s I
noncomputable def TWv (X : Cx) (CL : Str -> Addr) (b : Bx) (e : Expr) (δ : List (Option T)) (p : Bool) (δ' : List (Option T)) : Prop :=
 ∀ (H Z : Hp) (σ : L2.St) (ts : List T) (vs : List V) (Q : Bool -> Hp -> Prop), b8 X.K CL b H Z δ σ ts vs -> (∀ H' Z', aL Z Z' -> aL H H' -> b8 X.K CL b H' Z' δ' σ ts vs -> Q p H') -> aev X e σ H Q
theorem aaO {t : TT} (h : PW X e t) {σ : L2.St} {H : Hp} {Q : Bool -> Hp -> Prop} (q : t σ H Q) : aev X e σ H Q := fun whole pins s I => h whole pins s σ H Q I q
theorem kQ (h : TWv X CL b e δ p δ1) : uG X CL b e δ p δ1 := fun H Z σ ts vs Q S k pins s I => h H Z σ ts vs Q S k _ pins s I
theorem yJ (h : uG X CL b e δ p δ1) : TWv X CL b (.BoolOp .And [e] pos) δ p δ1 := fun H Z σ ts vs Q S k => aaO (aag ptS) (h H Z σ ts vs _ S k)
theorem j6 (h : uG X CL b e δ p δ1) : TWv X CL b (.BoolOp .Or [e] pos) δ p δ1 := fun H Z σ ts vs Q S k => aaO (adK ptS) (h H Z σ ts vs _ S k)
theorem kR (h : uG X CL b e δ p δ1) (h2 : p = true -> TWv X CL b (.BoolOp .And (e2 :: es) pos) δ1 q δ1) : TWv X CL b (.BoolOp .And (e :: e2 :: es) pos) δ (p && q) δ1 := fun H Z σ ts vs Q S k =>
 aaO (adL ptS pwS) (h H Z σ ts vs _ S fun H1 Z1 z1 k1 S1 => by
   cases p with
   | true => exact OG (h2 rfl H1 Z1 σ ts vs _ S1 fun H2 Z2 z2 k2 S2 => k H2 Z2 (z1.trans z2) (k1.trans k2) S2)
   | false => exact OD (k H1 Z1 z1 k1 S1))
theorem kC (h : uG X CL b e δ p δ1) (h2 : p = false -> TWv X CL b (.BoolOp .Or (e2 :: es) pos) δ1 q δ1) : TWv X CL b (.BoolOp .Or (e :: e2 :: es) pos) δ (p || q) δ1 := fun H Z σ ts vs Q S k =>
 aaO (af7 ptS pwS) (h H Z σ ts vs _ S fun H1 Z1 z1 k1 S1 => by
   cases p with
   | true => exact OG (k H1 Z1 z1 k1 S1)
   | false => exact OD (h2 rfl H1 Z1 σ ts vs _ S1 fun H2 Z2 z2 k2 S2 => k H2 Z2 (z1.trans z2) (k1.trans k2) S2))
theorem j7 {op : BoolOp} (h : bZ X CL b e δ t δ1) : bZ X CL b (.BoolOp op [e] pos) δ t δ1 := fun H Z σ ts vs Q S k => cG (adN cM) (h H Z σ ts vs _ S k)
theorem j8 (h : bZ X CL b e δ (.sh (.bl p)) δ1) (h2 : p = true -> bZ X CL b (.BoolOp .And (e2 :: es) pos) δ1 (.sh (.bl q)) δ1) : bZ X CL b (.BoolOp .And (e :: e2 :: es) pos) δ (.sh (.bl (p && q))) δ1 := fun H Z σ ts vs Q S k =>
 cG (adO cM cM) (h H Z σ ts vs _ S fun v H1 Z1 z1 k1 S1 => by
   have hv : v = .bl p := by have := S1.view; rw [T.gS] at this; exact this.sc rfl
   refine ⟨p, hv, ?_⟩
   cases p with
   | true => exact OG (h2 rfl H1 Z1 σ ts vs _ S1.pop fun v H2 Z2 z2 k2 S2 => k v H2 Z2 (z1.trans z2) (k1.trans k2) S2)
   | false => exact OD (k _ H1 Z1 z1 k1 (S1.pop.push (.bl false))))
theorem acX (h : bZ X CL b e δ (.sh (.bl p)) δ1) (h2 : p = false -> bZ X CL b (.BoolOp .Or (e2 :: es) pos) δ1 (.sh (.bl q)) δ1) : bZ X CL b (.BoolOp .Or (e :: e2 :: es) pos) δ (.sh (.bl (p || q))) δ1 := fun H Z σ ts vs Q S k =>
 cG (aga cM cM) (h H Z σ ts vs _ S fun v H1 Z1 z1 k1 S1 => by
   have hv : v = .bl p := by have := S1.view; rw [T.gS] at this; exact this.sc rfl
   refine ⟨p, hv, ?_⟩
   cases p with
   | true => exact OG (k _ H1 Z1 z1 k1 (S1.pop.push (.bl true)))
   | false => exact OD (h2 rfl H1 Z1 σ ts vs _ S1.pop fun v H2 Z2 z2 k2 S2 => k v H2 Z2 (z1.trans z2) (k1.trans k2) S2))
theorem Xn (h : bZ X CL b e δ (.sh (.bl p)) δ1) : bZ X CL b (.UnaryOp .Not e pos) δ (.sh (.bl (!p))) δ1 := fun H Z σ ts vs Q S k =>
 cG (L2.adP cM) (h H Z σ ts vs _ S fun v H1 Z1 z1 k1 S1 => ⟨p, by have := S1.view; rw [T.gS] at this; exact this.sc rfl, k _ H1 Z1 z1 k1 (S1.pop.push (.bl (!p)))⟩)
theorem rg (h : uG X CL b e δ p δ1) (h1 : p = true -> bZ X CL b e1 δ1 t δ2) (h2 : p = false -> bZ X CL b e2 δ1 t δ2) : bZ X CL b (.IfExp e e1 e2 pos) δ t δ2 := fun H Z σ ts vs Q S k =>
 cG (WH ptS cM cM) (h H Z σ ts vs _ S fun H1 Z1 z1 k1 S1 => by
   cases p with
   | true => exact OG (h1 rfl H1 Z1 σ ts vs _ S1 fun v H2 Z2 z2 k2 S2 => k v H2 Z2 (z1.trans z2) (k1.trans k2) S2)
   | false => exact OD (h2 rfl H1 Z1 σ ts vs _ S1 fun v H2 Z2 z2 k2 S2 => k v H2 Z2 (z1.trans z2) (k1.trans k2) S2))
theorem Io {K : PySem.W.Frag} {Z : Hp} {vs : List V} {k : Int} (r : aI K CL Z ds vs) (h : Ed ds k = some d) : ∃ v, Ed vs k = some v /\ bV K CL Z d v := by
 unfold Ed at h ⊢
 rw [← r.length]
 cases e : ixN ds.length k with
 | none => rw [e] at h; cases h
 | some j =>
   rw [e] at h
   exact r.get h
theorem az {k : Int} (h1 : cy X CL b e1 δ (.tup ds) δ1) (h2 : cy X CL b e2 δ1 (.int k) δ2) (hk : Ed ds k = some d) (hs : sA e2 := by exact fun _ _ => rfl) : cy X CL b (.Subscript e1 e2 pos) δ d δ2 := fun H Z σ ts vs Q S kk =>
 cG (Hf W5 cM cM hs) (h1 H Z σ ts vs _ S fun v1 H1 Z1 z1 k1 S1 r1 => h2 H1 Z1 σ ts vs _ S1 fun v2 H2 Z2 z2 k2 S2 r2 => by
   have r1' := r1.mono k2
   cases r1' with
   | tup hq rr =>
     obtain ⟨v, hv, rv⟩ := Io rr hk
     exact ⟨_, _, k, v, rfl, r2.sc rfl, hq, hv, kk v H2 Z2 (z1.trans z2) (k1.trans k2) S2 rv⟩)
theorem bO {k : Int} (h1 : cy X CL b e1 δ (.lst ds) δ1) (h2 : cy X CL b e2 δ1 (.int k) δ2) (hk : Ed ds k = some d) (hs : sA e2 := by exact fun _ _ => rfl) : cy X CL b (.Subscript e1 e2 pos) δ d δ2 := fun H Z σ ts vs Q S kk =>
 cG (Hf Ic cM cM hs) (h1 H Z σ ts vs _ S fun v1 H1 Z1 z1 k1 S1 r1 => h2 H1 Z1 σ ts vs _ S1 fun v2 H2 Z2 z2 k2 S2 r2 => by
   have r1' := r1.mono k2
   cases r1' with
   | lst hq rr =>
     obtain ⟨v, hv, rv⟩ := Io rr hk
     exact ⟨_, _, k, v, rfl, r2.sc rfl, hq, hv, kk v H2 Z2 (z1.trans z2) (k1.trans k2) S2 rv⟩)
theorem Ip {k : Int} {x : Str} {c : Nat} (h1 : cy X CL b e1 δ (.str x) δ1) (h2 : cy X CL b e2 δ1 (.int k) δ2) (hl : x.length <= sizeLine) (hk : Ed x.cps.toList k = some c) (hs : sA e2 := by exact fun _ _ => rfl) : bZ X CL b (.Subscript e1 e2 pos) δ (.sh (.str ⟨#[c]⟩)) δ2 := fun H Z σ ts vs Q S kk =>
 cG (Hf aef cM cM hs) (h1 H Z σ ts vs _ S fun v1 H1 Z1 z1 k1 S1 r1 => h2 H1 Z1 σ ts vs _ S1 fun v2 H2 Z2 z2 k2 S2 r2 =>
   ⟨x, k, c, r1.sc rfl, r2.sc rfl, hl, hk, kk _ H2 Z2 (z1.trans z2) (k1.trans k2) (S2.push (.str _))⟩)
theorem Xo {k : Int} (h1 : bZ X CL b e1 δ (.sh (.tup ds)) δ1) (h2 : cy X CL b e2 δ1 (.int k) δ2) (hk : Ed ds k = some d) (hs : sA e2 := by exact fun _ _ => rfl) : bZ X CL b (.Subscript e1 e2 pos) δ (.sh d) δ2 := fun H Z σ ts vs Q S kk =>
 cG (Hf W5 cM cM hs) (h1 H Z σ ts vs _ S fun v1 H1 Z1 z1 k1 S1 => h2 H1 Z1 σ _ _ _ S1 fun v2 H2 Z2 z2 k2 S2 r2 => by
   obtain ⟨fp, gp, _, r, _, _⟩ := S2.rep
   cases r with
   | cons r _ =>
     cases r with
     | sh r =>
       cases r with
       | tup hq rr =>
         obtain ⟨v, hv, rv⟩ := Io rr hk
         exact ⟨_, _, k, v, rfl, r2.sc rfl, aL.sqT S2.zh hq, hv, kk v H2 Z2 (z1.trans z2) (k1.trans k2) (S2.pop.push rv)⟩)
end
section
variable {K : PySem.W.Frag} {CL : Str -> Addr} {b : Bx} {H Z : Hp} {δ : List (Option T)} {σ : L2.St} {ts : List T} {vs us : List V} {t : T} {v : V}
theorem b8.Eo : ∀ {ds : List D} {us : List V} {ts : List T} {vs : List V}, aI K CL Z ds us -> b8 K CL b H Z δ σ ts vs -> b8 K CL b H Z δ σ ((ds.map T.sh).reverse ++ ts) (us.reverse ++ vs)
 | _, _, _, _, .nil, S => S
 | _, _, ts, vs, .cons (d := d) (v := v) (ds := ds) (vs := us) r t, S => by
   rw [anD, aoI, aoI, ani, ani]
   exact b8.Eo t (S.push r)
end
section
variable {X : Cx} {CL : Str -> Addr} {b : Bx} {δ δ1 : List (Option T)} {e : Expr} {es : List Expr} {t : T} {ds : List D} {p q : Bool} {pos pp : Pos}
theorem yK (hm : X.mg "len" = none) (h : cy X CL b e δ (.lst ds) δ1) (hg : Gl X "len" := by rfl) (hs : starEach [e] X.env = (false, eval e X.env) :: starEach [] X.env := by exact bG rfl) (GH : (backTo pos (starEach ([] : List Expr) X.env)).any (·.1) = false := by rfl) : bZ X CL b (.Call (.Name "len" pp) [e] [] pos) δ (.sh (.int ds.length)) δ1 := fun H Z σ ts vs Q S k =>
 cG (rK yF hg hm PySem.boot_len (bI cM cK hs) (he := hs)) (h H Z σ ts vs _ S fun v H1 Z1 z1 k1 S1 r => by
   cases r with
   | lst hq rr => exact ⟨_, _, rfl, .inl hq, by rw [← rr.length]; exact k _ H1 Z1 z1 k1 (S1.push (.int _))⟩)
theorem Iq (hm : X.mg "len" = none) (h : cy X CL b e δ (.tup ds) δ1) (hg : Gl X "len" := by rfl) (hs : starEach [e] X.env = (false, eval e X.env) :: starEach [] X.env := by exact bG rfl) : bZ X CL b (.Call (.Name "len" pp) [e] [] pos) δ (.sh (.int ds.length)) δ1 := fun H Z σ ts vs Q S k =>
 cG (rK yF hg hm PySem.boot_len (bI cM cK hs) (he := hs)) (h H Z σ ts vs _ S fun v H1 Z1 z1 k1 S1 r => by
   cases r with
   | tup hq rr => exact ⟨_, _, rfl, .inr hq, by rw [← rr.length]; exact k _ H1 Z1 z1 k1 (S1.push (.int _))⟩)
theorem DK {x : Str} (hm : X.mg "len" = none) (h : cy X CL b e δ (.str x) δ1) (hl : x.length <= sizeLine) (hg : Gl X "len" := by rfl) (hs : starEach [e] X.env = (false, eval e X.env) :: starEach [] X.env := by exact bG rfl) : bZ X CL b (.Call (.Name "len" pp) [e] [] pos) δ (.sh (.int x.length)) δ1 := fun H Z σ ts vs Q S k =>
 cG (rK Ig hg hm PySem.boot_len (bI cM cK hs) (he := hs)) (h H Z σ ts vs _ S fun v H1 Z1 z1 k1 S1 r => ⟨x, by rw [r.sc rfl], hl, k _ H1 Z1 z1 k1 (S1.push (.int _))⟩)
theorem nj (hm : X.mg "list" = none) (h : cy X CL b e δ (.lst ds) δ1) (hi : D.cP ds = true) (hg : Gl X "list" := by rfl) (hv : bootBuiltins "list" = some (.type "list") := by rfl) (hs : starEach [e] X.env = (false, eval e X.env) :: starEach [] X.env := by exact bG rfl) : bZ X CL b (.Call (.Name "list" pp) [e] [] pos) δ (.lst (ds.map T.sh)) δ1 := fun H Z σ ts vs Q S k =>
 cG (o8 Ih hg hm hv (bI cM cK hs) (he := hs)) (h H Z σ ts vs _ S fun v H1 Z1 z1 k1 S1 r => by
   cases r with
   | lst hq rr =>
     refine ⟨_, _, rfl, .inl hq, fun l hl => ?_⟩
     obtain ⟨c, S2⟩ := (b8.Eo (aI.pC S1.tp hi rr) S1).En (g0 := []) (by simp [rr.length]) hl
     exact k _ _ _ z1 (k1.trans c) S2)
noncomputable def Us (K : PySem.W.Frag) (CL : Str -> Addr) {A : Type} (n : Nat) (arg : A -> List D) (Pre : A -> Prop) (res : A -> T) : Sp := fun vs H Q _ =>
 ∃ (W : Hp) (a : A), aL W H /\ (∀ c o, H c = some o -> sC o = true -> W c = some o) /\ aI K CL W (arg a) vs /\ (arg a).length = n /\ Pre a /\ uM CL W ∧
   ∀ v H' W' fp, aL H H' -> aL W W' -> aL W' H' -> (∀ c o, W' c = some o -> W c = none -> H c = none) -> (∀ c o, H' c = some o -> sC o = true -> W' c = some o) →
     bN K CL H' W' (res a) v fp -> fp.Nodup -> (∀ c ∈ fp, W' c = none /\ H c = none) -> Q v H'
section
variable {A : Type} {k n : Nat} {f : Addr} {fd : FuncData} {ps : List Str} {arg : A -> List D} {Pre : A -> Prop} {res : A -> T} {x : Str}
theorem aaP (a : A) (F : lY X.prog X.w X.K X.mg X.base DJ k f fd ps (Us X.K CL n arg Pre res)) (hr : kO k X.A) (hm : X.mg x = some (.ref f)) (hk : PySem.W.keepIn X.K (.ref f) = true) (hb : Binds X.K fd ps [])
   (h : BAv X CL b (e :: es) δ (arg a) δ1) (hn : (arg a).length = n) (hp : Pre a) (hc : (res a).clean = true) (hg : Gl X x)
   (KW : (x == ("__debug__" : Str)) = false := by decide) (he : starEach (e :: es) X.env = (false, eval e X.env) :: starEach es X.env := by exact bG rfl) (GH : (backTo pos (starEach es X.env)).any (·.1) = false := by rfl) :
   bZ X CL b (.Call (.Name x pp) (e :: es) [] pos) δ (res a) δ1 := fun H Z σ ts vs Q S kk =>
 cG (aaq F hr hg hm hk hb .nil Xa paS KW he GH) (h H Z σ ts vs _ S fun us H1 Z1 z1 k1 S1 r => by
   rw [anL]
   refine ⟨H1, a, .refl _, fun _ _ q _ => q, r, hn, hp, S1.aeo, fun v H' W' fp hh ww wh nw tp rt nd own => ?_⟩
   obtain ⟨Z', z', S'⟩ := S1.back hh S1.zh ww wh nw tp rt nd own (.inr hc)
   exact kk v H' Z' (z1.trans z') (k1.trans hh) S')
end
variable {D D' : gw} {st : Stmt} {iP agM : List Stmt}
theorem Meets.to {K : PySem.W.Frag} {Z : Hp} {ts : List T} {vs : List V} {E : Ends} (M : Meets K CL b Z ts vs D E) (h1 : ∀ δ, D'.nx δ -> D.nx δ) (h2 : ∀ t δ, D'.rt t δ -> D.rt t δ) (h3 : ∀ δ, D'.bk δ -> D.bk δ) (h4 : ∀ δ, D'.ct δ -> D.ct δ) : Meets K CL b Z ts vs D' E :=
 ⟨fun _ _ _ _ s S k => M.nx _ _ _ _ s S (h1 _ k), fun _ _ _ _ _ _ s S k => M.rt _ _ _ _ _ _ s S (h2 _ _ k), fun _ _ _ _ s S k => M.bk _ _ _ _ s S (h3 _ k), fun _ _ _ _ s S k => M.ct _ _ _ _ s S (h4 _ k)⟩
theorem ak (h : D.nx δ) : gU X CL b [] δ D := fun H Z σ ts vs E S M => agI aah (M.nx δ σ H Z (.refl _) S h)
theorem dF (h : ZX X CL b st δ { D with nx := fun δ1 => gU X CL b iP δ1 D }) : gU X CL b (st :: iP) δ D := fun H Z σ ts vs E S M =>
 agI (WK psS pbS) (h H Z σ ts vs _ S ⟨fun δ' σ' H' Z' s S' k => k H' Z' σ' ts vs E S' (M.mono s), M.rt, M.bk, M.ct⟩)
theorem aey (h : bZ X CL b e δ t δ1) (k : D.rt t δ1) : ZX X CL b (.Return (some e) pos) δ D := fun H Z σ ts vs E S M => yI (adQ cM) (h H Z σ ts vs _ S fun v H1 Z1 z1 k1 S1 => M.rt t v H1 Z1 δ1 σ z1 S1 k)
theorem agN (h : uG X CL b e δ p δ1) (h1 : p = true -> gU X CL b iP δ1 D) (h2 : p = false -> gU X CL b agM δ1 D) : ZX X CL b (.If e iP agM pos) δ D := fun H Z σ ts vs E S M =>
 yI (agd ptS pbS pbS) (h H Z σ ts vs _ S fun H1 Z1 z1 k1 S1 => by
   cases p with
   | true => exact OG (h1 rfl H1 Z1 σ ts vs E S1 (M.mono z1))
   | false => exact OD (h2 rfl H1 Z1 σ ts vs E S1 (M.mono z1)))
theorem Xp (i : Nat) {x : Str} {pos' : Pos} (h : bZ X CL b e δ t δ1) (k : D.nx (δ1.set i (some t))) (hl : i < δ1.length := by decide) (hN : X.N.Nodup := by assumption) (hi : X.N[i]? = some x := by rfl) (hx : Loc X.env.scope x := by first | exact .inl rfl | exact .inr rfl)
   (hs : swapsWith e (some (.Name x pos')) pos.line X.env = pure false := by rfl) (hf : X.fn x = true \/ X.env.scope.names.lookup x = some .local := by first | exact .inl rfl | exact .inr rfl | assumption) : ZX X CL b (.Assign [.Name x pos'] e pos) δ D := fun H Z σ ts vs E S M =>
 yI (adV hN hi hx cM hs hf) (h H Z σ ts vs _ S fun v H1 Z1 z1 k1 S1 => M.nx _ _ H1 Z1 z1 (S1.set hl) k)
end
noncomputable def entry (N : List Str) (ds : List D) : List (Option T) := ds.map (fun d => some (T.sh d)) ++ List.replicate (N.length - ds.length) none
theorem sE {K : PySem.W.Frag} {CL : Str -> Addr} {H Z : Hp} : ∀ {ds : List D} {vs : List V} (n : Nat), aI K CL Z ds vs -> jx K CL H Z (ds.map (fun d => some (T.sh d)) ++ List.replicate n none) (vs.map some ++ List.replicate n none) []
 | _, _, 0, .nil => .nil
 | _, _, n + 1, .nil => .skip (sE (ds := []) (vs := []) n .nil)
 | _, _, n, .cons r t => .cons (fp := []) (gp := []) (.sh r) (sE n t)
theorem Ir {P : Program} {w : World} {K : PySem.W.Frag} {mg : Str -> Option Value} {base : Heap} {CL : Str -> Addr} {x qual : Str} {st : Stmt} {f : Addr} {fd : FuncData} {N ps : List Str} {k : Nat} {A : Type} {arg : A -> List D} {Pre : A -> Prop} {res : A -> T} (F : jQ K x qual st f fd) (S : aJ N ps (aj st))
   (hb : ∀ (pX : Value) (Ar : Around) (outer : List Env) (s : Shared) (H : Hp) (E : XK) (b : Bx) (a : A), kO k (Ar.deeper (envOfC qual (aj st) s.heap.objs.size f pX)) -> Pre a →
     gU (GJ DJ P w K mg base N qual (aj st) f pX Ar outer s H E).nox CL b (jP st) (entry N (arg a)) { nx := fun _ => res a = .sh .non, rt := fun t _ => t = res a }) :
   lY P w K mg base DJ (k + 1) f fd ps (Us K CL ps.length arg Pre res) := by
 refine F.ok S (fun vs H Q E h => ?_) (fun pX Ar outer s H vs Q E hr h => ?_)
 . obtain ⟨W, a, _, _, r, hl, _⟩ := h
   rw [← r.length]; exact hl
 . obtain ⟨W, a, wh, tp, r, hl, hp, tb, kk⟩ := h
   refine ⟨_, pbS, hb pX Ar outer s H E ⟨H, W⟩ a hr hp H W _ [] [] _ ⟨⟨[], [], ?_, .nil, ao8, fun a ha => by cases ha⟩, .refl _, .refl _, wh, fun a o q z => ?_, tp, tb⟩ ⟨fun δ' σ' H' Z' s' S' e => ?_, fun t v H' Z' δ' σ' s' S' e => ?_, fun _ _ _ _ _ _ e => e.elim, fun _ _ _ _ _ _ e => e.elim⟩⟩
   . unfold entry L2.start
     rw [← r.length]
     exact sE _ r
   . have q' : W a = some o := q
     have z' : W a = none := z
     rw [q'] at z'; cases z'
   . exact kk .non H' Z' [] S'.bh S'.zz S'.zh S'.new S'.tp (by rw [show res a = .sh .non from e]; exact .sh .non) ao8 fun a ha => by cases ha
   . have e' : t = res a := e
     subst e'
     obtain ⟨fp, gp, _, r', nd, own⟩ := S'.rep
     cases r' with
     | @cons _ _ _ _ f1 f2 r1 r2 =>
       have h1 := (an5.mp nd).2.1
       exact kk v H' Z' f1 S'.bh S'.zz S'.zh S'.new S'.tp r1 (an5.mp h1).1 fun a ha => own a (anf _ (anl _ ha))
section
variable {prog : Program} {w : World} {A : Around} {R : Result -> Shared -> Prop} {s : Shared}
theorem Iu {elt target iter : Expr} {ifs : List Expr} {scope : Scope} {pos : Pos} {it acc : Value} {env : Env} (I : Nat -> Shared -> Prop)
   (turn : ∀ n s, I n s -> wpAny (model prog w) A (pyNext it) (fun r s₁ => match r with
     | none => R (.ok .next) s₁
     | some v => wpAny (model prog w) A (letOwnedTupleGo target it v) (fun _ s₁' => wpAny (model prog w) A (assign target env v) (fun _ s₂ =>
         wpAny (model prog w) A (forIn ifs true fun c r => if r = true then do let ok ← isTrue c env (eval c env); pure (ForInStep.yield ok) else pure (ForInStep.yield r)) (fun ok s₃ =>
           if ok = true then wpAny (model prog w) A (eval elt env) (fun x s₄ =>
             wpAny (model prog w) A (call (.builtin "list.append") [acc, x]) (fun _ s₅ => ∃ m, m < n /\ I m s₅) (fun _ _ => False) s₄) (fun _ _ => False) s₃
           else ∃ m, m < n /\ I m s₃) (fun _ _ => False) s₂) (fun _ _ => False) s₁') (fun _ _ => False) s₁) (fun _ _ => False) s)
   (n : Nat) (h : I n s) :
   codeAny (model prog w) A (.compLoop (.ListComp elt [⟨target, iter, ifs, 0⟩] scope pos) 0 it acc env) R s := by
 refine codeAny_loop rfl I (fun n s hI => ?_) n h
 show wpAny _ A ((compTurn (.ListComp elt [⟨target, iter, ifs, 0⟩] scope pos) 0 it acc env).onRaise (fun x => do noteFrame x env; theTreesLotGoes x)) _ _ s
 refine wpAny_noted ?_
 rw [compTurn_list]
 refine anP (wpAny_standAt (anP (aor (turn n s hI) (fun r s₁ h₁ => ?_) fun _ _ h' => h'.elim)))
 cases r with
 | none => exact an0 h₁
 | some v =>
   refine anP (aor h₁ (fun _ s₁' h₁' => ?_) fun _ _ h' => h'.elim)
   refine anP (aor h₁' (fun _ s₂ h₂ => anP (aor h₂ (fun ok s₃ h₃ => ?_) fun _ _ h' => h'.elim)) fun _ _ h' => h'.elim)
   cases ok with
   | false => exact an0 ⟨rfl, h₃⟩
   | true =>
     exact anP (anP (aor h₃ (fun x s₄ h₄ => anP (aor h₄ (fun _ s₅ h₅ => an0 (an0 ⟨rfl, h₅⟩)) fun _ _ h' => h'.elim)) fun _ _ h' => h'.elim))
end
noncomputable def kT (env : Env) : List (Str × NameKind) -> List (Str × Addr) -> List (Str × Addr)
 | [], cs => cs
 | (n, k) :: r, cs => kT env r (if k == .free then (n, (env.cells.lookup n).getD 0) :: cs else cs)
theorem GO {scope : Scope} {env : Env} (h : ∀ x ∈ scope.names, x.2 = .free -> ∃ c, env.cells.lookup x.1 = some c) : closureFor scope env = pure (kT env scope.names []) := by
 have go : ∀ (l : List (Str × NameKind)) (cs : List (Str × Addr)), (∀ x ∈ l, x.2 = .free -> ∃ c, env.cells.lookup x.1 = some c) →
     (forIn l cs fun x r => match x with | (name, kind) => if (kind == NameKind.free) = true then do let a ← cellOf env name; pure (ForInStep.yield ((name, a) :: r)) else pure (ForInStep.yield r) : Sem (List (Str × Addr))) = pure (kT env l cs) := by
   intro l
   induction l with
   | nil => intro cs _; rfl
   | cons x r ih =>
     intro cs hx
     obtain ⟨n, k⟩ := x
     rw [List.forIn_cons]
     by_cases hk : k = .free
     . subst hk
       obtain ⟨c, hc⟩ := hx (n, .free) anc rfl
       have e : cellOf env n = pure c := by unfold cellOf; rw [hc]
       simp only [aoT, if_true, e, pure_bind]
       rw [ih _ fun y hy => hx y (anj _ hy)]
       simp only [kT, aoT, if_true]
       rw [hc]; rfl
     . have hb : (k == NameKind.free) = false := by simpa using hk
       simp only [hb, Bool.false_eq_true, if_false, pure_bind]
       rw [ih _ fun y hy => hx y (anj _ hy)]
       simp only [kT, hb, Bool.false_eq_true, if_false]
 unfold closureFor
 have := go scope.names [] h
 simp only [bind_pure] at this ⊢
 exact this
theorem xr {env : Env} : ∀ {l : List (Str × NameKind)} {cs : List (Str × Addr)} {y : Str} {c : Addr}, (∀ x ∈ l, x.2 = .free -> ∃ c, env.cells.lookup x.1 = some c) -> (∀ y c, cs.lookup y = some c -> env.cells.lookup y = some c) →
   (kT env l cs).lookup y = some c -> env.cells.lookup y = some c
 | [], cs, y, c, _, h, e => h y c e
 | (n, k) :: r, cs, y, c, hx, h, e => by
   refine xr (l := r) (fun z hz => hx z (anj _ hz)) (fun z d hz => ?_) e
   by_cases hk : k = .free
   . subst hk
     obtain ⟨c', hc⟩ := hx (n, .free) anc rfl
     simp only [aoT, if_true, hc, Option.getD_some, anN] at hz
     by_cases hzn : (z == n) = true
     . rw [hzn] at hz
       have : z = n := by simpa using hzn
       subst this
       cases hz
       exact hc
     . have : (z == n) = false := by simpa using hzn
       rw [this] at hz
       exact h z d hz
   . have hb : (k == NameKind.free) = false := by simpa using hk
     rw [hb] at hz
     exact h z d hz
theorem BW {env : Env} {y : Str} : ∀ {l : List (Str × NameKind)} {cs : List (Str × Addr)}, (∃ c, cs.lookup y = some c) -> ∃ c, (kT env l cs).lookup y = some c
 | [], cs, h => h
 | (n, k) :: r, cs, h => by
   refine BW (l := r) ?_
   by_cases hk : (k == NameKind.free) = true
   . rw [anu hk, anN]
     by_cases hy : (y == n) = true
     . rw [hy]; exact ⟨_, rfl⟩
     . have : (y == n) = false := by simpa using hy
       rw [this]; exact h
   . rw [anm hk]; exact h
theorem xu {env : Env} {y : Str} : ∀ {l : List (Str × NameKind)} {cs : List (Str × Addr)}, l.lookup y = some .free -> ∃ c, (kT env l cs).lookup y = some c
 | [], _, h => by simp at h
 | (n, k) :: r, cs, h => by
   rw [anN] at h
   by_cases hy : (y == n) = true
   . rw [hy] at h
     cases h
     refine BW (l := r) ?_
     rw [anu (by rfl), anN, hy]
     exact ⟨_, rfl⟩
   . have : (y == n) = false := by simpa using hy
     rw [this] at h
     exact xu (l := r) h
noncomputable def eV (X : Cx) (scope : Scope) (Nc : List Str) (C : Addr) (s : Shared) (H : Hp) (fp : List Addr) : Cx where
 prog := X.prog
 w := X.w
 K := X.K
 mg := X.mg
 base := X.base
 A := X.A
 N := Nc
 s₀ := s
 H₀ := H
 env := compEnvC scope (kT X.env scope.names []) C X.env
 outer := X.stack
 stack := X.stack
 ex := fp
 fn := fun _ => false
 calm := X.calm
 pn := []
 xe := fun _ _ => False
structure rN (X : Cx) (scope : Scope) (x : Str) (Nc : List Str) (ix : List Nat) : Prop where
 kind : scope.kind = .function
 Iv : ∀ y ∈ scope.names, y.2 ≠ .cell
 nd : Nc.Nodup
 names : ∀ y ∈ scope.names, y.2 = .local -> scope.names.lookup y.1 = some .local
 own : scope.names.lookup x = some .local
 frees : ∀ y ∈ scope.names, y.2 = .free -> scope.names.lookup y.1 = some .free /\ (X.env.kindOf y.1 = some .cell \/ X.env.kindOf y.1 = some .free)
 hd : Nc = x :: ix.filterMap (X.N[·]?)
 ixs : ∀ i ∈ ix, ∃ y, X.N[i]? = some y /\ scope.names.lookup y = some .free
theorem iR {env : Env} : ∀ {names : List (Str × NameKind)} {x : Str} {k : NameKind}, names.lookup x = some k -> 
   (names.map fun (n, k) => if (k == NameKind.free && env.scope.kind == .function && env.kindOf n == some .cell) then (n, NameKind.cell) else (n, k)).lookup x = some (if (k == NameKind.free && env.scope.kind == .function && env.kindOf x == some .cell) then .cell else k)
 | [], _, _, h => by simp at h
 | (n, k') :: r, x, k, h => by
   have ih := @iR env r x k
   show List.lookup x ((if (k' == NameKind.free && env.scope.kind == .function && env.kindOf n == some .cell) = true then (n, NameKind.cell) else (n, k')) :: _) = _
   cases hx : x == n with
   | true =>
     simp only [anN, hx] at h
     cases h
     have e : x = n := by simpa using hx
     subst e
     split <;> simp [anN]
   | false =>
     simp only [anN, hx] at h
     split
     . simp only [anN, hx]; exact ih h
     . simp only [anN, hx]; exact ih h
theorem n8 {env : Env} : ∀ {names : List (Str × NameKind)} {x : Str}, names.lookup x = none -> 
   (names.map fun (n, k) => if (k == NameKind.free && env.scope.kind == .function && env.kindOf n == some .cell) then (n, NameKind.cell) else (n, k)).lookup x = none
 | [], _, _ => rfl
 | (n, k') :: r, x, h => by
   have ih := @n8 env r x
   show List.lookup x ((if (k' == NameKind.free && env.scope.kind == .function && env.kindOf n == some .cell) = true then (n, NameKind.cell) else (n, k')) :: _) = _
   cases hx : x == n with
   | true => simp only [anN, hx] at h; cases h
   | false =>
     simp only [anN, hx] at h
     split
     . simp only [anN, hx]; exact ih h
     . simp only [anN, hx]; exact ih h
section
variable {X : Cx} {scope : Scope} {Nc : List Str} {pins : List (Addr × Obj)} {σ : L2.St} {H : Hp} {s : Shared}
theorem Ut {fp : List Addr} {R0 : List (Addr × Obj)} {σ' : L2.St} {H' : Hp} {s' : Shared} {h'' : Heap} (I : Inv X pins σ H s) (wY : ∀ b ∈ fp, Ct X pins H b)
   (J : Inv (eV X scope Nc s.heap.objs.size s H fp) R0 σ' H' s') (hs : Heap.SameBut s.heap.objs.size s'.heap h'') : Inv X pins σ H' { s' with heap := h'' } := by
 have un : Un (Wx X.stack) fp H H' s.heap s'.heap := J.base
 have un2 : Un (Wx X.stack) fp H H' s.heap h'' := by
   have ne : ∀ b o, s.heap.get? b = some o -> b ≠ s.heap.objs.size := fun b o e => anT (anw e)
   refine ⟨fun b o e n hb hx => (hs.2 b (ne b o e)).trans (un.keep b o e n hb hx), fun b o e n hb hx => ?_, un.free, fun b o e hx => ?_, un.HQ, un.rH, un.HR⟩
   . obtain ⟨sl, q⟩ := un.slot b o e n hb hx
     exact ⟨sl, (hs.2 b (ne b o e)).trans q⟩
   . obtain ⟨o', q⟩ := un.there b o e hx
     exact ⟨o', (hs.2 b (ne b o e)).trans q⟩
 have nC : H' s.heap.objs.size = none := J.free
 have d9 : yt X.prog X.w H' h'' := fun b u e => by
   refine (J.d9 b u e).HP (fun c v hc q => (hs.2 c ?_).trans q) (fun _ q => q) fun _ _ q => q
   rintro rfl
   rcases hc with z | z
   . subst z; rw [nC] at e; cases e
   . rw [nC] at z; cases z
 obtain ⟨hh, g, d, t, os'⟩ := s'
 obtain rfl : os' = s.os := J.os
 show L2.Inv X pins σ H' { s with heap := h'', gens := g, drawn := d, toks := t }
 exact I.call (h' := h'') (g' := g) (d' := d) (t' := t) (ch := fp) un2 d9 J.bare fun b hb => ⟨(wY b hb).2.2.2.1, (wY b hb).2.1, (wY b hb).2.2.2.2.1, (wY b hb).2.2.2.2.2⟩
noncomputable def aez (X : Cx) : List Expr -> TT
 | [] => fun _ H Q => Q true H
 | [c] => aaG X c
 | _ => fun _ _ _ => False
theorem Xq {ifs : List Expr} {Q : Bool -> Hp -> Prop} (I : Inv X pins σ H s) (h : aez X ifs σ H Q) (hx : X.xe = fun _ _ => False) :
   wpAny (model X.prog X.w) X.A (forIn ifs true fun c r => if r = true then do let ok ← isTrue c X.env (eval c X.env); pure (ForInStep.yield ok) else pure (ForInStep.yield r)) (TP X pins σ Q) (fun _ _ => False) s := by
 match ifs, h with
 | [], h => exact wpAny_tests_nil ⟨H, I, h⟩
 | [c], h =>
   have := h pins s I
   rw [hx] at this
   exact wpAny_tests_one this
end
noncomputable def TIv (X : Cx) (CL : Str -> Addr) (b : Bx) (ifs : List Expr) (δ : List (Option T)) (p : Bool) : Prop :=
 match ifs with
 | [] => p = true
 | [c] => uG X CL b c δ p δ
 | _ => False
theorem TIv.sem {X : Cx} {CL : Str -> Addr} {b : Bx} {ifs : List Expr} {δ : List (Option T)} {p : Bool} (h : TIv X CL b ifs δ p) {H Z : Hp} {σ : L2.St} {Q : Bool -> Hp -> Prop} (S : b8 X.K CL b H Z δ σ [] [])
   (k : ∀ H' Z', aL Z Z' -> aL H H' -> b8 X.K CL b H' Z' δ σ [] [] -> Q p H') : aez X ifs σ H Q := by
 match ifs, h with
 | [], h =>
   have e : p = true := h
   subst e
   exact k H Z (.refl _) (.refl _) S
 | [c], h => exact (show uG X CL b c δ p δ from h) H Z σ [] [] Q S k
theorem o9 {ts : List T} : (T.lst ts).clean = T.l0 ts := by rw [T.clean]
theorem Ep {g : D -> T} : ∀ {ds : List D}, (∀ d ∈ ds, (g d).clean = true) -> T.l0 (ds.map g) = true
 | [], _ => by rw [List.map_nil, T.l0]
 | d :: ds, h => by
   rw [anD, T.l0, h d anc, Ep fun e he => h e (anj _ he)]
   rfl
section
variable {K : PySem.W.Frag} {CL : Str -> Addr} {b : Bx} {H H' Z : Hp} {δ : List (Option T)} {σ : L2.St} {ts tl : List T} {vs us : List V} {t : T} {v : V}
theorem bA.at : ∀ {tl : List T} {us : List V} {fp : List Addr} {j : Nat} {t : T}, bA K CL H Z tl us fp -> tl[j]? = some t -> ∃ v f1 f2 f3, us[j]? = some v /\ fp = f1 ++ (f2 ++ f3) /\ bN K CL H Z t v f2 ∧
   ∀ {H' : Hp} {t' : T} {v' : V} {g : List Addr}, (∀ a ∈ f1 ++ f3, H' a = H a) -> bN K CL H' Z t' v' g -> bA K CL H' Z (tl.set j t') (us.set j v') (f1 ++ (g ++ f3))
 | _, _, _, _, _, .nil, e => by simp at e
 | _, _, _, 0, _, .cons (fp := fp) (gp := gp) r q, e => by
   simp at e
   subst e
   exact ⟨_, [], fp, gp, rfl, rfl, r, fun {H' t' v' g} k r' => bA.cons (fp := g) (gp := gp) r' (bA.mono (fp := gp) (.refl _) (fun a ha => k a (by simpa using ha)) q)⟩
 | _, _, _, j + 1, t, .cons (fp := fp) (gp := gp) r q, e => by
   obtain ⟨v, f1, f2, f3, h1, h2, h3, h4⟩ := bA.at (j := j) (t := t) q (by simpa using e)
   refine ⟨v, fp ++ f1, f2, f3, by simpa using h1, by rw [h2, List.append_assoc], h3, fun k r' => ?_⟩
   rw [ani]
   exact .cons (r.mono (.refl _) fun a ha => k a (by simp [ha])) (h4 (fun a ha => k a (by rw [ani]; exact anf _ ha)) r')
theorem kU {α : Type} {l : List α} {i : Nat} {x : α} (h : l[i]? = some x) : l.set i x = l := by
 apply ape
 intro j
 rw [apf]
 split
 . rename_i e; subst e
   split
   . exact h.symm
   . rename_i h2; rw [aoG (by omega)]
 . rfl
theorem b8.write {a : Addr} {xs : List V} {f1 f2 f3 g gp Si : List Addr} {δ2 : List (Option T)} (S : b8 K CL b H Z δ σ ts vs) (nd : ((f1 ++ (f2 ++ f3)) ++ gp).Nodup) (own : ∀ c ∈ (f1 ++ (f2 ++ f3)) ++ gp, Z c = none /\ b.B c = none) (ha : a ∈ f2)
   (hH : ∃ o, H a = some o) (e' : jx K CL (upd H a (.lst xs)) Z δ2 σ (f1 ++ (g ++ f3))) (r' : bA K CL (upd H a (.lst xs)) Z tl us Si) (pm : ((f1 ++ (g ++ f3)) ++ Si).Nodup) (sub : ∀ c ∈ (f1 ++ (g ++ f3)) ++ Si, c ∈ (f1 ++ (f2 ++ f3)) ++ gp) :
   b8 K CL b (upd H a (.lst xs)) Z δ2 σ tl us := by
 have oa := own a (by simp [ha])
 refine ⟨⟨_, _, e', r', pm, fun c hc => own c (sub c hc)⟩, fun c o q => ?_, S.zz, fun c o q => ?_, S.new, fun c o q i => ?_, S.tab⟩
 . rw [aD (bQ q oa.2)]; exact S.bh c o q
 . rw [aD (bQ q oa.1)]; exact S.zh c o q
 . by_cases hc : c = a
   . subst hc; rw [bx] at q; cases q; cases i
   . rw [aD hc] at q; exact S.tp c o q i
theorem b8.append {i : Nat} (S : b8 K CL b H Z δ σ (t :: ts) (v :: vs)) (hi : δ[i]? = some (some (.lst tl))) :
   ∃ a us, σ[i]? = some (some (.ref a)) /\ H a = some (.lst us) /\ us.length = tl.length /\ b8 K CL b (upd H a (.lst (us ++ [v]))) Z (δ.set i (some (.lst (tl ++ [t])))) σ ts vs := by
 obtain ⟨fp, gp, e, r, nd, k⟩ := S.rep
 obtain ⟨v0, f1, f2, f3, hv, wY, rt, put, _⟩ := e.get hi
 subst wY
 cases rt with
 | @lst a us _ g ha rs =>
   cases r with
   | @cons _ _ _ _ ft gr q1 q2 =>
     have ne : ∀ c ∈ (f1 ++ (g ++ f3)) ++ (ft ++ gr), c ≠ a := fun c hc e => by
       subst e
       have hp : ((f1 ++ ((c :: g) ++ f3)) ++ (ft ++ gr)).Perm (c :: ((f1 ++ (g ++ f3)) ++ (ft ++ gr))) := by
         rw [anK, ← anK]
         exact (aoh.append_right _)
       exact (an2.mp (hp.nodup_iff.mp nd)).1 hc
     refine ⟨a, us, hv, ha, rs.length.symm, ?_⟩
     have r1 : bN K CL (upd H a (.lst (us ++ [v]))) Z (.lst (tl ++ [t])) (.ref a) (a :: (g ++ (ft ++ []))) :=
       .lst bx (bA.app (rs.mono (.refl _) fun c hc => aD (ne c (by simp [hc]))) (.cons (q1.mono (.refl _) fun c hc => aD (ne c (by simp [hc]))) .nil))
     have e2 := put (H' := upd H a (.lst (us ++ [v]))) (.refl _) (fun c hc => aD (ne c (by
       rcases ank.mp hc with h | h
       . simp [h]
       . simp [h]))) r1
     rw [kU hv] at e2
     have hp : ((f1 ++ ((a :: (g ++ (ft ++ []))) ++ f3)) ++ gr).Perm ((f1 ++ ((a :: g) ++ f3)) ++ (ft ++ gr)) := by
       simp only [anL, anK, ani]
       refine anU f1 (List.Perm.cons a (anU g ?_))
       rw [← ani, ← ani]
       exact anY.append_right gr
     exact S.write nd k (anc) ⟨_, ha⟩ e2 (q2.mono (.refl _) fun c hc => aD (ne c (by simp [hc]))) (hp.nodup_iff.mpr nd) fun c hc => hp.mem_iff.mp hc
end
section
variable {X : Cx} {CL : Str -> Addr} {b : Bx} {δ δ1 : List (Option T)} {e : Expr} {t : T} {tl tl0 : List T} {D : gw} {pos pp pa pb : Pos}
theorem aeA (i : Nat) {x : Str} (h0 : δ[i]? = some (some (.lst tl0))) (h : bZ X CL b e δ t δ1) (h1 : δ1[i]? = some (some (.lst tl))) (hl : tl.length < sizeLine) (k : D.nx (δ1.set i (some (.lst (tl ++ [t])))))
   (hi : X.N[i]? = some x := by rfl) (hv : Vis X.env.scope x := by first | exact Or.inl rfl | exact Or.inr (Or.inl rfl) | exact Or.inr (Or.inr rfl)) (hd : (x == ("__debug__" : Str)) = false := by decide) (uF : (x == ("__classdict__" : Str)) = false := by decide)
   (gT : attributeBase (.Name x pp) "append" X.env (eval (.Name x pp) X.env) = eval (.Name x pp) X.env := by rfl)
   (nM : ((backTo pb (starEach [e] X.env)).all (fun x => !x.1) && (backToKw pb (keywordEach [] X.env)).all (fun x => x.1.isSome) && decide ([e].length + ([] : List Keyword).length + (if ([] : List Keyword).isEmpty then 0 else 1) < 30)) = true := by rfl)
   (hline : (pa.endLine == pb.line) = true := by rfl) (hs : starEach [e] X.env = (false, eval e X.env) :: starEach [] X.env := by exact bG rfl) (Iw : swapsWith (.Call (.Attribute (.Name x pp) "append" pa) [e] [] pb) none pos.line X.env = pure false := by rfl) :
   ZX X CL b (.Expr (.Call (.Attribute (.Name x pp) "append" pa) [e] [] pb) pos) δ D := fun H Z σ ts vs E S M =>
 yI (yw (yG aoM ao4 ao5 vU (qZ hi hv hd uF) (bI cM cK hs) gT nM hline hs rfl) Iw) (by
   obtain ⟨v0, e0, r0⟩ := S.look h0
   refine ⟨v0, e0, ?_, ?_⟩
   . rw [T.gS] at r0
     cases r0 with
     | lst hq _ => exact .inl ⟨rfl, _, hq⟩
   . refine h H Z σ ts vs _ S fun v H1 Z1 z1 k1 S1 => ?_
     obtain ⟨a, us, ea, ha, hu, S2⟩ := S1.append h1
     rw [e0] at ea
     cases ea
     exact ⟨a, us, v, rfl, rfl, ha, by rw [hu]; exact hl, M.nx _ σ _ Z1 z1 S2 k⟩)
end
noncomputable def agQ : Option (Option T) -> Option T
 | some (some t) => some (.sh t.gS)
 | _ => none
noncomputable def shO : Option (Option T) -> Option T
 | some (some (T.sh d)) => some (.sh d)
 | _ => none
noncomputable def K6 (δ : List (Option T)) (ix : List Nat) : List (Option T) := ix.map fun i => agQ δ[i]?
noncomputable def K7 (δ : List (Option T)) (ix : List Nat) : List (Option T) := ix.map fun i => shO δ[i]?
section
variable {K : PySem.W.Frag} {CL : Str -> Addr} {b : Bx} {H Z : Hp} {δ : List (Option T)} {σ : L2.St} {ts : List T} {vs : List V}
theorem K8 (S : b8 K CL b H Z δ σ ts vs) : ∀ (ix : List Nat) (H' : Hp), jx K CL H' H (K6 δ ix) (ix.map fun i => (σ[i]?).getD none) []
 | [], _ => .nil
 | i :: r, H' => by
   have ih := K8 S r H'
   show jx K CL H' H (agQ δ[i]? :: K6 δ r) (((σ[i]?).getD none) :: r.map fun i => (σ[i]?).getD none) []
   cases e : δ[i]? with
   | none => exact .skip ih
   | some o =>
     cases o with
     | none => exact .skip ih
     | some t =>
       obtain ⟨v, hv, rv⟩ := S.look e
       rw [hv]
       exact .cons (fp := []) (gp := []) (.sh rv) ih
theorem K9 (S : b8 K CL b H Z δ σ ts vs) : ∀ (ix : List Nat) (H' : Hp), jx K CL H' Z (K7 δ ix) (ix.map fun i => (σ[i]?).getD none) []
 | [], _ => .nil
 | i :: r, H' => by
   have ih := K9 S r H'
   show jx K CL H' Z (shO δ[i]? :: K7 δ r) (((σ[i]?).getD none) :: r.map fun i => (σ[i]?).getD none) []
   cases e : δ[i]? with
   | none => exact .skip ih
   | some o =>
     cases o with
     | none => exact .skip ih
     | some t =>
       cases t with
       | sh d =>
         obtain ⟨v, hv, rv⟩ := S.Xk e
         rw [hv]
         exact .cons (fp := []) (gp := []) (.sh rv) ih
       | tup _ => exact .skip ih
       | lst _ => exact .skip ih
       | ins _ _ => exact .skip ih
       | lZ _ => exact .skip ih
       | dct _ => exact .skip ih
       | pin _ _ => exact .skip ih
       | Ej _ _ _ => exact .skip ih
end
section
variable {X : Cx} {CL : Str -> Addr} {b : Bx} {δ δ1 : List (Option T)} {scope : Scope} {x : Str} {Nc : List Str} {elt iter : Expr} {ifs : List Expr} {pos : Pos} {ds : List D}
structure Comes (X : Cx) (CL : Str -> Addr) (b : Bx) (δ1 : List (Option T)) (σ : L2.St) (ts : List T) (vs : List V) (Z H : Hp) (ds : List D) (J : It) (H1 : Hp) : Prop where
 ex : ∃ Z1 us, aL Z Z1 /\ aL H H1 /\ b8 X.K CL b H1 Z1 δ1 σ ts vs /\ aI X.K CL Z1 ds us /\ (∀ i H2, aL Z1 H2 -> i < ds.length -> J.go i H2) ∧
   (∀ i H2 x H', aL Z1 H2 -> i < ds.length -> J.yld i H2 x H' -> H' = H2 /\ us[i]? = some x) /\ (∀ H2, aL Z1 H2 -> J.stop ds.length H2)
noncomputable def ZY (X : Cx) (CL : Str -> Addr) (b : Bx) (tg e : Expr) (δ : List (Option T)) (ds : List D) (δ1 : List (Option T)) : Prop :=
 ∃ wi, PI X tg e wi /\ ∀ (H Z : Hp) (σ : L2.St) (ts : List T) (vs : List V) (R : It -> Hp -> Prop), b8 X.K CL b H Z δ σ ts vs -> (∀ J H1, Comes X CL b δ1 σ ts vs Z H ds J H1 -> R J H1) -> wi σ H R
theorem er {tg : Expr} (h : bZ X CL b iter δ (.sh (.lst ds)) δ1) : ZY X CL b tg iter δ ds δ1 := by
 refine ⟨_, aak cM, fun H Z σ ts vs R S k => h H Z σ ts vs _ S fun v H1 Z1 z1 k1 S1 => ?_⟩
 obtain ⟨fp, gp, _, r, _, _⟩ := S1.rep
 cases r with
 | cons r _ =>
   cases r with
   | sh r =>
     cases r with
     | @lst a us _ hq rr =>
       refine ⟨a, rfl, ⟨us, S1.zh.seq hq⟩, k _ _ ⟨Z1, us, z1, k1, S1.pop, rr, fun i H2 s hi => ?_, fun i H2 y H' s hi hy => ⟨hy.1, hy.2 us (s.seq hq)⟩, fun H2 s => ⟨us, s.seq hq, by rw [rr.length]; exact anq _⟩⟩⟩
       have hi' : i < us.length := by rw [← rr.length]; exact hi
       exact ⟨us, us[i], s.seq hq, by simp [hi']⟩
theorem AK {tg : Expr} (h : bZ X CL b iter δ (.sh (.tup ds)) δ1) : ZY X CL b tg iter δ ds δ1 := by
 refine ⟨_, adZ cM, fun H Z σ ts vs R S k => h H Z σ ts vs _ S fun v H1 Z1 z1 k1 S1 => ?_⟩
 obtain ⟨fp, gp, _, r, _, _⟩ := S1.rep
 cases r with
 | cons r _ =>
   cases r with
   | sh r =>
     cases r with
     | @tup a us _ hq rr =>
       refine ⟨a, rfl, ⟨us, aL.sqT S1.zh hq⟩, k _ _ ⟨Z1, us, z1, k1, S1.pop, rr, fun i H2 s hi => ?_, fun i H2 y H' s hi hy => ⟨hy.1, hy.2 us (aL.sqT s hq)⟩, fun H2 s => ⟨us, aL.sqT s hq, by rw [rr.length]; exact anq _⟩⟩⟩
       have hi' : i < us.length := by rw [← rr.length]; exact hi
       exact ⟨us, us[i], aL.sqT s hq, by simp [hi']⟩
noncomputable def jA (lo : Int) (n : Nat) : List D := (List.range n).map fun (i : Nat) => D.int (lo + i)
theorem La {K : PySem.W.Frag} {Z : Hp} (lo : Int) (n : Nat) : aI K CL Z (jA lo n) ((List.range n).map fun (i : Nat) => V.int (lo + i)) := by
 unfold jA
 generalize List.range n = l
 induction l with
 | nil => exact .nil
 | cons i r ih => exact .cons (.int _) ih
theorem yL {tg : Expr} {pr pc : Pos} {n : Int} (hm : X.mg "range" = none) (h : cy X CL b iter δ (.int n) δ1) (hn : -(2 ^ 62) <= n /\ n < 2 ^ 62) (hg : Gl X "range") (hst : starEach [iter] X.env = [(false, eval iter X.env)] := by rfl) (aeB : starEach [iter] X.env = (false, eval iter X.env) :: starEach [] X.env := by exact bG rfl) :
   ZY X CL b tg (.Call (.Name "range" pr) [iter] [] pc) δ (jA 0 n.toNat) δ1 := by
 refine ⟨_, T7 hg hm (bI cM cK aeB) hst, fun H Z σ ts vs R S k => h H Z σ ts vs _ S fun v H1 Z1 z1 k1 S1 r => ⟨n, by rw [r.sc rfl], hn.1, hn.2, k _ _ ⟨Z1, _, z1, k1, S1, La 0 n.toNat, fun i H2 s hi => ?_, fun i H2 y H' s hi hy => ?_, fun H2 s => ?_⟩⟩⟩
 . show i < n.toNat
   have : (jA 0 n.toNat).length = n.toNat := by simp [jA]
   omega
 . have hi' : i < n.toNat := by simpa [jA] using hi
   refine ⟨hy.1, ?_⟩
   rw [anJ, aoq hi', hy.2]
   rfl
 . show n.toNat <= (jA 0 n.toNat).length
   simp [jA]
theorem Uu {tg : Expr} {pr pc : Pos} {e1 e2 : Expr} {δ2 : List (Option T)} {m n : Int} (hm : X.mg "range" = none) (h1 : cy X CL b e1 δ (.int m) δ1) (h2 : cy X CL b e2 δ1 (.int n) δ2) (hn : -(2 ^ 62) <= m /\ m < 2 ^ 62 /\ -(2 ^ 62) <= n /\ n < 2 ^ 62) (hg : Gl X "range")
   (hst : starEach [e1, e2] X.env = [(false, eval e1 X.env), (false, eval e2 X.env)] := by rfl) (aeB : starEach [e2] X.env = [(false, eval e2 X.env)] := by rfl) (ajb : starEach [e1, e2] X.env = (false, eval e1 X.env) :: starEach [e2] X.env := by rfl) (ajc : starEach [e2] X.env = (false, eval e2 X.env) :: starEach [] X.env := by rfl) :
   ZY X CL b tg (.Call (.Name "range" pr) [e1, e2] [] pc) δ (jA m (n - m).toNat) δ2 := by
 refine ⟨_, T8 hg hm (bI cM (bI cM cK ajc) ajb) hst aeB, fun H Z σ ts vs R S k => h1 H Z σ ts vs _ S fun v H1 Z1 z1 k1 S1 r => h2 H1 Z1 σ ts vs _ S1 fun v2 H2 Z2 z2 k2 S2 r2 => ⟨m, n, by rw [r.sc rfl, r2.sc rfl], hn, k _ _ ⟨Z2, _, z1.trans z2, k1.trans k2, S2, La m (n - m).toNat, fun i H2 s hi => ?_, fun i H2 y H' s hi hy => ?_, fun H2 s => ?_⟩⟩⟩
 . show i < (n - m).toNat
   have : (jA m (n - m).toNat).length = (n - m).toNat := by simp [jA]
   omega
 . have hi' : i < (n - m).toNat := by simpa [jA] using hi
   refine ⟨hy.1, ?_⟩
   rw [anJ, aoq hi', hy.2]
   rfl
 . show (n - m).toNat <= (jA m (n - m).toNat).length
   simp [jA]
theorem aeC {D : gw} {iP : List Stmt} (i : Nat) {pos' : Pos} (P : Nat -> List (Option T) -> Prop) (h : ZY X CL b (.Name x pos') iter δ ds δ1) (h0 : P 0 δ1) (hl : ∀ j δ, P j δ -> i < δ.length)
   (hs : ∀ j d δ, ds[j]? = some d -> P j δ -> gU X CL b iP (δ.set i (some (.sh d))) { nx := P (j + 1), rt := D.rt, bk := D.nx, ct := P (j + 1) }) (hd : ∀ δ, P ds.length δ -> D.nx δ)
   (hp : PassesOwn (model X.prog X.w) X.A X.env X.xe) (hc : X.calm = true) (hN : X.N.Nodup) (hi : X.N[i]? = some x) (hx : Loc X.env.scope x) (hf : X.fn x = true \/ X.env.scope.names.lookup x = some .local) (hq : ∀ x, foldedSetIterable iter X.env x = pure x := by intro _; rfl) :
   ZX X CL b (.For (.Name x pos') iter iP [] pos) δ D := fun H Z σ ts vs E S M => by
 obtain ⟨wi, pi, hw⟩ := h
 refine yI (WM hp hc pi (yx hN hi hx hf) pbS hq) (hw H Z σ ts vs _ S fun J H1 zz => ?_)
 obtain ⟨Z1, us, z1, k1, S1, rr, go, yl, st⟩ := zz
 refine ⟨fun j m σ H2 => m = ds.length - j /\ j <= ds.length /\ ∃ Z2 δ2, aL Z1 Z2 /\ b8 X.K CL b H2 Z2 δ2 σ ts vs /\ P j δ2, ⟨_, rfl, anE _, Z1, δ1, .refl _, S1, h0⟩, ?_⟩
 rintro j m σ H2 ⟨rfl, hj, Z2, δ2, s, S2, p2⟩
 by_cases Iz : j < ds.length
 . refine .inr ⟨go j H2 (s.trans S2.zh) Iz, fun σ' H' => ∃ Z2 δ2, aL Z1 Z2 /\ b8 X.K CL b H' Z2 δ2 σ' ts vs /\ P (j + 1) δ2, fun σ' H' h => ⟨ds.length - (j + 1), by omega, rfl, Iz, h⟩, fun y H' hy => ?_⟩
   obtain ⟨e, hu⟩ := yl j H2 y H' (s.trans S2.zh) Iz hy
   subst e
   obtain ⟨d, hd', rd⟩ := rr.Uq hu
   have S3 := (S2.push (rd.mono s)).set (hl j δ2 p2)
   exact hs j d δ2 hd' p2 _ Z2 _ ts vs _ S3 ⟨fun δ' σ' H' Z' s' S' k => ⟨Z', δ', s.trans s', S', k⟩, fun t v H' Z' δ' σ' s' S' k => M.rt t v H' Z' δ' σ' (z1.trans (s.trans s')) S' k, fun δ' σ' H' Z' s' S' k => M.nx δ' σ' H' Z' (z1.trans (s.trans s')) S' k, fun δ' σ' H' Z' s' S' k => ⟨Z', δ', s.trans s', S', k⟩⟩
 . have e : j = ds.length := by omega
   subst e
   exact .inl ⟨st H2 (s.trans S2.zh), M.nx δ2 σ H2 Z2 (z1.trans s) S2 (hd δ2 p2)⟩
noncomputable def Block (X : Cx) (CL : Str -> Addr) (scope : Scope) (Nc : List Str) (ifs : List Expr) (elt : Expr) (δc : List (Option T)) (ds : List D) (p : D -> Bool) (g : D -> T) : Prop :=
 ∀ C s0 H0 f0 b' d, d ∈ ds -> TIv (eV X scope Nc C s0 H0 f0) CL b' ifs (some (.sh d) :: δc) (p d) /\ (p d = true -> bZ (eV X scope Nc C s0 H0 f0) CL b' elt (some (.sh d) :: δc) (g d) (some (.sh d) :: δc))
variable {p : D -> Bool} {g : D -> T} {δc : List (Option T)}
end
section
variable {X : Cx} {CL : Str -> Addr} {b : Bx} {δ δ1 : List (Option T)} {pos : Pos}
noncomputable def isD : L3.D -> String -> Option Bool
 | .non, n => if n = "int" \/ n = "str" \/ n = "list" \/ n = "tuple" \/ n = "bool" \/ n = "dict" then some false else none
 | .bl _, n => if n = "int" \/ n = "bool" then some true else if n = "str" \/ n = "list" \/ n = "tuple" \/ n = "dict" then some false else none
 | .int _, n => if n = "int" then some true else if n = "str" \/ n = "list" \/ n = "tuple" \/ n = "bool" \/ n = "dict" then some false else none
 | .str _, n => if n = "str" then some true else if n = "int" \/ n = "list" \/ n = "tuple" \/ n = "bool" \/ n = "dict" then some false else none
 | .lst _, n => if n = "list" then some true else if n = "int" \/ n = "str" \/ n = "tuple" \/ n = "bool" \/ n = "dict" then some false else none
 | .tup _, n => if n = "tuple" then some true else if n = "int" \/ n = "str" \/ n = "list" \/ n = "bool" \/ n = "dict" then some false else none
 | _, _ => none
noncomputable def aeD (t n : String) : Option Bool := if (Value.type t == Value.type n) = true then some true else if PySem.W.kitMeta n = true then (fastBuiltinMro t).map (·.contains (.type n)) else none
theorem rO {K : PySem.W.Frag} {t n : String} : PySem.W.kitOne K (.type t) (.type n) = aeD t n := rfl
theorem Xr : (["NoneType", "bool", "int", "str", "list", "tuple"].all fun t => ["int", "str", "list", "tuple", "bool", "dict"].all fun n => aeD t n == some (t == n || (t == "bool" && n == "int"))) = true := by decide +kernel
theorem vV {t n : String} (ht : t ∈ ["NoneType", "bool", "int", "str", "list", "tuple"]) (hn : n ∈ ["int", "str", "list", "tuple", "bool", "dict"]) : aeD t n = some (t == n || (t == "bool" && n == "int")) := by
 have := Xr
 rw [aoi] at this
 have h := this t ht
 rw [aoi] at h
 simpa using h n hn
noncomputable def tyD : L3.D -> Option String
 | .non => some "NoneType"
 | .bl _ => some "bool"
 | .int _ => some "int"
 | .str _ => some "str"
 | .lst _ => some "list"
 | .tup _ => some "tuple"
 | _ => none
theorem Uv : rJ X (.builtin "isinstance") (fun xs H Q => ∃ y n d t, xs = [y, .ty n] /\ bV X.K CL H d y /\ tyD d = some t /\ n ∈ ["int", "str", "list", "tuple", "bool", "dict"] /\ Q (.bl (t == n || (t == "bool" && n == "int"))) H) := by
 intro pins s σ H xs us Q I r h
 obtain ⟨y, n, d, t, rfl, rd, ht, hn, q⟩ := h
 obtain ⟨u, u2, rfl, ru, ru2⟩ := r.two
 cases (show u2 = Value.type n from ru2)
 have fin : ∀ tk, EP X pins σ Q (.bool (t == n || (t == "bool" && n == "int"))) { s with toks := tk } := fun tk => ⟨.bl _, H, I.tok tk, rfl, q⟩
 cases rd with
 | non => cases ht; cases (show u = Value.none from ru); exact aoQ PySem.W.kitx_none I.Kz True.intro (rO.trans (vV (by decide) hn)) (fun z => nomatch z) fin
 | bl c => cases ht; cases (show u = Value.bool c from ru); exact aoQ PySem.W.kitx_bool I.Kz True.intro (rO.trans (vV (by decide) hn)) (fun z => nomatch z) fin
 | int c => cases ht; obtain ⟨tt, e⟩ := (show ∃ t, u = Value.int c t from ru); cases e; exact aoQ PySem.W.kitx_int I.Kz True.intro (rO.trans (vV (by decide) hn)) (fun z => nomatch z) fin
 | str c => cases ht; obtain ⟨tt, e⟩ := (show ∃ t, u = Value.str c t from ru); cases e; exact aoQ PySem.W.kitx_str I.Kz True.intro (rO.trans (vV (by decide) hn)) (fun z => nomatch z) fin
 | @lst a ws _ hq rr =>
   cases ht
   cases (show u = Value.ref a from ru)
   obtain ⟨its, _, pl, _⟩ := I.list hq
   obtain ⟨o, n', e, c, _⟩ := pl
   exact aoQ PySem.W.kitx_list I.Kz ⟨o, e, c⟩ (rO.trans (vV (by decide) hn)) (fun z => nomatch z) fin
 | @tup a ws _ hq rr =>
   cases ht
   cases (show u = Value.ref a from ru)
   obtain ⟨its, _, pl, _⟩ := I.tuple hq
   obtain ⟨o, e, c, _⟩ := pl
   exact aoQ PySem.W.kitx_tuple I.Kz ⟨o, e, c⟩ (rO.trans (vV (by decide) hn)) (fun z => nomatch z) fin
 | ins _ _ => cases ht
 | any _ => cases ht
 | val _ => cases ht
 | lZ _ _ => cases ht
 | dct _ _ => cases ht
 | Ej _ _ _ => cases ht
theorem DL {e : Expr} {d : L3.D} {t n : String} {nm : Str} {pp pq : Pos} (hm : X.mg "isinstance" = none) (hmn : X.mg nm = none) (hg : Gl X "isinstance") (hgn : Gl X nm) (hbn : bootBuiltins nm = some (.type n)) (hnm : nm ≠ "__name__") (hnd : (nm == ("__debug__" : Str)) = false) (h : cy X CL b e δ d δ1) (ht : tyD d = some t) (hn : n ∈ ["int", "str", "list", "tuple", "bool", "dict"])
   (hs : starEach [e, .Name nm pq] X.env = (false, eval e X.env) :: starEach [.Name nm pq] X.env := by exact bG rfl) :
   bZ X CL b (.Call (.Name "isinstance" pp) [e, .Name nm pq] [] pos) δ (.sh (.bl (t == n || (t == "bool" && n == "int")))) δ1 := fun H Z σ ts vs Q S k =>
 cG (rK (Uv (CL := CL)) hg hm boot_isinstance (bI cM (bI (aaf hgn hmn hbn (v := .ty n) rfl hnm hnd) cK) hs) (he := hs)) (h H Z σ ts vs _ S fun v H1 Z1 z1 k1 S1 r =>
   ⟨v, n, d, t, rfl, r, ht, hn, k _ H1 Z1 z1 k1 (S1.push (.bl _))⟩)
end
theorem aE {n : Nat} (h : Nat.ble n 1000 = true) : n <= sizeLine := an9 (cJ (anb h))
structure Vn (X : Cx) (i : Nat) (x : Str) : Prop where
 hi : X.N[i]? = some x
 hv : Vis X.env.scope x
 hd : (x == ("__debug__" : Str)) = false
 uF : (x == ("__classdict__" : Str)) = false
structure Ln (X : Cx) (i : Nat) (x : Str) : Prop extends Vn X i x where
 loc : Loc X.env.scope x
 hf : X.fn x = true \/ X.env.scope.names.lookup x = some .local
structure Gx (X : Cx) : Prop where
 nd : X.N.Nodup
 calm : X.calm = true
 xe : PassesOwn (model X.prog X.w) X.A X.env X.xe
structure Fc (X : Cx) (CL : Str -> Addr) (x : Str) (k n : Nat) {A : Type} (arg : A -> List D) (Pre : A -> Prop) (res : A -> T) : Prop where
 ex : ∃ f fd ps, lY X.prog X.w X.K X.mg X.base DJ k f fd ps (Us X.K CL n arg Pre res) /\ X.mg x = some (.ref f) /\ PySem.W.keepIn X.K (.ref f) = true /\ Binds X.K fd ps []
 room : kO k X.A
section
variable {X : Cx} {CL : Str -> Addr} {b : Bx} {δ δ1 δ2 : List (Option T)} {e : Expr} {es : List Expr} {d : L3.D} {t : T} {i : Nat} {x : Str} {pos pp : Pos} {D : gw} {iP : List Stmt} {ds : List L3.D}
theorem v_ (n : Vn X i x) (h : δ[i]? = some (some (.sh d)) := by rfl) : bZ X CL b (.Name x pos) δ (.sh d) δ := aer i n.hi n.hv n.hd n.uF h
theorem vM (n : Vn X i x) (h : δ[i]? = some (some t) := by rfl) : bZ X CL b (.Name x pos) δ t (δ.set i none) := aaL i n.hi n.hv n.hd n.uF h
theorem vB (n : Vn X i x) (h : δ[i]? = some (some t) := by rfl) : cy X CL b (.Name x pos) δ t.gS δ := aes i n.hi n.hv n.hd n.uF h
theorem dP {k : Int} (h : cy X CL b e δ (.int k) δ1) : bZ X CL b (.UnaryOp .USub e pos) δ (.sh (.int (-k))) δ1 := fun H Z σ ts vs Q S kk =>
 cG (agi ad7 cM) (h H Z σ ts vs _ S fun v H1 Z1 z1 k1 S1 r => ⟨k, r.sc rfl, kk _ H1 Z1 z1 k1 (S1.push (.int _))⟩)
theorem vL (n : Vn X i x) (h : δ[i]? = some (some (.lst (ds.map T.sh))) := by rfl) : cy X CL b (.Name x pos) δ (.lst ds) δ := by
 have := vB (CL := CL) (b := b) (pos := pos) n h
 rwa [T.gS, oh] at this
theorem c_ {k n : Nat} {A : Type} {arg : A -> List L3.D} {Pre : A -> Prop} {res : A -> T} (a : A) (F : Fc X CL x k n arg Pre res) (hg : Gl X x) (h : BAv X CL b (e :: es) δ (arg a) δ1) (hp : Pre a) (hc : (res a).clean = true) (hn : (arg a).length = n := by rfl)
   (KW : (x == ("__debug__" : Str)) = false := by decide) (he : starEach (e :: es) X.env = (false, eval e X.env) :: starEach es X.env := by exact bG rfl) (GH : (backTo pos (starEach es X.env)).any (·.1) = false := by rfl) :
   bZ X CL b (.Call (.Name x pp) (e :: es) [] pos) δ (res a) δ1 := by
 obtain ⟨f, fd, ps, F1, m, k, b⟩ := F.ex
 exact aaP a F1 F.room m k b h hn hp hc hg KW he GH
theorem aQ {pos' : Pos} (g : Gx X) (n : Ln X i x) (h : bZ X CL b e δ t δ1) (k : gU X CL b iP (δ1.set i (some t)) D) (hl : i < δ1.length := by exact anb rfl) (hs : swapsWith e (some (.Name x pos')) pos.line X.env = pure false := by rfl) :
   gU X CL b (.Assign [.Name x pos'] e pos :: iP) δ D := dF (Xp i h k hl g.nd n.hi n.loc hs n.hf)
theorem aP (h : bZ X CL b e δ t δ1) (k : D.rt t δ1) : gU X CL b (.Return (some e) pos :: iP) δ D := dF (aey h k)
theorem aU {p : Bool} {a c : List Stmt} (h : uG X CL b e δ p δ1) (h1 : p = true -> gU X CL b a δ1 { D with nx := fun δ2 => gU X CL b iP δ2 D }) (h2 : p = false -> gU X CL b c δ1 { D with nx := fun δ2 => gU X CL b iP δ2 D }) : gU X CL b (.If e a c pos :: iP) δ D := dF (agN h h1 h2)
theorem gU.to {D' : gw} (h : gU X CL b iP δ D') (h1 : ∀ δ, D'.nx δ -> D.nx δ) (h2 : ∀ t δ, D'.rt t δ -> D.rt t δ) (h3 : ∀ δ, D'.bk δ -> D.bk δ) (h4 : ∀ δ, D'.ct δ -> D.ct δ) : gU X CL b iP δ D := fun H Z σ ts vs E S M => h H Z σ ts vs E S (M.to h1 h2 h3 h4)
theorem ac0 {p : Bool} {a c : List Stmt} (J : List (Option T) -> Prop) (h : uG X CL b e δ p δ1) (h1 : p = true -> gU X CL b a δ1 { D with nx := J }) (h2 : p = false -> gU X CL b c δ1 { D with nx := J }) (k : ∀ δ2, J δ2 -> gU X CL b iP δ2 D) : gU X CL b (.If e a c pos :: iP) δ D :=
 aU h (fun hp => gU.to (h1 hp) k (fun _ _ q => q) (fun _ q => q) (fun _ q => q)) (fun hp => gU.to (h2 hp) k (fun _ _ q => q) (fun _ q => q) (fun _ q => q))
theorem lX {body : List Stmt} {pos' : Pos} (g : Gx X) (n : Ln X i x) (P : Nat -> List (Option T) -> Prop) (h : ZY X CL b (.Name x pos') e δ ds δ1) (h0 : P 0 δ1) (hl : ∀ j δ, P j δ -> i < δ.length)
   (hs : ∀ j d δ, ds[j]? = some d -> P j δ -> gU X CL b body (δ.set i (some (.sh d))) { nx := P (j + 1), rt := D.rt, bk := fun δ2 => gU X CL b iP δ2 D, ct := P (j + 1) }) (hd : ∀ δ, P ds.length δ -> gU X CL b iP δ D) (hq : ∀ x, foldedSetIterable e X.env x = pure x := by intro _; rfl) :
   gU X CL b (.For (.Name x pos') e body [] pos :: iP) δ D :=
 dF (aeC (D := { D with nx := fun δ1 => gU X CL b iP δ1 D }) i P h h0 hl hs hd g.xe g.calm g.nd n.hi n.loc n.hf hq)
theorem uQ {e : Expr} {o : Option Expr} {l : Nat} {env : Env} (h : ∃ c, swapsWith e o l env = pure c) : swapsWith e o l env = pure true \/ swapsWith e o l env = pure false := by
 obtain ⟨c, h⟩ := h
 cases c
 . exact .inr h
 . exact .inl h
theorem dQ {scope : Scope} {Nc : List Str} {C : Addr} {s : Shared} {H : Hp} {fp : List Addr} (h1 : Nc[i]? = some x) (h2 : scope.names.lookup x = some .local) (hd : (x == ("__debug__" : Str)) = false := by decide) (uF : (x == ("__classdict__" : Str)) = false := by decide) : Vn (eV X scope Nc C s H fp) i x :=
 ⟨h1, .inl (lookup_relabel_local h2), hd, uF⟩
theorem xx {scope : Scope} {Nc : List Str} {C : Addr} {s : Shared} {H : Hp} {fp : List Addr} (h1 : Nc[i]? = some x) (h2 : scope.names.lookup x = some .free) (hd : (x == ("__debug__" : Str)) = false := by decide) (uF : (x == ("__classdict__" : Str)) = false := by decide) : Vn (eV X scope Nc C s H fp) i x := by
 refine ⟨h1, ?_, hd, uF⟩
 have q := iR (env := X.env) h2
 show (relabel scope X.env).names.lookup x = some .local \/ (relabel scope X.env).names.lookup x = some .cell \/ (relabel scope X.env).names.lookup x = some .free
 rw [show (relabel scope X.env).names.lookup x = _ from q]
 split
 . exact .inr (.inl rfl)
 . exact .inr (.inr rfl)
theorem dh {scope : Scope} {Nc : List Str} {C : Addr} {s : Shared} {H : Hp} {fp : List Addr} (h2 : scope.names.lookup x = some .globalImplicit) : Gl (eV X scope Nc C s H fp) x := by
 have q := iR (env := X.env) h2
 show (relabel scope X.env).names.lookup x = some .globalImplicit
 rw [show (relabel scope X.env).names.lookup x = _ from q]
 rfl
theorem yM {scope : Scope} {Nc : List Str} {C : Addr} {s : Shared} {H : Hp} {fp : List Addr} {k n : Nat} {A : Type} {arg : A -> List L3.D} {Pre : A -> Prop} {res : A -> T} (F : Fc X CL x k n arg Pre res) : Fc (eV X scope Nc C s H fp) CL x k n arg Pre res := ⟨F.ex, F.room⟩
end
section
variable {X : Cx} {CL : Str -> Addr} {b : Bx} {δ δ1 δ2 : List (Option T)} {e1 e2 : Expr} {es : List Expr} {ds : List L3.D} {pos : Pos}
theorem IA {i j : Bool} (h1 : cy X CL b e1 δ (.bl i) δ1) (h2 : cy X CL b e2 δ1 (.bl j) δ2) : uG X CL b (.Compare e1 [.NotEq] [e2] pos) δ (!decide (i = j)) δ2 /\ bZ X CL b (.Compare e1 [.NotEq] [e2] pos) δ (.sh (.bl (!decide (i = j)))) δ2 :=
 uP WQ h1 h2 rfl rfl (fun _ _ q => ⟨rfl, by rw [show decide (V.bl i = V.bl j) = decide (i = j) by simp]; exact q⟩) (sy _)
theorem mH (h : OJ X CL b es δ (ds.map T.sh) δ1) (hl : ds.length <= sizeLine := by exact aE rfl) : bZ X CL b (.List es pos) δ (.sh (.lst ds)) δ1 := by
 have := Ek (mh (pos := pos) h (by simpa using hl))
 rwa [T.gS, oh] at this
end
section
variable {X : Cx} {CL : Str -> Addr} {b : Bx} {δ δ1 : List (Option T)} {e : Expr} {d : L3.D} {t : String} {pos pp pq : Pos}
theorem Hj : bootBuiltins "int" = some (.type "int") := by decide +kernel
theorem OO : bootBuiltins "bool" = some (.type "bool") := by decide +kernel
theorem isB (hm : X.mg "isinstance" = none) (hmn : X.mg "bool" = none) (hg : Gl X "isinstance") (hgn : Gl X "bool") (h : cy X CL b e δ d δ1) (ht : tyD d = some t := by rfl) (hs : starEach [e, .Name "bool" pq] X.env = (false, eval e X.env) :: starEach [.Name "bool" pq] X.env := by exact bG rfl) :
   bZ X CL b (.Call (.Name "isinstance" pp) [e, .Name "bool" pq] [] pos) δ (.sh (.bl (t == "bool" || (t == "bool" && "bool" == "int")))) δ1 := DL hm hmn hg hgn OO (by decide) (by decide) h ht (by decide) hs
theorem Uw : bootBuiltins "str" = some (.type "str") := by decide +kernel
theorem isS (hm : X.mg "isinstance" = none) (hmn : X.mg "str" = none) (hg : Gl X "isinstance") (hgn : Gl X "str") (h : cy X CL b e δ d δ1) (ht : tyD d = some t := by rfl) (hs : starEach [e, .Name "str" pq] X.env = (false, eval e X.env) :: starEach [.Name "str" pq] X.env := by exact bG rfl) :
   bZ X CL b (.Call (.Name "isinstance" pp) [e, .Name "str" pq] [] pos) δ (.sh (.bl (t == "str" || (t == "bool" && "str" == "int")))) δ1 := DL hm hmn hg hgn Uw (by decide) (by decide) h ht (by decide) hs
theorem gD : bootBuiltins "list" = some (.type "list") := by decide +kernel
theorem isL (hm : X.mg "isinstance" = none) (hmn : X.mg "list" = none) (hg : Gl X "isinstance") (hgn : Gl X "list") (h : cy X CL b e δ d δ1) (ht : tyD d = some t := by rfl) (hs : starEach [e, .Name "list" pq] X.env = (false, eval e X.env) :: starEach [.Name "list" pq] X.env := by exact bG rfl) :
   bZ X CL b (.Call (.Name "isinstance" pp) [e, .Name "list" pq] [] pos) δ (.sh (.bl (t == "list" || (t == "bool" && "list" == "int")))) δ1 := DL hm hmn hg hgn gD (by decide) (by decide) h ht (by decide) hs
theorem BX : bootBuiltins "tuple" = some (.type "tuple") := by decide +kernel
theorem isT (hm : X.mg "isinstance" = none) (hmn : X.mg "tuple" = none) (hg : Gl X "isinstance") (hgn : Gl X "tuple") (h : cy X CL b e δ d δ1) (ht : tyD d = some t := by rfl) (hs : starEach [e, .Name "tuple" pq] X.env = (false, eval e X.env) :: starEach [.Name "tuple" pq] X.env := by exact bG rfl) :
   bZ X CL b (.Call (.Name "isinstance" pp) [e, .Name "tuple" pq] [] pos) δ (.sh (.bl (t == "tuple" || (t == "bool" && "tuple" == "int")))) δ1 := DL hm hmn hg hgn BX (by decide) (by decide) h ht (by decide) hs
end
noncomputable def kP (sc : Scope) (l : List (Str × NameKind)) : Bool := l.all fun p => sc.names.lookup p.1 == some p.2
theorem pZ {sc : Scope} {l : List (Str × NameKind)} (h : kP sc l = true) (i : Nat) {x : Str} {k : NameKind} (hi : l[i]? = some (x, k)) : sc.names.lookup x = some k := by
 unfold kP at h
 rw [aoi] at h
 exact aoR.mp (h _ (anB hi))
inductive Xs (X : Cx) : List Nat -> List Str -> Prop where
 | nil : Xs X [] []
 | cons {i : Nat} {y : Str} {ix : List Nat} {ys : List Str} (n : Vn X i y) (k : X.env.kindOf y = some .cell \/ X.env.kindOf y = some .free) (r : Xs X ix ys) : Xs X (i :: ix) (y :: ys)
noncomputable def Xu (scope : Scope) (x : Str) (uR : List Str) : Bool :=
 scope.kind == .function && scope.names.lookup x == some .local && uR.all (fun y => scope.names.lookup y == some .free) && decide ((x :: uR).Nodup) &&
   scope.names.all fun y => y.2 != .cell && (y.2 != .local || scope.names.lookup y.1 == some .local) && (y.2 != .free || (uR.contains y.1 && scope.names.lookup y.1 == some .free))
theorem bX {X : Cx} {scope : Scope} {x : Str} {ix : List Nat} {uR : List Str} (c : Xs X ix uR) (ok : Xu scope x uR = true) : rN X scope x (x :: uR) ix := by
 unfold Xu at ok
 simp only [anH, aoi, aok, aoR] at ok
 obtain ⟨⟨⟨⟨h1, h2⟩, h3⟩, h4⟩, h5⟩ := ok
 have kc : ∀ y ∈ uR, X.env.kindOf y = some .cell \/ X.env.kindOf y = some .free := by
   clear h3 h4 h5
   induction c with
   | nil => intro y hy; cases hy
   | cons n k r ih =>
     intro y hy
     rcases ane.mp hy with e | hy
     . subst e; exact k
     . exact ih y hy
 refine ⟨h1, fun y hy e => ?_, h4, fun y hy e => ?_, h2, fun y hy e => ?_, ?_, fun i hi => ?_⟩
 . have := (h5 y hy).1.1
   rw [e] at this
   simp at this
 . have := (h5 y hy).1.2
   rw [e] at this
   simpa using this
 . have := (h5 y hy).2
   rw [e] at this
   simp at this
   exact ⟨this.2, kc _ this.1⟩
 . congr 1
   clear h3 h4 h5 kc
   induction c with
   | nil => rfl
   | cons n k r ih => rw [aog, n.hi, ← ih]
 . clear h4 h5 kc
   induction c with
   | nil => cases hi
   | @cons i' y ix ys n k r ih =>
     rcases ane.mp hi with e | hi
     . subst e; exact ⟨y, n.hi, h3 y anc⟩
     . exact ih (fun z hz => h3 z (anj _ hz)) hi
noncomputable def D.Sj : D -> Int
 | .int i => i
 | _ => 0
noncomputable def D.toS : D -> Str
 | .str x => x
 | _ => Str.empty
theorem uS {bs : List Int} {k : Int} (h0 : 0 <= k) (h1 : k < bs.length) : Ed (bs.map D.int) k = some (.int (bs.getD k.toNat 0)) := by
 obtain ⟨j, rfl⟩ : ∃ j : Nat, k = j := ⟨k.toNat, by omega⟩
 refine ay ?_
 have hl : j < bs.length := by omega
 rw [anJ, anZ hl]
 simp [List.getD, hl]
theorem yN : ∀ (bs : List Int), D.cP (bs.map D.int) = true
 | [] => rfl
 | i :: r => by rw [anD, D.cP, yN r]; rfl
theorem uT {lo : Int} {n j : Nat} {d : D} (h : (jA lo n)[j]? = some d) : d = .int (lo + j) /\ j < n := by
 have hl : j < n := by
   have := (anS.mp h).1
   simpa [jA] using this
 refine ⟨?_, hl⟩
 unfold jA at h
 rw [anJ, aoq hl] at h
 exact (anA h).symm
theorem kD {α : Type} (l : List α) : l.filter (fun _ => true) = l := by simp
theorem Lb {K : PySem.W.Frag} {CL : Str -> Addr} {Z : Hp} : ∀ (ns : List Int), aI K CL Z (ns.map D.int) (ns.map V.int)
 | [] => .nil
 | n :: r => .cons (.int n) (Lb r)
theorem aeE {K : PySem.W.Frag} {CL : Str -> Addr} {H : Hp} {a : Addr} {arg : List Int -> List D} {pre : List Int -> Prop} {res : List Int -> T} {ns : List Int} (ha : arg ns = [.lst (ns.map D.int)]) (hp : pre ns) (hr : res ns = .sh (.bl true)) (hS : pA K H a (ns.map V.int)) (h0 : ∀ x, Sg x = true -> CL x = 0 := by intros; rfl) :
   Us K CL 1 arg pre res [.ref a] H (fun v _ => v = .bl true) fun _ _ _ => False :=
 ⟨H, ns, .refl _, fun _ _ q _ => q, by rw [ha]; exact .cons (.lst hS (Lb ns)) .nil, by rw [ha]; rfl, hp, fun x hx e => absurd (h0 x hx) e, fun v H' W' fp _ _ _ _ _ r _ _ => by
   rw [hr] at r
   cases r with
   | sh r => exact r.sc rfl⟩
inductive Dep : Nat -> D -> Prop where
 | non (n : Nat) : Dep n .non
 | bl (n : Nat) (b : Bool) : Dep n (.bl b)
 | int (n : Nat) (i : Int) : Dep n (.int i)
 | str (n : Nat) (x : Str) (h : PyData.strOk x = true) : Dep n (.str x)
 | tup {n : Nat} {ds : List D} (h : ∀ d ∈ ds, Dep n d) : Dep (n + 1) (.tup ds)
 | lst {n : Nat} {ds : List D} (h : ∀ d ∈ ds, Dep n d) : Dep (n + 1) (.lst ds)
section
variable {X : Cx} {CL : Str -> Addr} {b : Bx} {δ δ1 δ2 δ3 : List (Option T)} {e : Expr} {ds : List D} {pos p2 pp : Pos} {n : Nat} {i : Nat} {x : Str} {t : T} {iP : List Stmt} {DD : gw}
noncomputable def cutD {α : Type} (xs : List α) (lo hi : Option Int) : List α := (xs.drop (HT.KC xs.length 0 lo)).take (HT.KC xs.length xs.length hi - HT.KC xs.length 0 lo)
theorem aI.drop {K : PySem.W.Frag} {Z : Hp} : ∀ {ds : List L3.D} {vs : List V} (n : Nat), aI K CL Z ds vs -> aI K CL Z (ds.drop n) (vs.drop n)
 | _, _, 0, r => r
 | _, _, _ + 1, .nil => .nil
 | _, _, n + 1, .cons _ t => aI.drop n t
theorem aI.take {K : PySem.W.Frag} {Z : Hp} : ∀ {ds : List L3.D} {vs : List V} (n : Nat), aI K CL Z ds vs -> aI K CL Z (ds.take n) (vs.take n)
 | _, _, 0, _ => .nil
 | _, _, _ + 1, .nil => .nil
 | _, _, n + 1, .cons r t => .cons r (aI.take n t)
theorem aI.cut {K : PySem.W.Frag} {Z : Hp} {ds : List L3.D} {vs : List V} (r : aI K CL Z ds vs) (lo hi : Option Int) : aI K CL Z (cutD ds lo hi) (Uh vs lo hi) := by
 unfold cutD Uh
 rw [r.length]
 exact (r.drop _).take _
theorem Lc : ∀ {ds : List L3.D}, D.cP ds = true -> ∀ d ∈ ds, d.pC = true
 | [], _, _, h => by cases h
 | d :: ds, k, e, h => by
   rw [D.cP, anH] at k
   rcases ane.mp h with h | h
   . subst h; exact k.1
   . exact Lc k.2 e h
theorem Sl : ∀ {ds : List L3.D}, (∀ d ∈ ds, d.pC = true) -> D.cP ds = true
 | [], _ => rfl
 | d :: ds, h => by rw [D.cP, h d anc, Sl fun e he => h e (anj _ he)]; rfl
theorem aaV {α : Type} {xs : List α} {lo hi : Option Int} {x : α} (h : x ∈ cutD xs lo hi) : x ∈ xs := List.mem_of_mem_drop (List.mem_of_mem_take h)
noncomputable def TOv (X : Cx) (CL : Str -> Addr) (b : Bx) (e : Option Expr) (δ : List (Option T)) (k : Option Int) (δ' : List (Option T)) : Prop :=
 ∃ t, PO X e t /\ ∀ (H Z : Hp) (σ : L2.St) (ts : List T) (vs : List V) (Q : Option Int -> Hp -> Prop), b8 X.K CL b H Z δ σ ts vs -> (∀ H' Z', aL Z Z' -> aL H H' -> b8 X.K CL b H' Z' δ' σ ts vs -> Q k H') -> t σ H Q
theorem DM : TOv X CL b none δ none δ := ⟨_, aat, fun H Z σ ts vs Q S k => k H Z (.refl _) (.refl _) S⟩
theorem DN {k : Int} (h : cy X CL b e δ (.int k) δ1) : TOv X CL b (some e) δ (some k) δ1 := ⟨_, aau cM, fun H Z σ ts vs Q S kk => h H Z σ ts vs _ S fun v H1 Z1 z1 k1 S1 r => ⟨k, r.sc rfl, kk H1 Z1 z1 k1 S1⟩⟩
theorem Er {lo hi : Option Expr} {l h : Option Int} (h1 : cy X CL b e δ (.lst ds) δ1) (hi1 : D.cP ds = true) (h2 : TOv X CL b lo δ1 l δ2) (h3 : TOv X CL b hi δ2 h δ3) : bZ X CL b (.Subscript e (.Slice lo hi none p2) pos) δ (.lst ((cutD ds l h).map T.sh)) δ3 := fun H Z σ ts vs Q S k => by
 obtain ⟨t2, po2, w2⟩ := h2
 obtain ⟨t3, po3, w3⟩ := h3
 refine cG (KZ aav cM po2 po3) (h1 H Z σ ts vs _ S fun v H1 Z1 z1 k1 S1 r => w2 H1 Z1 σ ts vs _ S1 fun H2 Z2 z2 k2 S2 => w3 H2 Z2 σ ts vs _ S2 fun H3 Z3 z3 k3 S3 => ?_)
 have r' := r.mono (k2.trans k3)
 cases r' with
 | lst hq rr =>
   refine ⟨_, _, rfl, hq, fun p hp => ?_⟩
   have rc := aI.pC S3.tp (Sl fun d hd => Lc hi1 d (aaV hd)) (rr.cut l h)
   obtain ⟨c, S4⟩ := (b8.Eo rc S3).En (g0 := []) (by simp [rc.length]) hp
   exact k _ _ _ (z1.trans (z2.trans z3)) (k1.trans (k2.trans (k3.trans c))) S4
theorem Ux (hm : X.mg "tuple" = none) (h : cy X CL b e δ (.lst ds) δ1) (hi : D.cP ds = true) (hg : Gl X "tuple") (hs : starEach [e] X.env = (false, eval e X.env) :: starEach [] X.env := by exact bG rfl) : bZ X CL b (.Call (.Name "tuple" pp) [e] [] pos) δ (.sh (.tup ds)) δ1 := fun H Z σ ts vs Q S k =>
 cG (o8 GL hg hm BX (bI cM cK hs) (he := hs)) (h H Z σ ts vs _ S fun v H1 Z1 z1 k1 S1 r => by
   cases r with
   | lst hq rr =>
     refine ⟨_, _, rfl, .inl ⟨hq, fun l hl => ?_⟩⟩
     obtain ⟨a, c, S2⟩ := (b8.Eo (aI.pC S1.tp hi rr) S1).OL (by simp [rr.length]) hl
     obtain ⟨Z3, z3, S3⟩ := S2.Xj
     rw [T.gS, oh] at S3
     exact k _ _ Z3 (z1.trans (a.trans z3)) (k1.trans c) S3)
theorem ug {tl tl0 : List T} {pa pb : Pos} (n : Vn X i x) (h0 : δ[i]? = some (some (.lst tl0))) (h : bZ X CL b e δ t δ1) (h1 : δ1[i]? = some (some (.lst tl))) (hl : tl.length <= 1000000) (k : gU X CL b iP (δ1.set i (some (.lst (tl ++ [t])))) DD)
   (gT : attributeBase (.Name x pp) "append" X.env (eval (.Name x pp) X.env) = eval (.Name x pp) X.env := by rfl)
   (nM : ((backTo pb (starEach [e] X.env)).all (fun x => !x.1) && (backToKw pb (keywordEach [] X.env)).all (fun x => x.1.isSome) && decide ([e].length + ([] : List Keyword).length + (if ([] : List Keyword).isEmpty then 0 else 1) < 30)) = true := by rfl)
   (hline : (pa.endLine == pb.line) = true := by rfl) (hs : starEach [e] X.env = (false, eval e X.env) :: starEach [] X.env := by exact bG rfl) (Iw : swapsWith (.Call (.Attribute (.Name x pp) "append" pa) [e] [] pb) none pos.line X.env = pure false := by rfl) :
   gU X CL b (.Expr (.Call (.Attribute (.Name x pp) "append" pa) [e] [] pb) pos :: iP) δ DD :=
 dF (aeA i h0 h h1 (aov hl (by rw [anF]; decide)) k n.hi n.hv n.hd n.uF gT nM hline hs Iw)
theorem fc {n : Nat} (hn : ds.length = n) (hm : X.mg "len" = none) (h : cy X CL b e δ (.lst ds) δ1) (hg : Gl X "len") (hs : starEach [e] X.env = (false, eval e X.env) :: starEach [] X.env := by exact bG rfl) : bZ X CL b (.Call (.Name "len" pp) [e] [] pos) δ (.sh (.int n)) δ1 := by
 subst hn
 exact yK hm h hg hs
theorem dz (h : bZ X CL b e δ (.lst (ds.map T.sh)) δ1) : cy X CL b e δ (.lst ds) δ1 := by
 have := acT h
 rwa [T.gS, oh] at this
end
theorem xA {α : Type} {f : α -> D} {l : List α} {k : Int} (z : α) (h0 : 0 <= k) (h1 : k < l.length) : Ed (l.map f) k = some (f (l.getD k.toNat z)) := by
 obtain ⟨j, rfl⟩ : ∃ j : Nat, k = j := ⟨k.toNat, by omega⟩
 refine ay ?_
 have hl : j < l.length := by omega
 rw [anJ, anZ hl]
 simp [List.getD, hl]
theorem pD {α : Type} {f : α -> D} (h : ∀ a, (f a).pC = true) : ∀ (l : List α), D.cP (l.map f) = true
 | [] => rfl
 | a :: l => by rw [anD, D.cP, h a, pD h l]; rfl
section
variable {X : Cx} {CL : Str -> Addr} {b : Bx} {δ δ1 δ2 : List (Option T)} {e e1 e2 : Expr} {es : List Expr} {d : D} {pos p2 pp : Pos} {n : Nat} {i : Nat} {x : Str} {t : T} {iP : List Stmt} {DD : gw}
theorem aaW {k : Int} {u : Tok} (hm : X.mg x = some (.int k u)) (hg : Gl X x) (hd : (x == ("__debug__" : Str)) = false := by decide) : bZ X CL b (.Name x pos) δ (.sh (.int k)) δ := fun H Z σ ts vs Q S kk =>
 cG (HW (v := .int k) hg hm ⟨u, rfl⟩ hd) (kk _ H Z (.refl _) (.refl _) (S.push (.int k)))
theorem aG {k : Int} (hm : ∃ u, X.mg x = some (.int k u)) (hg : Gl X x) (hd : (x == ("__debug__" : Str)) = false := by decide) : bZ X CL b (.Name x pos) δ (.sh (.int k)) δ := by
 obtain ⟨u, hm⟩ := hm
 exact aaW hm hg hd
theorem vE (n : Vn X i x) (h : δ[i]? = some (some t)) (e : t.gS = d) : cy X CL b (.Name x pos) δ d δ := e ▸ vB n h
theorem sF (x : Str) : ∀ l : List Str, inV (.str x) (l.map V.str) = decide (x ∈ l)
 | [] => by simp [inV]
 | y :: l => by
   have ih := sF x l
   unfold inV at ih ⊢
   rw [anD, aoj, ih]
   have e : ∀ a c : Str, W6 (.str a) (.str c) = (a == c) := fun _ _ => rfl
   rw [e]
   by_cases h : y = x
   . subst h; simp
   . have h' : ¬ x = y := fun e => h e.symm
     simp [h, h']
theorem aI.strs {K : PySem.W.Frag} {Z : Hp} : ∀ {l : List Str} {vs : List V}, aI K CL Z (l.map D.str) vs -> vs = l.map V.str
 | [], _, r => by
   have r' : aI K CL Z [] _ := r
   cases r'; rfl
 | y :: l, _, r => by
   have r' : aI K CL Z (D.str y :: l.map D.str) _ := r
   cases r' with
   | cons r1 r2 => rw [r1.sc rfl, aI.strs r2]; rfl
theorem gE : ∀ l : List Str, (l.map V.str).all wX = true
 | [] => rfl
 | y :: l => by rw [anD, aoP, gE l]; rfl
theorem kW {l : List Str} (h1 : cy X CL b e1 δ (.str x) δ1) (h2 : cy X CL b e2 δ1 (.tup (l.map .str)) δ2) (hm : behindInMarks .In e2 = false) :
   uG X CL b (.Compare e1 [.In] [e2] pos) δ (decide (x ∈ l)) δ2 /\ bZ X CL b (.Compare e1 [.In] [e2] pos) δ (.sh (.bl (decide (x ∈ l)))) δ2 := by
 constructor
 . intro H Z σ ts vs Q S k
   refine GN (yC vS cM cM hm) (h1 H Z σ ts vs _ S fun v1 H1 Z1 z1 k1 S1 r1 => h2 H1 Z1 σ ts vs _ S1 fun v2 H2 Z2 z2 k2 S2 r2 => ?_)
   cases r2 with
   | tup hq rr =>
     have e := rr.strs
     subst e
     refine ⟨_, _, rfl, .inr hq, by rw [r1.sc rfl]; rfl, gE l, _, rfl, ?_⟩
     rw [anm ans, r1.sc rfl, sF]
     exact k H2 Z2 (z1.trans z2) (k1.trans k2) S2
 . intro H Z σ ts vs Q S k
   refine cG (yz vS cM cM hm) (h1 H Z σ ts vs _ S fun v1 H1 Z1 z1 k1 S1 r1 => h2 H1 Z1 σ ts vs _ S1 fun v2 H2 Z2 z2 k2 S2 r2 => ?_)
   cases r2 with
   | tup hq rr =>
     have e := rr.strs
     subst e
     refine ⟨_, _, rfl, .inr hq, by rw [r1.sc rfl]; rfl, gE l, ?_⟩
     rw [anm ans, r1.sc rfl, sF]
     exact k _ H2 Z2 (z1.trans z2) (k1.trans k2) (S2.push (.bl _))
theorem mj {l : List Str} {j : Nat} (h1 : cy X CL b e1 δ (.str x) δ1) (h2 : OJ X CL b es δ1 ((l.map D.str).map T.sh) δ2) (hl : (l.map D.str).length <= sizeLine := by exact aE rfl) :
   uG X CL b (.Compare e1 [.In] [.Tuple es j p2] pos) δ (decide (x ∈ l)) δ2 /\ bZ X CL b (.Compare e1 [.In] [.Tuple es j p2] pos) δ (.sh (.bl (decide (x ∈ l)))) δ2 := kW h1 (ah (cN h2 hl)) rfl
theorem aaX {p : Bool} (hm : X.mg "int" = none) (h : cy X CL b e δ (.bl p) δ1) (hg : Gl X "int") (hs : starEach [e] X.env = (false, eval e X.env) :: starEach [] X.env := by exact bG rfl) : bZ X CL b (.Call (.Name "int" pp) [e] [] pos) δ (.sh (.int (if p then 1 else 0))) δ1 := fun H Z σ ts vs Q S k =>
 cG (o8 Ub hg hm Hj (bI cM cK hs) (he := hs)) (h H Z σ ts vs _ S fun v H1 Z1 z1 k1 S1 r => .inr ⟨p, by rw [r.sc rfl], k _ H1 Z1 z1 k1 (S1.push (.int _))⟩)
noncomputable def Es : Expr -> Option Str
 | .Constant (.str x) _ _ => some x
 | _ => none
noncomputable def AO : List Expr -> Option (List Str)
 | [] => some []
 | e :: es => (Es e).bind fun x => (AO es).map (x :: ·)
theorem Ld {e : Expr} {x : Str} (h : Es e = some x) : ∃ j p, e = .Constant (.str x) j p := by
 unfold Es at h
 split at h
 . cases h; exact ⟨_, _, rfl⟩
 . cases h
theorem gF : ∀ {es : List Expr} {l : List Str}, AO es = some l -> OJ X CL b es δ ((l.map D.str).map T.sh) δ
 | [], l, h => by
   have e : l = [] := (anA h).symm
   subst e
   exact cL
 | e :: es, l, h => by
   rw [AO] at h
   obtain ⟨x, hx, h⟩ := Option.bind_eq_some_iff.mp h
   obtain ⟨l', hl, rfl⟩ := aoA.mp h
   obtain ⟨j, p, rfl⟩ := Ld hx
   exact aY aB (gF hl)
theorem aji {st1 : Stmt} (J : List (Option T) -> Prop) (k : ∀ δ2, J δ2 -> gU X CL b iP δ2 DD) (h : (∀ δ2, J δ2 -> gU X CL b iP δ2 DD) -> gU X CL b (st1 :: iP) δ DD) : gU X CL b (st1 :: iP) δ DD := h k
end
theorem IB {α : Type} {l : List α} {k : Int} (z : α) (h0 : 0 <= k) (h1 : k < l.length) : Ed l k = some (l.getD k.toNat z) := by
 obtain ⟨j, rfl⟩ : ∃ j : Nat, k = j := ⟨k.toNat, by omega⟩
 refine ay ?_
 have hl : j < l.length := by omega
 rw [anZ hl]
 simp [List.getD, hl]
theorem str_len (x y : Str) : (x ++ y).length = x.length + y.length := by
 show (x.cps ++ y.cps).size = _
 rw [Array.size_append]; rfl
theorem BZ (l : List Int) : T.l0 ((l.map D.int).map T.sh) = true := by
 rw [an1]
 induction l with
 | nil => rfl
 | cons i r ih => rw [anD, T.l0, ih]; rfl
section
variable {K : PySem.W.Frag} {CL : Str -> Addr} {b : Bx} {H H' Z : Hp} {δ : List (Option T)} {σ : L2.St} {ts tl : List T} {vs us : List V} {t : T} {v : V}
theorem uL.get : ∀ {fs : List (Str × D)} {gs : List (Str × V)} {f : Str} {d : D}, uL K CL Z fs gs -> fs.lookup f = some d -> ∃ v, gs.lookup f = some v /\ bV K CL Z d v
 | _, _, _, _, .nil, e => by simp at e
 | _, _, f, d, .cons (x := x) r t, e => by
   rw [anN] at e ⊢
   cases h : f == x with
   | true => rw [h] at e; cases e; exact ⟨_, rfl, r⟩
   | false => rw [h] at e; exact uL.get t e
noncomputable def yO (f : Str) (t : T) : List (Str × T) -> List (Str × T)
 | [] => [(f, t)]
 | (g, x) :: r => if g = f then (g, t) :: r else (g, x) :: yO f t r
theorem cY.length {fs : List (Str × T)} {gs : List (Str × V)} {fp : List Addr} (h : cY K CL H Z fs gs fp) : fs.length = gs.length :=
 cY.ind (P := fun d v _ => d.length = v.length) rfl (fun _ _ i => congrArg (· + 1) i) h
theorem cY.put {f : Str} {g : List Addr} (q : bN K CL H Z t v g) : ∀ {fs : List (Str × T)} {gs : List (Str × V)} {fp : List Addr}, cY K CL H Z fs gs fp →
   ∃ Sn f', cY K CL H Z (yO f t fs) (pB f v gs) Sn /\ f'.Sublist fp /\ Sn.Perm (g ++ f')
 | _, _, _, .nil => ⟨g ++ [], [], .cons q .nil, an4 _, ao7 _⟩
 | _, _, _, .cons (x := x) (fp := fp) (gp := gp) r rs => by
   rw [yO, pB]
   by_cases h : x = f
   . rw [anu h, anu h]
     exact ⟨g ++ gp, gp, .cons q rs, aow _ _, ao7 _⟩
   . rw [anm h, anm h]
     obtain ⟨p, p', h1, h2, h3⟩ := cY.put (f := f) q rs
     refine ⟨fp ++ p, fp ++ p', .cons r h1, an7 (an4 _) h2, (anU fp h3).trans ?_⟩
     rw [← ani, ← ani]
     exact anY.append_right p'
theorem b8.OQ {a : Addr} {o : HO} {Sn gp fp Si : List Addr} {δ2 : List (Option T)} (hm : sC o = false) (S : b8 K CL b H Z δ σ ts vs) (own : ∀ c ∈ fp ++ gp, Z c = none /\ b.B c = none) (ha : a ∈ fp ++ gp)
   (e' : jx K CL (upd H a o) Z δ2 σ Sn) (r' : bA K CL (upd H a o) Z tl us Si) (pm : (Sn ++ Si).Nodup) (sub : ∀ c ∈ Sn ++ Si, c ∈ fp ++ gp) :
   b8 K CL b (upd H a o) Z δ2 σ tl us := by
 have oa := own a ha
 refine ⟨⟨_, _, e', r', pm, fun c hc => own c (sub c hc)⟩, fun c u q => ?_, S.zz, fun c u q => ?_, S.new, fun c u q i => ?_, S.tab⟩
 . rw [aD (bQ q oa.2)]; exact S.bh c u q
 . rw [aD (bQ q oa.1)]; exact S.zh c u q
 . by_cases hc : c = a
   . subst hc; rw [bx] at q; cases q; rw [hm] at i; cases i
   . rw [aD hc] at q; exact S.tp c u q i
theorem b8.setField {i : Nat} {x : Addr} {c f : Str} {fs : List (Str × T)} (S : b8 K CL b H Z δ σ (t :: ts) (v :: vs)) (hi : δ[i]? = some (some (.pin x (.ins c fs)))) :
   ∃ dx gs, σ[i]? = some (some (.ref x)) /\ H x = some (.ins (CL c) dx gs) /\ gs.length = fs.length /\ b8 K CL b (upd H x (.ins (CL c) dx (pB f v gs))) Z (δ.set i (some (.pin x (.ins c (yO f t fs))))) σ ts vs := by
 obtain ⟨fp, gp, e, r, nd, k⟩ := S.rep
 obtain ⟨v0, f1, f2, f3, hv, wY, rt, put, _⟩ := e.get hi
 subst wY
 cases rt with
 | pin rt =>
 cases rt with
 | @ins a dx _ gs _ g ha rs =>
   cases r with
   | @cons _ _ _ _ ft gr q1 q2 =>
     have ne : ∀ c ∈ (f1 ++ (g ++ f3)) ++ (ft ++ gr), c ≠ x := fun c hc e => by
       subst e
       have hp : ((f1 ++ ((c :: g) ++ f3)) ++ (ft ++ gr)).Perm (c :: ((f1 ++ (g ++ f3)) ++ (ft ++ gr))) := by
         rw [anK, ← anK]
         exact (aoh.append_right _)
       exact (an2.mp (hp.nodup_iff.mp nd)).1 hc
     refine ⟨dx, gs, hv, ha, rs.length.symm, ?_⟩
     have q1' := q1.mono (H' := upd H x (.ins (CL c) dx (pB f v gs))) (.refl _) fun c hc => aD (ne c (by simp [hc]))
     have rs' := rs.mono (H' := upd H x (.ins (CL c) dx (pB f v gs))) (.refl _) fun c hc => aD (ne c (by simp [hc]))
     obtain ⟨p, p', h1, h2, h3⟩ := cY.put (f := f) q1' rs'
     have r1 : bN K CL (upd H x (.ins (CL c) dx (pB f v gs))) Z (.pin x (.ins c (yO f t fs))) (.ref x) (x :: p) := .pin (.ins bx h1)
     have e2 := put (H' := upd H x (.ins (CL c) dx (pB f v gs))) (.refl _) (fun c hc => aD (ne c (by
       rcases ank.mp hc with h | h
       . simp [h]
       . simp [h]))) r1
     rw [kU hv] at e2
     have hp : ((f1 ++ ((x :: p) ++ f3)) ++ gr).Perm ((f1 ++ ((x :: p') ++ f3)) ++ (ft ++ gr)) := by
       have h4 : ((f1 ++ ((x :: p) ++ f3)) ++ gr).Perm ((f1 ++ ((x :: (ft ++ p')) ++ f3)) ++ gr) := ((h3.cons x).append_right f3).append_left f1 |>.append_right gr
       refine h4.trans ?_
       simp only [anK, ani]
       refine anU f1 (List.Perm.cons x ?_)
       have := (anY (l₁ := ft) (l₂ := p' ++ f3)).append_right gr
       simp only [ani] at this
       exact this
     have sb : ((f1 ++ ((x :: p') ++ f3)) ++ (ft ++ gr)).Sublist ((f1 ++ ((x :: g) ++ f3)) ++ (ft ++ gr)) :=
       an7 (an7 (an4 _) (an7 (List.Sublist.cons₂ x h2) (an4 _))) (an4 _)
     exact S.OQ rfl k (by simp) e2 (q2.mono (.refl _) fun c hc => aD (ne c (by simp [hc]))) (hp.nodup_iff.mpr (nd.sublist sb)) fun c hc => sb.subset (hp.mem_iff.mp hc)
end
section
variable {X : Cx} {CL : Str -> Addr} {b : Bx} {δ δ1 : List (Option T)} {e : Expr} {t : T} {d : D} {c f x : Str} {fs : List (Str × D)} {pos : Pos} {DD : gw} {i : Nat}
theorem bS (hc : uA X.K (CL c)) (n : aN X.K (CL c) f) (h : cy X CL b e δ (.ins c fs) δ1) (hl : fs.lookup f = some d) (hb : attributeBase e f X.env (eval e X.env) = eval e X.env := by rfl) :
   cy X CL b (.Attribute e f pos) δ d δ1 := fun H Z σ ts vs Q S k =>
 cG (WZ cM hb) (h H Z σ ts vs _ S fun v H' Z' z s S' r => by
   cases r with
   | @ins a dx _ gs _ ha rf =>
     obtain ⟨w, hw, Ui⟩ := rf.get hl
     exact ⟨a, CL c, dx, gs, w, rfl, ha, hc, n, hw, k w H' Z' z s S' Ui⟩)
theorem g7 (hc : uA X.K (CL c)) (n : aN X.K (CL c) f) (h : bZ X CL b e δ (.sh (.ins c fs)) δ1) (hl : fs.lookup f = some d) (hb : attributeBase e f X.env (eval e X.env) = eval e X.env := by rfl) :
   bZ X CL b (.Attribute e f pos) δ (.sh d) δ1 := fun H Z σ ts vs Q S k =>
 cG (WZ cM hb) (h H Z σ ts vs _ S fun v H' Z' z s S' => by
   obtain ⟨fp, gp, _, r, _, _⟩ := S'.rep
   cases r with
   | cons r _ =>
     cases r with
     | sh r =>
       cases r with
       | @ins a dx _ gs _ ha rf =>
         obtain ⟨w, hw, Ui⟩ := rf.get hl
         exact ⟨a, CL c, dx, gs, w, rfl, S'.zh _ _ ha, hc, n, hw, k w H' Z' z s (S'.pop.push Ui)⟩)
theorem yP {iP : List Stmt} {a : Addr} {gs : List (Str × T)} {pa pb pc : Pos} (hc : uA X.K (CL c)) (n : aN X.K (CL c) f) (nm : Vn X i x) (h : bZ X CL b e δ t δ1) (h1 : δ1[i]? = some (some (.pin a (.ins c gs)))) (hl : gs.length < 1000)
   (k : gU X CL b iP (δ1.set i (some (.pin a (.ins c (yO f t gs))))) DD) (hs : swapsWith e (some (.Attribute (.Name x pa) f pb)) pc.line X.env = pure false := by rfl) :
   gU X CL b (.Assign [.Attribute (.Name x pa) f pb] e pc :: iP) δ DD := dF fun H Z σ ts vs E S M =>
 yI (aea (qZ nm.hi nm.hv nm.hd nm.uF) cM hs) (h H Z σ ts vs _ S fun v H' Z' z s S' => by
   obtain ⟨dx, ws, hv, hx, hlen, S2⟩ := S'.setField (f := f) h1
   exact ⟨.ref a, hv, a, CL c, dx, ws, rfl, hx, hc, n, by rw [hlen]; exact hl, M.nx _ σ _ Z' z S2 k⟩)
end
noncomputable def spI (K : PySem.W.Frag) (CL : Str -> Addr) {A : Type} (c : Str) (n : Nat) (arg : A -> List D) (Pre : A -> Prop) (res : A -> List (Str × T)) : Sp := fun vs H Q _ =>
 ∃ (W H0 : Hp) (a : A) (x dx : Addr) (us : List V), vs = .ref x :: us /\ H0 x = none /\ H0 dx = none /\ dx ≠ x /\ H = upd (upd H0 dx (.own x)) x (.ins (CL c) dx []) ∧
   aL W H0 /\ (∀ c o, H0 c = some o -> sC o = true -> W c = some o) /\ aI K CL W (arg a) us /\ (arg a).length + 1 = n /\ Pre a /\ uM CL W ∧
   ∀ H' W' fp, aL H0 H' -> aL W W' -> aL W' H' -> (∀ c o, W' c = some o -> W c = none -> H0 c = none) -> (∀ c o, H' c = some o -> sC o = true -> W' c = some o) →
     bN K CL H' W' (.ins c (res a)) (.ref x) fp -> fp.Nodup -> (∀ c ∈ fp, W' c = none /\ H0 c = none) -> Q .non H'
section
variable {X : Cx} {CL : Str -> Addr} {b : Bx} {δ δ1 : List (Option T)} {e : Expr} {es : List Expr} {pos pp : Pos}
variable {A : Type} {k n : Nat} {f : Addr} {fd : FuncData} {ps : List Str} {arg : A -> List D} {Pre : A -> Prop} {x c : Str}
theorem aaY {res : A -> List (Str × T)} (a : A) (M : Mk X.K (CL c) f) (F : lY X.prog X.w X.K X.mg X.base DJ k f fd ps (spI X.K CL c n arg Pre res)) (hr : kO (k + 1) X.A) (hm : X.mg x = some (.ref (CL c))) (hb : Binds X.K fd ps [])
   (h : BAv X CL b (e :: es) δ (arg a) δ1) (hn : (arg a).length + 1 = n) (hp : Pre a) (hc : T.bR (res a) = true) (hg : Gl X x)
   (KW : (x == ("__debug__" : Str)) = false := by decide) (he : starEach (e :: es) X.env = (false, eval e X.env) :: starEach es X.env := by exact bG rfl) (GH : (backTo pos (starEach es X.env)).any (·.1) = false := by rfl) :
   bZ X CL b (.Call (.Name x pp) (e :: es) [] pos) δ (.ins c (res a)) δ1 := fun H Z σ ts vs Q S kk =>
 cG (R9 M F hr hg hm hb .nil Xa paS KW he GH) (h H Z σ ts vs _ S fun us H1 Z1 z1 k1 S1 r x dx hx hdx ne => by
   rw [anL]
   refine ⟨H1, H1, a, x, dx, us, rfl, hx, hdx, ne, rfl, .refl _, fun _ _ q _ => q, r, hn, hp, S1.aeo, fun H' W' fp hh ww wh nw tp rt nd own => ⟨rfl, ?_⟩⟩
   obtain ⟨Z', z', S'⟩ := S1.back hh S1.zh ww wh nw tp rt nd own (.inr (by rw [T.clean]; exact hc))
   exact kk _ H' Z' (z1.trans z') (k1.trans hh) S')
end
theorem Sq {P : Program} {w : World} {K : PySem.W.Frag} {mg : Str -> Option Value} {base : Heap} {CL : Str -> Addr} {x qual c : Str} {st : Stmt} {f : Addr} {fd : FuncData} {N ps : List Str} {k : Nat} {A : Type} {arg : A -> List D} {Pre : A -> Prop} {res : A -> List (Str × T)} (F : jQ K x qual st f fd) (S : aJ N ps (aj st))
   (hb : ∀ (pX : Value) (Ar : Around) (outer : List Env) (s : Shared) (H : Hp) (E : XK) (b : Bx) (a : A) (y : Addr), kO k (Ar.deeper (envOfC qual (aj st) s.heap.objs.size f pX)) -> Pre a →
     gU (GJ DJ P w K mg base N qual (aj st) f pX Ar outer s H E).nox CL b (jP st) (some (.pin y (.ins c [])) :: ((arg a).map (fun d => some (T.sh d)) ++ List.replicate (N.length - ((arg a).length + 1)) none))
       { nx := fun δ => δ[0]? = some (some (.pin y (.ins c (res a)))), rt := fun _ _ => False }) :
   lY P w K mg base DJ (k + 1) f fd ps (spI K CL c ps.length arg Pre res) := by
 refine F.ok S (fun vs H Q E h => ?_) (fun pX Ar outer s H vs Q E hr h => ?_)
 . obtain ⟨W, H0, a, y, dx, us, rfl, _, _, _, _, _, _, r, hl, _⟩ := h
   rw [anG, ← r.length]; exact hl
 . obtain ⟨W, H0, a, y, dx, us, rfl, hy, hdx, ne, rfl, wh, tp, r, hl, hp, tb, kk⟩ := h
   have old : ∀ {d : Addr} {o : HO}, H0 d = some o -> upd (upd H0 dx (.own y)) y (.ins (CL c) dx []) d = some o := fun {d o} q => by
     rw [aD (bQ q hy), aD (bQ q hdx)]; exact q
   refine ⟨_, pbS, hb pX Ar outer s _ E ⟨H0, W⟩ a y hr hp _ W _ [] [] _ ⟨⟨[y] ++ [], [], ?_, .nil, by simp, fun d hd => ?_⟩, fun d o q => old q, .refl _, fun d o q => old (wh d o q), fun d o q z => ?_, fun d o q i => ?_, tb⟩ ⟨fun δ' σ' H' Z' s' S' e => ?_, fun t v H' Z' δ' σ' s' S' e => e.elim, fun _ _ _ _ _ _ e => e.elim, fun _ _ _ _ _ _ e => e.elim⟩⟩
   . unfold L2.start
     rw [anD, anG, anK, ← r.length]
     exact .cons (.pin (.ins bx .nil)) (sE _ r)
   . have : d = y := by simpa using hd
     subst this
     exact ⟨aep wh hy, hy⟩
   . have q' : W d = some o := q
     have z' : W d = none := z
     rw [q'] at z'; cases z'
   . by_cases h1 : d = y
     . subst h1; rw [bx] at q; cases q; cases i
     . rw [aD h1] at q
       by_cases h2 : d = dx
       . subst h2; rw [bx] at q; cases q; cases i
       . rw [aD h2] at q; exact tp d o q i
   . obtain ⟨fp, gp, eE, _, nd, own⟩ := S'.rep
     obtain ⟨v, f1, f2, f3, hv, wY, rt, _, _⟩ := eE.get e
     subst wY
     cases rt with
     | pin rt =>
       refine kk H' Z' f2 S'.bh S'.zz S'.zh S'.new S'.tp rt ?_ fun d hd => own d (by simp [hd])
       have h1 := (an5.mp nd).1
       exact (an5.mp (an5.mp h1).2.1).1
section
variable {X : Cx} {CL : Str -> Addr} {b : Bx} {δ δ1 δ2 : List (Option T)} {e e1 e2 : Expr} {t : T} {ds ZZ : List D} {x : Str} {pos pp : Pos} {DD : gw} {i : Nat} {iP body : List Stmt}
theorem Ss (g : Gx X) (P : Nat -> List (Option T) -> Prop) (m : Nat) (h0 : P m δ)
   (hs : ∀ m δ, P m δ -> ∃ p δ1, uG X CL b e δ p δ1 ∧
     (p = true -> gU X CL b body δ1 { nx := fun δ2 => ∃ m', m' < m /\ P m' δ2, rt := DD.rt, bk := fun δ2 => gU X CL b iP δ2 DD, ct := fun δ2 => ∃ m', m' < m /\ P m' δ2 }) /\ (p = false -> gU X CL b iP δ1 DD)) :
   gU X CL b (.While e body [] pos :: iP) δ DD := dF fun H Z σ ts vs E S M =>
 yI (WL g.xe ptS pbS) (by
   refine ⟨fun m σ H => ∃ Z2 δ2, aL Z Z2 /\ b8 X.K CL b H Z2 δ2 σ ts vs /\ P m δ2, ⟨m, Z, δ, .refl _, S, h0⟩, ?_⟩
   rintro m σ H ⟨Z2, δ2, z2, S2, p2⟩
   obtain ⟨p, δ3, ht, h1, h2⟩ := hs m δ2 p2
   refine ht H Z2 σ ts vs _ S2 fun H3 Z3 z3 k3 S3 => ?_
   cases p with
   | true =>
     rw [anu rfl]
     refine ⟨fun σ' H' => ∃ m', m' < m /\ ∃ Z2 δ2, aL Z Z2 /\ b8 X.K CL b H' Z2 δ2 σ' ts vs /\ P m' δ2, fun σ' H' q => q, ?_⟩
     refine h1 rfl H3 Z3 σ ts vs _ S3 ⟨fun δ' σ' H' Z' s' S' ⟨m', l, q⟩ => ⟨m', l, Z', δ', z2.trans (z3.trans s'), S', q⟩, fun t v H' Z' δ' σ' s' S' q => M.rt t v H' Z' δ' σ' (z2.trans (z3.trans s')) S' q,
       fun δ' σ' H' Z' s' S' q => M.nx δ' σ' H' Z' (z2.trans (z3.trans s')) S' q, fun δ' σ' H' Z' s' S' ⟨m', l, q⟩ => ⟨m', l, Z', δ', z2.trans (z3.trans s'), S', q⟩⟩
   | false =>
     rw [anm (by decide)]
     exact M.nx δ3 σ H3 Z3 (z2.trans z3) S3 (h2 rfl))
noncomputable def agU (K : PySem.W.Frag) : R2 := fun x y H Q => ∃ l b xs zs, x = .ref l /\ y = .ref b /\ pA K H l xs /\ pA K H b zs /\ xs.length + zs.length <= sizeLine /\ ∀ p, H p = none -> Q (.ref p) (upd H p (.lst (xs ++ zs)))
theorem aaZ : wW X (binaryOp .Add) (agU X.K) := by
 intro pins s σ H x y v u Q I rx ry h
 obtain ⟨l, b, xs, zs, rfl, rfl, hH, hB, hz, q⟩ := h
 cases rx
 cases ry
 obtain ⟨its, r, pl, _⟩ := I.list hH
 obtain ⟨Eg, r2, pl2, _⟩ := I.list hB
 have e1 := r.length
 have e2 := r2.length
 obtain ⟨⟨c1, dd, da1, sl⟩, ho, hc, n, hd⟩ := pl.isList
 obtain ⟨⟨c2, dd2, da2, sl2⟩, ho2, hc2, n2, hd2⟩ := pl2.isList
 cases hc; cases hc2; cases hd; cases hd2
 refine concat_meets ⟨_, ho, rfl⟩ ⟨_, ho2, rfl⟩ noFill_list_add seq_list_add PySem.F.slot_list_add PySem.F.entry_list_add (PySem.F.args_list_add_2 (Value.ref l) (Value.ref b))
   (list_addW l b its.toArray Eg.toArray n n2 dd dd2 sl sl2 (by rw [anQ, anQ]; omega)) ⟨ho, ho2, ?_⟩
 have ea : its.toArray ++ Eg.toArray = (its ++ Eg).toArray := by simp
 rw [ea]
 exact ⟨.ref _, _, I.agz (t' := s.toks) (r.append r2) (by rw [anv]; omega), rfl, q _ I.fresh⟩
theorem aI.app {K : PySem.W.Frag} {Z : Hp} {ds ZZ : List L3.D} {vs vs2 : List V} (h : aI K CL Z ds vs) (r2 : aI K CL Z ZZ vs2) : aI K CL Z (ds ++ ZZ) (vs ++ vs2) :=
 aI.ind (P := fun ds vs => aI K CL Z (ds ++ ZZ) (vs ++ vs2)) r2 (fun r _ i => .cons r i) h
theorem IC (h1 : cy X CL b e1 δ (.lst ds) δ1) (h2 : cy X CL b e2 δ1 (.lst ZZ) δ2) (i1 : D.cP ds = true) (i2 : D.cP ZZ = true) (hz : ds.length + ZZ.length <= sizeLine) :
   bZ X CL b (.BinOp e1 .Add e2 pos) δ (.lst ((ds ++ ZZ).map T.sh)) δ2 := fun H Z σ ts vs Q S k =>
 cG (acJ aaZ cM cM) (h1 H Z σ ts vs _ S fun v1 H1 Z1 z1 k1 S1 r1 => h2 H1 Z1 σ ts vs _ S1 fun v2 H2 Z2 z2 k2 S2 r2 => by
   have r1' := r1.mono k2
   cases r1' with
   | lst hq1 rr1 =>
     cases r2 with
     | lst Uy rr2 =>
       refine ⟨_, _, _, _, rfl, rfl, hq1, Uy, by rw [← rr1.length, ← rr2.length]; exact hz, fun p hp => ?_⟩
       have rc := aI.app (aI.pC S2.tp i1 rr1) (aI.pC S2.tp i2 rr2)
       obtain ⟨c, S4⟩ := (b8.Eo rc S2).En (g0 := []) (by simp [rc.length, rr1.length, rr2.length]) hp
       exact k _ _ _ (z1.trans z2) (k1.trans (k2.trans c)) S4)
theorem boot_str : bootBuiltins "str" = some (.type "str") := by decide +kernel
theorem vW {i : Int} (hm : X.mg "str" = none) (hg : Gl X "str") (h : cy X CL b e δ (.int i) δ1) (hi : i.natAbs.log2 < 1920) (hs : starEach [e] X.env = (false, eval e X.env) :: starEach [] X.env := by exact bG rfl) :
   bZ X CL b (.Call (.Name "str" pp) [e] [] pos) δ (.sh (.str (toString i))) δ1 := fun H Z σ ts vs Q S k =>
 cG (o8 HY hg hm boot_str (bI cM cK hs) (he := hs)) (h H Z σ ts vs _ S fun v H1 Z1 z1 k1 S1 r => by
   rw [r.sc rfl]
   exact ⟨i, rfl, hi, k _ H1 Z1 z1 k1 (S1.push (.str _))⟩)
end
structure Fm (X : Cx) (CL : Str -> Addr) (x : Str) (k n : Nat) {A : Type} (arg : A -> List D) (Pre : A -> Prop) (res : A -> List (Str × T)) : Prop where
 ex : ∃ f fd ps, Mk X.K (CL x) f /\ lY X.prog X.w X.K X.mg X.base DJ k f fd ps (spI X.K CL x n arg Pre res) /\ X.mg x = some (.ref (CL x)) /\ Binds X.K fd ps []
 room : kO (k + 1) X.A
noncomputable def Xv (N : List Str) (y : Addr) (c : Str) (ds : List D) : List (Option T) := some (.pin y (.ins c [])) :: (ds.map (fun d => some (T.sh d)) ++ List.replicate (N.length - (ds.length + 1)) none)
theorem aeF {K : PySem.W.Frag} {CL CL' : Str -> Addr} {arg : List Int -> List D} {pre : List Int -> Prop} {res : List Int -> T} (ha : ∀ a, arg a = [.lst (a.map .int)]) (hr : ∀ a, res a = .sh (.bl true)) (h0 : ∀ x, Sg x = true -> CL x = 0) :
   ∀ (vs : List V) (H : Hp) (Q : VK) (E : XK), Us K CL' 1 arg pre res vs H Q E -> Us K CL 1 arg pre res vs H Q E := by
 rintro vs H Q E ⟨W, a, h1, h2, h3, h4, h5, _, k⟩
 have aeG : ∀ {l : List Int} {us : List V}, aI K CL' W (l.map .int) us -> aI K CL W (l.map .int) us := by
   intro l
   induction l with
   | nil => intro us r; cases r; exact .nil
   | cons i l ih =>
     intro us r
     cases r with
     | cons r t => cases r; exact .cons (.int i) (ih t)
 refine ⟨W, a, h1, h2, ?_, h4, h5, fun x hx e => absurd (h0 x hx) e, fun v H' W' fp a1 a2 a3 a4 a5 r nd own => k v H' W' fp a1 a2 a3 a4 a5 ?_ nd own⟩
 . rw [ha] at h3 ⊢
   cases h3 with
   | cons r t =>
     cases t
     cases r with
     | lst q rr => exact .cons (.lst q (aeG rr)) .nil
 . rw [hr] at r ⊢
   cases r with
   | sh r => cases r; exact .sh (.bl _)
section
variable {X : Cx} {CL : Str -> Addr} {b : Bx} {δ δ1 : List (Option T)} {e : Expr} {es : List Expr} {x m : Str} {pos pp : Pos} {D : gw}
theorem mk_ {k n : Nat} {A : Type} {arg : A -> List L3.D} {Pre : A -> Prop} {res : A -> List (Str × T)} (a : A) (F : Fm X CL x k n arg Pre res) (hg : Gl X x) (h : BAv X CL b (e :: es) δ (arg a) δ1) (hp : Pre a) (hc : T.bR (res a) = true) (hn : (arg a).length + 1 = n := by rfl)
   (KW : (x == ("__debug__" : Str)) = false := by decide) (he : starEach (e :: es) X.env = (false, eval e X.env) :: starEach es X.env := by exact bG rfl) (GH : (backTo pos (starEach es X.env)).any (·.1) = false := by rfl) :
   bZ X CL b (.Call (.Name x pp) (e :: es) [] pos) δ (.ins x (res a)) δ1 := by
 obtain ⟨f, fd, ps, M, F1, m, b⟩ := F.ex
 exact aaY a M F1 F.room m b h hn hp hc hg KW he GH
end
theorem oi {α : Type} {f : Str} {d : α} {fs : List (Str × α)} : ((f, d) :: fs).lookup f = some d := by
 rw [anN, aoT]
theorem eO {α : Type} {f g : Str} {d : α} {fs : List (Str × α)} (h : (f == g) = false) : ((g, d) :: fs).lookup f = fs.lookup f := by
 rw [anN, h]
theorem kX {f : Str} {t : T} : yO f t [] = [(f, t)] := rfl
theorem ck {f g : Str} {t u : T} {fs : List (Str × T)} (h : ¬ g = f) : yO f t ((g, u) :: fs) = (g, u) :: yO f t fs := by
 rw [yO, anm h]
section
variable {X : Cx} {CL : Str -> Addr} {b : Bx} {δ δ1 δ2 : List (Option T)} {e1 e2 : Expr} {x : Str} {pos : Pos} {d : L3.D}
theorem IE (x : Int) : ∀ l : List Int, inV (.int x) (l.map V.int) = decide (x ∈ l)
 | [] => by simp [inV]
 | y :: l => by
   have ih := IE x l
   unfold inV at ih ⊢
   rw [anD, aoj, ih]
   by_cases h : y = x
   . subst h; simp [W6]
   . have h' : ¬ x = y := fun e => h e.symm
     simp [W6, h, h']
theorem aI.ints {K : PySem.W.Frag} {Z : Hp} : ∀ {l : List Int} {vs : List V}, aI K CL Z (l.map D.int) vs -> vs = l.map V.int
 | [], _, r => by
   have r' : aI K CL Z [] _ := r
   cases r'; rfl
 | y :: l, _, r => by
   have r' : aI K CL Z (D.int y :: l.map D.int) _ := r
   cases r' with
   | cons r1 r2 => rw [r1.sc rfl, aI.ints r2]; rfl
theorem sG : ∀ l : List Int, (l.map V.int).all wX = true
 | [] => rfl
 | y :: l => by rw [anD, aoP, sG l]; rfl
noncomputable def Et (d : L3.D) : Option (List L3.D) := match d with
 | .lst ds => some ds
 | .tup ds => some ds
 | _ => none
theorem bV.Et {K : PySem.W.Frag} {Z : Hp} {v : V} {ds : List L3.D} (r : bV K CL Z d v) (h : L3.Et d = some ds) : ∃ p us, v = .ref p /\ (pA K Z p us \/ AH K Z p us) /\ aI K CL Z ds us := by
 cases r with
 | tup hq rr => cases h; exact ⟨_, _, rfl, .inr hq, rr⟩
 | lst hq rr => cases h; exact ⟨_, _, rfl, .inl hq, rr⟩
 | non => cases h
 | bl => cases h
 | int => cases h
 | str => cases h
 | any => cases h
 | val => cases h
 | lZ => cases h
 | dct => cases h
 | ins => cases h
 | Ej => cases h
theorem aa0 {l : List Int} {i : Int} (h1 : cy X CL b e1 δ (.int i) δ1) (h2 : cy X CL b e2 δ1 d δ2) (hd : L3.Et d = some (l.map .int)) (hm : behindInMarks .NotIn e2 = false) :
   uG X CL b (.Compare e1 [.NotIn] [e2] pos) δ (!decide (i ∈ l)) δ2 /\ bZ X CL b (.Compare e1 [.NotIn] [e2] pos) δ (.sh (.bl (!decide (i ∈ l)))) δ2 := by
 constructor
 . intro H Z σ ts vs Q S k
   refine GN (yC n9 cM cM hm) (h1 H Z σ ts vs _ S fun v1 H1 Z1 z1 k1 S1 r1 => h2 H1 Z1 σ ts vs _ S1 fun v2 H2 Z2 z2 k2 S2 r2 => ?_)
   obtain ⟨p, us, rfl, hq, rr⟩ := bV.Et r2 hd
   have e := rr.ints
   subst e
   refine ⟨_, _, rfl, hq, by rw [r1.sc rfl]; rfl, sG l, _, rfl, ?_⟩
   rw [anu rfl, r1.sc rfl, IE]
   exact k H2 Z2 (z1.trans z2) (k1.trans k2) S2
 . intro H Z σ ts vs Q S k
   refine cG (yz n9 cM cM hm) (h1 H Z σ ts vs _ S fun v1 H1 Z1 z1 k1 S1 r1 => h2 H1 Z1 σ ts vs _ S1 fun v2 H2 Z2 z2 k2 S2 r2 => ?_)
   obtain ⟨p, us, rfl, hq, rr⟩ := bV.Et r2 hd
   have e := rr.ints
   subst e
   refine ⟨_, _, rfl, hq, by rw [r1.sc rfl]; rfl, sG l, ?_⟩
   rw [anu rfl, r1.sc rfl, IE]
   exact k _ H2 Z2 (z1.trans z2) (k1.trans k2) (S2.push (.bl _))
theorem Sv {l : List Str} (h1 : cy X CL b e1 δ (.str x) δ1) (h2 : cy X CL b e2 δ1 d δ2) (hd : L3.Et d = some (l.map .str)) (hm : behindInMarks .In e2 = false) :
   uG X CL b (.Compare e1 [.In] [e2] pos) δ (decide (x ∈ l)) δ2 /\ bZ X CL b (.Compare e1 [.In] [e2] pos) δ (.sh (.bl (decide (x ∈ l)))) δ2 := by
 constructor
 . intro H Z σ ts vs Q S k
   refine GN (yC vS cM cM hm) (h1 H Z σ ts vs _ S fun v1 H1 Z1 z1 k1 S1 r1 => h2 H1 Z1 σ ts vs _ S1 fun v2 H2 Z2 z2 k2 S2 r2 => ?_)
   obtain ⟨p, us, rfl, hq, rr⟩ := bV.Et r2 hd
   have e := rr.strs
   subst e
   refine ⟨_, _, rfl, hq, by rw [r1.sc rfl]; rfl, gE l, _, rfl, ?_⟩
   rw [anm ans, r1.sc rfl, sF]
   exact k H2 Z2 (z1.trans z2) (k1.trans k2) S2
 . intro H Z σ ts vs Q S k
   refine cG (yz vS cM cM hm) (h1 H Z σ ts vs _ S fun v1 H1 Z1 z1 k1 S1 r1 => h2 H1 Z1 σ ts vs _ S1 fun v2 H2 Z2 z2 k2 S2 r2 => ?_)
   obtain ⟨p, us, rfl, hq, rr⟩ := bV.Et r2 hd
   have e := rr.strs
   subst e
   refine ⟨_, _, rfl, hq, by rw [r1.sc rfl]; rfl, gE l, ?_⟩
   rw [anm ans, r1.sc rfl, sF]
   exact k _ H2 Z2 (z1.trans z2) (k1.trans k2) (S2.push (.bl _))
theorem DP {l : List Str} (h1 : cy X CL b e1 δ (.str x) δ1) (h2 : cy X CL b e2 δ1 d δ2) (hd : L3.Et d = some (l.map .str)) (hm : behindInMarks .NotIn e2 = false) :
   uG X CL b (.Compare e1 [.NotIn] [e2] pos) δ (!decide (x ∈ l)) δ2 /\ bZ X CL b (.Compare e1 [.NotIn] [e2] pos) δ (.sh (.bl (!decide (x ∈ l)))) δ2 := by
 constructor
 . intro H Z σ ts vs Q S k
   refine GN (yC n9 cM cM hm) (h1 H Z σ ts vs _ S fun v1 H1 Z1 z1 k1 S1 r1 => h2 H1 Z1 σ ts vs _ S1 fun v2 H2 Z2 z2 k2 S2 r2 => ?_)
   obtain ⟨p, us, rfl, hq, rr⟩ := bV.Et r2 hd
   have e := rr.strs
   subst e
   refine ⟨_, _, rfl, hq, by rw [r1.sc rfl]; rfl, gE l, _, rfl, ?_⟩
   rw [anu rfl, r1.sc rfl, sF]
   exact k H2 Z2 (z1.trans z2) (k1.trans k2) S2
 . intro H Z σ ts vs Q S k
   refine cG (yz n9 cM cM hm) (h1 H Z σ ts vs _ S fun v1 H1 Z1 z1 k1 S1 r1 => h2 H1 Z1 σ ts vs _ S1 fun v2 H2 Z2 z2 k2 S2 r2 => ?_)
   obtain ⟨p, us, rfl, hq, rr⟩ := bV.Et r2 hd
   have e := rr.strs
   subst e
   refine ⟨_, _, rfl, hq, by rw [r1.sc rfl]; rfl, gE l, ?_⟩
   rw [anu rfl, r1.sc rfl, sF]
   exact k _ H2 Z2 (z1.trans z2) (k1.trans k2) (S2.push (.bl _))
end
section
variable {X : Cx} {CL : Str -> Addr} {b : Bx} {δ δ1 δ2 : List (Option T)} {e : Expr} {es : List Expr} {d : L3.D} {ds : List L3.D} {t : T} {pos : Pos}
theorem ez : OJ X CL b [] δ (([] : List L3.D).map T.sh) δ := cL
theorem aT (h1 : bZ X CL b e δ (.sh d) δ1) (h2 : OJ X CL b es δ1 (ds.map T.sh) δ2) (hs : starEach (e :: es) X.env = (false, eval e X.env) :: starEach es X.env := by exact bG rfl) : OJ X CL b (e :: es) δ ((d :: ds).map T.sh) δ2 := aY h1 h2 hs
theorem p6 (h : OJ X CL b es δ (ds.map T.sh) δ1) (hl : ds.length <= sizeLine) : bZ X CL b (.List es pos) δ (.lst (ds.map T.sh)) δ1 := mh h (by simpa using hl)
theorem Le (l : List Str) : D.cP (l.map L3.D.str) = true := pD (fun _ => rfl) _
theorem aa1 (h : bZ X CL b e δ (.lst (ds.map T.sh)) δ1) : bZ X CL b e δ (.sh (.lst ds)) δ1 := by
 have := Ek h
 rwa [T.gS, oh] at this
theorem oj (h : bZ X CL b e δ t δ1) (q : t.gS = d) : bZ X CL b e δ (.sh d) δ1 := q ▸ Ek h
theorem Xw {d2 : L3.D} (h : cy X CL b e δ d δ1) (q : d = d2) : cy X CL b e δ d2 δ1 := q ▸ h
theorem aK {t2 : T} (h : bZ X CL b e δ t δ1) (q : t = t2) : bZ X CL b e δ t2 δ1 := q ▸ h
end
structure Eu (Z H Z' H' : Hp) : Prop where
 z : aL Z Z'
 h : aL H H'
 zh : aL Z' H'
 new : ∀ a o, Z' a = some o -> Z a = none -> H a = none
 tp : ∀ a o, H' a = some o -> sC o = true -> Z' a = some o
theorem Eu.refl {Z H : Hp} (zh : aL Z H) (tp : ∀ a o, H a = some o -> sC o = true -> Z a = some o) : Eu Z H Z H := ⟨.refl _, .refl _, zh, fun a o q z => (by rw [q] at z; cases z), tp⟩
theorem Eu.tup {Z H : Hp} {p : Addr} {xs : List V} (zh : aL Z H) (tp : ∀ a o, H a = some o -> sC o = true -> Z a = some o) (hp : H p = none) : Eu Z H (upd Z p (.tup xs)) (upd H p (.tup xs)) := by
 have zp : Z p = none := zh.free hp
 refine ⟨aL.upd zp, aL.upd hp, fun a o q => ?_, fun a o q z => ?_, fun a o q i => ?_⟩
 . by_cases e : a = p
   . subst e; rw [bx] at q ⊢; exact q
   . rw [aD e] at q ⊢; exact zh a o q
 . by_cases e : a = p
   . subst e; exact hp
   . rw [aD e, z] at q; cases q
 . by_cases e : a = p
   . subst e; rw [bx] at q ⊢; exact q
   . rw [aD e] at q ⊢; exact tp a o q i
section
variable {K : PySem.W.Frag} {CL : Str -> Addr} {b : Bx} {H H' Z Z' : Hp} {δ : List (Option T)} {σ : L2.St} {ts : List T} {vs : List V}
theorem b8.grow (S : b8 K CL b H Z δ σ ts vs) (g : Eu Z H Z' H') : b8 K CL b H' Z' δ σ ts vs := by
 obtain ⟨fp, gp, e, r, nd, k⟩ := S.rep
 have old : ∀ a ∈ fp ++ gp, ∃ o, H a = some o := fun a ha => (ank.mp ha).elim (e.there a) (r.there a)
 have keep : ∀ a ∈ fp ++ gp, H' a = H a := fun a ha => by
   obtain ⟨o, q⟩ := old a ha
   rw [q]; exact g.h a o q
 refine ⟨⟨fp, gp, e.mono g.z (fun a ha => keep a (anl _ ha)), r.mono g.z (fun a ha => keep a (anf _ ha)), nd, fun a ha => ⟨?_, (k a ha).2⟩⟩, S.bh.trans g.h, S.zz.trans g.z, g.zh, fun a o q z => ?_, g.tp, S.tab⟩
 . cases q : Z' a with
   | none => rfl
   | some o =>
     obtain ⟨u, hu⟩ := old a ha
     rw [g.new a o q (k a ha).1] at hu; cases hu
 . cases e2 : Z a with
   | none => exact S.bh.free (g.new a o q e2)
   | some u =>
     have := g.z a u e2
     rw [q] at this; cases this
     exact S.new a o e2 z
noncomputable def Sw (δ : List (Option T)) : List Nat -> List D -> List (Option T)
 | i :: is, d :: ds => Sw (δ.set i (some (.sh d))) is ds
 | _, _ => δ
noncomputable def Ew (σ : L2.St) : List Nat -> List V -> L2.St
 | i :: is, v :: vs => Ew (σ.set i (some v)) is vs
 | _, _ => σ
theorem b8.sets {ps : List D} {ys : List V} : ∀ {is : List Nat} {δ : List (Option T)} {σ : L2.St}, b8 K CL b H Z δ σ ts vs -> aI K CL Z ps ys -> (∀ i ∈ is, i < δ.length) -> b8 K CL b H Z (Sw δ is ps) (Ew σ is ys) ts vs := by
 intro is
 induction is generalizing ps ys with
 | nil =>
   intro δ σ S r _
   cases ps <;> cases ys <;> exact S
 | cons i is ih =>
   intro δ σ S r hl
   cases r with
   | nil => exact S
   | cons r rr => exact ih ((S.push r).set (hl i anc)) rr (fun j hj => by rw [List.length_set]; exact hl j (anj _ hj))
end
section
variable {X : Cx} {CL : Str -> Addr} {b : Bx} {δ δ1 : List (Option T)} {ds : List D} {iter tg : Expr} {pos : Pos}
structure IG (X : Cx) (CL : Str -> Addr) (b : Bx) (δ1 : List (Option T)) (σ : L2.St) (ts : List T) (vs : List V) (Z H : Hp) (ds : List D) (J : It) (H1 : Hp) : Prop where
 ex : ∃ Z1, aL Z Z1 /\ aL H H1 /\ b8 X.K CL b H1 Z1 δ1 σ ts vs /\ (∀ i H2, aL Z1 H2 -> i < ds.length -> J.go i H2) ∧
   (∀ i Z2 H2 x H', aL Z1 Z2 -> aL Z2 H2 -> (∀ a o, H2 a = some o -> sC o = true -> Z2 a = some o) -> i < ds.length -> J.yld i H2 x H' -> ∃ Z3 d, ds[i]? = some d /\ Eu Z2 H2 Z3 H' /\ bV X.K CL Z3 d x) /\ (∀ H2, aL Z1 H2 -> J.stop ds.length H2)
noncomputable def GIt (X : Cx) (CL : Str -> Addr) (b : Bx) (tg e : Expr) (δ : List (Option T)) (ds : List D) (δ1 : List (Option T)) : Prop :=
 ∃ wi, PI X tg e wi /\ ∀ (H Z : Hp) (σ : L2.St) (ts : List T) (vs : List V) (R : It -> Hp -> Prop), b8 X.K CL b H Z δ σ ts vs -> (∀ J H1, IG X CL b δ1 σ ts vs Z H ds J H1 -> R J H1) -> wi σ H R
theorem Xx (h : ZY X CL b tg iter δ ds δ1) : GIt X CL b tg iter δ ds δ1 := by
 obtain ⟨wi, pi, hw⟩ := h
 refine ⟨wi, pi, fun H Z σ ts vs R S k => hw H Z σ ts vs R S fun J H1 zz => ?_⟩
 obtain ⟨Z1, us, z1, k1, S1, rr, go, yl, st⟩ := zz
 refine k J H1 ⟨Z1, z1, k1, S1, go, fun i Z2 H2 x H' s1 s2 tp hi hy => ?_, st⟩
 obtain ⟨e, hu⟩ := yl i H2 x H' (s1.trans s2) hi hy
 subst e
 obtain ⟨d, hd, rd⟩ := rr.Uq hu
 exact ⟨Z2, d, hd, .refl s2 tp, rd.mono s1⟩
noncomputable def Tgt (X : Cx) (CL : Str -> Addr) (tg : Expr) (is : List Nat) (parts : D -> Option (List D)) : Prop :=
 ∃ t : TG, PG X tg t /\ ∀ (Z H : Hp) (d : D) (ps : List D) (x : V) (σ : L2.St) (Q : L2.St -> Hp -> Prop), aL Z H -> bV X.K CL Z d x -> parts d = some ps -> (∀ ys, aI X.K CL Z ps ys -> Q (Ew σ is ys) H) -> t x σ H Q
noncomputable def part1 (d : D) : Option (List D) := some [d]
noncomputable def part2 : D -> Option (List D)
 | .tup [a, c] => some [a, c]
 | _ => none
theorem Uz {d : D} {ps : List D} (h : part2 d = some ps) : ∃ d1 d2, d = .tup [d1, d2] /\ ps = [d1, d2] := by
 unfold part2 at h
 split at h
 . cases h; exact ⟨_, _, rfl, rfl⟩
 . cases h
theorem OS {K : PySem.W.Frag} {i j : Nat} {Z H : Hp} {d : D} {ps : List D} {x : V} {σ : L2.St} {Q : L2.St -> Hp -> Prop} (zh : aL Z H) (r : bV K CL Z d x) (e : part2 d = some ps) (k : ∀ ys, aI K CL Z ps ys -> Q (Ew σ [i, j] ys) H) : adT K 2 (KP (BQ i) (KP (BQ j) adS)) x σ H Q := by
 obtain ⟨d1, d2, rfl, rfl⟩ := Uz e
 cases r with
 | tup hq rr =>
   cases rr with
   | cons r1 rr =>
     cases rr with
     | cons r2 rr =>
       cases rr
       exact ⟨_, _, rfl, aL.sqT zh hq, rfl, _, _, rfl, _, _, rfl, rfl, k _ (.cons r1 (.cons r2 .nil))⟩
theorem Xy {i : Nat} {x : Str} {px : Pos} (hN : X.N.Nodup) (n : Ln X i x) : Tgt X CL (.Name x px) [i] part1 :=
 ⟨BQ i, yx hN n.hi n.loc n.hf, fun Z H d ps x σ Q zh r e k => by
   cases e
   exact k [x] (.cons r .nil)⟩
theorem p7 {i j k : Nat} {x y : Str} {px py pt : Pos} (hN : X.N.Nodup) (hc : X.calm = true) (n : Ln X i x) (m : Ln X j y) (hs : (assignEach [.Name x px, .Name y py] X.env).map (·.2) = assign (.Name x px) X.env :: (assignEach [.Name y py] X.env).map (·.2) := by rfl) (wV : (assignEach [.Name y py] X.env).map (·.2) = assign (.Name y py) X.env :: (assignEach [] X.env).map (·.2) := by rfl)
   (hn : (assignEach [.Name x px, .Name y py] X.env).length = 2 := by rfl) (hst : (assignEach [.Name x px, .Name y py] X.env).findIdx? (·.1) = none := by rfl) : Tgt X CL (.Tuple [.Name x px, .Name y py] k pt) [i, j] part2 :=
 ⟨adT X.K 2 (KP (BQ i) (KP (BQ j) adS)), adU hc (KQ (yx hN n.hi n.loc n.hf) (KQ (yx hN m.hi m.loc m.hf) aai wV) hs) hn hst, fun Z H d ps x σ Q zh r e k => OS zh r e k⟩
theorem aa3 {D : gw} {iP : List Stmt} (is : List Nat) (parts : L3.D -> Option (List L3.D)) (P : Nat -> List (Option T) -> Prop) (h : GIt X CL b tg iter δ ds δ1) (ht : Tgt X CL tg is parts) (h0 : P 0 δ1) (hl : ∀ j δ, P j δ -> ∀ i ∈ is, i < δ.length)
   (hs : ∀ j d δ, ds[j]? = some d -> P j δ -> ∃ ps, parts d = some ps /\ gU X CL b iP (Sw δ is ps) { nx := P (j + 1), rt := D.rt, bk := D.nx, ct := P (j + 1) }) (hd : ∀ δ, P ds.length δ -> D.nx δ)
   (hp : PassesOwn (model X.prog X.w) X.A X.env X.xe) (hc : X.calm = true) (hq : ∀ x, foldedSetIterable iter X.env x = pure x := by intro _; rfl) :
   ZX X CL b (.For tg iter iP [] pos) δ D := fun H Z σ ts vs E S M => by
 obtain ⟨wi, pi, hw⟩ := h
 obtain ⟨t, pg, ht⟩ := ht
 refine yI (WM hp hc pi pg pbS hq) (hw H Z σ ts vs _ S fun J H1 zz => ?_)
 obtain ⟨Z1, z1, k1, S1, go, yl, st⟩ := zz
 refine ⟨fun j m σ H2 => m = ds.length - j /\ j <= ds.length /\ ∃ Z2 δ2, aL Z1 Z2 /\ b8 X.K CL b H2 Z2 δ2 σ ts vs /\ P j δ2, ⟨_, rfl, anE _, Z1, δ1, .refl _, S1, h0⟩, ?_⟩
 rintro j m σ H2 ⟨rfl, hj, Z2, δ2, s, S2, p2⟩
 by_cases Iz : j < ds.length
 . refine .inr ⟨go j H2 (s.trans S2.zh) Iz, fun σ' H' => ∃ Z2 δ2, aL Z1 Z2 /\ b8 X.K CL b H' Z2 δ2 σ' ts vs /\ P (j + 1) δ2, fun σ' H' h => ⟨ds.length - (j + 1), by omega, rfl, Iz, h⟩, fun y H' hy => ?_⟩
   obtain ⟨Z3, d, hd', gr, rd⟩ := yl j Z2 H2 y H' s S2.zh S2.tp Iz hy
   obtain ⟨ps, hps, hb⟩ := hs j d δ2 hd' p2
   have S3 := S2.grow gr
   refine ht Z3 H' d ps y σ _ S3.zh rd hps fun ys rys => ?_
   have S4 := S3.sets (is := is) rys (hl j δ2 p2)
   have s3 := s.trans gr.z
   exact hb _ Z3 _ ts vs _ S4 ⟨fun δ' σ' H' Z' s' S' k => ⟨Z', δ', s3.trans s', S', k⟩, fun t v H' Z' δ' σ' s' S' k => M.rt t v H' Z' δ' σ' (z1.trans (s3.trans s')) S' k, fun δ' σ' H' Z' s' S' k => M.nx δ' σ' H' Z' (z1.trans (s3.trans s')) S' k, fun δ' σ' H' Z' s' S' k => ⟨Z', δ', s3.trans s', S', k⟩⟩
 . have e : j = ds.length := by omega
   subst e
   exact .inl ⟨st H2 (s.trans S2.zh), M.nx δ2 σ H2 Z2 (z1.trans s) S2 (hd δ2 p2)⟩
theorem xB {D : gw} {body iP : List Stmt} {is : List Nat} {parts : L3.D -> Option (List L3.D)} (g : Gx X) (ht : Tgt X CL tg is parts) (P : Nat -> List (Option T) -> Prop) (h : GIt X CL b tg iter δ ds δ1) (h0 : P 0 δ1) (hl : ∀ j δ, P j δ -> ∀ i ∈ is, i < δ.length)
   (hs : ∀ j d δ, ds[j]? = some d -> P j δ -> ∃ ps, parts d = some ps /\ gU X CL b body (Sw δ is ps) { nx := P (j + 1), rt := D.rt, bk := fun δ2 => gU X CL b iP δ2 D, ct := P (j + 1) }) (hd : ∀ δ, P ds.length δ -> gU X CL b iP δ D) (hq : ∀ x, foldedSetIterable iter X.env x = pure x := by intro _; rfl) :
   gU X CL b (.For tg iter body [] pos :: iP) δ D :=
 dF (aa3 (D := { D with nx := fun δ1 => gU X CL b iP δ1 D }) is parts P h ht h0 hl hs hd g.xe g.calm hq)
end
structure sH (X : Cx) (scope : Scope) (xs : List Str) (Nc : List Str) (ix : List Nat) : Prop where
 kind : scope.kind = .function
 Iv : ∀ y ∈ scope.names, y.2 ≠ .cell
 nd : Nc.Nodup
 names : ∀ y ∈ scope.names, y.2 = .local -> scope.names.lookup y.1 = some .local
 own : ∀ x ∈ xs, scope.names.lookup x = some .local
 frees : ∀ y ∈ scope.names, y.2 = .free -> scope.names.lookup y.1 = some .free /\ (X.env.kindOf y.1 = some .cell \/ X.env.kindOf y.1 = some .free)
 hd : Nc = xs ++ ix.filterMap (X.N[·]?)
 ixs : ∀ i ∈ ix, ∃ y, X.N[i]? = some y /\ scope.names.lookup y = some .free
noncomputable def UA (σ : L2.St) (ix : List Nat) (os : List (Option V)) : L2.St := os ++ ix.map fun i => (σ[i]?).getD none
section
variable {X : Cx} {scope : Scope} {xs : List Str} {Nc : List Str} {ix : List Nat} {pins : List (Addr × Obj)} {σ : L2.St} {H : Hp} {s : Shared}
theorem Lf {fp : List Addr} (sc : sH X scope xs Nc ix) (I : Inv X pins σ H s) (wY : ∀ b ∈ fp, Ct X pins H b /\ b < s.heap.objs.size) {h' : Heap} {m : Str -> Option Value} {tk : Nat}
   (hn : h'.Ns s.heap.objs.size m) (hk : ∀ b o, s.heap.get? b = some o -> h'.get? b = some o) :
   Inv (eV X scope Nc s.heap.objs.size s H fp) [] (UA σ ix (List.replicate xs.length none)) H { s with heap := h', toks := tk } := by
 have frees : ∀ y ∈ scope.names, y.2 = .free -> ∃ c, X.env.cells.lookup y.1 = some c := fun y hy e => I.ok.has y.1 (sc.frees y hy e).2
 have sub : ∀ {y : Str} {c : Addr}, (kT X.env scope.names []).lookup y = some c -> X.env.cells.lookup y = some c := fun {y c} e => xr frees (fun _ _ z => by cases z) e
 have hlen : (UA σ ix (List.replicate xs.length none)).length = Nc.length := by
   have all : ∀ l : List Nat, (∀ i ∈ l, ∃ y, X.N[i]? = some y /\ scope.names.lookup y = some .free) -> (l.filterMap (X.N[·]?)).length = l.length := by
     intro l
     induction l with
     | nil => intro _; rfl
     | cons i r ih =>
       intro h
       obtain ⟨y, e, _⟩ := h i anc
       rw [aog, e]
       show _ + 1 = _ + 1
       rw [ih fun j hj => h j (anj _ hj)]
   unfold UA
   rw [sc.hd, anv, anv, anh, aos, all ix sc.ixs]
 have C0 : s.heap.get? s.heap.objs.size = none := Heap.get?_none_of_le (anq _)
 refine ⟨⟨I.ok.mod, sc.kind, I.ok.glob, I.ok.blt, anq _, fun y z c h1 h2 => I.ok.inj y z c (sub h1) (sub h2), fun y hy => ?_, fun y c hf _ => (by cases (show false = true from hf)), I.ok.hd, I.ok.frames, .inl rfl, fun b hb => ⟨anT (wY b hb).2, fun y c e => (wY b hb).1.2.2.2.2.1 y c (sub e)⟩, I.bs, anW I.ok.bsz I.sz, fun b o e hb => ?_, fun b hb hf => ?_, I.stack, I.RZ⟩,
   rfl, I.bare, Un.kept hk, ⟨m, hn, fun i y v h1 h2 h3 => ?_⟩, fun y c e => ?_, I.d9.fresh (anq _), fun y c e => I.wU y c (sub e), fun p hp => absurd (show p ∈ ([] : List (Addr × Obj)) from hp) (by simp), I.d9.kept hk, hlen⟩
 . 
   have hy' : (relabel scope X.env).names.lookup y = some .cell \/ (relabel scope X.env).names.lookup y = some .free := hy
   cases e : scope.names.lookup y with
   | none => 
     have := n8 (env := X.env) e
     rcases hy' with q | q <;> (rw [show (relabel scope X.env).names.lookup y = none from this] at q; cases q)
   | some k =>
     have q := iR (env := X.env) e
     have hk : k = .free := by
       by_cases hk : k = .free
       . exact hk
       . have hb : (k == NameKind.free) = false := by simpa using hk
         rw [anm (by rw [hb]; simp)] at q
         have nc : k ≠ .cell := fun z => by
           subst z
           exact sc.Iv _ (aop e) rfl
         rcases hy' with z | z
         . rw [show (relabel scope X.env).names.lookup y = some k from q] at z
           exact absurd (anA z) nc
         . rw [show (relabel scope X.env).names.lookup y = some k from q] at z
           exact absurd (anA z) hk
     subst hk
     exact xu e
 . 
   rcases (wY b hb).1.2.2.2.1 with z | z
   . exact I.ok.WG b o e z
   . exact absurd (anV (anw e) (anW I.ok.bsz z)) (aoW _)
 . rcases ane.mp (I.HV b hf) with z | z
   . exact (wY b hb).1.2.1 z
   . exact (wY b hb).1.2.2.1 z
 . 
   unfold UA at h2
   by_cases hi : i < xs.length
   . rw [List.getElem?_append_left (by rw [aos]; exact hi), List.getElem?_replicate, anu hi] at h2
     cases h2
   . obtain ⟨n, rfl⟩ : ∃ n, i = xs.length + n := ⟨i - xs.length, by omega⟩
     rw [aoX (by rw [aos]; omega), aos, ao9, anJ] at h2
     cases ei : ix[n]? with
     | none => rw [ei] at h2; cases h2
     | some j =>
       rw [ei] at h2
       have h2' : (σ[j]?).getD none = some v := anA h2
       have hj : σ[j]? = some (some v) := by
         cases q : σ[j]? with
         | none => rw [q] at h2'; cases h2'
         | some o => rw [q] at h2'; exact congrArg some h2'
       obtain ⟨y', hy1, hy2⟩ := sc.ixs j (anB ei)
       have hNc : Nc[xs.length + n]? = some y' := by
         have all : ∀ (l : List Nat) (i : Nat), (∀ j ∈ l, ∃ y, X.N[j]? = some y /\ scope.names.lookup y = some .free) -> l[i]? = some j -> (l.filterMap (X.N[·]?))[i]? = some y' := by
           intro l
           induction l with
           | nil => intro i _ h; simp at h
           | cons a r ih =>
             intro i h hi
             obtain ⟨ya, ea, _⟩ := h a anc
             rw [aog, ea]
             cases i with
             | zero =>
               simp at hi
               subst hi
               rw [hy1] at ea
               cases ea
               rfl
             | succ i => exact ih i (fun j hj => h j (List.mem_cons_of_mem _ hj)) (by simpa using hi)
         rw [sc.hd, aoX (by omega), ao9]
         exact all ix n sc.ixs ei
       have ey : y' = y := by
         have h1' : Nc[xs.length + n]? = some y := h1
         rw [hNc] at h1'
         exact anA h1'
       subst ey
       have Sb := (sc.frees (y', .free) (aop hy2) rfl).2
       have ajn : Vis X.env.scope y' := Sb.elim (fun z => .inr (.inl z)) (fun z => .inr (.inr z))
       obtain ⟨m0, hn0, hl0⟩ := I.loc
       obtain ⟨u, ru, lk⟩ := hl0 j y' v hy1 hj ajn
       refine ⟨u, ru, ?_⟩
       rcases lk with ⟨kk, _⟩ | ⟨_, c, hc, BP⟩
       . rcases Sb with z | z
         . rw [kk] at z; cases z
         . rw [kk] at z; cases z
       . obtain ⟨c', hc'⟩ := xu (env := X.env) (cs := []) hy2
         have : c' = c := by
           have := sub hc'
           rw [hc] at this
           exact (anA this).symm
         subst this
         obtain ⟨o, ho, hd⟩ := BP
         refine .inr ⟨?_, c', hc', o, hk _ _ ho, hd⟩
         have q := iR (env := X.env) hy2
         show (relabel scope X.env).names.lookup y' = some .cell \/ (relabel scope X.env).names.lookup y' = some .free
         rw [show (relabel scope X.env).names.lookup y' = _ from q]
         split
         . exact .inl rfl
         . exact .inr rfl
 . obtain ⟨v, o, ho, hd⟩ := I.cell y c (sub e)
   exact ⟨v, o, hk _ _ ho, hd⟩
noncomputable def Xz (X : Cx) (tg elt : Expr) (ifs : List Expr) (n : Nat) (σ : L2.St) (ix : List Nat) (D : Addr) (N : Hp -> Prop) (xv : V) (os : List (Option V)) (H3 : Hp) : Prop :=
 ∃ t : TG, PG X tg t /\ t xv (UA σ ix os) H3 fun σ8 H4 => ∃ os', os'.length = n /\ σ8 = UA σ ix os' /\ aez X ifs σ8 H4 fun ok H5 =>
   if ok = true then OI X elt σ8 H5 fun y H6 => ∃ acc, H6 D = some (.lst acc) /\ acc.length < sizeLine /\ N (upd H6 D (.lst (acc ++ [y]))) else N H5
theorem OU {elt iter tg : Expr} {pos : Pos} {ifs : List Expr} {J : It} {fp : List Addr} {it : Addr} {tn : Nat -> Heap -> Prop} {G : Addr -> Hp -> Prop} {RR : Value -> Addr -> Result -> Shared -> Prop} {E : Value -> Shared -> Prop}
   (sc : sH X scope xs Nc ix) (hc : X.calm = true) (I : Inv X pins σ H s) (Tn : Turn X.prog X.w X.K tg J fp it tn) (st : tn 0 s.heap) (hf : ∀ b ∈ fp, Ct X pins H b)
   (loop : ∀ D, H D = none -> ∃ W : Nat -> Nat -> Hp -> Prop, (∃ m, W 0 m (upd H D (.lst []))) /\ ∀ i m H2, W i m H2 -> (J.stop i H2 /\ G D H2) ∨
     (J.go i H2 /\ ∃ N : Hp -> Prop, (∀ H', N H' -> ∃ m', m' < m /\ W (i + 1) m' H') /\ ∀ xv H3, J.yld i H2 xv H3 -> ∀ C s0 H0 f0 os, os.length = xs.length -> Xz (eV X scope Nc C s0 H0 f0) tg elt ifs xs.length σ ix D N xv os H3))
   (hRR : ∀ D C s' H', (∃ m, s'.heap.Ns C m) -> (∃ o, s'.heap.get? C = some o /\ ∀ v, o.data ≠ .cell v) -> H' C = none -> (C ≠ X.env.locals /\ C ∉ X.fs /\ X.s₀.heap.objs.size <= C /\ (∀ y c, X.env.cells.lookup y = some c -> c ≠ C) /\ ∀ q ∈ X.pn ++ pins, q.1 ≠ C) -> (∀ h', Heap.SameBut C s'.heap h' -> Inv X pins σ H' { s' with heap := h' }) -> G D H' -> RR (.ref D) C (.ok .next) s') :
   wpAny (model X.prog X.w) X.A (newList []) (fun acc s₃ => wpAny (model X.prog X.w) X.A (newFunctionEnv scope X.env.globals (kT X.env scope.names []) [] X.env.qual none .none (some X.env)) (fun XA s₄ =>
     codeAny (model X.prog X.w) X.A (.compStart (.ListComp elt [⟨tg, iter, ifs, 0⟩] scope pos) 0 (.ref it) acc { XA with scope := relabel scope X.env }) (RR acc XA.locals) s₄) E s₃) E s := by
 refine wpAny_newObj_type ?_
 have I3 : Inv X pins σ (upd H s.heap.objs.size (.lst [])) { s with heap := s.heap.push { cls := .type "list", dict := none, data := .seq ([] : List Value).toArray } } :=
   I.laid (t' := s.toks) (fun b u e => ant _ e) (anq _) ⟨by show 0 <= sizeLine; exact anE _, [], 0, .nil, anR _ rfl⟩
 have hD : H s.heap.objs.size = none := I.d9.fresh (anq _)
 obtain ⟨W, ⟨m0, w0⟩, turn⟩ := loop _ hD
 have XC : ∀ b ∈ fp, Ct X pins (upd H s.heap.objs.size (.lst [])) b /\ b < (s.heap.push { cls := .type "list", dict := none, data := .seq ([] : List Value).toArray }).objs.size := fun b hb => by
   obtain ⟨f0, f1⟩ := hf b hb
   obtain ⟨o, ho, _⟩ := Tn.obj 0 _ st b hb
   have Iz := anw ho
   refine ⟨⟨by rw [aD (anT Iz)]; exact f0, f1⟩, ?_⟩
   rw [Heap.size_push]; exact Nat.lt_succ_of_lt Iz
 have st3 : tn 0 (s.heap.push { cls := .type "list", dict := none, data := .seq ([] : List Value).toArray }) := Tn.keep 0 _ _ st fun b _ o e => ant _ e
 generalize hs3 : ({ s with heap := s.heap.push { cls := .type "list", dict := none, data := .seq ([] : List Value).toArray } } : Shared) = s3 at I3 ⊢
 have hh3 : s3.heap = s.heap.push { cls := .type "list", dict := none, data := .seq ([] : List Value).toArray } := by rw [← hs3]
 rw [← hh3] at XC st3
 refine wpAny_newFunctionEnv sc.Iv (by intro y hy; simp at hy) (fun h₁ aeI aeJ => ?_) sc.kind
 have old : ∀ b o, s3.heap.get? b = some o -> h₁.get? b = some o := fun b o e => (aeJ.2 b (anT (anw e))).trans (ant _ e)
 have J0 := Lf (tk := s3.toks + ([] : List (Str × Value)).length) sc I3 XC aeI old
 have st4 : tn 0 h₁ := Tn.keep 0 _ _ st3 fun b _ o e => old b o e
 have ac5 : ∀ s4 : Shared, s4 = { s3 with heap := h₁, toks := s3.toks + ([] : List (Str × Value)).length } -> codeAny (model X.prog X.w) X.A (.compLoop (.ListComp elt [⟨tg, iter, ifs, 0⟩] scope pos) 0 (.ref it) (.ref s.heap.objs.size) (compEnvC scope (kT X.env scope.names []) s3.heap.objs.size X.env)) (RR (.ref s.heap.objs.size) s3.heap.objs.size) s4 := by
   rintro s4 rfl
   have stat : ∀ {H' : Hp}, (∀ b ∈ fp, H' b = none) -> ∀ b ∈ fp, Ct (eV X scope Nc s3.heap.objs.size s3 (upd H s.heap.objs.size (.lst [])) fp) [] H' b := fun {H'} hn b hb => by
     obtain ⟨⟨f0, f1, f2, f3, f4, f5⟩, Iz⟩ := XC b hb
     refine ⟨hn b hb, anT Iz, fun z => ?_, .inl hb, fun y c e => f4 y c (xr (fun y hy e => I.ok.has y.1 (sc.frees y hy e).2) (fun _ _ z => by cases z) e), fun p hp => absurd (show p ∈ ([] : List (Addr × Obj)) from hp) (by simp)⟩
     rcases ane.mp (I3.HV b z) with q | q
     . exact f1 q
     . exact f2 q
   refine Iu (fun n s' => ∃ i o H', o.length = xs.length /\ Inv (eV X scope Nc s3.heap.objs.size s3 (upd H s.heap.objs.size (.lst [])) fp) [] (UA σ ix o) H' s' /\ tn i s'.heap /\ (∀ b ∈ fp, H' b = none) /\ W i n H') ?_ m0 ⟨0, _, _, aos, J0, st4, fun b hb => (XC b hb).1.1, w0⟩
   rintro n s5 ⟨i, o5, H5, ol5, I5, st5, fr5, w5⟩
   rcases turn i n H5 w5 with ⟨stop, g⟩ | ⟨go, N, hN, step⟩
   . refine ef (Tn.done (eV X scope Nc s3.heap.objs.size s3 (upd H s.heap.objs.size (.lst [])) fp) rfl rfl rfl hc i [] s5 _ H5 _ I5 (stat fr5) st5 stop) fun r s6 zz => ?_
     obtain ⟨hr, I6⟩ := zz
     subst hr
     obtain ⟨m6, hn6, _⟩ := I6.loc
     obtain ⟨oc, esc, epc, hoc, hdc, _⟩ := id hn6
     have fpC := I3.Ea (anq s3.heap.objs.size) (H' := fun _ => none) rfl
     refine hRR _ _ s6 H5 ⟨m6, hn6⟩ ⟨oc, hoc, fun v z => by rw [hdc] at z; cases z⟩ I6.free ⟨fpC.2.1, fpC.2.2.1, ?_, fpC.2.2.2.2.1, fpC.2.2.2.2.2⟩ (fun h' hs' => Ut I3 (fun b hb => (XC b hb).1) I6 hs') g
     exact I3.sz
   . refine ef (Tn.item (eV X scope Nc s3.heap.objs.size s3 (upd H s.heap.objs.size (.lst [])) fp) rfl rfl rfl hc i [] s5 _ H5 _ I5 (stat fr5) st5 go) fun r s6 zz => ?_
     obtain ⟨u, hr, h6⟩ := zz
     subst hr
     refine ef h6 fun _ s7 zz => ?_
     obtain ⟨xv, H7, I7, r7, y7, st7, fr7⟩ := zz
     have I7' := I7.pinned (stat fr7) (Tn.obj _ _ st7)
     obtain ⟨t, hg, ht⟩ := step xv _ y7 s3.heap.objs.size s3 (upd H s.heap.objs.size (.lst [])) fp o5 ol5
     refine ef (hg _ s7 _ H7 xv u _ I7' r7 ht) fun _ s8 zz => ?_
     obtain ⟨σ8, H8, I8, os8, ol8, e8, h8⟩ := zz
     subst e8
     refine ef (Xq I8 h8 rfl) fun ok s9 zz => ?_
     obtain ⟨H9, I9, q9⟩ := zz
     have again : ∀ {Ha : Hp} {sa : Shared}, Inv (eV X scope Nc s3.heap.objs.size s3 (upd H s.heap.objs.size (.lst [])) fp) ([] ++ Eb fp s7.heap) (UA σ ix os8) Ha sa -> N Ha -> ∃ m, m < n /\ ∃ i o H', o.length = xs.length /\ Inv (eV X scope Nc s3.heap.objs.size s3 (upd H s.heap.objs.size (.lst [])) fp) [] (UA σ ix o) H' sa /\ tn i sa.heap /\ (∀ b ∈ fp, H' b = none) /\ W i m H' := fun {Ha sa} Ia na => by
       obtain ⟨m', hm, wa⟩ := hN Ha na
       refine ⟨m', hm, i + 1, os8, Ha, ol8, Ia.yy, Tn.keep _ _ _ st7 fun b hb o e => (Ia.pin (b, o) (anf _ (anf _ (su hb e)))).1, fun b hb => ?_, wa⟩
       obtain ⟨o, e, d⟩ := Tn.obj _ _ st7 b hb
       exact (Ia.pin (b, o) (anf _ (anf _ (su hb e)))).2.1
     cases ok with
     | false =>
       rw [anm ans] at q9 ⊢
       exact again I9 q9
     | true =>
       rw [anu rfl] at q9 ⊢
       refine ef (q9 _ s9 I9) fun v sa zz => ?_
       obtain ⟨y, Ha, Ia, ra, acc, ajq, hlen, na⟩ := zz
       refine ef (vU (X := eV X scope Nc s3.heap.objs.size s3 (upd H s.heap.objs.size (.lst [])) fp) _ sa _ Ha (.ref s.heap.objs.size) [y] (.ref s.heap.objs.size) [v] (fun _ Hb => Hb = upd Ha s.heap.objs.size (.lst (acc ++ [y]))) Ia rfl (.cons ra .nil) ⟨_, acc, y, rfl, rfl, ajq, hlen, rfl⟩) fun _ sb zz => ?_
       obtain ⟨_, Hb, Ib, _, eb⟩ := zz
       subst eb
       exact again Ib na
 exact codeAny_compStart_list (ac5 _ rfl) (Tn.self _ 0 _ _ _ st4 (ac5 _ rfl))
end
noncomputable def UB (ps : List D) : List (Option T) := ps.map fun p => some (.sh p)
theorem Hl : ∀ {ys : List V} {os : List (Option V)} {pre r : L2.St}, os.length = ys.length -> Ew (pre ++ (os ++ r)) (List.range' pre.length ys.length) ys = pre ++ (ys.map some ++ r)
 | [], os, pre, r, h => by
   have : os = [] := List.length_eq_zero_iff.mp h
   subst this
   rfl
 | y :: ys, os, pre, r, h => by
   match os, h with
   | o :: os, h =>
     show Ew ((pre ++ (o :: (os ++ r))).set pre.length (some y)) (List.range' (pre.length + 1) ys.length) ys = _
     rw [List.set_append_right _ _ (anq _), Nat.sub_self, List.set_cons_zero]
     have := Hl (ys := ys) (os := os) (pre := pre ++ [some y]) (r := r) (by simpa using h)
     simp only [anv, anG, List.length_nil, ani, List.singleton_append] at this
     rw [this]
     simp
theorem aa5 {K : PySem.W.Frag} {CL : Str -> Addr} {H Z : Hp} : ∀ {ps : List D} {ys : List V} {δc : List (Option T)} {σc : L2.St}, aI K CL Z ps ys -> jx K CL H Z δc σc [] -> jx K CL H Z (UB ps ++ δc) (ys.map some ++ σc) [] := fun {ps ys δc σc} h e =>
 aI.ind (P := fun ps ys => jx K CL H Z (UB ps ++ δc) (ys.map some ++ σc) []) e (fun r _ i => .cons (fp := []) (gp := []) (.sh r) i) h
section
variable {X : Cx} {CL : Str -> Addr} {b : Bx} {H Z W1 : Hp} {δ δc : List (Option T)} {σ : L2.St} {ts : List T} {vs : List V} {ds : List D} {scope : Scope} {Nc : List Str} {n : Nat} {ix : List Nat} {elt tg : Expr} {ifs : List Expr} {p : D -> Bool} {g : D -> T} {J : It} {parts : D -> Option (List D)}
noncomputable def AQ (X : Cx) (CL : Str -> Addr) (scope : Scope) (Nc : List Str) (n : Nat) (tg : Expr) (parts : D -> Option (List D)) (ifs : List Expr) (elt : Expr) (δc : List (Option T)) (ds : List D) (p : D -> Bool) (g : D -> T) : Prop :=
 ∀ C s0 H0 f0 b', Tgt (eV X scope Nc C s0 H0 f0) CL tg (List.range' 0 n) parts /\ ∀ d, d ∈ ds -> ∃ ps, parts d = some ps /\ ps.length = n /\ TIv (eV X scope Nc C s0 H0 f0) CL b' ifs (UB ps ++ δc) (p d) /\ (p d = true -> bZ (eV X scope Nc C s0 H0 f0) CL b' elt (UB ps ++ δc) (g d) (UB ps ++ δc))
structure GW (K : PySem.W.Frag) (CL : Str -> Addr) (H W1 : Hp) (D : Addr) (l : List T) (k : Nat) (H2 Z2 : Hp) (Oj : List V) (fp : List Addr) : Prop where
 a1 : aL H H2
 a2 : aL W1 Z2
 a3 : aL Z2 H2
 a4 : Z2 D = none
 a5 : ∀ a o, Z2 a = some o -> W1 a = none -> H a = none
 a6 : ∀ a o, H2 a = some o -> sC o = true -> Z2 a = some o
 a7 : H2 D = some (.lst Oj)
 a8 : bA K CL H2 Z2 l Oj fp
 a9 : fp.Nodup
 b1 : D ∉ fp
 b2 : ∀ a ∈ fp, Z2 a = none /\ H a = none
 b3 : Oj.length <= k
theorem Ex (S : b8 X.K CL b H Z δ σ ts vs) (zw : aL Z W1) (wh : aL W1 H) (tp : ∀ a o, H a = some o -> sC o = true -> W1 a = some o)
   (cap : ∀ H', jx X.K CL H' W1 δc (ix.map fun i => (σ[i]?).getD none) []) (inner : AQ X CL scope Nc n tg parts ifs elt δc ds p g)
   (hgo : ∀ i H2, aL W1 H2 -> i < ds.length -> J.go i H2)
   (hy : ∀ i Z2 H2 x H', aL W1 Z2 -> aL Z2 H2 -> (∀ a o, H2 a = some o -> sC o = true -> Z2 a = some o) -> i < ds.length -> J.yld i H2 x H' -> ∃ Z3 d, ds[i]? = some d /\ Eu Z2 H2 Z3 H' /\ bV X.K CL Z3 d x)
   (hst : ∀ H2, aL W1 H2 -> J.stop ds.length H2) (hlen : ds.length <= sizeLine) (c : W1 = Z \/ ∀ d ∈ ds, (g d).clean = true) :
   ∀ D, H D = none -> ∃ W : Nat -> Nat -> Hp -> Prop, (∃ m, W 0 m (upd H D (.lst []))) /\ ∀ i m H2, W i m H2 -> (J.stop i H2 /\ ∃ Z2, aL Z Z2 /\ aL H H2 /\ b8 X.K CL b H2 Z2 δ σ (.lst ((ds.filter p).map g) :: ts) (.ref D :: vs)) ∨
     (J.go i H2 /\ ∃ N : Hp -> Prop, (∀ H', N H' -> ∃ m', m' < m /\ W (i + 1) m' H') /\ ∀ xv H3, J.yld i H2 xv H3 -> ∀ C s0 H0 f0 os, os.length = n -> Xz (eV X scope Nc C s0 H0 f0) tg elt ifs n σ ix D N xv os H3) := by
 intro D hD
 have wD : W1 D = none := wh.free hD
 refine ⟨fun i m H2 => m = ds.length - i /\ i <= ds.length /\ ∃ Z2 Oj fp, GW X.K CL H W1 D (((ds.take i).filter p).map g) i H2 Z2 Oj fp, ⟨ds.length, rfl, anE _, W1, [], [], aL.upd hD, .refl _, wh.trans (aL.upd hD), wD, fun a o q z => ?_, fun a o q i => ?_, bx, .nil, ao8, by simp, by simp, by simp⟩, ?_⟩
 . rw [q] at z; cases z
 . by_cases ha : a = D
   . subst ha; rw [bx] at q; cases q; cases i
   . rw [aD ha] at q; exact tp a o q i
 . rintro i m H2 ⟨rfl, hi, Z2, Oj, fp, hh, wz, zh, zD, nw, tp2, hD2, ra, nd, nD, own, hav⟩
   by_cases Iz : i < ds.length
   . refine .inr ⟨hgo i H2 (wz.trans zh) Iz, fun H' => ∃ Z2 Oj fp, GW X.K CL H W1 D (((ds.take (i + 1)).filter p).map g) (i + 1) H' Z2 Oj fp, fun H' h => ⟨ds.length - (i + 1), by omega, rfl, Iz, h⟩, fun xv H3 y C s0 H0 f0 os hos => ?_⟩
     obtain ⟨Z3, d, hd, gr, rd⟩ := hy i Z2 H2 xv H3 wz zh tp2 Iz y
     have aeK : ∀ a, Z2 a = none -> (∃ o, H2 a = some o) -> Z3 a = none := fun a e ⟨o, e2⟩ => by
       cases q : Z3 a with
       | none => rfl
       | some u => rw [gr.new a u q e] at e2; cases e2
     have nw3 : ∀ a o, Z3 a = some o -> W1 a = none -> H a = none := fun a o q z => by
       cases e : Z2 a with
       | none => exact hh.free (gr.new a o q e)
       | some u =>
         have := gr.z a u e
         rw [q] at this; cases this
         exact nw a o e z
     have ra3 : bA X.K CL H3 Z3 (((ds.take i).filter p).map g) Oj fp := ra.mono gr.z fun a ha => by
       obtain ⟨o, e⟩ := ra.there a ha
       rw [e]; exact gr.h a o e
     have ow3 : ∀ a ∈ fp, Z3 a = none /\ H a = none := fun a ha => ⟨aeK a (own a ha).1 (ra.there a ha), (own a ha).2⟩
     have zD3 : Z3 D = none := aeK D zD ⟨_, hD2⟩
     have hD3 : H3 D = some (.lst Oj) := gr.h D _ hD2
     have hh3 := hh.trans gr.h
     have wz3 := wz.trans gr.z
     have zh3 := gr.zh
     have tp3 := gr.tp
     clear own nw ra zD hD2 hh wz zh tp2 gr aeK
     have ajt : d ∈ ds := anB hd
     have htk : ds.take (i + 1) = ds.take i ++ [d] := by rw [aoJ, hd]; rfl
     obtain ⟨tgt, inn⟩ := inner C s0 H0 f0 ⟨H3, Z3⟩
     obtain ⟨ps, hps, GH, it, ie⟩ := inn d ajt
     obtain ⟨t, pg, ht⟩ := tgt
     refine ⟨t, pg, ht Z3 H3 d ps xv _ _ zh3 rd hps fun ys rys => ?_⟩
     have hyl : ys.length = n := by rw [← rys.length]; exact GH
     have es : Ew (UA σ ix os) (List.range' 0 n) ys = UA σ ix (ys.map some) := by
       have := Hl (ys := ys) (os := os) (pre := []) (r := ix.map fun i => (σ[i]?).getD none) (by rw [hos, hyl])
       rw [hyl] at this
       exact this
     refine ⟨ys.map some, by rw [anh]; exact hyl, es, ?_⟩
     rw [es]
     have S0 : b8 X.K CL ⟨H3, Z3⟩ H3 Z3 (UB ps ++ δc) (UA σ ix (ys.map some)) [] [] :=
       ⟨⟨[], [], aa5 rys ((cap H3).mono wz3 fun a ha => by cases ha), .nil, ao8, fun a ha => by cases ha⟩, .refl _, .refl _, zh3, fun a o q z => (by have z' : Z3 a = none := z; rw [show Z3 a = some o from q] at z'; cases z'), tp3, (S.agJ.mono zw).mono wz3⟩
     refine it.sem S0 fun H4 Z4 z4 k4 S4 => ?_
     have ajv : ∀ a ∈ fp, H4 a = H3 a := fun a ha => by
       obtain ⟨o, e⟩ := ra3.there a ha
       rw [e]; exact k4 a o e
     have XD : ∀ a, Z3 a = none -> (∃ o, H3 a = some o) -> Z4 a = none := fun a e ⟨o, e2⟩ => by
       cases q : Z4 a with
       | none => rfl
       | some u =>
         have := S4.new a u q e
         rw [show H3 a = none from this] at e2; cases e2
     cases hp : p d with
     | false =>
       refine OD ⟨Z4, Oj, fp, hh3.trans k4, wz3.trans z4, S4.zh, XD D zD3 ⟨_, hD3⟩, fun a o q z => ?_, S4.tp, k4 D _ hD3, ?_, nd, nD, fun a ha => ⟨XD a (ow3 a ha).1 (ra3.there a ha), (ow3 a ha).2⟩, by omega⟩
       . cases e : Z3 a with
         | none => exact hh3.free (S4.new a o q e)
         | some u => 
           have := z4 a u e
           rw [q] at this; cases this
           exact nw3 a o e z
       . rw [htk, List.filter_append, aof (by simp [hp]), List.filter_nil, anL]
         exact ra3.mono z4 ajv
     | true =>
       refine OG ((ie hp) H4 Z4 (UA σ ix (ys.map some)) [] [] _ S4 fun yv H5 Z5 z5 k5 S5 => ⟨Oj, k5 D _ (k4 D _ hD3), by omega, ?_⟩)
       obtain ⟨f1, g1, e1, r1, nd1, agX⟩ := S5.rep
       cases r1 with
       | @cons _ _ _ _ fy fn ry rn =>
         cases rn
         rw [anL] at nd1 agX
         have ndy : fy.Nodup := (an5.mp nd1).2.1
         have aa6 : ∀ a ∈ fy, Z5 a = none /\ H3 a = none := fun a ha => agX a (anf _ ha)
         have OV : ∀ a, Z3 a = none -> (∃ o, H3 a = some o) -> Z5 a = none := fun a e ⟨o, e2⟩ => by
           cases q : Z5 a with
           | none => rfl
           | some u =>
             have := S5.new a u q e
             rw [show H3 a = none from this] at e2; cases e2
         have yD : ∀ a ∈ fy, a ≠ D := fun a ha e => by
           subst e
           rw [(aa6 a ha).2] at hD3; cases hD3
         have h5D : H5 D = some (.lst Oj) := k5 D _ (k4 D _ hD3)
         have sD : aL H (upd H5 D (.lst (Oj ++ [yv]))) := fun a o q => by
           rw [aD (bQ q hD)]
           exact k5 a o (k4 a o (hh3 a o q))
         refine ⟨Z5, Oj ++ [yv], fp ++ fy, sD, wz3.trans (z4.trans z5), fun a o q => ?_, OV D zD3 ⟨_, hD3⟩, fun a o q z => ?_, fun a o q im => ?_, bx, ?_, ?_, ?_, fun a ha => ?_, ?_⟩
         . rw [aD (bQ q (OV D zD3 ⟨_, hD3⟩))]; exact S5.zh a o q
         . cases e : Z3 a with
           | none => exact hh3.free (S5.new a o q e)
           | some u =>
             have := z5 a u (z4 a u e)
             rw [q] at this; cases this
             exact nw3 a o e z
         . by_cases ha : a = D
           . subst ha; rw [bx] at q; cases q; cases im
           . rw [aD ha] at q; exact S5.tp a o q im
         . rw [htk, List.filter_append, apa hp, List.filter_nil, anC]
           refine bA.app (ra3.mono (z4.trans z5) fun a ha => ?_) (by
             have := bA.cons (fp := fy) (gp := []) (ry.mono (.refl _) fun a ha => aD (yD a ha)) (bA.nil (H := upd H5 D (.lst (Oj ++ [yv]))) (Z := Z5))
             rwa [anL] at this)
           have : a ≠ D := fun e => nD (e ▸ ha)
           rw [aD this]
           obtain ⟨o, e⟩ := ra3.there a ha
           rw [e]; exact k5 a o (k4 a o e)
         . refine an5.mpr ⟨nd, ndy, fun a ha a' ha' e => ?_⟩
           subst e
           obtain ⟨o, e⟩ := ra3.there a ha
           rw [(aa6 a ha').2] at e; cases e
         . intro h
           rcases ank.mp h with h | h
           . exact nD h
           . exact yD D h rfl
         . rcases ank.mp ha with h | h
           . exact ⟨OV a (ow3 a h).1 (ra3.there a h), (ow3 a h).2⟩
           . exact ⟨(aa6 a h).1, hh3.free (aa6 a h).2⟩
         . rw [anv, aot]; omega
   . have e : i = ds.length := by omega
     subst e
     refine .inl ⟨hst H2 (wz.trans zh), ?_⟩
     rw [aoz] at ra
     obtain ⟨Z', z', S'⟩ := S.back (H' := H2) (W := W1) (W' := Z2) (t := .lst ((ds.filter p).map g)) (v := .ref D) (fp := D :: fp) hh zw wz zh nw tp2 (.lst hD2 ra) (an2.mpr ⟨nD, nd⟩) (fun a ha => by
       rcases ane.mp ha with h | h
       . subst h; exact ⟨zD, hD⟩
       . exact own a h) (c.imp id fun c => by
         rw [o9]
         exact Ep fun d hd => c d (aoZ.mp hd).1)
     exact ⟨Z', z', hh, S'⟩
end
section
variable {X : Cx} {CL : Str -> Addr} {b : Bx} {δ δ1 : List (Option T)} {scope : Scope} {xs : List Str} {Nc : List Str} {ix : List Nat} {elt iter tg : Expr} {ifs : List Expr} {pos : Pos} {ds : List D} {p : D -> Bool} {g : D -> T} {δc : List (Option T)} {parts : D -> Option (List D)}
theorem Ho {J : It} {fp : List Addr} {it : Addr} {tn : Nat -> Heap -> Prop} {pins : List (Addr × Obj)} {σ : L2.St} {H H1 Z : Hp} {s : Shared} {ts : List T} {vs : List V} {RR : Value -> Addr -> Result -> Shared -> Prop} {E : Value -> Shared -> Prop}
   (sc : sH X scope xs Nc ix) (hc : X.calm = true) (C : IG X CL b δ1 σ ts vs Z H ds J H1) (I : L2.Inv X pins σ H1 s) (Tn : Turn X.prog X.w X.K tg J fp it tn) (st : tn 0 s.heap) (hf : ∀ b ∈ fp, Ct X pins H1 b)
   (hb : (δc = K6 δ1 ix /\ ∀ d ∈ ds, (g d).clean = true) \/ δc = K7 δ1 ix) (inner : AQ X CL scope Nc xs.length tg parts ifs elt δc ds p g) (hlen : ds.length <= sizeLine)
   (hRR : ∀ D C s' H' Z', (∃ m, s'.heap.Ns C m) -> (∃ o, s'.heap.get? C = some o /\ ∀ v, o.data ≠ .cell v) -> H' C = none -> (C ≠ X.env.locals /\ C ∉ X.fs /\ X.s₀.heap.objs.size <= C /\ (∀ y c, X.env.cells.lookup y = some c -> c ≠ C) /\ ∀ q ∈ X.pn ++ pins, q.1 ≠ C) -> (∀ h', Heap.SameBut C s'.heap h' -> L2.Inv X pins σ H' { s' with heap := h' }) -> aL Z Z' -> aL H H' -> b8 X.K CL b H' Z' δ1 σ (.lst ((ds.filter p).map g) :: ts) (.ref D :: vs) -> RR (.ref D) C (.ok .next) s') :
   wpAny (model X.prog X.w) X.A (newList []) (fun acc s₃ => wpAny (model X.prog X.w) X.A (newFunctionEnv scope X.env.globals (kT X.env scope.names []) [] X.env.qual none .none (some X.env)) (fun XA s₄ =>
     codeAny (model X.prog X.w) X.A (.compStart (.ListComp elt [⟨tg, iter, ifs, 0⟩] scope pos) 0 (.ref it) acc { XA with scope := relabel scope X.env }) (RR acc XA.locals) s₄) E s₃) E s := by
 obtain ⟨Z1, z1, k1, S1, go, yl, stp⟩ := C.ex
 have lp : ∀ D, H1 D = none -> ∃ W : Nat -> Nat -> Hp -> Prop, (∃ m, W 0 m (upd H1 D (.lst []))) /\ ∀ i m H2, W i m H2 -> (J.stop i H2 /\ ∃ Z2, aL Z1 Z2 /\ aL H1 H2 /\ b8 X.K CL b H2 Z2 δ1 σ (.lst ((ds.filter p).map g) :: ts) (.ref D :: vs)) ∨
     (J.go i H2 /\ ∃ N : Hp -> Prop, (∀ H', N H' -> ∃ m', m' < m /\ W (i + 1) m' H') /\ ∀ xv H3, J.yld i H2 xv H3 -> ∀ C s0 H0 f0 os, os.length = xs.length -> Xz (eV X scope Nc C s0 H0 f0) tg elt ifs xs.length σ ix D N xv os H3) := by
   rcases hb with ⟨e, cl⟩ | e
   . subst e
     exact Ex (W1 := H1) S1 S1.zh (.refl _) (fun _ _ q _ => q) (K8 S1 ix) inner (fun i H2 s => go i H2 (S1.zh.trans s)) (fun i Z2 H2 y H' s => yl i Z2 H2 y H' (S1.zh.trans s)) (fun H2 s => stp H2 (S1.zh.trans s)) hlen (.inr cl)
   . subst e
     exact Ex (W1 := Z1) S1 (.refl _) S1.zh S1.tp (K9 S1 ix) inner go yl stp hlen (.inl rfl)
 exact OU sc hc I Tn st hf lp fun D C s' H' m io nC ch ci ⟨Z', z', k', S'⟩ => hRR D C s' H' Z' m io nC ch ci (z1.trans z') (k1.trans k') S'
theorem B3 (sc : sH X scope xs Nc ix) {pins : List (Addr × Obj)} {σ : L2.St} {H : Hp} {s : Shared} (I : L2.Inv X pins σ H s) : closureFor scope X.env = pure (kT X.env scope.names []) :=
 GO fun y hy e => I.ok.has y.1 (sc.frees y hy e).2
theorem Lg (sc : sH X scope xs Nc ix) (hc : X.calm = true) (h : GIt X CL b tg iter δ ds δ1) (hb : (δc = K6 δ1 ix /\ ∀ d ∈ ds, (g d).clean = true) \/ δc = K7 δ1 ix) (inner : AQ X CL scope Nc xs.length tg parts ifs elt δc ds p g) (hlen : ds.length <= sizeLine)
   (hs : ∀ x, foldedSetIterable iter X.env x = pure x := by intro _; rfl) : bZ X CL b (.ListComp elt [⟨tg, iter, ifs, 0⟩] scope pos) δ (.lst ((ds.filter p).map g)) δ1 := fun H Z σ ts vs Q S k pins s I => by
 obtain ⟨wi, pi, hw⟩ := h
 rw [eval_ListComp]
 refine wpAny_comprehension_free (use := none) rfl hs (B3 sc I) sc.kind sc.names ?_
 refine ef (pi pins s σ H _ I (hw H Z σ ts vs (fun J H1 => IG X CL b δ1 σ ts vs Z H ds J H1) S fun J H1 C => C)) fun v s1 h1 => ef h1 fun itv s2 zz => ?_
 obtain ⟨it, fp, tn, J, H1, e, I1, Tn, st, hf, C⟩ := zz
 subst e
 refine Ho (RR := fun acc C => compPost (model X.prog X.w) X.A X.xe none (EP X pins σ Q) acc C) sc hc C I1 Tn st hf hb inner hlen fun D C' s' H' Z' m io nC ch ci z' k' S' => ?_
 obtain ⟨m, hn⟩ := m
 exact ⟨m, hn, fun h' hs' => ⟨.ref D, H', ci h' hs', rfl, k _ H' Z' z' k' S'⟩⟩
theorem aa7 {D : gw} {y : Str} {py agY : Pos} (i : Nat) (sc : sH X scope xs Nc ix) (hc : X.calm = true) (h : GIt X CL b tg iter δ ds δ1) (hb : (δc = K6 δ1 ix /\ ∀ d ∈ ds, (g d).clean = true) \/ δc = K7 δ1 ix) (inner : AQ X CL scope Nc xs.length tg parts ifs elt δc ds p g) (hlen : ds.length <= sizeLine)
   (k : D.nx (δ1.set i (some (.lst ((ds.filter p).map g))))) (hl : i < δ1.length) (hN : X.N.Nodup) (hi : X.N[i]? = some y) (hx : Loc X.env.scope y) (hf' : X.fn y = true \/ X.env.scope.names.lookup y = some .local)
   (Iw : swapsWith (.ListComp elt [⟨tg, iter, ifs, 0⟩] scope pos) (some (.Name y py)) agY.line X.env = pure true)
   (hs : ∀ x, foldedSetIterable iter X.env x = pure x := by intro _; rfl) : ZX X CL b (.Assign [.Name y py] (.ListComp elt [⟨tg, iter, ifs, 0⟩] scope pos) agY) δ D := fun H Z σ ts vs E S M pins s I => by
 obtain ⟨wi, pi, hw⟩ := h
 rw [exec_Assign_Name_used _ _ _ _ Iw]
 refine anP (wpAny_standAt (anP ?_))
 show wpAny _ X.A (do let _ ← comprehension (.ListComp elt [⟨tg, iter, ifs, 0⟩] scope pos) scope X.env _ (newList []) false (eval iter X.env) (some (assign (.Name y py) X.env))) _ _ s
 refine anP (aor (wpAny_comprehension_free (use := some (assign (.Name y py) X.env)) (Q := fun _ s' => SP X pins E .next s') rfl hs (B3 sc I) sc.kind sc.names ?_) (fun _ s' hq => an0 (an0 hq)) fun _ _ e => e)
 refine ef (pi pins s σ H _ I (hw H Z σ ts vs (fun J H1 => IG X CL b δ1 σ ts vs Z H ds J H1) S fun J H1 C => C)) fun v s1 h1 => ef h1 fun itv s2 zz => ?_
 obtain ⟨it, fp, tn, J, H1, e, I1, Tn, st, hf, C⟩ := zz
 subst e
 refine Ho (RR := fun acc C => compPost (model X.prog X.w) X.A X.xe (some (assign (.Name y py) X.env)) (fun _ s' => SP X pins E .next s') acc C) sc hc C I1 Tn st hf hb inner hlen fun D' C' s' H' Z' m io nC ch ci z' k' S' => ?_
 obtain ⟨m, hn⟩ := m
 obtain ⟨o, ho, BP⟩ := io
 have I' : L2.Inv X pins σ H' s' := ci s'.heap (.refl ..)
 have I2 : L2.Inv X (pins ++ [(C', o)]) σ H' s' := I'.DH fun q hq => by
   rcases ank.mp hq with z | z
   . exact I'.pin q (anf _ z)
   . have e : q = (C', o) := by simpa using z
     subst e
     exact ⟨ho, nC, ch.1, ch.2.1, BP⟩
 show wpAny _ X.A (assign (.Name y py) X.env (.ref D')) _ _ s'
 have hg : PG X (.Name y py) (BQ i) := yx hN hi hx hf'
 refine ef (hg _ s' σ H' (.ref D') (.ref D') (fun σ8 H8 => σ8 = σ.set i (some (.ref D')) /\ H8 = H') I2 rfl ⟨rfl, rfl⟩) fun _ s8 zz => ?_
 obtain ⟨σ8, H8, I8, e8, e8'⟩ := zz
 subst e8
 subst e8'
 obtain ⟨hC8, nC8, _⟩ := I8.pin (C', o) (anf _ (anf _ (by simp)))
 refine ⟨m, hn.at' fun o' e' => by rw [ho] at e'; cases e'; exact hC8, fun h' hs' => ?_⟩
 have I9 : L2.Inv X pins (σ.set i (some (.ref D'))) _ s8 := I8.DH fun q hq => I8.pin q (anf _ (anl _ hq))
 have I10 := I9.turned (it := C') (h' := h') (t' := s8.toks) (fun b o hb e => (hs'.2 b hb).trans e) nC8 ch.1.symm.symm (.inr ch.2.2.1) ch.2.2.2.1 ch.2.2.2.2
 exact ⟨_, _, I10, M.nx _ _ _ Z' z' (S'.set hl) k⟩
theorem XE {D : gw} {iP : List Stmt} {i : Nat} {x : Str} {pos' pc : Pos} (gx : Gx X) (n : Ln X i x) (sc : sH X scope xs Nc ix) (h : GIt X CL b tg iter δ ds δ1)
   (hb : (δc = K6 δ1 ix /\ ∀ d ∈ ds, (g d).clean = true) \/ δc = K7 δ1 ix) (inner : AQ X CL scope Nc xs.length tg parts ifs elt δc ds p g) (hlen : ds.length <= sizeLine) (k : gU X CL b iP (δ1.set i (some (.lst ((ds.filter p).map g)))) D) (hl : i < δ1.length)
   (Iw : swapsWith (.ListComp elt [⟨tg, iter, ifs, 0⟩] scope pc) (some (.Name x pos')) pos.line X.env = pure true \/ swapsWith (.ListComp elt [⟨tg, iter, ifs, 0⟩] scope pc) (some (.Name x pos')) pos.line X.env = pure false) (hs : ∀ x, foldedSetIterable iter X.env x = pure x := by intro _; rfl) :
   gU X CL b (.Assign [.Name x pos'] (.ListComp elt [⟨tg, iter, ifs, 0⟩] scope pc) pos :: iP) δ D := by
 rcases Iw with Iw | Iw
 . exact dF (aa7 i sc gx.calm h hb inner hlen k hl gx.nd n.hi n.loc n.hf Iw hs)
 . exact dF (Xp i (Lg sc gx.calm h hb inner hlen hs) k hl gx.nd n.hi n.loc Iw n.hf)
noncomputable def gOk (scope : Scope) (xs uR : List Str) : Bool :=
 scope.kind == .function && xs.all (fun y => scope.names.lookup y == some .local) && uR.all (fun y => scope.names.lookup y == some .free) && decide ((xs ++ uR).Nodup) &&
   scope.names.all fun y => y.2 != .cell && (y.2 != .local || scope.names.lookup y.1 == some .local) && (y.2 != .free || (uR.contains y.1 && scope.names.lookup y.1 == some .free))
theorem aa8 {uR : List Str} (c : Xs X ix uR) (ok : gOk scope xs uR = true) : sH X scope xs (xs ++ uR) ix := by
 unfold gOk at ok
 simp only [anH, aoi, aok, aoR] at ok
 obtain ⟨⟨⟨⟨h1, h2⟩, h3⟩, h4⟩, h5⟩ := ok
 have kc : ∀ y ∈ uR, X.env.kindOf y = some .cell \/ X.env.kindOf y = some .free := by
   clear h3 h4 h5
   induction c with
   | nil => intro y hy; cases hy
   | cons n k r ih =>
     intro y hy
     rcases ane.mp hy with e | hy
     . subst e; exact k
     . exact ih y hy
 refine ⟨h1, fun y hy e => ?_, h4, fun y hy e => ?_, h2, fun y hy e => ?_, ?_, fun i hi => ?_⟩
 . have := (h5 y hy).1.1
   rw [e] at this
   simp at this
 . have := (h5 y hy).1.2
   rw [e] at this
   simpa using this
 . have := (h5 y hy).2
   rw [e] at this
   simp at this
   exact ⟨this.2, kc _ this.1⟩
 . congr 1
   clear h3 h4 h5 kc
   induction c with
   | nil => rfl
   | cons n k r ih => rw [aog, n.hi, ← ih]
 . clear h4 h5 kc
   induction c with
   | nil => cases hi
   | @cons i' y ix ys n k r ih =>
     rcases ane.mp hi with e | hi
     . subst e; exact ⟨y, n.hi, h3 y anc⟩
     . exact ih (fun z hz => h3 z (anj _ hz)) hi
theorem OX {i : Nat} {x : Str} {C : Addr} {s : Shared} {H : Hp} {fp : List Addr} (h1 : Nc[i]? = some x) (h2 : scope.names.lookup x = some .local) (hd : (x == ("__debug__" : Str)) = false := by decide) (uF : (x == ("__classdict__" : Str)) = false := by decide) : Ln (eV X scope Nc C s H fp) i x :=
 ⟨dQ h1 h2 hd uF, .inl (lookup_relabel_local h2), .inr (lookup_relabel_local h2)⟩
end
noncomputable def Ite (K : PySem.W.Frag) (a : Addr) : It :=
 ⟨fun i H => ∃ xs x, pA K H a xs /\ xs[i]? = some x, fun i H x H' => ∃ T y, H T = none /\ x = .ref T /\ (∀ xs, pA K H a xs -> xs[i]? = some y) /\ H' = upd H T (.tup [.int i, y]), fun i H => ∃ xs, pA K H a xs /\ xs.length <= i⟩
theorem UC {P : Program} {w : World} {K : PySem.W.Frag} {elts : List Expr} {kk : Nat} {pt : Pos} (a e it : Addr) (hne : e ≠ it) : Turn P w K (.Tuple elts kk pt) (Ite K a) [e, it] e (fun i h => (∃ old, PySem.IsEnum h e it i old) /\ h.IsListIter it a i) where
 mem := by simp
 obj := fun i h st b hb => by
   obtain ⟨⟨old, he⟩, hit⟩ := st
   rcases ane.mp hb with z | z
   . subst z
     exact ⟨_, he, fun v z => by
       have z' : Data.fields _ = Data.cell v := z
       cases z'⟩
   . have z : b = it := by simpa using z
     subst z
     obtain ⟨o, e, c, d⟩ := hit
     exact ⟨o, e, fun v z => by rw [d] at z; cases z⟩
 keep := fun i h h' st k => by
   obtain ⟨⟨old, he⟩, hit⟩ := st
   exact ⟨⟨old, k e (by simp) _ he⟩, hit.at fun o q => k it (by simp) o q⟩
 item := by
   intro X hP hw hK hc i pins s σ H E I hf st hg
   subst hP hw hK
   obtain ⟨xs, x, hq, hx⟩ := hg
   obtain ⟨its, rv, p, hz⟩ := I.list hq
   obtain ⟨u, hu, ru⟩ := rv.get hx
   obtain ⟨⟨old, he⟩, hit⟩ := st
   have fe := hf e (by simp)
   have fi := hf it (by simp)
   have hT0 : H s.heap.objs.size = none := I.d9.fresh (anq _)
   have fT := I.Ea (anq s.heap.objs.size) hT0
   refine PySem.wpAny_pyNext_enum_item he hit p.isList (x := u) (by simpa using hu) hne fun h' ho ajw hT hsz hk => ⟨_, rfl, ?_⟩
   refine PySem.wpAny_letOwnedTupleGo_enum ho fun h2 he2 wV => ?_
   replace wV : Heap.SameBut e h' h2 := wV
   have eT : e < s.heap.objs.size := anw he
   have keep : ∀ b o, b ≠ e -> b ≠ it -> s.heap.get? b = some o -> h2.get? b = some o := fun b o h1 h3 q => (wV.2 b h1).trans (hk b o h1 h3 q)
   have hT2 : h2.get? s.heap.objs.size = some { cls := .type "tuple", data := .seq #[.int i s.toks, u] } := (wV.2 _ (Nat.ne_of_gt eT)).trans hT
   have nH : ∀ b o, H b = some o -> b ≠ e /\ b ≠ it /\ b ≠ s.heap.objs.size := fun b o q => ⟨fun z => (by rw [z, fe.1] at q; cases q), fun z => (by rw [z, fi.1] at q; cases q), fun z => (by rw [z, hT0] at q; cases q)⟩
   have I' : L2.Inv X pins σ (upd H s.heap.objs.size (.tup [.int i, x])) { s with heap := h2, toks := s.toks + 1 } := by
     refine I.step (g' := s.gens) (d' := s.drawn) (ch := [e, it, s.heap.objs.size]) (fun b hb => ?_) (fun b o _ _ hc q _ => ?_) (fun b o _ _ hc q _ => ⟨o.slots, ?_⟩) (fun b o hc q n => ?_) (fun b o hc q => ⟨o, ?_⟩) (fun b ys q => ?_) (fun b o u q => ?_) (fun b ps q => ⟨#[], ?_⟩) (fun m hm => ?_) (fun b o q => ?_) I.bare
     . rcases ane.mp hb with z | hb
       . subst z; exact ⟨fe.2.2.2.1, fe.2.1, fe.2.2.2.2.1, fe.2.2.2.2.2⟩
       . rcases ane.mp hb with z | hb
         . subst z; exact ⟨fi.2.2.2.1, fi.2.1, fi.2.2.2.2.1, fi.2.2.2.2.2⟩
         . have z : b = s.heap.objs.size := by simpa using hb
           subst z; exact ⟨fT.2.2.2.1, fT.2.1, fT.2.2.2.2.1, fT.2.2.2.2.2⟩
     . exact keep b o (fun z => hc (by simp [z])) (fun z => hc (by simp [z])) q
     . exact keep b o (fun z => hc (by simp [z])) (fun z => hc (by simp [z])) q
     . rw [aD (fun z => hc (by simp [z]))]; exact n
     . exact keep b o (fun z => hc (by simp [z])) (fun z => hc (by simp [z])) q
     . rw [aD (nH b _ q).2.2]; exact q
     . rw [aD (nH b _ q).2.2]; exact q
     . rw [aD (nH b _ q).2.2, q]; simp
     . obtain ⟨o, es, ep, ho, r⟩ := hm
       exact ⟨o, es, ep, keep _ o (aon fe.2.1) (aon fi.2.1) ho, r⟩
     . by_cases hb : b = s.heap.objs.size
       . subst hb
         rw [bx] at q
         cases q
         exact ⟨an9 (cJ (anb rfl)), [.int i s.toks, u], .cons ⟨s.toks, rfl⟩ (.cons ru .nil), ⟨_, hT2, rfl, _, rfl⟩⟩
       . rw [aD hb] at q
         refine (I.d9 b o q).HP (fun c v hc z => keep c v ?_ ?_ z) (fun c z => by rw [aD (nH c _ z).2.2]; exact z) (fun c ys z => by rw [aD (nH c _ z).2.2]; exact z) fun c ys z => by rw [aD (nH c _ z).2.2]; exact z
         . rcases hc with z | z
           . rw [z]; exact (nH b _ q).1
           . exact (nH c _ z).1
         . rcases hc with z | z
           . rw [z]; exact (nH b _ q).2.1
           . exact (nH c _ z).2.1
   have ei : ((i + 1 : Nat) : Int) = (i : Int) + 1 := by omega
   refine ⟨.ref s.heap.objs.size, _, I', rfl, ⟨_, x, hT0, rfl, fun ys hy => by rw [I.yu hy hq]; exact hx, rfl⟩, ⟨⟨u, by rw [ei]; exact he2⟩, ajw.at fun o q => (wV.2 it (aon hne)).trans q⟩, fun b hb => ?_⟩
   have hb' := hf b hb
   obtain ⟨o, Oi, _⟩ : ∃ o, s.heap.get? b = some o /\ True := by
     rcases ane.mp hb with z | z
     . subst z; exact ⟨_, he, trivial⟩
     . have z : b = it := by simpa using z
       subst z
       obtain ⟨o, q, _⟩ := hit
       exact ⟨o, q, trivial⟩
   rw [aD (anT (anw Oi))]
   exact hb'.1
 done := by
   intro X hP hw hK hc i pins s σ H E I hf st hg
   subst hP hw hK
   obtain ⟨xs, hq, hx⟩ := hg
   obtain ⟨its, rv, p, hz⟩ := I.list hq
   obtain ⟨⟨old, he⟩, hit⟩ := st
   obtain ⟨f0, f1, f2, f3, f4, f5⟩ := hf it (by simp)
   have hl := rv.length
   exact PySem.wpAny_pyNext_enum_end (I.ok.hd hc) he hit p.isList (by simp; omega) fun h' eb => ⟨rfl, I.turned (t' := s.toks) (fun b o hb e => eb b o hb e) f0 f1 f3 f4 f5⟩
 self := fun _ _ _ _ _ st h => by
   obtain ⟨⟨old, he⟩, _⟩ := st
   exact PySem.wpAny_pyIter_enum he h
section
variable {X : Cx} {elts : List Expr} {kk : Nat} {pt : Pos}
noncomputable def agZ (K : PySem.W.Frag) (ta : TA) : TI := fun σ H R => ta σ H fun vs H1 => ∃ a xs, vs = [.ref a] /\ pA K H1 a xs /\ R (Ite K a) H1
theorem aa9 {a : Expr} {ta : TA} {p pos : Pos} (hg : Gl X "enumerate") (hm : X.mg "enumerate" = none) (ha : PA X [a] ta) (hs : starEach [a] X.env = (false, eval a X.env) :: starEach [] X.env) : PI X (.Tuple elts kk pt) (.Call (.Name "enumerate" p) [a] [] pos) (agZ X.K ta) := by
 intro pins s σ H R I h
 refine Call_ (xm I hg hm boot_enumerate (aol (ef (ha pos pins s σ H _ I h) fun us s1 zz => ?_) hs rfl))
 obtain ⟨vs, H1, I1, r1, q1⟩ := zz
 obtain ⟨l, xs, e, hq, q⟩ := q1
 subst e
 cases r1 with
 | cons r rr =>
   cases rr
   cases r
   obtain ⟨its, rv, p, hz⟩ := I1.list hq
   refine PySem.call_enumerate_list p.isList fun h' he hit hsz hk => ?_
   have I2 : L2.Inv X pins σ H1 { s1 with heap := h' } := I1.kept (t' := s1.toks) fun b o e => hk b o e
   refine PySem.wpAny_pyIter_enum he ?_
   refine ⟨s1.heap.objs.size + 1, [s1.heap.objs.size + 1, s1.heap.objs.size], _, _, H1, rfl, I2, UC l _ _ (Nat.succ_ne_self _), ⟨⟨_, he⟩, hit⟩, fun b hb => ?_, q⟩
   rcases ane.mp hb with z | z
   . subst z
     exact I1.Ea (Nat.le_succ _) (I1.d9.fresh (Nat.le_succ _))
   . have z : b = s1.heap.objs.size := by simpa using z
     subst z
     exact I1.Ea (anq _) (I1.d9.fresh (anq _))
end
noncomputable def Ey (ds : List D) : List D := (List.range ds.length).map fun (i : Nat) => .tup [.int i, ds.getD i .non]
theorem AU (ds : List D) : (Ey ds).length = ds.length := by simp [Ey]
theorem UD {ds : List D} {i : Nat} {d : D} (h : ds[i]? = some d) : (Ey ds)[i]? = some (.tup [.int i, d]) := by
 have hi : i < ds.length := (anS.mp h).1
 unfold Ey
 rw [anJ, aoq hi]
 show some (D.tup [.int i, ds.getD i .non]) = _
 rw [anO, h]
 rfl
section
variable {X : Cx} {CL : Str -> Addr} {b : Bx} {δ δ1 : List (Option T)} {e : Expr} {ds : List D} {elts : List Expr} {kk : Nat} {pt pr pc : Pos}
theorem DQ (hm : X.mg "enumerate" = none) (h : bZ X CL b e δ (.sh (.lst ds)) δ1) (hg : Gl X "enumerate") (hs : starEach [e] X.env = (false, eval e X.env) :: starEach [] X.env := by exact bG rfl) : GIt X CL b (.Tuple elts kk pt) (.Call (.Name "enumerate" pr) [e] [] pc) δ (Ey ds) δ1 := by
 refine ⟨_, aa9 hg hm (bI cM cK hs) hs, fun H Z σ ts vs R S k => h H Z σ ts vs _ S fun v H1 Z1 z1 k1 S1 => ?_⟩
 obtain ⟨fp, gp, _, r, _, _⟩ := S1.rep
 cases r with
 | cons r _ =>
   cases r with
   | sh r =>
     cases r with
     | @lst a us _ hq rr =>
       have hl := rr.length
       refine ⟨a, us, rfl, S1.zh.seq hq, k _ _ ⟨Z1, z1, k1, S1.pop, fun i H2 s hi => ?_, fun i Z2 H2 x H' s1 s2 tp hi hy => ?_, fun H2 s => ?_⟩⟩
       . rw [AU] at hi
         have hi' : i < us.length := by rw [← hl]; exact hi
         exact ⟨us, us[i], s.seq hq, anZ hi'⟩
       . rw [AU] at hi
         obtain ⟨T, y, hT, rfl, hx, rfl⟩ := hy
         obtain ⟨d, hd, rd⟩ := rr.Uq (hx us ((s1.trans s2).seq hq))
         have gr : Eu Z2 H2 _ _ := Eu.tup (xs := [.int i, y]) s2 tp hT
         exact ⟨_, _, UD hd, gr, .tup (AH.of bx) (.cons (.int _) (.cons ((rd.mono s1).mono gr.z) .nil))⟩
       . rw [AU]
         exact ⟨us, s.seq hq, by rw [← hl]; exact anq _⟩
end
theorem Ez {α β : Type} {f : α -> β} {l : List α} {j : Nat} {d : β} (h : (l.map f)[j]? = some d) : ∃ x, d = f x /\ l[j]? = some x /\ x ∈ l /\ j < l.length /\ l.drop j = x :: l.drop (j + 1) /\ l.take (j + 1) = l.take j ++ [x] := by
 rw [anJ] at h
 cases hx : l[j]? with
 | none => rw [hx] at h; cases h
 | some x =>
   rw [hx] at h
   cases h
   have hj : j < l.length := (anS.mp hx).1
   have e : l[j] = x := (anS.mp hx).2
   exact ⟨x, rfl, rfl, anB hx, hj, by rw [List.drop_eq_getElem_cons hj, e], by rw [aoJ, hx]; rfl⟩
noncomputable def D.at1 : L3.D -> L3.D
 | .tup (a :: _) => a
 | d => d
noncomputable def D.at2 : L3.D -> L3.D
 | .tup (_ :: a :: _) => a
 | d => d
noncomputable def D.cnt : L3.D -> Nat
 | .lst ds => ds.length
 | .tup ds => ds.length
 | _ => 0
section
variable {X : Cx} {CL : Str -> Addr} {b : Bx} {δ δ1 : List (Option T)} {e : Expr} {elts : List Expr} {kk : Nat} {pt pr pc : Pos}
theorem UE {α : Type} (f : α -> L3.D) (z : α) (l : List α) : Ey (l.map f) = (List.range l.length).map fun (i : Nat) => L3.D.tup [.int i, f (l.getD i z)] := by
 unfold Ey
 rw [anh]
 apply aoY
 intro i hi
 have hi : i < l.length := aoa.mp hi
 have : (l.map f).getD i .non = f (l.getD i z) := by
   rw [anO, anO, anJ, anZ hi]
   rfl
 rw [this]
theorem EA {α : Type} {f : α -> L3.D} {l : List α} (z : α) (hm : X.mg "enumerate" = none) (h : bZ X CL b e δ (.sh (.lst (l.map f))) δ1) (hg : Gl X "enumerate") (hs : starEach [e] X.env = (false, eval e X.env) :: starEach [] X.env := by exact bG rfl) :
   GIt X CL b (.Tuple elts kk pt) (.Call (.Name "enumerate" pr) [e] [] pc) δ ((List.range l.length).map fun (i : Nat) => L3.D.tup [.int i, f (l.getD i z)]) δ1 := by
 have := DQ (elts := elts) (kk := kk) (pt := pt) (pr := pr) (pc := pc) hm h hg hs
 rwa [UE f z l] at this
end
section
variable {K : PySem.W.Frag} {CL : Str -> Addr} {b : Bx} {H H' Z : Hp} {δ : List (Option T)} {σ : L2.St} {ts tl : List T} {vs us : List V} {t : T} {v : V}
theorem b8.UG {i j : Nat} {tt : List T} (S : b8 K CL b H Z δ σ (t :: ts) (v :: vs)) (hi : δ[i]? = some (some (.lst tt))) (hj : tt[j]? = some (.lst tl)) :
   ∃ a0 us0 a us, σ[i]? = some (some (.ref a0)) /\ H a0 = some (.lst us0) /\ us0[j]? = some (.ref a) /\ us0.length = tt.length /\ H a = some (.lst us) /\ us.length = tl.length /\ b8 K CL b (upd H a (.lst (us ++ [v]))) Z (δ.set i (some (.lst (tt.set j (.lst (tl ++ [t])))))) σ ts vs := by
 obtain ⟨fp, gp, e, r, nd, k⟩ := S.rep
 obtain ⟨v0, f1, f2, f3, hv, wY, rt, put, _⟩ := e.get hi
 subst wY
 cases rt with
 | @lst a0 us0 _ g0 hq r0 =>
   obtain ⟨vj, g1, g2, g3, hvj, hg, rj, set⟩ := r0.at hj
   subst hg
   cases rj with
   | @lst a us _ g ha rs =>
     cases r with
     | @cons _ _ _ _ ft gr q1 q2 =>
       have ne : ∀ c ∈ (f1 ++ ((a0 :: (g1 ++ (g ++ g3))) ++ f3)) ++ (ft ++ gr), c ≠ a := fun c hc e => by
         subst e
         have hp : ((f1 ++ ((a0 :: (g1 ++ ((c :: g) ++ g3))) ++ f3)) ++ (ft ++ gr)).Perm (c :: ((f1 ++ ((a0 :: (g1 ++ (g ++ g3))) ++ f3)) ++ (ft ++ gr))) := by
           have h1 : (a0 :: (g1 ++ ((c :: g) ++ g3))).Perm (c :: (a0 :: (g1 ++ (g ++ g3)))) := by
             have h0 : (g1 ++ ((c :: g) ++ g3)).Perm (c :: (g1 ++ (g ++ g3))) := aoh
             exact (h0.cons a0).trans (List.Perm.swap c a0 _)
           have h2 := (((h1.append_right f3).append_left f1).append_right (ft ++ gr))
           refine h2.trans ?_
           rw [anK]
           exact aoh.append_right _
         exact (an2.mp (hp.nodup_iff.mp nd)).1 hc
       have a0a : a0 ≠ a := ne a0 (by simp)
       refine ⟨a0, us0, a, us, hv, hq, hvj, r0.length.symm, ha, rs.length.symm, ?_⟩
       have r1 : bN K CL (upd H a (.lst (us ++ [v]))) Z (.lst (tl ++ [t])) (.ref a) (a :: (g ++ (ft ++ []))) :=
         .lst bx (bA.app (rs.mono (.refl _) fun c hc => aD (ne c (by simp [hc]))) (.cons (q1.mono (.refl _) fun c hc => aD (ne c (by simp [hc]))) .nil))
       have r2 := set (H' := upd H a (.lst (us ++ [v]))) (fun c hc => aD (ne c (by
         rcases ank.mp hc with h | h
         . simp [h]
         . simp [h]))) r1
       rw [kU hvj] at r2
       have e2 := put (H' := upd H a (.lst (us ++ [v]))) (.refl _) (fun c hc => aD (ne c (by
         rcases ank.mp hc with h | h
         . simp [h]
         . simp [h]))) (.lst (by rw [aD a0a]; exact hq) r2)
       rw [kU hv] at e2
       have hp : ((f1 ++ ((a0 :: (g1 ++ ((a :: (g ++ (ft ++ []))) ++ g3))) ++ f3)) ++ gr).Perm ((f1 ++ ((a0 :: (g1 ++ ((a :: g) ++ g3))) ++ f3)) ++ (ft ++ gr)) := by
         simp only [anL, anK, ani]
         refine anU f1 (List.Perm.cons a0 (anU g1 (List.Perm.cons a (anU g ?_))))
         have := (anY (l₁ := ft) (l₂ := g3 ++ f3)).append_right gr
         simp only [ani] at this
         exact this
       exact S.write nd k (by simp) ⟨_, ha⟩ e2 (q2.mono (.refl _) fun c hc => aD (ne c (by simp [hc]))) (hp.nodup_iff.mpr nd) fun c hc => hp.mem_iff.mp hc
end
section
variable {X : Cx} {CL : Str -> Addr} {b : Bx} {δ δ1 : List (Option T)} {e : Expr} {pos pp : Pos}
theorem aeN {i : Int} (hm : X.mg "abs" = none) (hg : Gl X "abs") (h : cy X CL b e δ (.int i) δ1) (hs : starEach [e] X.env = (false, eval e X.env) :: starEach [] X.env := by exact bG rfl) :
   bZ X CL b (.Call (.Name "abs" pp) [e] [] pos) δ (.sh (.int (if i < 0 then -i else i))) δ1 := fun H Z σ ts vs Q S k =>
 cG (rK WW hg hm (by decide +kernel) (bI cM cK hs) (he := hs)) (h H Z σ ts vs _ S fun v H1 Z1 z1 k1 S1 r => ⟨i, by rw [r.sc rfl], k _ H1 Z1 z1 k1 (S1.push (.int _))⟩)
end
section
variable {K : PySem.W.Frag} {CL : Str -> Addr} {b : Bx} {H Z : Hp} {δ : List (Option T)} {σ : L2.St} {ts tl Z6 : List T} {vs : List V} {v : V}
theorem b8.extend {i : Nat} (S : b8 K CL b H Z δ σ (.lst Z6 :: ts) (v :: vs)) (hi : δ[i]? = some (some (.lst tl))) :
   ∃ a us a2 OY, σ[i]? = some (some (.ref a)) /\ H a = some (.lst us) /\ us.length = tl.length /\ v = .ref a2 /\ H a2 = some (.lst OY) /\ OY.length = Z6.length /\ b8 K CL b (upd H a (.lst (us ++ OY))) Z (δ.set i (some (.lst (tl ++ Z6)))) σ ts vs := by
 obtain ⟨fp, gp, e, r, nd, k⟩ := S.rep
 obtain ⟨v0, f1, f2, f3, hv, wY, rt, put, _⟩ := e.get hi
 subst wY
 cases rt with
 | @lst a us _ g ha rs =>
   cases r with
   | @cons _ _ _ _ ft gr q1 q2 =>
     cases q1 with
     | @lst a2 OY _ g2 ha2 rs2 =>
       have ne : ∀ c ∈ (f1 ++ (g ++ f3)) ++ (g2 ++ gr), c ≠ a := fun c hc e => by
         subst e
         have hp : ((f1 ++ ((c :: g) ++ f3)) ++ ((a2 :: g2) ++ gr)).Perm (c :: ((f1 ++ (g ++ f3)) ++ ((a2 :: g2) ++ gr))) := by
           rw [anK, ← anK]
           exact (aoh.append_right _)
         refine (an2.mp (hp.nodup_iff.mp nd)).1 ?_
         rcases ank.mp hc with z | z
         . exact anl _ z
         . exact anf _ (anj _ z)
       refine ⟨a, us, a2, OY, hv, ha, rs.length.symm, rfl, ha2, rs2.length.symm, ?_⟩
       have r1 : bN K CL (upd H a (.lst (us ++ OY))) Z (.lst (tl ++ Z6)) (.ref a) (a :: (g ++ g2)) :=
         .lst bx (bA.app (rs.mono (.refl _) fun c hc => aD (ne c (by simp [hc]))) (rs2.mono (.refl _) fun c hc => aD (ne c (by simp [hc]))))
       have e2 := put (H' := upd H a (.lst (us ++ OY))) (.refl _) (fun c hc => aD (ne c (by
         rcases ank.mp hc with h | h
         . simp [h]
         . simp [h]))) r1
       rw [kU hv] at e2
       have hp : ((f1 ++ ((a :: (g ++ g2)) ++ f3)) ++ gr).Perm ((f1 ++ ((a :: g) ++ f3)) ++ (g2 ++ gr)) := by
         simp only [anK, ani]
         refine anU f1 (List.Perm.cons a (anU g ?_))
         rw [← ani, ← ani]
         exact anY.append_right gr
       have sb : ((f1 ++ ((a :: g) ++ f3)) ++ (g2 ++ gr)).Sublist ((f1 ++ ((a :: g) ++ f3)) ++ ((a2 :: g2) ++ gr)) :=
         an7 (an4 _) (by rw [anK]; exact List.sublist_cons_self _ _)
       exact S.write nd k (anc) ⟨_, ha⟩ e2 (q2.mono (.refl _) fun c hc => aD (ne c (by simp [hc]))) (hp.nodup_iff.mpr (nd.sublist sb)) fun c hc => sb.subset (hp.mem_iff.mp hc)
end
section
variable {X : Cx} {CL : Str -> Addr} {b : Bx} {δ δ1 : List (Option T)} {e : Expr} {tl tl0 Z6 : List T} {D : gw} {pos pp pa pb : Pos} {i : Nat} {x : Str} {iP : List Stmt}
theorem Lh (n : Vn X i x) (h0 : δ[i]? = some (some (.lst tl0))) (h : bZ X CL b e δ (.lst Z6) δ1) (h1 : δ1[i]? = some (some (.lst tl))) (hl : tl.length + Z6.length <= 1000000) (k : gU X CL b iP (δ1.set i (some (.lst (tl ++ Z6)))) D)
   (gT : attributeBase (.Name x pp) "extend" X.env (eval (.Name x pp) X.env) = eval (.Name x pp) X.env := by rfl)
   (nM : ((backTo pb (starEach [e] X.env)).all (fun x => !x.1) && (backToKw pb (keywordEach [] X.env)).all (fun x => x.1.isSome) && decide ([e].length + ([] : List Keyword).length + (if ([] : List Keyword).isEmpty then 0 else 1) < 30)) = true := by rfl)
   (hline : (pa.endLine == pb.line) = true := by rfl) (hs : starEach [e] X.env = (false, eval e X.env) :: starEach [] X.env := by exact bG rfl)
   (Iw : swapsWith (.Call (.Attribute (.Name x pp) "extend" pa) [e] [] pb) none pos.line X.env = pure false := by rfl) :
   gU X CL b (.Expr (.Call (.Attribute (.Name x pp) "extend" pa) [e] [] pb) pos :: iP) δ D := dF fun H Z σ ts vs E S M =>
 yI (yw (yG aoM PySem.F.slot_list_extend PySem.F.type_list_extend Uj (qZ n.hi n.hv n.hd n.uF) (bI cM cK hs) gT nM hline hs rfl) Iw) (by
   obtain ⟨v0, e0, r0⟩ := S.look h0
   refine ⟨v0, e0, ?_, ?_⟩
   . rw [T.gS] at r0
     cases r0 with
     | lst hq _ => exact .inl ⟨rfl, _, hq⟩
   . refine h H Z σ ts vs _ S fun v H1 Z1 z1 k1 S1 => ?_
     obtain ⟨a, us, a2, OY, ea, ha, hu, rfl, ha2, hu2, S2⟩ := S1.extend h1
     rw [e0] at ea
     cases ea
     exact ⟨a, a2, us, OY, rfl, rfl, ha, ha2, by rw [hu, hu2]; exact an9 (aov hl (by rw [anF]; decide)), M.nx _ σ _ Z1 z1 S2 k⟩)
end
section
variable {X : Cx} {CL : Str -> Addr} {b : Bx} {δ : List (Option T)} {x : Str} {pos : Pos}
theorem EB {k : Str} (hm : ∃ u, X.mg x = some (.str k u)) (hg : Gl X x) (hd : (x == ("__debug__" : Str)) = false := by decide) : bZ X CL b (.Name x pos) δ (.sh (.str k)) δ := fun H Z σ ts vs Q S kk => by
 obtain ⟨u, hm⟩ := hm
 exact cG (HW (v := .str k) hg hm ⟨u, rfl⟩ hd) (kk _ H Z (.refl _) (.refl _) (S.push (.str k)))
theorem aI.Sx {K : PySem.W.Frag} {Z : Hp} : ∀ l : List Str, aI K CL Z (l.map .str) (l.map V.str)
 | [] => .nil
 | x :: l => .cons (.str x) (aI.Sx l)
noncomputable def GT (X : Cx) (x : Str) (l : List Str) : Prop := ∃ a, X.mg x = some (.ref a) /\ ∀ H : Hp, AH X.K H a (l.map V.str)
theorem b9 {l : List Str} (hm : GT X x l) (hg : Gl X x) (hd : (x == ("__debug__" : Str)) = false := by decide) : bZ X CL b (.Name x pos) δ (.sh (.tup (l.map .str))) δ := fun H Z σ ts vs Q S kk => by
 obtain ⟨a, hm, hs⟩ := hm
 exact cG (HW (v := .ref a) hg hm rfl hd) (kk _ H Z (.refl _) (.refl _) (S.push (.tup (hs Z) (aI.Sx l))))
theorem uU {l : List Str} {a : Addr} {od : Option Addr} {its : Array Value} {n : Nat} {sl : Array (Option Value)} (h1 : X.mg x = some (.ref a)) (h2 : X.K.lookup a = some ⟨.type "tuple", od, .seq its n, sl⟩) (h3 : its.size <= sizeLine) (h4 : Vals (l.map V.str) its.toList) : GT X x l :=
 ⟨a, h1, fun H => .inr ⟨_, its, n, h2, rfl, rfl, h3, h4⟩⟩
end
section
variable {X : Cx} {CL : Str -> Addr} {b : Bx} {e1 e2 e iter : Expr} {δ δ1 δ2 : List (Option T)} {pos : Pos}
noncomputable def p8 (x y : Str) : Bool := !(Builtin.Str.occurrences y x 0 y.length 1).isEmpty
theorem Li {i j : Str} (h1 : cy X CL b e1 δ (.str i) δ1) (h2 : cy X CL b e2 δ1 (.str j) δ2) (hm : behindInMarks .In e2 = false) : uG X CL b (.Compare e1 [.In] [e2] pos) δ (p8 i j) δ2 /\ bZ X CL b (.Compare e1 [.In] [e2] pos) δ (.sh (.bl (p8 i j))) δ2 :=
 uP Ua h1 h2 rfl rfl (fun _ _ q => ⟨i, j, rfl, rfl, q⟩) hm
theorem uV {i j : Str} (h1 : cy X CL b e1 δ (.str i) δ1) (h2 : cy X CL b e2 δ1 (.str j) δ2) (hm : behindInMarks .NotIn e2 = false) : uG X CL b (.Compare e1 [.NotIn] [e2] pos) δ (!p8 i j) δ2 /\ bZ X CL b (.Compare e1 [.NotIn] [e2] pos) δ (.sh (.bl (!p8 i j))) δ2 :=
 uP HX h1 h2 rfl rfl (fun _ _ q => ⟨i, j, rfl, rfl, q⟩) hm
noncomputable def Its (x : Str) : It := ⟨fun i _ => i < x.cps.size, fun i H v H' => H' = H /\ ∃ c, x.cps[i]? = some c /\ v = .str ⟨#[c]⟩, fun i _ => x.cps.size <= i⟩
theorem UH {P : Program} {w : World} {K : PySem.W.Frag} {tg : Expr} (x : Str) (t : Tok) (it : Addr) : Turn P w K tg (Its x) [it] it (fun i h => h.IsStrIter it "str_ascii_iterator" x t i) where
 mem := by simp
 obj := fun i h st b hb => by
   have e : b = it := by simpa using hb
   subst e
   obtain ⟨o, e, c, d⟩ := st
   exact ⟨o, e, fun v z => by rw [d] at z; cases z⟩
 keep := fun i h h' st k => by
   obtain ⟨o, e, r⟩ := st
   exact ⟨o, k it (by simp) o e, r⟩
 item := by
   intro X hP hw hK hc i pins s σ H E I hf st hg
   subst hP hw hK
   have hg : i < x.cps.size := hg
   obtain ⟨f0, f1, f2, f3, f4, f5⟩ := hf it (by simp)
   refine wpAny_pyNext_ascii_item st (c := x.cps[i]) (by simp [hg]) fun h' R3 sb => ?_
   have I1 : Inv X pins σ H { s with heap := h', toks := s.toks + 1 } := I.turned (fun b o hb e => (sb.2 b hb).trans e) f0 f1 f3 f4 f5
   obtain ⟨o, e, c, d⟩ := id R3
   exact ⟨_, rfl, KR (s := { s with heap := h', toks := s.toks + 1 }) e c d (by decide) ⟨.str ⟨#[x.cps[i]]⟩, H, I1, ⟨_, rfl⟩, ⟨rfl, _, by simp [hg], rfl⟩, R3, fun b hb => (hf b hb).1⟩⟩
 done := by
   intro X hP hw hK hc i pins s σ H E I hf st hg
   subst hP hw hK
   have hg : x.cps.size <= i := hg
   obtain ⟨f0, f1, f2, f3, f4, f5⟩ := hf it (by simp)
   exact wpAny_pyNext_ascii_end (I.ok.hd hc) st (by simp [hg]) fun h' eb => ⟨rfl, I.turned (t' := s.toks) (fun b o hb e => eb b o hb e) f0 f1 f3 f4 f5⟩
 self := fun _ _ _ _ _ st h => wpAny_pyIter_striter_ascii st h
theorem UI {P : Program} {w : World} {K : PySem.W.Frag} {tg : Expr} (x : Str) (t : Tok) (it : Addr) : Turn P w K tg (Its x) [it] it (fun i h => h.IsStrIter it "str_iterator" x t i) where
 mem := by simp
 obj := fun i h st b hb => by
   have e : b = it := by simpa using hb
   subst e
   obtain ⟨o, e, c, d⟩ := st
   exact ⟨o, e, fun v z => by rw [d] at z; cases z⟩
 keep := fun i h h' st k => by
   obtain ⟨o, e, r⟩ := st
   exact ⟨o, k it (by simp) o e, r⟩
 item := by
   intro X hP hw hK hc i pins s σ H E I hf st hg
   subst hP hw hK
   have hg : i < x.cps.size := hg
   obtain ⟨f0, f1, f2, f3, f4, f5⟩ := hf it (by simp)
   refine wpAny_pyNext_wide_item st (c := x.cps[i]) (by simp [hg]) fun h' R3 sb => ?_
   have I1 : Inv X pins σ H { s with heap := h', toks := s.toks + 1 } := I.turned (fun b o hb e => (sb.2 b hb).trans e) f0 f1 f3 f4 f5
   obtain ⟨o, e, c, d⟩ := id R3
   exact ⟨_, rfl, KR (s := { s with heap := h', toks := s.toks + 1 }) e c d (by decide) ⟨.str ⟨#[x.cps[i]]⟩, H, I1, ⟨_, rfl⟩, ⟨rfl, _, by simp [hg], rfl⟩, R3, fun b hb => (hf b hb).1⟩⟩
 done := by
   intro X hP hw hK hc i pins s σ H E I hf st hg
   subst hP hw hK
   have hg : x.cps.size <= i := hg
   obtain ⟨f0, f1, f2, f3, f4, f5⟩ := hf it (by simp)
   exact wpAny_pyNext_wide_end (I.ok.hd hc) st (by simp [hg]) fun h' eb => ⟨rfl, I.turned (t' := s.toks) (fun b o hb e => eb b o hb e) f0 f1 f3 f4 f5⟩
 self := fun _ _ _ _ _ st h => wpAny_pyIter_striter_wide st h
noncomputable def ajD (tl : TE) : TI := fun σ H R => tl σ H fun v H1 => ∃ x, v = .str x /\ R (Its x) H1
theorem aeO {l : Expr} {tl : TE} {tg : Expr} (hl : PE X l tl) : PI X tg l (ajD tl) := by
 intro pins s σ H R I h
 refine ef (hl pins s σ H _ I h) fun v s1 zz => ?_
 obtain ⟨y, H1, I1, r1, q1⟩ := zz
 obtain ⟨x, e, q⟩ := q1
 subst e
 obtain ⟨t, rfl⟩ := r1
 cases ha : x.cps.all (· < 128) with
 | true =>
   refine wpAny_pyIter_ascii ha ?_
   refine ⟨s1.heap.objs.size, [s1.heap.objs.size], _, _, H1, rfl, I1.kept (t' := s1.toks) fun b o e => ant _ e, UH x t _, ⟨_, anR _ rfl, rfl, rfl⟩, fun b hb => ?_, q⟩
   have e : b = s1.heap.objs.size := by simpa using hb
   subst e
   exact I1.Ea (anq _) (I1.d9.fresh (anq _))
 | false =>
   refine wpAny_pyIter_wide ha ?_
   refine ⟨s1.heap.objs.size, [s1.heap.objs.size], _, _, H1, rfl, I1.kept (t' := s1.toks) fun b o e => ant _ e, UI x t _, ⟨_, anR _ rfl, rfl, rfl⟩, fun b hb => ?_, q⟩
   have e : b = s1.heap.objs.size := by simpa using hb
   subst e
   exact I1.Ea (anq _) (I1.d9.fresh (anq _))
noncomputable def jB (x : Str) : List L3.D := x.cps.toList.map fun c => .str ⟨#[c]⟩
theorem Lj {K : PySem.W.Frag} {Z : Hp} (l : List Nat) : aI K CL Z (l.map fun c => L3.D.str ⟨#[c]⟩) (l.map fun c => V.str ⟨#[c]⟩) := by
 induction l with
 | nil => exact .nil
 | cons c l ih => exact .cons (.str _) ih
theorem XF {x : Str} {tg : Expr} (h : bZ X CL b iter δ (.sh (.str x)) δ1) : ZY X CL b tg iter δ (jB x) δ1 := by
 refine ⟨_, aeO cM, fun H Z σ ts vs R S k => h H Z σ ts vs _ S fun v H1 Z1 z1 k1 S1 => ?_⟩
 obtain ⟨fp, gp, _, r, _, _⟩ := S1.rep
 cases r with
 | cons r _ =>
   cases r with
   | sh r =>
     cases r with
     | str =>
       refine ⟨x, rfl, k _ _ ⟨Z1, _, z1, k1, S1.pop, Lj _, fun i H2 s hi => ?_, fun i H2 y H' s hi hy => ⟨hy.1, ?_⟩, fun H2 s => ?_⟩⟩
       . show i < x.cps.size
         simpa [jB] using hi
       . obtain ⟨c, hc, rfl⟩ := hy.2
         simp [hc]
       . show x.cps.size <= (jB x).length
         simp [jB]
end
section
variable {X : Cx} {CL : Str -> Addr} {b : Bx} {e : Expr} {δ δ1 δ2 δ3 : List (Option T)} {pos p2 : Pos}
noncomputable def ajE : V -> Option Int -> Option Int -> Hp -> VK -> Prop := fun x lo hi H Q => ∃ z, x = .str z /\ z.length <= sizeLine /\ Q (.str (Txt.slice z lo hi)) H
theorem aeP : SlR X ajE := by
 intro pins s σ H x v vl vu lo hi sl Q I rx hs pl pu h
 obtain ⟨z, rfl, hz, q⟩ := h
 obtain ⟨t, rfl⟩ := rx
 obtain ⟨o, ho, hc, hd⟩ := hs
 have fin : ∀ t' k, EP X pins σ Q (.str (Txt.slice z lo hi) t') { s with toks := k } := fun t' k => ⟨.str _, H, I.tok k, ⟨t', rfl⟩, q⟩
 refine ⟨"str", _, F.slot_str_getitem.lookup, typeIs_str _ _ _, ?_⟩
 cases pl with
 | none =>
   cases pu with
   | none => exact aoN (l := none) (u := none) (st := none) ⟨o, ho, hc, hd⟩ rfl (post_val_or_str ⟨anW (Txt.slice_le z _ _) hz, fin⟩)
   | int j uj => exact aoN (l := none) (u := some (j, uj)) (st := none) ⟨o, ho, hc, hd⟩ rfl (post_val_or_str ⟨anW (Txt.slice_le z _ _) hz, fin⟩)
 | int i ui =>
   cases pu with
   | none => exact aoN (l := some (i, ui)) (u := none) (st := none) ⟨o, ho, hc, hd⟩ rfl (post_val_or_str ⟨anW (Txt.slice_le z _ _) hz, fin⟩)
   | int j uj => exact aoN (l := some (i, ui)) (u := some (j, uj)) (st := none) ⟨o, ho, hc, hd⟩ rfl (post_val_or_str ⟨anW (Txt.slice_le z _ _) hz, fin⟩)
theorem UJ {lo hi : Option Expr} {l h : Option Int} {z : Str} (h1 : cy X CL b e δ (.str z) δ1) (hz : z.length <= sizeLine) (h2 : TOv X CL b lo δ1 l δ2) (h3 : TOv X CL b hi δ2 h δ3) : bZ X CL b (.Subscript e (.Slice lo hi none p2) pos) δ (.sh (.str (Txt.slice z l h))) δ3 := fun H Z σ ts vs Q S k => by
 obtain ⟨t2, po2, w2⟩ := h2
 obtain ⟨t3, po3, w3⟩ := h3
 refine cG (KZ aeP cM po2 po3) (h1 H Z σ ts vs _ S fun v H1 Z1 z1 k1 S1 r => w2 H1 Z1 σ ts vs _ S1 fun H2 Z2 z2 k2 S2 => w3 H2 Z2 σ ts vs _ S2 fun H3 Z3 z3 k3 S3 => ?_)
 exact ⟨z, r.sc rfl, hz, k _ H3 Z3 (z1.trans (z2.trans z3)) (k1.trans (k2.trans k3)) (S3.push (.str _))⟩
end
end L3
namespace L3
open PySem PySem.Spec PyProof.Rows L2 PySem.Builtin PySem.Builtin.Str
section
variable {X : Cx} {CL : Str -> Addr} {b : Bx} {e o : Expr} {δ δ1 δ2 : List (Option T)} {pos apos : Pos}
theorem Vals.strsFrom : ∀ (k : Nat) (l : List Str), Vals (l.map V.str) (strsFrom k l)
 | _, [] => .nil
 | k, x :: l => .cons ⟨_, rfl⟩ (Vals.strsFrom (k + 1) l)
noncomputable def sJ (x y : Str) : Bool := !(y.length == 0) && !(decide (x.length < y.length) || decide (strKind x < strKind y)) && !(occurrences x y 0 x.length (x.length + 1)).isEmpty
noncomputable def splitM (x y : Str) : List Str := partsBetween x (occurrences x y 0 x.length (x.length + 1)) y.length
noncomputable def aeQ : V -> List V -> Hp -> VK -> Prop := fun x vs H Q => ∃ z y, x = .str z /\ vs = [.str y] /\ sJ z y = true /\ z.length <= sizeLine /\ (splitM z y).length <= sizeLine /\ ∀ p, H p = none -> Q (.ref p) (upd H p (.lst ((splitM z y).map V.str)))
theorem XG : MtR X "str.split" aeQ := by
 intro pins s σ H x vs v us Q I rx rv h
 obtain ⟨z, y, rfl, rfl, d9, hz, hp, q⟩ := h
 obtain ⟨t, rfl⟩ := rx
 obtain ⟨u, rfl, ru⟩ := rv.one
 obtain ⟨t', rfl⟩ := ru
 unfold sJ at d9
 simp only [anH, aoc] at d9
 obtain ⟨⟨h1, h2⟩, h3⟩ := d9
 refine call_meets F.slot_str_split (typeIs_str _ _ _) F.entry_str_split (F.args_str_split_2 _ _) (meets_str_split_sep z y t t' h2 h1 h3 hz hp) ?_
 exact ⟨.ref _, _, I.agz (its := strsFrom s.toks (splitM z y)) (Vals.strsFrom _ _) (by rw [anh]; exact hp), rfl, q _ I.fresh⟩
theorem EC {z y : Str} {l : List Str} (h1 : cy X CL b o δ (.str z) δ1) (h2 : cy X CL b e δ1 (.str y) δ2) (d9 : sJ z y = true) (hz : z.length <= sizeLine) (hl : splitM z y = l) (hp : l.length <= sizeLine)
   (gT : attributeBase o "split" X.env (eval o X.env) = eval o X.env := by rfl)
   (nM : ((backTo pos (starEach [e] X.env)).all (fun x => !x.1) && (backToKw pos (keywordEach [] X.env)).all (fun x => x.1.isSome) && decide ([e].length + ([] : List Keyword).length + (if ([] : List Keyword).isEmpty then 0 else 1) < 30)) = true := by rfl)
   (hline : (apos.endLine == pos.line) = true := by rfl) (hs : starEach [e] X.env = (false, eval e X.env) :: starEach [] X.env := by exact bG rfl) :
   bZ X CL b (.Call (.Attribute o "split" apos) [e] [] pos) δ (.lst ((l.map L3.D.str).map T.sh)) δ2 := fun H Z σ ts vs Q S k =>
 cG (yG aoB PySem.F.slot_str_split PySem.F.type_str_split XG cM (bI cM cK hs) gT nM hline hs rfl)
   (h1 H Z σ ts vs _ S fun v1 H1 Z1 z1 k1 S1 r1 => by
     have e1 := r1.sc rfl
     subst e1
     refine ⟨rfl, h2 H1 Z1 σ ts vs _ S1 fun v2 H2 Z2 z2 k2 S2 r2 => ?_⟩
     have e2 := r2.sc rfl
     subst e2
     subst hl
     refine ⟨z, y, rfl, rfl, d9, hz, hp, fun p hpn => ?_⟩
     have rc : aI X.K CL Z2 ((splitM z y).map L3.D.str) ((splitM z y).map V.str) := aI.Sx _
     obtain ⟨c, S4⟩ := (b8.Eo rc S2).En (g0 := []) (by simp) hpn
     exact k _ _ _ (z1.trans z2) (k1.trans (k2.trans c)) S4)
end
end L3
namespace L3
open PySem PySem.Spec PyProof.Rows L2
noncomputable def UK : Key -> D
 | .inl i => .int i
 | .inr x => .str x
noncomputable def yQ (bq : List (Key × D)) (k : Key) : Option D := (bq.find? fun kv => decide (kv.1 = k)).map (·.2)
noncomputable def B4 (bq : List (Key × D)) (k : Key) (d : D) : List (Key × D) :=
 if (bq.any fun kv => decide (kv.1 = k)) = true then bq.map (fun kv => if kv.1 = k then (kv.1, d) else kv) else bq ++ [(k, d)]
section
variable {K : PySem.W.Frag} {CL : Str -> Addr} {b : Bx} {H Z : Hp} {δ : List (Option T)} {σ : L2.St} {ts : List T} {vs : List V} {v : V} {d : D} {bq : List (Key × D)} {gs : List (Key × V)}
theorem bT.length {bq : List (Key × D)} {gs : List (Key × V)} (h : bT K CL Z bq gs) : bq.length = gs.length :=
 bT.ind (P := fun bq gs => bq.length = gs.length) rfl (fun _ _ i => congrArg (· + 1) i) h
theorem bT.val {k : Key} : ∀ {bq : List (Key × D)} {gs : List (Key × V)}, bT K CL Z bq gs -> (yQ bq k = none /\ pY gs k = none) \/ ∃ d v, yQ bq k = some d /\ pY gs k = some v /\ bV K CL Z d v
 | _, _, .nil => .inl ⟨rfl, rfl⟩
 | _, _, .cons (x := x) (d := d) (v := v) h r => by
   by_cases e : x = k
   . exact .inr ⟨d, v, by simp [yQ, e], uJ e, h⟩
   . rcases bT.val (k := k) r with ⟨h1, h2⟩ | ⟨d', v', h1, h2, h3⟩
     . exact .inl ⟨by simpa [yQ, e] using h1, by rw [rL e]; exact h2⟩
     . exact .inr ⟨d', v', by simpa [yQ, e] using h1, by rw [rL e]; exact h2, h3⟩
theorem bT.any {k : Key} : ∀ {bq : List (Key × D)} {gs : List (Key × V)}, bT K CL Z bq gs -> (bq.any fun kv => decide (kv.1 = k)) = (gs.any fun kv => decide (kv.1 = k))
 | _, _, .nil => rfl
 | _, _, .cons _ r => by rw [aoj, aoj, bT.any r]
theorem bT.repl {k : Key} (q : bV K CL Z d v) : ∀ {bq : List (Key × D)} {gs : List (Key × V)}, bT K CL Z bq gs -> bT K CL Z (bq.map (fun kv => if kv.1 = k then (kv.1, d) else kv)) (gs.map (fun kv => if kv.1 = k then (kv.1, v) else kv))
 | _, _, .nil => .nil
 | _, _, .cons (x := x) h r => by
   rw [anD, anD]
   by_cases e : x = k
   . rw [anu e, anu e]; exact .cons q (bT.repl q r)
   . rw [anm e, anm e]; exact .cons h (bT.repl q r)
theorem bT.snoc {k : Key} (q : bV K CL Z d v) : ∀ {bq : List (Key × D)} {gs : List (Key × V)}, bT K CL Z bq gs -> bT K CL Z (bq ++ [(k, d)]) (gs ++ [(k, v)])
 | _, _, .nil => .cons q .nil
 | _, _, .cons h r => .cons h (bT.snoc q r)
theorem bT.put {k : Key} (q : bV K CL Z d v) (r : bT K CL Z bq gs) : bT K CL Z (B4 bq k d) (putK gs k v) := by
 unfold B4 putK
 rw [r.any]
 split
 . exact r.repl q
 . exact r.snoc q
theorem bV.key {k : Key} (r : bV K CL Z (UK k) v) : v = kV k := by
 cases k with
 | inl i => exact r.sc rfl
 | inr x => exact r.sc rfl
theorem b8.aeR {p : Addr} (S : b8 K CL b H Z δ σ ts vs) (hp : H p = none) : aL H (upd H p (.dK [])) /\ b8 K CL b (upd H p (.dK [])) Z δ σ (.lZ [] :: ts) (.ref p :: vs) := by
 obtain ⟨fp, gp, e, r, nd, k⟩ := S.rep
 have zp : Z p = none := S.zh.free hp
 have sh : aL H (upd H p (.dK [])) := aL.upd hp
 have keep : ∀ a ∈ fp ++ gp, a ≠ p := fun a ha => by
   have : ∃ o, H a = some o := by
     rcases ank.mp ha with h | h
     . exact e.there a h
     . exact r.there a h
   obtain ⟨o, q⟩ := this
   exact bQ q hp
 refine ⟨sh, ⟨⟨fp, [p] ++ gp, e.mono (.refl _) (fun a ha => aD (keep a (anl _ ha))), .cons (.lZ bx .nil) (r.mono (.refl _) fun a ha => aD (keep a (by simp [ha]))), ?_, fun a ha => ?_⟩, S.bh.trans sh, S.zz, S.zh.trans sh, S.new, fun a o q i => ?_, S.tab⟩⟩
 . refine (aoh (l₁ := fp) (l₂ := gp) (a := p)).nodup_iff.mpr (an2.mpr ⟨fun h => keep p h rfl, nd⟩)
 . rcases ane.mp ((aoh (l₁ := fp) (l₂ := gp) (a := p)).mem_iff.mp ha) with h | h
   . subst h; exact ⟨zp, S.bh.free hp⟩
   . exact k a h
 . by_cases ha : a = p
   . subst ha; rw [bx] at q; cases q; cases i
   . rw [aD ha] at q; exact S.tp a o q i
theorem b8.XH {i : Nat} (k : Key) (S : b8 K CL b H Z δ σ (.sh d :: ts) (v :: vs)) (hi : δ[i]? = some (some (.lZ bq))) :
   ∃ a gs, σ[i]? = some (some (.ref a)) /\ H a = some (.dK gs) /\ gs.length = bq.length /\ b8 K CL b (upd H a (.dK (putK gs k v))) Z (δ.set i (some (.lZ (B4 bq k d)))) σ ts vs := by
 obtain ⟨fp, gp, e, r, nd, kk⟩ := S.rep
 obtain ⟨v0, f1, f2, f3, hv, wY, rt, put, _⟩ := e.get hi
 subst wY
 cases rt with
 | @lZ a gs _ ha rs =>
   cases r with
   | @cons _ _ _ _ ft gr q1 q2 =>
     cases q1 with
     | sh q1 =>
       have ne : ∀ c ∈ (f1 ++ f3) ++ gr, c ≠ a := fun c hc e => by
         subst e
         have hp : ((f1 ++ ([c] ++ f3)) ++ ([] ++ gr)).Perm (c :: ((f1 ++ f3) ++ gr)) := by
           rw [ao0, List.singleton_append]
           exact (aoh.append_right _)
         exact (an2.mp (hp.nodup_iff.mp nd)).1 hc
       refine ⟨a, gs, hv, ha, rs.length.symm, ?_⟩
       have r1 : bN K CL (upd H a (.dK (putK gs k v))) Z (.lZ (B4 bq k d)) (.ref a) [a] := .lZ bx (rs.put q1)
       have e2 := put (H' := upd H a (.dK (putK gs k v))) (.refl _) (fun c hc => aD (ne c (by
         rcases ank.mp hc with h | h
         . simp [h]
         . simp [h]))) r1
       rw [kU hv] at e2
       exact S.OQ rfl kk (by simp) e2 (q2.mono (.refl _) fun c hc => aD (ne c (by simp [hc]))) nd fun c hc => hc
end
section
variable {X : Cx} {CL : Str -> Addr} {b : Bx} {δ δ1 δ2 : List (Option T)} {e e1 e2 : Expr} {d : L3.D} {D : gw} {pos pp ps : Pos} {i : Nat} {x : Str} {iP : List Stmt} {bq : List (Key × L3.D)} {k : Key}
theorem Sy : bZ X CL b (.Dict [] [] pos) δ (.lZ []) δ := fun H Z σ ts vs Q S kk => cG Xg fun p hp => by
 obtain ⟨c, S1⟩ := S.aeR hp
 exact kk _ _ Z (.refl _) c S1
theorem aeS (k : Key) (hu : X.A.units + 64 < cLine) (n : Vn X i x) (h : bZ X CL b e δ (.sh d) δ1) (h2 : cy X CL b e2 δ1 (UK k) δ1) (h1 : δ1[i]? = some (some (.lZ bq))) (hl : bq.length <= 1000000) (kk : gU X CL b iP (δ1.set i (some (.lZ (B4 bq k d)))) D)
   (hs : swapsWith e (some (.Subscript (.Name x pp) e2 ps)) pos.line X.env = pure false := by rfl) :
   gU X CL b (.Assign [.Subscript (.Name x pp) e2 ps] e pos :: iP) δ D := dF fun H Z σ ts vs E S M =>
 yI (aaE (by omega) (qZ n.hi n.hv n.hd n.uF) cM cM hs) (h H Z σ ts vs _ S fun v H1 Z1 z1 k1 S1 => by
   obtain ⟨v0, e0, _⟩ := S1.look h1
   refine ⟨v0, e0, h2 H1 Z1 σ _ _ _ S1 fun v2 H2 Z2 z2 k2 S2 r2 => ?_⟩
   obtain ⟨a, gs, ea, ha, hg, S3⟩ := S2.XH k h1
   rw [e0] at ea
   cases ea
   exact ⟨a, _, rfl, by rw [r2.key]; exact Xc.k ha (by rw [hg]; exact aov hl (by rw [anF]; decide)), M.nx _ σ _ Z2 (z1.trans z2) S3 kk⟩)
theorem abb (k : Key) (hu : X.A.units + 64 < cLine) (h1 : cy X CL b e1 δ (.lZ bq) δ1) (h2 : cy X CL b e2 δ1 (UK k) δ2) (hk : yQ bq k = some d) (hs : Xe e2 := by exact fun _ _ => rfl) : cy X CL b (.Subscript e1 e2 pos) δ d δ2 := fun H Z σ ts vs Q S kk =>
 cG (aaD (by omega) cM cM hs) (h1 H Z σ ts vs _ S fun v H1 Z1 z1 k1 S1 r1 => h2 H1 Z1 σ ts vs _ S1 fun v2 H2 Z2 z2 k2 S2 r2 => by
   cases r1 with
   | @lZ a gs _ ha rr =>
     have rr' := rr.mono k2
     rcases rr'.val (k := k) with ⟨h0, _⟩ | ⟨d', v', h0, hv, rd⟩
     . rw [hk] at h0; cases h0
     . rw [hk] at h0; cases h0
       refine ⟨a, v', rfl, ?_, kk v' H2 Z2 (z1.trans z2) (k1.trans k2) S2 rd⟩
       rw [r2.key, ← hv]
       exact Cv.k (k2 _ _ ha))
theorem ED {Z : Hp} {gs : List (Key × V)} {K : PySem.W.Frag} (rr : bT K CL Z bq gs) : (pY gs k).isSome = (yQ bq k).isSome := by
 rcases rr.val (k := k) with ⟨h0, h1⟩ | ⟨d', v', h0, h1, _⟩
 . rw [h0, h1]; rfl
 . rw [h0, h1]; rfl
theorem abd (k : Key) (hu : X.A.units + 64 < cLine) (h1 : cy X CL b e1 δ (UK k) δ1) (h2 : cy X CL b e2 δ1 (.lZ bq) δ2) (hm : behindInMarks .NotIn e2 = false) :
   uG X CL b (.Compare e1 [.NotIn] [e2] pos) δ (!(yQ bq k).isSome) δ2 := fun H Z σ ts vs Q S kk =>
 GN (adI (Up (by omega) cM cM) hm) (h1 H Z σ ts vs _ S fun v H1 Z1 z1 k1 S1 r1 => h2 H1 Z1 σ ts vs _ S1 fun v2 H2 Z2 z2 k2 S2 r2 => by
   cases r2 with
   | @lZ a gs _ ha rr =>
     refine ⟨a, pY gs k, rfl, by rw [r1.key]; exact Cv.k ha, _, rfl, ?_⟩
     rw [ED rr]
     exact kk H2 Z2 (z1.trans z2) (k1.trans k2) S2)
end
section
variable {K : PySem.W.Frag} {CL : Str -> Addr} {b : Bx} {H Z : Hp} {δ : List (Option T)} {σ : L2.St} {ts : List T} {vs : List V} {t : T} {v w : V} {f c : Str} {Wy : List (Str × T)}
theorem cY.abe {ft : List Addr} (rt : bN K CL H Z t v ft) : ∀ {Lk : List (Str × T)} {gs : List (Str × V)} {fp : List Addr}, cY K CL H Z (Lk ++ (f, .sh (.val v)) :: Wy) gs fp -> ∃ Sn, cY K CL H Z (Lk ++ (f, t) :: Wy) gs Sn /\ Sn.Perm (fp ++ ft)
 | [], _, _, r => by
   cases r with
   | @cons _ _ v' _ _ f1 gp h r =>
     cases h with
     | sh h =>
       cases h
       exact ⟨ft ++ gp, .cons rt r, anY⟩
 | (y, u) :: Lk, _, _, r => by
   cases r with
   | @cons _ _ v' _ _ f1 gp h r =>
     obtain ⟨Sn, r', p⟩ := cY.abe rt (Lk := Lk) r
     refine ⟨f1 ++ Sn, .cons h r', ?_⟩
     rw [ani]
     exact p.append_left f1
theorem b8.abe {Lk : List (Str × T)} (S : b8 K CL b H Z δ σ (.ins c (Lk ++ (f, .sh (.val v)) :: Wy) :: t :: ts) (w :: v :: vs)) : b8 K CL b H Z δ σ (.ins c (Lk ++ (f, t) :: Wy) :: ts) (w :: vs) := by
 obtain ⟨fp, gp, e, r, nd, k⟩ := S.rep
 cases r with
 | @cons _ _ _ _ g1 g2 r1 r2 =>
   cases r2 with
   | @cons _ _ _ _ g3 g4 r3 r4 =>
     cases r1 with
     | @ins a dx _ gs _ fp1 ha rf =>
       obtain ⟨Sn, rf', p⟩ := cY.abe r3 rf
       have pm : (fp ++ ((a :: Sn) ++ g4)).Perm (fp ++ ((a :: fp1) ++ (g3 ++ g4))) := by
         refine anU fp ?_
         rw [← ani]
         refine List.Perm.append_right g4 ?_
         rw [anK]
         exact List.Perm.cons a p
       exact ⟨⟨fp, (a :: Sn) ++ g4, e, .cons (.ins ha rf') r4, pm.nodup_iff.mpr nd, fun c hc => k c (pm.mem_iff.mp hc)⟩, S.bh, S.zz, S.zh, S.new, S.tp, S.tab⟩
end
noncomputable def PAv (X : Cx) (CL : Str -> Addr) (b : Bx) (es : List Expr) (δ : List (Option T)) (dv : V -> List D) (t : T) (δ' : List (Option T)) : Prop :=
 ∀ (H Z : Hp) (σ : L2.St) (ts : List T) (vs : List V) (Q : List V -> Hp -> Prop), b8 X.K CL b H Z δ σ ts vs →
   (∀ us H' Z' v, aL Z Z' -> aL H H' -> b8 X.K CL b H' Z' δ' σ (t :: ts) (v :: vs) -> aI X.K CL H' (dv v) us -> Q us H') -> Xi X es σ H Q
theorem T.EE {f : Str} {v : V} {Wy : List (Str × T)} (h2 : T.bR Wy = true) : ∀ {Lk : List (Str × T)}, T.bR Lk = true -> T.bR (Lk ++ (f, .sh (.val v)) :: Wy) = true
 | [], _ => by rw [ao0, T.bR, h2]; rfl
 | (x, t) :: Lk, h => by
   rw [T.bR, anH] at h
   rw [anK, T.bR, h.1, T.EE h2 h.2]; rfl
section
variable {X : Cx} {CL : Str -> Addr} {b : Bx} {δ δ1 δ2 : List (Option T)} {e : Expr} {es : List Expr} {pos pp : Pos} {t : T} {ds : List D} {d : D} {dv : V -> List D}
theorem XI (h : bZ X CL b e δ t δ1) (r : BAv X CL b es δ1 ds δ2) (hs : notStar e = true := by rfl) : PAv X CL b (e :: es) δ (fun v => .val v :: ds) t δ2 := fun H Z σ ts vs Q S k =>
 Ur (bI cM paS (bG hs)) (h H Z σ ts vs _ S fun v H1 Z1 z1 k1 S1 => r H1 Z1 σ _ _ _ S1 fun us H2 Z2 z2 k2 S2 r2 => k (v :: us) H2 Z2 v (z1.trans z2) (k1.trans k2) S2 (.cons (.val v) r2))
theorem Lp (h : cy X CL b e δ d δ1) (r : PAv X CL b es δ1 dv t δ2) (hs : notStar e = true := by rfl) : PAv X CL b (e :: es) δ (fun v => d :: dv v) t δ2 := fun H Z σ ts vs Q S k =>
 Ur (bI cM paS (bG hs)) (h H Z σ ts vs _ S fun v H1 Z1 z1 k1 S1 r1 => r H1 Z1 σ ts vs _ S1 fun us H2 Z2 v2 z2 k2 S2 r2 => k (v :: us) H2 Z2 v2 (z1.trans z2) (k1.trans k2) S2 (.cons (r1.mono k2) r2))
variable {A : Type} {k n : Nat} {arg : A -> List D} {Pre : A -> Prop} {x f : Str}
theorem mkP {res : A -> List (Str × T)} (a : V -> A) {Lk Wy : List (Str × T)} (F : Fm X CL x k n arg Pre res) (hg : Gl X x) (h : PAv X CL b (e :: es) δ dv t δ1) (ha : ∀ v, arg (a v) = dv v) (hp : ∀ v, Pre (a v)) (hr : ∀ v, res (a v) = Lk ++ (f, .sh (.val v)) :: Wy) (hc : T.bR Lk = true) (hc2 : T.bR Wy = true) (hn : ∀ v, (arg (a v)).length + 1 = n := by exact fun _ => rfl)
   (KW : (x == ("__debug__" : Str)) = false := by decide) (he : starEach (e :: es) X.env = (false, eval e X.env) :: starEach es X.env := by exact bG rfl) (GH : (backTo pos (starEach es X.env)).any (·.1) = false := by rfl) :
   bZ X CL b (.Call (.Name x pp) (e :: es) [] pos) δ (.ins x (Lk ++ (f, t) :: Wy)) δ1 := fun H Z σ ts vs Q S kk => by
 obtain ⟨f', fd, ps, M, F1, hm, hb⟩ := F.ex
 exact cG (R9 M F1 F.room hg hm hb .nil Xa paS KW he GH) (h H Z σ ts vs _ S fun us H1 Z1 v z1 k1 S1 r y dx hx hdx ne => by
   rw [anL]
   refine ⟨H1, H1, a v, y, dx, us, rfl, hx, hdx, ne, rfl, .refl _, fun _ _ q _ => q, by rw [ha]; exact r, hn v, hp v, S1.aeo, fun H' W' fp hh ww wh nw tp rt nd own => ⟨rfl, ?_⟩⟩
   obtain ⟨Z', z', S'⟩ := S1.back hh S1.zh ww wh nw tp rt nd own (.inr (by rw [T.clean, hr]; exact T.EE hc2 hc))
   rw [hr] at S'
   exact kk _ H' Z' (z1.trans z') (k1.trans hh) S'.abe)
end
namespace Rv
theorem UL : PySem.Slot "reversed" "__init__" "object.__init__" :=
 .of (owner := "object") (n := "__init__") (by rw [typeLookup_type, builtinLookup_eq_fast]; kernel_rfl) (by decide +kernel) (by decide +kernel) (by decide +kernel)
   (by first | exact .inl (by decide +kernel) | exact .inr (by decide +kernel)) (by rw [isSubtype_type]; kernel_rfl)
theorem called : TypeCalled "reversed" "reversed.__new__" "object.__init__" :=
 ⟨by decide +kernel, by decide +kernel, ⟨_, _, PySem.F.mro_reversed⟩, PySem.F.made_reversed, by decide +kernel, PySem.F.sub_reversed_self, UL⟩
noncomputable def obj (t : Addr) (i : Int) : Obj := { cls := .type "reversed", data := .fields #[.ref t, rawInt i] }
end Rv
section
variable {X : Cx} {CL : Str -> Addr} {b : Bx} {δ : List (Option T)}
noncomputable def constInt : Expr -> Option Int
 | .Constant (.int i) _ _ => some i
 | .UnaryOp .USub (.Constant (.int i) _ _) _ => some (-i)
 | _ => none
noncomputable def AV : List Expr -> Option (List Int)
 | [] => some []
 | e :: es => (constInt e).bind fun x => (AV es).map (x :: ·)
theorem UM {e : Expr} {x : Int} (h : constInt e = some x) : bZ X CL b e δ (.sh (.int x)) δ := by
 unfold constInt at h
 split at h
 . cases h; exact ao
 . cases h; exact dP (ah ao)
 . cases h
theorem Lq {e : Expr} {x : Int} (h : constInt e = some x) : notStar e = true := by
 unfold constInt at h
 split at h
 . rfl
 . rfl
 . cases h
theorem Sz : ∀ {es : List Expr} {l : List Int}, AV es = some l -> OJ X CL b es δ ((l.map D.int).map T.sh) δ
 | [], l, h => by
   have e : l = [] := (anA h).symm
   subst e
   exact cL
 | e :: es, l, h => by
   rw [AV] at h
   obtain ⟨x, hx, h⟩ := Option.bind_eq_some_iff.mp h
   obtain ⟨l', hl, rfl⟩ := aoA.mp h
   exact aY (UM hx) (Sz hl) (bG (Lq hx))
end
section
variable {CL : Str -> Addr} {b : Bx} {δ : List (Option T)}
theorem b8.ag1 {K : PySem.W.Frag} {H Z : Hp} {σ : L2.St} {ts : List T} {v : V} {vs : List V} {d : L3.D} (S : b8 K CL b H Z δ σ (.sh d :: ts) (v :: vs)) : bV K CL Z d v := by
 obtain ⟨fp, gp, e0, r0, nd, ow⟩ := S.rep
 cases r0 with
 | cons q1 q2 =>
   cases q1 with
   | sh r => exact r
end
section
variable {ι : Nat -> Nat}
noncomputable def turned (ι : Nat -> Nat) (i j : Nat) : Nat -> Nat := fun k => if i <= k /\ k < j then ι (i + j - 1 - k) else ι k
end
section
variable {X : Cx} {i : Nat} {x : Str}
theorem mkL (hi : X.N[i]? = some x) (h : X.env.scope.names.lookup x = some .local) (hf : X.fn x = true) (hd : (x == ("__debug__" : Str)) = false := by decide) (hc : (x == ("__classdict__" : Str)) = false := by decide) : Ln X i x := ⟨⟨hi, .inl h, hd, hc⟩, .inl h, .inl hf⟩
theorem mkC (hi : X.N[i]? = some x) (h : X.env.scope.names.lookup x = some .cell) (hf : X.fn x = true) (hd : (x == ("__debug__" : Str)) = false := by decide) (hc : (x == ("__classdict__" : Str)) = false := by decide) : Ln X i x := ⟨⟨hi, .inr (.inl h), hd, hc⟩, .inr h, .inl hf⟩
end
theorem ag2 {P : Program} {w : World} {K : PySem.W.Frag} {mg : Str -> Option Value} {base : Heap} {k : Nat} {f : Addr} {fd : FuncData} {ps : List Str} {sp : Sp} {x : Str} (G : lY P w K mg base DJ k f fd ps sp) (m : mg x = some (.ref f)) (q : PySem.W.keepIn K (.ref f) = true) (b : Binds K fd ps []) :
   ∃ f fd ps, lY P w K mg base DJ k f fd ps sp /\ mg x = some (.ref f) /\ PySem.W.keepIn K (.ref f) = true /\ Binds K fd ps [] := ⟨_, _, _, G, m, q, b⟩
section
variable {X : Cx} {CL : Str -> Addr} {b : Bx} {δ δ1 δc : List (Option T)} {scope : Scope} {y : Str} {Nc : List Str} {ix : List Nat} {elt iter : Expr} {ifs : List Expr} {px pc pos : Pos} {p : L3.D -> Bool} {g : L3.D -> T} {ds : List L3.D}
theorem ag3 (sc : rN X scope y Nc ix) : sH X scope [y] Nc ix := ⟨sc.kind, sc.Iv, sc.nd, sc.names, (fun x hx => by rw [anp] at hx; subst hx; exact sc.own), sc.frees, sc.hd, sc.ixs⟩
theorem ag4 (sc : rN X scope y Nc ix) (h : Block X CL scope Nc ifs elt δc ds p g) (h1 : (y == ("__debug__" : Str)) = false) (h2 : (y == ("__classdict__" : Str)) = false) : AQ X CL scope Nc [y].length (.Name y px) part1 ifs elt δc ds p g := fun C s0 H0 f0 b' =>
 ⟨Xy (i := 0) sc.nd (OX (by rw [sc.hd]; rfl) sc.own h1 h2), fun d hd => ⟨[d], rfl, rfl, (h C s0 H0 f0 b' d hd).1, (h C s0 H0 f0 b' d hd).2⟩⟩
theorem ja (sc : rN X scope y Nc ix) (hc : X.calm = true) (h : ZY X CL b (.Name y px) iter δ ds δ1) (hb : (δc = K6 δ1 ix /\ ∀ d ∈ ds, (g d).clean = true) \/ δc = K7 δ1 ix) (inner : Block X CL scope Nc ifs elt δc ds p g) (hlen : ds.length <= sizeLine)
   (hs : ∀ x, foldedSetIterable iter X.env x = pure x := by intro _; rfl) (h1 : (y == ("__debug__" : Str)) = false := by decide) (h2 : (y == ("__classdict__" : Str)) = false := by decide) : bZ X CL b (.ListComp elt [⟨.Name y px, iter, ifs, 0⟩] scope pos) δ (.lst ((ds.filter p).map g)) δ1 :=
 Lg (xs := [y]) (ag3 sc) hc (Xx h) hb (ag4 sc inner h1 h2) hlen hs
theorem II {D : gw} {iP : List Stmt} {i : Nat} {x : Str} {pos' : Pos} {gg : L3.D -> T} (g : Gx X) (n : Ln X i x) (sc : rN X scope y Nc ix) (h : ZY X CL b (.Name y px) iter δ ds δ1) (hb : (δc = K6 δ1 ix /\ ∀ d ∈ ds, (gg d).clean = true) \/ δc = K7 δ1 ix) (inner : Block X CL scope Nc ifs elt δc ds p gg)
   (hlen : ds.length <= sizeLine) (k : gU X CL b iP (δ1.set i (some (.lst ((ds.filter p).map gg)))) D) (hl : i < δ1.length)
   (Iw : swapsWith (.ListComp elt [⟨.Name y px, iter, ifs, 0⟩] scope pc) (some (.Name x pos')) pos.line X.env = pure true \/ swapsWith (.ListComp elt [⟨.Name y px, iter, ifs, 0⟩] scope pc) (some (.Name x pos')) pos.line X.env = pure false) (hs : ∀ x, foldedSetIterable iter X.env x = pure x := by intro _; rfl)
   (h1 : (y == ("__debug__" : Str)) = false := by decide) (h2 : (y == ("__classdict__" : Str)) = false := by decide) : gU X CL b (.Assign [.Name x pos'] (.ListComp elt [⟨.Name y px, iter, ifs, 0⟩] scope pc) pos :: iP) δ D :=
 XE (xs := [y]) g n (ag3 sc) (Xx h) hb (ag4 sc inner h1 h2) hlen k hl Iw hs
end
section
variable {X : Cx} {CL : Str -> Addr} {b : Bx} {δ : List (Option T)} {i : Nat} {x : Str} {d : L3.D} {pos : Pos}
theorem aA (n : Ln X i x) (h : δ[i]? = some (some (.sh d)) := by rfl) : cy X CL b (.Name x pos) δ d δ := ah (v_ n.1 h)
end
structure bJ (X : Cx) : Prop where
 g : Gx X
 u : X.A.units + 64 < cLine
noncomputable abbrev av (X : Cx) (CL : Str -> Addr) (b : Bx) (st : Stmt) (N : List Str) (l : List L3.D) (r : T) : Prop := gU X CL b (jP st) (entry N l) { nx := fun _ => r = .sh .non, rt := fun v__ _ => v__ = r }
noncomputable abbrev aq : NameKind := .globalImplicit
noncomputable abbrev au : NameKind := .local
theorem aO {N P : List Str} {sc : Scope} (h1 : sc.kind = .function := by rfl) (h2 : sc.isCoroutine = false := by rfl) (h3 : sc.isGenerator = false := by rfl) (h4 : N.Nodup := by decide +kernel) (h5 : N.take P.length = P := by rfl) (h6 : ∀ x ∈ P, sc.names.lookup x = some .local \/ sc.names.lookup x = some .cell := by decide +kernel) (h7 : ∀ y ∈ sc.names, y.2 ≠ .free := by decide +kernel) : aJ N P sc := ⟨h1, h2, h3, h4, h5, h6, h7⟩
section
variable {X : Cx} {i : Nat} {x : Str} {tb : List (Str × NameKind)}
theorem bz (c : kP X.env.scope tb = true) (j : Nat) (hj : tb[j]? = some (x, .local) := by rfl) (hi : X.N[i]? = some x := by rfl) (hf : X.fn x = true := by rfl) (hd : (x == ("__debug__" : Str)) = false := by decide) (hc : (x == ("__classdict__" : Str)) = false := by decide) : Ln X i x := mkL hi (pZ c j hj) hf hd hc
theorem frC (c : kP X.env.scope tb = true) (j : Nat) (hj : tb[j]? = some (x, .cell) := by rfl) (hi : X.N[i]? = some x := by rfl) (hf : X.fn x = true := by rfl) (hd : (x == ("__debug__" : Str)) = false := by decide) (hc : (x == ("__classdict__" : Str)) = false := by decide) : Ln X i x := mkC hi (pZ c j hj) hf hd hc
theorem bL (c : kP X.env.scope tb = true) (j : Nat) (hj : tb[j]? = some (x, .globalImplicit) := by rfl) : Gl X x := pZ c j hj
theorem bU {CL : Str -> Addr} {k n m : Nat} {A : Type} {arg : A -> List D} {Pre : A -> Prop} {res : A -> T} (F : ∃ f fd ps, lY X.prog X.w X.K X.mg X.base DJ k f fd ps (Us X.K CL n arg Pre res) /\ X.mg x = some (.ref f) /\ PySem.W.keepIn X.K (.ref f) = true /\ Binds X.K fd ps []) (r : kO m X.A) (h : k <= m := by decide) : Fc X CL x k n arg Pre res := ⟨F, r.mono h⟩
end
section
variable {X : Cx} {CL : Str -> Addr} {b : Bx} {δ δ1 : List (Option T)} {e : Expr} {t : T} {pos : Pos} {D : gw}
noncomputable def TEm (X : Cx) (CL : Str -> Addr) (b : Bx) (e : Expr) (δ : List (Option T)) (t : T) (δ' : List (Option T)) : Prop :=
 ∀ (H Z : Hp) (σ : L2.St) (ts : List T) (vs : List V) (Q : VK), b8 X.K CL b H Z δ σ ts vs -> (∀ v H' Z', aL Z Z' -> b8 X.K CL b H' Z' δ' σ (t :: ts) (v :: vs) -> Q v H') -> OI X e σ H Q
theorem bZ.m (h : bZ X CL b e δ t δ1) : TEm X CL b e δ t δ1 := fun H Z σ ts vs Q S k => h H Z σ ts vs Q S fun v H' Z' z _ S' => k v H' Z' z S'
theorem XJ (h : TEm X CL b e δ t δ1) (k : D.nx δ1) (hs : swapsWith e none pos.line X.env = pure false := by rfl) : ZX X CL b (.Expr e pos) δ D := fun H Z σ ts vs E S M => yI (yw cM hs) (h H Z σ ts vs _ S fun v H1 Z1 z1 S1 => M.nx δ1 σ H1 Z1 z1 S1.pop k)
variable {iP : List Stmt}
theorem SD (h : TEm X CL b e δ t δ1) (k : gU X CL b iP δ1 D) (hs : swapsWith e none pos.line X.env = pure false := by rfl) : gU X CL b (.Expr e pos :: iP) δ D := dF (XJ h k hs)
end
section
variable {X : Cx} {CL : Str -> Addr} {b : Bx} {e o : Expr} {δ δ1 δ2 : List (Option T)} {pos apos : Pos}
theorem abf {l : List Str} {its : List Value} (r : Vals (l.map V.str) its) : ∃ ps : List (Str × Tok), its = strValues ps /\ ps.map (·.1) = l := by
 induction l generalizing its with
 | nil => cases r; exact ⟨[], rfl, rfl⟩
 | cons x l ih =>
   rw [anD] at r
   cases r with
   | cons r rs =>
     obtain ⟨t, rfl⟩ := r
     obtain ⟨ps, e1, e2⟩ := ih rs
     exact ⟨(x, t) :: ps, by rw [e1]; rfl, by rw [anD, e2]⟩
theorem abg : MtR X "str.join" (fun x vs H Q => ∃ (z : Str) (p : Addr) (l : List Str), x = .str z /\ vs = [.ref p] /\ pA X.K H p (l.map V.str) /\ JoinOk z l = true /\ Q (.str (Txt.join z l)) H) := by
 intro pins s σ H x vs v us Q I rx rv h
 obtain ⟨z, p, l, rfl, rfl, hq, d9, q⟩ := h
 obtain ⟨t, rfl⟩ := rx
 obtain ⟨u, rfl, ru⟩ := rv.one
 cases ru
 obtain ⟨its, r, pl, _⟩ := I.list hq
 obtain ⟨ps, rfl, e⟩ := abf r
 exact SC.join pl.isList e d9 fun t' k => ⟨.str _, H, I.tok k, ⟨_, rfl⟩, q⟩
theorem sL {z : Str} {l : List Str} (h1 : cy X CL b o δ (.str z) δ1) (h2 : cy X CL b e δ1 (.lst (l.map L3.D.str)) δ2) (d9 : JoinOk z l = true)
   (gT : attributeBase o "join" X.env (eval o X.env) = eval o X.env := by rfl)
   (nM : ((backTo pos (starEach [e] X.env)).all (fun x => !x.1) && (backToKw pos (keywordEach [] X.env)).all (fun x => x.1.isSome) && decide ([e].length + ([] : List Keyword).length + (if ([] : List Keyword).isEmpty then 0 else 1) < 30)) = true := by rfl)
   (hline : (apos.endLine == pos.line) = true := by rfl) (hs : starEach [e] X.env = (false, eval e X.env) :: starEach [] X.env := by exact bG rfl) :
   bZ X CL b (.Call (.Attribute o "join" apos) [e] [] pos) δ (.sh (.str (Txt.join z l))) δ2 := fun H Z σ ts vs Q S k =>
 cG (yG aoB PySem.F.slot_str_join PySem.F.type_str_join abg cM (bI cM cK hs) gT nM hline hs rfl)
   (h1 H Z σ ts vs _ S fun v1 H1 Z1 z1 k1 S1 r1 => by
     have e1 := r1.sc rfl
     subst e1
     refine ⟨rfl, h2 H1 Z1 σ ts vs _ S1 fun v2 H2 Z2 z2 k2 S2 r2 => ?_⟩
     cases r2 with
     | @lst p us _ hq rr =>
       have e2 := rr.strs
       subst e2
       exact ⟨z, p, l, rfl, rfl, hq, d9, k _ _ _ (z1.trans z2) (k1.trans k2) (S2.push (.str _))⟩)
end
noncomputable def Itz (K : PySem.W.Frag) (a c : Addr) : It :=
 ⟨fun i H => ∃ xs ys x y, pA K H a xs /\ pA K H c ys /\ xs[i]? = some x /\ ys[i]? = some y, fun i H v H' => ∃ T x y, H T = none /\ v = .ref T /\ (∀ xs, pA K H a xs -> xs[i]? = some x) /\ (∀ ys, pA K H c ys -> ys[i]? = some y) /\ H' = upd H T (.tup [x, y]),
   fun i H => ∃ xs ys, pA K H a xs /\ pA K H c ys /\ (xs.length <= i \/ ys.length <= i)⟩
structure ag6 (z TI TO i1 i2 a c : Addr) (i : Nat) (h : Heap) : Prop where
 hz : IsZip h z TI TO .none
 hTI : IsPair h TI (.ref i1) (.ref i2)
 hTO : ∃ x y, IsPair h TO x y
 h1 : h.IsListIter i1 a i
 h2 : h.IsListIter i2 c i
theorem XM {P : Program} {w : World} {K : PySem.W.Frag} {elts : List Expr} {kk : Nat} {pt : Pos} {z TI TO i1 i2 a c : Addr} (D : ZipApart z TI TO i1 i2 a c) : Turn P w K (.Tuple elts kk pt) (Itz K a c) [z, TI, TO, i1, i2] z (ag6 z TI TO i1 i2 a c) where
 mem := anc
 obj := fun i h st b hb => by
   have seq : ∀ {T : Addr} {x y : Value}, IsPair h T x y -> ∃ o, h.get? T = some o /\ ∀ v, o.data ≠ .cell v := fun e => ⟨_, e, fun v z => by
     have z' : Data.seq _ = Data.cell v := z
     cases z'⟩
   have itr : ∀ {T l : Addr} {n : Nat}, h.IsListIter T l n -> ∃ o, h.get? T = some o /\ ∀ v, o.data ≠ .cell v := fun q => by
     obtain ⟨o, e, c, d⟩ := q
     exact ⟨o, e, fun v z => by rw [d] at z; cases z⟩
   rcases ane.mp hb with rfl | hb
   . exact ⟨_, st.hz, fun v z => by
       have z' : Data.fields _ = Data.cell v := z
       cases z'⟩
   rcases ane.mp hb with rfl | hb
   . exact seq st.hTI
   rcases ane.mp hb with rfl | hb
   . obtain ⟨x, y, e⟩ := st.hTO
     exact seq e
   rcases ane.mp hb with rfl | hb
   . exact itr st.h1
   . cases anp.mp hb
     exact itr st.h2
 keep := fun i h h' st k => by
   obtain ⟨x, y, e⟩ := st.hTO
   exact ⟨k z (by simp) _ st.hz, k TI (by simp) _ st.hTI, ⟨x, y, k TO (by simp) _ e⟩, st.h1.at fun o q => k i1 (by simp) o q, st.h2.at fun o q => k i2 (by simp) o q⟩
 item := by
   intro X hP hw hK hc i pins s σ H E I hf st hg
   subst hP hw hK
   obtain ⟨xs, ys, x, y, hq, Uy, hx, hy⟩ := hg
   obtain ⟨its, rv, p, hz⟩ := I.list hq
   obtain ⟨Eg, rv2, p2, hz2⟩ := I.list Uy
   obtain ⟨u, hu, ru⟩ := rv.get hx
   obtain ⟨u2, hu2, ru2⟩ := rv2.get hy
   obtain ⟨sz, sTI, ⟨x0, y0, sTO⟩, s1, s2⟩ := st
   have fz := hf z (by simp)
   have fO := hf TO (by simp)
   have f1 := hf i1 (by simp)
   have f2 := hf i2 (by simp)
   have hT0 : H s.heap.objs.size = none := I.d9.fresh (anq _)
   have fT := I.Ea (anq s.heap.objs.size) hT0
   refine PySem.wpAny_pyNext_zip_item D sz sTI sTO s1 s2 p.isList p2.isList (x := u) (y := u2) (by simpa using hu) (by simpa using hu2) fun h' ho hO ajG ajH hT hsz hk => ⟨_, rfl, ?_⟩
   refine PySem.wpAny_letOwnedTupleGo_zip ho fun h2 he2 wV => ?_
   replace wV : Heap.SameBut z h' h2 := wV
   have lt : ∀ {b : Addr} {o : Obj}, s.heap.get? b = some o -> b < s.heap.objs.size := fun e => anw e
   have zT := lt sz
   have keep : ∀ b o, b ≠ z -> b ≠ TO -> b ≠ i1 -> b ≠ i2 -> s.heap.get? b = some o -> h2.get? b = some o := fun b o h1 h3 h4 h5 q => (wV.2 b h1).trans (hk b o h1 h3 h4 h5 q)
   have hT2 : h2.get? s.heap.objs.size = some { cls := .type "tuple", data := .seq #[u, u2] } := (wV.2 _ (Nat.ne_of_gt zT)).trans hT
   have nH : ∀ b o, H b = some o -> (b ≠ z /\ b ≠ TO /\ b ≠ i1 /\ b ≠ i2) /\ b ≠ s.heap.objs.size := fun b o q => ⟨⟨fun w => (by rw [w, fz.1] at q; cases q), fun w => (by rw [w, fO.1] at q; cases q), fun w => (by rw [w, f1.1] at q; cases q), fun w => (by rw [w, f2.1] at q; cases q)⟩, fun w => (by rw [w, hT0] at q; cases q)⟩
   have kpc : ∀ b o, ¬ b ∈ [z, TO, i1, i2, s.heap.objs.size] -> s.heap.get? b = some o -> h2.get? b = some o := fun b o hc q => keep b o (fun w => hc (by simp [w])) (fun w => hc (by simp [w])) (fun w => hc (by simp [w])) (fun w => hc (by simp [w])) q
   have I' : L2.Inv X pins σ (upd H s.heap.objs.size (.tup [x, y])) { s with heap := h2 } := by
     refine I.step (g' := s.gens) (d' := s.drawn) (t' := s.toks) (ch := [z, TO, i1, i2, s.heap.objs.size]) (fun b hb => ?_) (fun b o _ _ hc q _ => ?_) (fun b o _ _ hc q _ => ⟨o.slots, ?_⟩) (fun b o hc q n => ?_) (fun b o hc q => ⟨o, ?_⟩) (fun b ys q => ?_) (fun b o u q => ?_) (fun b ps q => ⟨#[], ?_⟩) (fun m hm => ?_) (fun b o q => ?_) I.bare
     . rcases ane.mp hb with rfl | hb
       . exact ⟨fz.2.2.2.1, fz.2.1, fz.2.2.2.2.1, fz.2.2.2.2.2⟩
       rcases ane.mp hb with rfl | hb
       . exact ⟨fO.2.2.2.1, fO.2.1, fO.2.2.2.2.1, fO.2.2.2.2.2⟩
       rcases ane.mp hb with rfl | hb
       . exact ⟨f1.2.2.2.1, f1.2.1, f1.2.2.2.2.1, f1.2.2.2.2.2⟩
       rcases ane.mp hb with rfl | hb
       . exact ⟨f2.2.2.2.1, f2.2.1, f2.2.2.2.2.1, f2.2.2.2.2.2⟩
       . cases anp.mp hb
         exact ⟨fT.2.2.2.1, fT.2.1, fT.2.2.2.2.1, fT.2.2.2.2.2⟩
     . exact kpc b o hc q
     . exact kpc b o hc q
     . rw [aD (fun w => hc (by simp [w]))]; exact n
     . exact kpc b o hc q
     . rw [aD (nH b _ q).2]; exact q
     . rw [aD (nH b _ q).2]; exact q
     . rw [aD (nH b _ q).2, q]; simp
     . obtain ⟨o, es, ep, ho, r⟩ := hm
       exact ⟨o, es, ep, keep _ o (aon fz.2.1) (aon fO.2.1) (aon f1.2.1) (aon f2.2.1) ho, r⟩
     . by_cases hb : b = s.heap.objs.size
       . subst hb
         rw [bx] at q
         cases q
         exact ⟨an9 (cJ (anb rfl)), [u, u2], .cons ru (.cons ru2 .nil), ⟨_, hT2, rfl, _, rfl⟩⟩
       . rw [aD hb] at q
         refine (I.d9 b o q).HP (fun c v hc w => ?_) (fun c w => by rw [aD (nH c _ w).2]; exact w) (fun c ys w => by rw [aD (nH c _ w).2]; exact w) fun c ys w => by rw [aD (nH c _ w).2]; exact w
         have nc : c ≠ z /\ c ≠ TO /\ c ≠ i1 /\ c ≠ i2 := by
           rcases hc with e | e
           . rw [e]; exact (nH b _ q).1
           . exact (nH c _ e).1
         exact keep c v nc.1 nc.2.1 nc.2.2.1 nc.2.2.2 w
   refine ⟨.ref s.heap.objs.size, _, I', rfl, ⟨_, x, y, hT0, rfl, fun ys hy => by rw [I.yu hy hq]; exact hx, fun zs hz => by rw [I.yu hz Uy]; exact hy, rfl⟩, ⟨he2, (wV.2 TI D.TIz).trans (hk TI _ D.TIz D.TITO D.TIi1 D.TIi2 sTI), ⟨u, u2, (wV.2 TO D.TOz).trans hO⟩, ajG.at fun o q => (wV.2 i1 D.i1z).trans q, ajH.at fun o q => (wV.2 i2 D.i2z).trans q⟩, fun b hb => ?_⟩
   have Iz : b < s.heap.objs.size := by
     rcases ane.mp hb with rfl | hb
     . exact lt sz
     rcases ane.mp hb with rfl | hb
     . exact lt sTI
     rcases ane.mp hb with rfl | hb
     . exact lt sTO
     rcases ane.mp hb with rfl | hb
     . obtain ⟨o, q, _⟩ := s1
       exact lt q
     . cases anp.mp hb
       obtain ⟨o, q, _⟩ := s2
       exact lt q
   rw [aD (anT Iz)]
   exact (hf b hb).1
 done := by
   intro X hP hw hK hc i pins s σ H E I hf st hg
   subst hP hw hK
   obtain ⟨xs, ys, hq, Uy, hx⟩ := hg
   obtain ⟨its, rv, p, hz⟩ := I.list hq
   obtain ⟨Eg, rv2, p2, hz2⟩ := I.list Uy
   obtain ⟨sz, sTI, ⟨x0, y0, sTO⟩, s1, s2⟩ := st
   have l1 := rv.length
   have l2 := rv2.length
   have fz := hf z (by simp)
   have fO := hf TO (by simp)
   have f1 := hf i1 (by simp)
   have f2 := hf i2 (by simp)
   refine PySem.wpAny_pyNext_zip_end (I.ok.hd hc) D sz sTI sTO s1 s2 p.isList p2.isList ?_ fun h' eb => ⟨rfl, ?_⟩
   . rcases hx with h | h
     . exact .inl (by simp; omega)
     . exact .inr (by simp; omega)
   . have nH : ∀ b o, H b = some o -> b ≠ z /\ b ≠ TO /\ b ≠ i1 /\ b ≠ i2 := fun b o q => ⟨fun w => (by rw [w, fz.1] at q; cases q), fun w => (by rw [w, fO.1] at q; cases q), fun w => (by rw [w, f1.1] at q; cases q), fun w => (by rw [w, f2.1] at q; cases q)⟩
     have kpc : ∀ b o, ¬ b ∈ [z, TO, i1, i2] -> s.heap.get? b = some o -> h'.get? b = some o := fun b o hc q => eb b o (fun w => hc (by simp [w])) (fun w => hc (by simp [w])) (fun w => hc (by simp [w])) (fun w => hc (by simp [w])) q
     refine I.step (g' := s.gens) (d' := s.drawn) (t' := s.toks) (ch := [z, TO, i1, i2]) (fun b hb => ?_) (fun b o _ _ hc q _ => ?_) (fun b o _ _ hc q _ => ⟨o.slots, ?_⟩) (fun b o hc q n => ?_) (fun b o hc q => ⟨o, ?_⟩) (fun b ys q => ?_) (fun b o u q => ?_) (fun b ps q => ⟨#[], ?_⟩) (fun m hm => ?_) (fun b o q => ?_) I.bare
     . rcases ane.mp hb with rfl | hb
       . exact ⟨fz.2.2.2.1, fz.2.1, fz.2.2.2.2.1, fz.2.2.2.2.2⟩
       rcases ane.mp hb with rfl | hb
       . exact ⟨fO.2.2.2.1, fO.2.1, fO.2.2.2.2.1, fO.2.2.2.2.2⟩
       rcases ane.mp hb with rfl | hb
       . exact ⟨f1.2.2.2.1, f1.2.1, f1.2.2.2.2.1, f1.2.2.2.2.2⟩
       . cases anp.mp hb
         exact ⟨f2.2.2.2.1, f2.2.1, f2.2.2.2.2.1, f2.2.2.2.2.2⟩
     . exact kpc b o hc q
     . exact kpc b o hc q
     . exact n
     . exact kpc b o hc q
     . exact q
     . exact q
     . rw [q]; simp
     . obtain ⟨o, es, ep, ho, r⟩ := hm
       exact ⟨o, es, ep, eb _ o (aon fz.2.1) (aon fO.2.1) (aon f1.2.1) (aon f2.2.1) ho, r⟩
     . refine (I.d9 b o q).HP (fun c v hc w => ?_) (fun c w => w) (fun c ys w => w) fun c ys w => w
       have nc : c ≠ z /\ c ≠ TO /\ c ≠ i1 /\ c ≠ i2 := by
         rcases hc with e | e
         . rw [e]; exact nH b _ q
         . exact nH c _ e
       exact eb c v nc.1 nc.2.1 nc.2.2.1 nc.2.2.2 w
 self := fun _ _ _ _ _ st h => PySem.wpAny_pyIter_zip st.hz h
theorem boot_zip : bootBuiltins "zip" = some (.type "zip") := by decide +kernel
section
variable {X : Cx} {elts : List Expr} {kk : Nat} {pt : Pos}
noncomputable def ajI (K : PySem.W.Frag) (ta : TA) : TI := fun σ H R => ta σ H fun vs H1 => ∃ a c xs ys, vs = [.ref a, .ref c] /\ pA K H1 a xs /\ pA K H1 c ys /\ R (Itz K a c) H1
theorem aeU {a c : Expr} {ta : TA} {p pos : Pos} (hg : Gl X "zip") (hm : X.mg "zip" = none) (ha : PA X [a, c] ta) (hs : starEach [a, c] X.env = [(false, eval a X.env), (false, eval c X.env)] := by rfl) (wV : starEach [c] X.env = [(false, eval c X.env)] := by rfl) : PI X (.Tuple elts kk pt) (.Call (.Name "zip" p) [a, c] [] pos) (ajI X.K ta) := by
 intro pins s σ H R I h
 refine Call_ (xm I hg hm boot_zip (aol (ef (ha pos pins s σ H _ I h) fun us s1 zz => ?_) (by rw [hs, wV]) (by rw [wV]; rfl)))
 obtain ⟨vs, H1, I1, r1, q1⟩ := zz
 obtain ⟨l, m, xs, ys, e, hq, Uy, q⟩ := q1
 subst e
 cases r1 with
 | cons r rr =>
   cases rr with
   | cons r' rr =>
     cases rr
     cases r
     cases r'
     obtain ⟨its, rv, p, hz⟩ := I1.list hq
     obtain ⟨Eg, rv2, p2, hz2⟩ := I1.list Uy
     have a1 : l < s1.heap.objs.size := by obtain ⟨_, e, _⟩ := p.isList; exact anw e
     have a2 : m < s1.heap.objs.size := by obtain ⟨_, e, _⟩ := p2.isList; exact anw e
     refine PySem.call_zip_2 p.isList p2.isList fun h' hz hTI hTO hi1 hi2 hsz hk => ?_
     have I2 : L2.Inv X pins σ H1 { s1 with heap := h' } := I1.kept (t' := s1.toks) fun b o e => hk b o e
     refine PySem.wpAny_pyIter_zip hz ?_
     refine ⟨s1.heap.objs.size + 4, [s1.heap.objs.size + 4, s1.heap.objs.size + 2, s1.heap.objs.size + 3, s1.heap.objs.size, s1.heap.objs.size + 1], _, _, H1, rfl, I2, XM (PyProof.Rows.zipApart_new a1 a2), ⟨hz, hTI, ⟨_, _, hTO⟩, hi1, hi2⟩, fun b hb => ?_, q⟩
     have ge : s1.heap.objs.size <= b := by
       rcases ane.mp hb with rfl | hb
       . exact Nat.le_add_right _ _
       rcases ane.mp hb with rfl | hb
       . exact Nat.le_add_right _ _
       rcases ane.mp hb with rfl | hb
       . exact Nat.le_add_right _ _
       rcases ane.mp hb with rfl | hb
       . exact anq _
       . cases anp.mp hb
         exact Nat.le_add_right _ _
     exact I1.Ea ge (I1.d9.fresh ge)
end
noncomputable def IJ (ds es : List D) : List D := (ds.zip es).map fun p => .tup [p.1, p.2]
theorem XO {ds es : List D} {i : Nat} {d e : D} (h : ds[i]? = some d) (h2 : es[i]? = some e) : (IJ ds es)[i]? = some (.tup [d, e]) := by
 unfold IJ
 rw [anJ, List.getElem?_zip_eq_some (z := (d, e)).mpr ⟨h, h2⟩]
 rfl
section
variable {X : Cx} {CL : Str -> Addr} {b : Bx} {δ δ1 δ2 : List (Option T)} {e e1 e2 : Expr} {ds es : List D} {elts : List Expr} {kk : Nat} {pt pr pc pos : Pos}
theorem aeV (hm : X.mg "zip" = none) (h1 : bZ X CL b e1 δ (.sh (.lst ds)) δ1) (h2 : bZ X CL b e2 δ1 (.sh (.lst es)) δ2) (hg : Gl X "zip") (hl : ds.length = es.length)
   (hs : starEach [e1, e2] X.env = [(false, eval e1 X.env), (false, eval e2 X.env)] := by rfl) (wV : starEach [e2] X.env = [(false, eval e2 X.env)] := by rfl) (hs3 : starEach [e1, e2] X.env = (false, eval e1 X.env) :: starEach [e2] X.env := by rfl) (hs4 : starEach [e2] X.env = (false, eval e2 X.env) :: starEach [] X.env := by rfl) :
   GIt X CL b (.Tuple elts kk pt) (.Call (.Name "zip" pr) [e1, e2] [] pc) δ (IJ ds es) δ2 := by
 have hzl : (IJ ds es).length = ds.length := by rw [IJ, anh, List.length_zip, hl, Nat.min_self]
 refine ⟨_, aeU hg hm (bI cM (bI cM cK hs4) hs3) hs wV, fun H Z σ ts vs R S k => h1 H Z σ ts vs _ S fun v H1 Z1 z1 k1 S1 => h2 H1 Z1 σ _ _ _ S1 fun v2 H2 Z2 z2 k2 S2 => ?_⟩
 have r2 := S2.ag1
 have r1 := S2.pop.ag1
 cases r1 with
 | @lst a us _ hq1 rr1 =>
   cases r2 with
   | @lst c OY _ Uy rr2 =>
     have l1 := rr1.length
     have l2 := rr2.length
     refine ⟨a, c, us, OY, rfl, S2.zh.seq hq1, S2.zh.seq Uy, k _ _ ⟨Z2, z1.trans z2, k1.trans k2, S2.pop.pop, fun i H2 s hi => ?_, fun i Z3 H3 x H' s1 s2 tp hi hy => ?_, fun H2 s => ?_⟩⟩
     . rw [hzl] at hi
       exact ⟨us, OY, us[i]'(by omega), OY[i]'(by omega), s.seq hq1, s.seq Uy, anZ (by omega), anZ (by omega)⟩
     . rw [hzl] at hi
       obtain ⟨T, x1, y1, hT, rfl, hx, hy, rfl⟩ := hy
       obtain ⟨d, hd, rd⟩ := rr1.Uq (hx us ((s1.trans s2).seq hq1))
       obtain ⟨d2, hd2, rd2⟩ := rr2.Uq (hy OY ((s1.trans s2).seq Uy))
       have gr : Eu Z3 H3 _ _ := Eu.tup (xs := [x1, y1]) s2 tp hT
       exact ⟨_, _, XO hd hd2, gr, .tup (AH.of bx) (.cons ((rd.mono s1).mono gr.z) (.cons ((rd2.mono s1).mono gr.z) .nil))⟩
     . rw [hzl]
       exact ⟨us, OY, s.seq hq1, s.seq Uy, .inl (by omega)⟩
theorem abh : wW X (binaryOp .Mult) (fun x y H Q => ∃ i n, x = .str i /\ y = .int n /\ MulOk i n /\ Q (.str (Txt.mul i n)) H) := by
 intro pins s σ H x y v u Q I rx ry h
 obtain ⟨i, n, rfl, rfl, hz, q⟩ := h
 obtain ⟨t, rfl⟩ := rx
 obtain ⟨t', rfl⟩ := ry
 exact SB.mul hz fun t' k => ⟨.str (Txt.mul i n), H, I.tok _, ⟨_, rfl⟩, q⟩
theorem abi {x : Str} {n : Int} (h1 : cy X CL b e1 δ (.str x) δ1) (h2 : cy X CL b e2 δ1 (.int n) δ2) (c : MulOk x n) : bZ X CL b (.BinOp e1 .Mult e2 pos) δ (.sh (.str (Txt.mul x n))) δ2 := uN abh h1 h2 rfl rfl rfl fun _ _ q => ⟨x, n, rfl, rfl, c, q⟩
noncomputable def ajJ (te : TE) : TE := fun σ H Q => te σ H fun v H1 => (∃ x, v = .str x /\ x.length <= sizeLine /\ Q (.str x) H1) \/ (∃ i : Int, v = .int i /\ i.natAbs.log2 < 1920 /\ Q (.str (Str.ofString (toString i))) H1)
theorem XQ {te : TE} (he : PE X e te) : PE X (.FormattedValue e (-1) none pos) (ajJ te) := by
 intro pins s σ H Q I h
 refine FormattedValue_plain (ef (he pins s σ H _ I h) fun v s1 zz => ?_)
 obtain ⟨x, H1, I1, r1, q1⟩ := zz
 rcases q1 with ⟨y, rfl, hz, q⟩ | ⟨i, rfl, hz, q⟩
 . obtain ⟨t, rfl⟩ := r1
   exact formatField_str (fun t' tk => ⟨.str y, H1, I1.tok _, ⟨_, rfl⟩, q⟩) hz
 . obtain ⟨t, rfl⟩ := r1
   exact formatField_int_small hz ⟨.str _, H1, I1.tok _, ⟨_, rfl⟩, q⟩
theorem abj {x : Str} (h : cy X CL b e δ (.str x) δ1) (hz : x.length <= sizeLine) : bZ X CL b (.FormattedValue e (-1) none pos) δ (.sh (.str x)) δ1 := fun H Z σ ts vs Q S k =>
 cG (XQ cM) (h H Z σ ts vs _ S fun v H1 Z1 z1 k1 S1 r => .inl ⟨x, r.sc rfl, hz, k _ H1 Z1 z1 k1 (S1.push (.str _))⟩)
theorem abk {i : Int} (h : cy X CL b e δ (.int i) δ1) (hz : i.natAbs.log2 < 1920) : bZ X CL b (.FormattedValue e (-1) none pos) δ (.sh (.str (Str.ofString (toString i)))) δ1 := fun H Z σ ts vs Q S k =>
 cG (XQ cM) (h H Z σ ts vs _ S fun v H1 Z1 z1 k1 S1 r => .inr ⟨i, r.sc rfl, hz, k _ H1 Z1 z1 k1 (S1.push (.str _))⟩)
noncomputable def ag9 (X : Cx) (out : Str) (es : List Expr) : TE := fun σ H Q => ∀ (pins : List (Addr × Obj)) (s : Shared), Inv X pins σ H s -> wpAny (model X.prog X.w) X.A (joinParts out (evalEach es X.env)) (EP X pins σ Q) X.xe s
noncomputable def TJv (X : Cx) (CL : Str -> Addr) (b : Bx) (out : Str) (es : List Expr) (δ : List (Option T)) (res : Str) (δ' : List (Option T)) : Prop :=
 ∀ (H Z : Hp) (σ : L2.St) (ts : List T) (vs : List V) (Q : VK), b8 X.K CL b H Z δ σ ts vs -> (∀ v H' Z', aL Z Z' -> aL H H' -> b8 X.K CL b H' Z' δ' σ (.sh (.str res) :: ts) (v :: vs) -> Q v H') -> ag9 X out es σ H Q
theorem aeW {out : Str} (hz : out.length <= sizeLine) : TJv X CL b out [] δ out δ := fun H Z σ ts vs Q S k pins s I =>
 joinParts_nil ⟨.str out, H, I.tok _, ⟨_, rfl⟩, k _ H Z (.refl _) (.refl _) (S.push (.str _))⟩ hz
theorem DR {out x res : Str} {es : List Expr} (h1 : cy X CL b e δ (.str x) δ1) (h2 : TJv X CL b (out ++ x) es δ1 res δ2) (hz : (out ++ x).length <= sizeLine) (hs : evalEach (e :: es) X.env = eval e X.env :: evalEach es X.env := by rfl) : TJv X CL b out (e :: es) δ res δ2 := fun H Z σ ts vs Q S k pins s I => by
 rw [hs]
 refine joinParts_cons (ef (h1 H Z σ ts vs (fun v H1 => v = .str x /\ ag9 X (out ++ x) es σ H1 Q) S (fun v H1 Z1 z1 k1 S1 r => ⟨r.sc rfl, h2 H1 Z1 σ ts vs Q S1 fun v' H' Z' z k' S' => k v' H' Z' (z1.trans z) (k1.trans k') S'⟩) pins s I) fun u s1 zz => ?_)
 obtain ⟨v, H1, I1, r1, rfl, q⟩ := zz
 obtain ⟨t, rfl⟩ := r1
 exact ⟨hz, q pins s1 I1⟩
theorem UN {v1 v2 : Expr} {es : List Expr} {res : Str} (h : TJv X CL b Str.empty (v1 :: v2 :: es) δ res δ1) (hs : evalEach (v1 :: v2 :: es) X.env = eval v1 X.env :: eval v2 X.env :: evalEach es X.env := by rfl) : bZ X CL b (.JoinedStr (v1 :: v2 :: es) pos) δ (.sh (.str res)) δ1 := fun H Z σ ts vs Q S k pins s I =>
 JoinedStr_many (by
   have := h H Z σ ts vs Q S k pins s I
   rwa [hs] at this)
end
section
variable {X : Cx} {CL : Str -> Addr} {b : Bx} {δ δ1 : List (Option T)} {e e2 : Expr} {t : T} {tl tl0 tt tt0 : List T} {DD : gw} {iP : List Stmt} {x : Str} {i : Nat} {pos pp pa pb ps : Pos}
theorem XR (j : Nat) (n : Vn X i x) (h2 : cy X CL b e2 δ (.int j) δ) (h0 : δ[i]? = some (some (.lst tt0))) (h0j : tt0[j]? = some (.lst tl0)) (h : bZ X CL b e δ t δ1) (h1 : δ1[i]? = some (some (.lst tt))) (h1j : tt[j]? = some (.lst tl)) (hl : tl.length <= 1000000) (k : gU X CL b iP (δ1.set i (some (.lst (tt.set j (.lst (tl ++ [t])))))) DD)
   (hp : sA e2 := by exact fun _ _ => rfl)
   (gT : attributeBase (.Subscript (.Name x pp) e2 ps) "append" X.env (eval (.Subscript (.Name x pp) e2 ps) X.env) = eval (.Subscript (.Name x pp) e2 ps) X.env := by rfl)
   (nM : ((backTo pb (starEach [e] X.env)).all (fun x => !x.1) && (backToKw pb (keywordEach [] X.env)).all (fun x => x.1.isSome) && decide ([e].length + ([] : List Keyword).length + (if ([] : List Keyword).isEmpty then 0 else 1) < 30)) = true := by rfl)
   (hline : (pa.endLine == pb.line) = true := by rfl) (hs : starEach [e] X.env = (false, eval e X.env) :: starEach [] X.env := by exact bG rfl) (Iw : swapsWith (.Call (.Attribute (.Subscript (.Name x pp) e2 ps) "append" pa) [e] [] pb) none pos.line X.env = pure false := by rfl) :
   gU X CL b (.Expr (.Call (.Attribute (.Subscript (.Name x pp) e2 ps) "append" pa) [e] [] pb) pos :: iP) δ DD :=
 dF fun H Z σ ts vs E S M =>
 yI (yw (yG aoM ao4 ao5 vU (Hf Ic (qZ n.hi n.hv n.hd n.uF) cM hp) (bI cM cK hs) gT nM hline hs rfl) Iw) (by
   obtain ⟨v0, hv0, _⟩ := S.look h0
   refine ⟨v0, hv0, h2 H Z σ ts vs _ S fun v2 H2 Z2 z2 k2 S2 r2 => ?_⟩
   obtain ⟨fp, gp, e0, r0, nd0, k0⟩ := S2.rep
   obtain ⟨w0, f1, f2, f3, hw0, wY, rt, _, _⟩ := e0.get h0
   rw [hv0] at hw0
   cases hw0
   cases rt with
   | @lst a0 us0 _ _ hq rs =>
     obtain ⟨vj, gj, hvj, rj, _⟩ := rs.get h0j
     refine ⟨a0, us0, j, vj, rfl, r2.sc rfl, pA.of hq, ay hvj, ?_, ?_⟩
     . cases rj with
       | lst ha _ => exact .inl ⟨rfl, _, pA.of ha⟩
     . refine h H2 Z2 σ ts vs _ S2 fun v H1 Z1 z1 k1 S1 => ?_
       obtain ⟨b0, ws0, a, us, eb, hq1, hw, hwl, ha, hu', S3⟩ := S1.UG h1 h1j
       rw [hv0] at eb
       cases eb
       have ajL : ws0[j]? = us0[j]? := by
         have h2 := k1 _ _ hq
         rw [hq1] at h2
         injection h2 with h2
         injection h2 with h2
         rw [h2]
       rw [ajL, hvj] at hw
       cases hw
       exact ⟨a, us, v, rfl, rfl, ha, by rw [hu']; exact aov hl (by rw [anF]; decide), M.nx _ σ _ Z1 (z2.trans z1) S3 k⟩)
theorem XS {ds : List L3.D} (h : cy X CL b e δ (.lst ds) δ1) (he : ∀ whole, isTrue e X.env whole = (do let v ← whole; standAt e.pos; holding [v] (truthy v)) := by intro _; rfl) : uG X CL b e δ (!ds.isEmpty) δ1 := fun H Z σ ts vs Q S k =>
 GN (WV cM he) (h H Z σ ts vs _ S fun v H1 Z1 z1 k1 S1 r => by
   cases r with
   | @lst a us _ hq rr =>
     refine ⟨_, .inl ⟨us, hq, rfl⟩, ?_⟩
     have e : us.isEmpty = ds.isEmpty := by
       have := rr.length
       cases us <;> cases ds <;> simp at this ⊢
     rw [e]
     exact k H1 Z1 z1 k1 S1)
end
noncomputable def Lr {α : Type} (bq : List (List Key × α)) (k : List Key) : Option α := (bq.find? fun kv => decide (kv.1 = k)).map (·.2)
theorem XT {α : Type} {p : List Key × α} {r : List (List Key × α)} {k : List Key} (e : p.1 = k) : Lr (p :: r) k = some p.2 := by simp [Lr, aom, e]
theorem XU {α : Type} {p : List Key × α} {r : List (List Key × α)} {k : List Key} (e : ¬ p.1 = k) : Lr (p :: r) k = Lr r k := by simp [Lr, aom, e]
theorem UO : bootBuiltins "set" = some (.type "set") := by decide +kernel
section
variable {X : Cx} {CL : Str -> Addr} {b : Bx} {δ δ1 δ2 : List (Option T)} {e1 e2 e3 : Expr} {pos : Pos}
theorem ac8 {op op' : CmpOp} {f g : Int -> Int -> Bool} {i j k : Int} (ho : wW X (compareOp op) (rI0 fun i j => .bl (f i j))) (Oi : wW X (compareOp op') (rI0 fun i j => .bl (g i j))) (h1 : cy X CL b e1 δ (.int i) δ1) (h2 : cy X CL b e2 δ1 (.int j) δ2) (h3 : cy X CL b e3 δ2 (.int k) δ2) (hm : lastMarks [op, op'] [e2, e3] = false) :
   uG X CL b (.Compare e1 [op, op'] [e2, e3] pos) δ (f i j && g j k) δ2 /\ bZ X CL b (.Compare e1 [op, op'] [e2, e3] pos) δ (.sh (.bl (f i j && g j k))) δ2 := by
 constructor
 . intro H Z σ ts vs Q S q
   refine GN (WU ho Oi cM cM cM hm) (h1 H Z σ ts vs _ S fun v1 H1 Z1 z1 k1 S1 r1 => h2 H1 Z1 σ ts vs _ S1 fun v2 H2 Z2 z2 k2 S2 r2 => ?_)
   rw [r1.sc rfl, r2.sc rfl]
   refine ⟨i, j, rfl, rfl, f i j, rfl, ?_⟩
   cases hf : f i j with
   | false => exact ite_ff ⟨false, rfl, by rw [hf] at q; exact q H2 Z2 (z1.trans z2) (k1.trans k2) S2⟩
   | true =>
     refine ite_tt (h3 H2 Z2 σ ts vs _ S2 fun v3 H3 Z3 z3 k3 S3 r3 => ?_)
     rw [r3.sc rfl]
     exact ⟨j, k, rfl, rfl, g j k, rfl, by rw [hf] at q; exact q H3 Z3 ((z1.trans z2).trans z3) ((k1.trans k2).trans k3) S3⟩
 . intro H Z σ ts vs Q S q
   refine cG (WT ho Oi cM cM cM hm) (h1 H Z σ ts vs _ S fun v1 H1 Z1 z1 k1 S1 r1 => h2 H1 Z1 σ ts vs _ S1 fun v2 H2 Z2 z2 k2 S2 r2 => ?_)
   rw [r1.sc rfl, r2.sc rfl]
   refine ⟨i, j, rfl, rfl, f i j, rfl, ?_⟩
   cases hf : f i j with
   | false => exact ite_ff (by rw [hf] at q; exact q _ H2 Z2 (z1.trans z2) (k1.trans k2) (S2.push (.bl _)))
   | true =>
     refine ite_tt (h3 H2 Z2 σ ts vs _ S2 fun v3 H3 Z3 z3 k3 S3 r3 => ?_)
     rw [r3.sc rfl]
     exact ⟨j, k, rfl, rfl, by rw [hf] at q; exact q _ H3 Z3 ((z1.trans z2).trans z3) ((k1.trans k2).trans k3) (S3.push (.bl _))⟩
end
section
variable {prog : Program} {w : World} {A : Around} {E : Value -> Shared -> Prop} {s : Shared}
noncomputable def wZ (ns : List Str) (i : Nat) (q : Str) : Bool := decide (q ∈ ns.take i)
theorem XW {R : Result -> Shared -> Prop} {I a : Addr} {items : Array Value} (hh : A.in1.handled = none) (hne : a ≠ I) {S : Addr} (hS1 : S ≠ I) (hS2 : S ≠ a) {ns : List Str} (hn : items.size = ns.length) (nd : ns.Nodup) (hb : ns.length + 1 < scanBound)
   (hv : ∀ (i : Nat) (v : Value), items[i]? = some v -> ∃ x t, ns[i]? = some x /\ v = Value.str x t) :
   ∀ (k i : Nat) (h : Heap) (tk : Nat), i + k = ns.length -> h.IsListIter I a i -> h.IsList a items -> h.SetOf (strKind prog w) S (wZ ns i) i →
     (∀ h' tk', (∀ b o, b ≠ S -> b ≠ I -> h.get? b = some o -> h'.get? b = some o) -> h'.SetOf (strKind prog w) S (wZ ns ns.length) ns.length -> R (.ok (.ret .none)) { s with heap := h', toks := tk' }) →
     codeAny (model prog w) A (.builtin "set.update.loop" ⟨[.ref S, .ref I], []⟩) R { s with heap := h, toks := tk } := by
 have W := Walks.list (prog := prog) (w := w) (A := A.in1) hh I a hne items
 have ac9 : ∀ {h h' : Heap} {f : Str -> Bool} {n : Nat}, (∀ b o, b ∉ [I] -> h.get? b = some o -> h'.get? b = some o) -> h.SetOf (strKind prog w) S f n -> h'.SetOf (strKind prog w) S f n := fun hk ⟨o, es, ep, t, ho, r⟩ => ⟨o, es, ep, t, hk S o (by simp [hS1]) ho, r⟩
 intro k
 induction k with
 | zero =>
   intro i h tk hi hit hl hs hR
   have ei : i = items.size := by omega
   refine codeAny_builtin F.entry_set_update_loop ?_
   rw [Around.under_plainId apb _]
   refine anP (m := pyNext (.ref I)) (W.done { s with heap := h, toks := tk } _ _ ⟨ei ▸ hit, hl⟩ fun h' tk' hk => ?_)
   refine an0 (hR h' tk' (fun b o _ b2 e => hk b o (by simp [b2]) e) (ac9 hk ?_))
   rw [← hn, ← ei]
   rw [ei] at hs ⊢
   exact hs
 | succ k ih =>
   intro i h tk hi hit hl hs hR
   refine codeAny_builtin F.entry_set_update_loop ?_
   rw [Around.under_plainId apb _]
   refine anP (m := pyNext (.ref I)) (W.item i { s with heap := h, toks := tk } _ _ (by omega) ⟨hit, hl⟩ fun v h1 t1 hv1 st1 hk => ?_)
   obtain ⟨x, t, hx, rfl⟩ := hv i v hv1
   have hs1 := ac9 hk hs
   have hxi : i < ns.length := by omega
   have hxe : ns[i] = x := (anS.mp hx).2
   have ajN : wZ ns i x = false := anx fun hm => by
     obtain ⟨j, hj, ej⟩ := List.mem_take_iff_getElem.mp hm
     exact (List.pairwise_iff_getElem.mp nd j i (by omega) hxi (by omega)) (ej.trans hxe.symm)
   refine anP (m := holding [Value.str x t] (setAdd S (.str x t))) (wpAny_holding ?_)
   unfold setAdd
   refine wpAny_holding (anP ((strKind prog w).pyHash (k := x) (strKind_is _ _ _ _) ?_))
   refine wpAny_setAddHashed_of (knd := strKind prog w) (strKind_is _ _ _ _) rfl hs1 (by omega) fun h2 sb wV => ?_
   rw [ajN] at wV
   have hs3 : h2.SetOf (strKind prog w) S (wZ ns (i + 1)) (i + 1) := by
     have e : (fun k' => wZ ns i k' || decide (k' = x)) = wZ ns (i + 1) := by
       funext q
       unfold wZ
       rw [aoJ, hx, ← Bool.decide_or]
       exact decide_eq_decide.mpr (by simp)
     rw [← e]
     exact wV
   have k12 : ∀ b o, b ≠ S -> h1.get? b = some o -> h2.get? b = some o := fun b o hb e => (sb.2 b hb).trans e
   refine an0 ⟨plainId_quiet apb _, ih (i + 1) h2 _ (by omega) (st1.1.at fun o e => k12 I o (aon hS1) e) (st1.2.at fun o e => k12 a o (aon hS2) e) hs3 fun h' tk' hk2 hs' => ?_⟩
   exact hR h' tk' (fun b o b1 b2 e => hk2 b o b1 b2 (k12 b o b1 (hk b o (by simp [b2]) e))) hs'
theorem Ls {a : Addr} {items : Array Value} {ns : List Str} {Q : Value -> Shared -> Prop} (hh : A.handled = none) (hl : s.heap.IsList a items) (hn : items.size = ns.length) (nd : ns.Nodup) (hb : ns.length + 1 < scanBound)
   (hv : ∀ (i : Nat) (v : Value), items[i]? = some v -> ∃ x t, ns[i]? = some x /\ v = Value.str x t)
   (hQ : ∀ h' tk, h'.SetOf (strKind prog w) s.heap.objs.size (wZ ns ns.length) ns.length -> (∀ b o, s.heap.get? b = some o -> h'.get? b = some o) -> Q (.ref s.heap.objs.size) { s with heap := h', toks := tk }) :
   wpAny (model prog w) A (call (.type "set") [.ref a]) Q E s := by
 obtain ⟨c, tl, q1⟩ := aoK.mro
 have q2 := aoK.made; have q3 := aoK.sub; have q4 := aoK.notType; have q5 := aoK.canCreate; have q6 := F.typeCall_set_1 (.ref a)
 refine wpAny_call (codeAny_of_tree (show wpAny _ _ (callAny (.type "set") _) _ _ _ from an0 ⟨Code.quiet_builtin _ (by decide +kernel), codeAny_builtin F.entry_type_call ?_⟩))
 rw [Around.under_plain (weight_type_call_type "set" [.ref a] []) rfl]
 repeat (any_goals (first | assumption | wp_step))
 refine ao1 (code_set_new_1 (.ref a) (E := E) (Q₁ := fun z s₁ => ∃ led : Bool, z = .ref s.heap.objs.size /\ s₁ = { s with heap := s.heap.push { cls := .type "set", dict := none, data := .set #[] 0 (.fresh 0 0 led) } }) fun led => ⟨led, rfl, rfl⟩) fun r s1 hr => ?_
 cases r with
 | error e => exact hr
 | ok fl =>
   cases fl with
   | ret z =>
     obtain ⟨led, rfl, rfl⟩ := hr
     have hS : (s.heap.push { cls := .type "set", dict := none, data := .set #[] 0 (.fresh 0 0 led) }).get? s.heap.objs.size = some { cls := .type "set", dict := none, data := .set #[] 0 (.fresh 0 0 led) } := anR _ rfl
     have hT : Shared.TypeIs { s with heap := s.heap.push { cls := .type "set", dict := none, data := .set #[] 0 (.fresh 0 0 led) } } (.ref s.heap.objs.size) "set" := ⟨_, hS, rfl⟩
     have q7 := aoK.init.lookup; have q8 := aoK.init.bind (.ref s.heap.objs.size)
     repeat (any_goals (first | assumption | wp_step))
     refine ao1 (codeAny_call_builtin (R := wants (fun r s2 => r = .none /\ ∃ h' tk, s2 = { s with heap := h', toks := tk } /\ h'.SetOf (strKind prog w) s.heap.objs.size (wZ ns ns.length) ns.length /\ ∀ b o, s.heap.get? b = some o -> h'.get? b = some o) E) aoK.init.plain F.entry_set_init (check_set_init_1 hT ?body)) fun r2 s2 hr2 => ?back
     case back =>
       cases r2 with
       | error e => exact hr2
       | ok fl =>
         cases fl with
         | ret z =>
           obtain ⟨rfl, h', tk, rfl, hS', hk'⟩ := hr2
           repeat (any_goals (first | assumption | wp_step))
           exact hQ _ _ hS' hk'
         | _ => exact hr2.elim
     case body =>
       have h0 := hl
       obtain ⟨⟨oc, od, ob, os⟩, hol, hcl, nl, hdl⟩ := hl
       cases hcl
       cases hdl
       have ajR : (s.heap.push { cls := .type "set", dict := none, data := .set #[] 0 (.fresh 0 0 led) }).get? a = some { cls := .type "list", dict := od, data := .seq items nl, slots := os } := ant _ hol
       have hl1 : (s.heap.push { cls := .type "set", dict := none, data := .set #[] 0 (.fresh 0 0 led) }).IsList a items := ⟨_, ajR, rfl, nl, rfl⟩
       have p1 := F.sub_list_set; have p2 := F.sub_list_frozenset
       have p3 : (Value.type "list" == Value.type "dict") = false := by decide
       have ha : a < s.heap.objs.size := anw hol
       have hz : (s.heap.push { cls := .type "set", dict := none, data := .set #[] 0 (.fresh 0 0 led) }).objs.size = s.heap.objs.size + 1 := Heap.size_push ..
       unfold Builtin.«set.__init__» noKeywords Builtin.Frozenset.updateFrom
       generalize hPI : pyIter = PI
       wp_walk
       subst hPI
       refine wpAny_pyIter_list hl1 (anP (wpAny_runValue ?_))
       refine XW (A := A.in1.in1) (S := s.heap.objs.size) (by simp [hh]) (by rw [hz]; exact anT (Nat.lt_succ_of_lt ha)) (by rw [hz]; exact anT (aoS _)) (Nat.ne_of_gt ha) hn nd hb hv ns.length 0 _ _ (Nat.zero_add _) ⟨_, anR _ rfl, rfl, rfl⟩ (hl1.push _) ?_ fun h' tk' hk hS' => ?_
       . have hg : ((s.heap.push { cls := .type "set", dict := none, data := .set #[] 0 (.fresh 0 0 led) }).push { cls := .type "list_iterator", data := .fields #[.ref a, .int 0 0] }).get? s.heap.objs.size = some { cls := .type "set", dict := none, data := .set #[] 0 (.fresh 0 0 led) } := ant _ hS
         exact SetOf_congr ((setObjOf_fresh (knd := strKind prog w) led).setOf hg (by unfold scanBound; omega)) (fun q => by unfold wZ; simp) rfl
       . refine an0 (an0 ⟨rfl, h', tk', rfl, hS', fun b o e => hk b o (anT (anw e)) ?_ (ant _ (ant _ e))⟩)
         rw [hz]
         exact anT (Nat.lt_succ_of_lt (anw e))
   | _ => exact hr.elim
end
section
variable {X : Cx}
noncomputable def XY (prog : Program) (w : World) (a : Addr) (n : Nat) (h : Heap) : Prop := ∃ S, h.SetOf (strKind prog w) a S n
theorem UQ (hc : X.calm = true) : rJ X (.type "set") (fun xs H Q => ∃ (p : Addr) (ns : List Str), xs = [.ref p] /\ pA X.K H p (ns.map V.str) /\ ns.Nodup /\ ns.length <= 1000 /\ ∀ l, H l = none -> Q (.ref l) (upd H l (.ext (XY X.prog X.w l ns.length)))) := by
 intro pins s σ H xs us Q I r h
 obtain ⟨p, ns, rfl, hp, nd, hn, q⟩ := h
 obtain ⟨u, rfl, ru⟩ := vals1 r
 cases ru
 obtain ⟨its, rv, pl, hz⟩ := I.list hp
 have hl : its.length = ns.length := by rw [← rv.length, anh]
 have hv : ∀ {ns : List Str} {us : List Value}, Vals (ns.map V.str) us -> ∀ (i : Nat) (v : Value), us[i]? = some v -> ∃ x t, ns[i]? = some x /\ v = Value.str x t := by
   intro ns
   induction ns with
   | nil => intro us h i v e; cases h; cases i <;> cases e
   | cons y ns ih =>
     intro us h i v e
     cases h with
     | cons r rr =>
       obtain ⟨t, rfl⟩ := r
       cases i with
       | zero => cases e; exact ⟨y, t, rfl, rfl⟩
       | succ i => exact ih rr i v e
 refine Ls (ns := ns) (I.ok.hd hc) pl.isList (by rw [List.size_toArray, hl]) nd (by unfold scanBound; omega) (fun i v e => hv rv i v (by simpa using e)) fun h' tk hS ek => ?_
 have hS2 : XY X.prog X.w s.heap.objs.size ns.length h' := ⟨_, hS⟩
 refine ⟨.ref s.heap.objs.size, _, I.laid (t' := tk) (o := .ext (XY X.prog X.w s.heap.objs.size ns.length)) ek (anq _) ⟨hS2, ?_, ?_⟩, rfl, q _ (I.d9.fresh (anq _))⟩
 . obtain ⟨_, o, _, _, _, e, _⟩ := hS2
   exact ⟨o, e⟩
 . rintro h1 h2 ⟨S, o, es, ep, t, e, rest⟩ k
   exact ⟨S, o, es, ep, t, k o e, rest⟩
theorem IK : rJ X (.builtin "len") (fun xs H Q => ∃ (p : Addr) (n : Nat), xs = [.ref p] /\ H p = some (.ext (XY X.prog X.w p n)) /\ n <= 1000 /\ Q (.int n) H) := by
 intro pins s σ H xs us Q I r h
 obtain ⟨p, n, rfl, hp, hn, q⟩ := h
 obtain ⟨u, rfl, ru⟩ := vals1 r
 cases ru
 obtain ⟨⟨S, o, es, ep, t, e, ex, ed, _, _, _, hf, en⟩, _, _⟩ := I.d9 p _ hp
 exact call_len_set e ex ed hf (by rw [en]; omega) ⟨.int n, H, I.tok _, ⟨s.toks + 1, by rw [en]⟩, q⟩
end
section
variable {X : Cx} {CL : Str -> Addr} {b : Bx} {δ δ1 : List (Option T)} {e : Expr} {pos pp pq pr : Pos}
theorem UR {K : PySem.W.Frag} {Z : Hp} {l : List Str} {us : List V} (h : aI K CL Z (l.map D.str) us) : us = l.map V.str := by
 refine aI.ind (P := fun ds us => ∀ l : List Str, ds = l.map D.str -> us = l.map V.str) ?_ ?_ h l rfl
 . intro l e
   cases l with
   | nil => rfl
   | cons _ _ => cases e
 . intro d ds v vs r _ ih l e
   cases l with
   | nil => cases e
   | cons x l =>
     obtain ⟨e1, e2⟩ := aoH e
     subst e1
     cases r
     rw [ih l e2]
     rfl
theorem OZ {ns : List Str} (g : Gx X) (hm : X.mg "len" = none) (hmr : X.mg "set" = none) (h : cy X CL b e δ (.lst (ns.map D.str)) δ1) (nd : ns.Nodup) (hn : ns.length <= 1000) (hg : Gl X "len") (hgr : Gl X "set") (hs : starEach [e] X.env = (false, eval e X.env) :: starEach [] X.env := by exact bG rfl) :
   bZ X CL b (.Call (.Name "len" pp) [.Call (.Name "set" pq) [e] [] pr] [] pos) δ (.sh (.int ns.length)) δ1 := fun H Z σ ts vs Q S k =>
 cG (rK IK hg hm PySem.boot_len (bI (o8 (UQ g.calm) hgr hmr UO (bI cM cK hs) (he := hs)) cK (bG rfl)) (he := bG rfl)) (h H Z σ ts vs _ S fun v H1 Z1 z1 k1 S1 r => by
   cases r with
   | lst hq rr =>
   have eu := UR rr
   refine ⟨_, ns, rfl, by rw [← eu]; exact hq, nd, hn, fun r hr => ⟨r, ns.length, rfl, bx, hn, ?_⟩⟩
   have same : aL H1 (upd H1 r (.ext (XY X.prog X.w r ns.length))) := aL.upd hr
   obtain ⟨Z', z', S2⟩ := S1.back (t := .sh (.int ns.length)) (v := .int ns.length) (fp := []) (W := Z1) (W' := Z1) same (.refl _) (.refl _) (S1.zh.trans same) (fun a o q z => by rw [q] at z; cases z) (fun a o q im => by
     by_cases ha : a = r
     . subst ha; rw [bx] at q; cases q; cases im
     . rw [aD ha] at q; exact S1.tp a o q im) (.sh (.int _)) ao8 (fun a ha => by cases ha) (.inl rfl)
   exact k _ _ _ (z1.trans z') (k1.trans same) S2)
end
section
variable {X : Cx} {CL : Str -> Addr} {b : Bx} {δ δ1 δ2 : List (Option T)} {e1 e2 : Expr} {pos : Pos} {bq : List (Key × D)}
theorem aeZ (k : Key) (hu : X.A.units + 64 < cLine) (h1 : cy X CL b e1 δ (UK k) δ1) (h2 : cy X CL b e2 δ1 (.lZ bq) δ2) (hm : behindInMarks .In e2 = false) :
   bZ X CL b (.Compare e1 [.In] [e2] pos) δ (.sh (.bl (yQ bq k).isSome)) δ2 := fun H Z σ ts vs Q S kk =>
 cG (adH (aek (by omega) cM cM) hm) (h1 H Z σ ts vs _ S fun v H1 Z1 z1 k1 S1 r1 => h2 H1 Z1 σ ts vs _ S1 fun v2 H2 Z2 z2 k2 S2 r2 => by
   cases r2 with
   | @lZ a gs _ ha rr =>
     refine ⟨a, pY gs k, rfl, by rw [r1.key]; exact Cv.k ha, ?_⟩
     rw [ED rr]
     exact kk _ H2 Z2 (z1.trans z2) (k1.trans k2) (S2.push (.bl _)))
end
section
variable {X : Cx} {CL : Str -> Addr} {b : Bx} {δ : List (Option T)} {t : T} {D : gw} {iP : List Stmt} {i : Nat}
theorem XZ {d : L3.D} (h : δ[i]? = some (some t)) (q : t.gS = d) (k : gU X CL b iP (δ.set i (some (.sh d))) D) : gU X CL b iP δ D := fun H Z σ ts vs E S M => by
 subst q
 obtain ⟨v, Z', _, z, S'⟩ := S.aaJ h
 exact k H Z' σ ts vs E S'.pop (M.mono z)
end
inductive Lv where
 | ix (j : Nat) | fld (f : Str) | key (k : List Key)
noncomputable def UT {α : Type} (k : List Key) (t : α) : List (List Key × α) -> List (List Key × α)
 | [] => []
 | (x, u) :: r => if x = k then (x, t) :: r else (x, u) :: UT k t r
noncomputable def T.core : T -> T
 | .pin _ t => t
 | t => t
noncomputable def T.O1 : T -> T -> T
 | .pin y _, u => .pin y u
 | _, u => u
noncomputable def T.kid : Lv -> T -> Option T
 | .ix j, .lst ts => ts[j]?
 | .ix j, .tup ts => ts[j]?
 | .fld f, .ins _ fs => fs.lookup f
 | .key k, .dct bq => Lr bq k
 | _, _ => none
noncomputable def T.X3 : Lv -> T -> T -> T
 | .ix j, .lst ts, u => .lst (ts.set j u)
 | .ix j, .tup ts, u => .tup (ts.set j u)
 | .fld f, .ins c fs, u => .ins c (yO f u fs)
 | .key k, .dct bq, u => .dct (UT k u bq)
 | _, t, _ => t
noncomputable def T.IL : List Lv -> T -> Option T
 | [], t => some t.core
 | s :: p, t => (t.core.kid s).bind (T.IL p)
noncomputable def T.O2 : List Lv -> T -> T -> T
 | [], u, t => t.O1 u
 | s :: p, u, t => match t.core.kid s with
   | some k => t.O1 (t.core.X3 s (T.O2 p u k))
   | none => t
noncomputable def At1 (H : Hp) (v : V) : Lv -> V -> Prop
 | .ix j, w => ∃ a us, v = .ref a /\ (H a = some (.lst us) \/ H a = some (.tup us)) /\ us[j]? = some w
 | .fld f, w => ∃ a C dx gs, v = .ref a /\ H a = some (.ins C dx gs) /\ gs.lookup f = some w
 | .key k, w => ∃ a gs, v = .ref a /\ H a = some (.dT gs) /\ pY gs k = some w
noncomputable def KD (H : Hp) : V -> List Lv -> V -> Prop
 | v, [], w => v = w
 | v, s :: p, w => ∃ u, At1 H v s u /\ KD H u p w
theorem At1.mono {H H' : Hp} (e : aL H H') {v w : V} {s : Lv} (h : At1 H v s w) : At1 H' v s w := by
 cases s with
 | ix j => obtain ⟨a, us, h1, h2, h3⟩ := h; exact ⟨a, us, h1, h2.imp (e _ _) (e _ _), h3⟩
 | fld f => obtain ⟨a, C, dx, gs, h1, h2, h3⟩ := h; exact ⟨a, C, dx, gs, h1, e _ _ h2, h3⟩
 | key k => obtain ⟨a, gs, h1, h2, h3⟩ := h; exact ⟨a, gs, h1, e _ _ h2, h3⟩
theorem At1.inj {H : Hp} {v w w' : V} {s : Lv} (h : At1 H v s w) (q : At1 H v s w') : w = w' := by
 cases s with
 | ix j =>
   obtain ⟨a, us, h1, h2, h3⟩ := h
   obtain ⟨a', us', q1, q2, q3⟩ := q
   subst h1
   cases q1
   have e : us = us' := by
     rcases h2 with h2 | h2 <;> rcases q2 with q2 | q2 <;> rw [h2] at q2 <;> cases q2 <;> rfl
   subst e
   rw [h3] at q3
   exact anA q3
 | fld f =>
   obtain ⟨a, C, dx, gs, h1, h2, h3⟩ := h
   obtain ⟨a', C', dx', gs', q1, q2, q3⟩ := q
   subst h1
   cases q1
   rw [h2] at q2
   cases q2
   rw [h3] at q3
   exact anA q3
 | key k =>
   obtain ⟨a, gs, h1, h2, h3⟩ := h
   obtain ⟨a', gs', q1, q2, q3⟩ := q
   subst h1
   cases q1
   rw [h2] at q2
   cases q2
   rw [h3] at q3
   exact anA q3
theorem KD.mono {H H' : Hp} (e : aL H H') : ∀ {p : List Lv} {v w : V}, KD H v p w -> KD H' v p w
 | [], _, _, h => h
 | _ :: _, _, _, ⟨u, h, q⟩ => ⟨u, h.mono e, KD.mono e q⟩
theorem KD.inj {H : Hp} : ∀ {p : List Lv} {v w w' : V}, KD H v p w -> KD H v p w' -> w = w'
 | [], _, _, _, h, q => h.symm.trans q
 | _ :: _, _, _, _, ⟨_, h1, h2⟩, ⟨_, q1, q2⟩ => by
   have := h1.inj q1
   subst this
   exact KD.inj h2 q2
theorem KD.snoc {H : Hp} {s : Lv} : ∀ {p : List Lv} {v w z : V}, KD H v p w -> At1 H w s z -> KD H v (p ++ [s]) z
 | [], _, _, z, h, q => by
   have h' : _ = _ := h
   subst h'
   exact ⟨z, q, rfl⟩
 | _ :: _, _, _, _, ⟨u, h1, h2⟩, q => ⟨u, h1, KD.snoc h2 q⟩
section
variable {K : PySem.W.Frag} {CL : Str -> Addr} {b : Bx} {H H' Z Z' : Hp} {δ : List (Option T)} {σ : L2.St} {ts tl : List T} {vs us : List V} {t u t0 : T} {v v0 w : V} {fp : List Addr} {i : Nat} {p : List Lv}
theorem bN.X4 (h : bN K CL H Z t v fp) : bN K CL H Z t.core v fp /\ ∀ {H' Z' : Hp} {u : T} {g : List Addr}, bN K CL H' Z' u v g -> bN K CL H' Z' (t.O1 u) v g := by
 cases h with
 | pin r => exact ⟨r, fun q => .pin q⟩
 | sh r => exact ⟨.sh r, fun q => q⟩
 | tup r q => exact ⟨.tup r q, fun q => q⟩
 | lst r q => exact ⟨.lst r q, fun q => q⟩
 | ins r q => exact ⟨.ins r q, fun q => q⟩
 | lZ r q => exact ⟨.lZ r q, fun q => q⟩
 | dct r q => exact ⟨.dct r q, fun q => q⟩
 | Ej r q p => exact ⟨.Ej r q p, fun q => q⟩
theorem cY.at {f : Str} {t : T} : ∀ (fs : List (Str × T)) {gs : List (Str × V)} {fp : List Addr}, cY K CL H Z fs gs fp -> fs.lookup f = some t -> ∃ w f1 f2 f3, gs.lookup f = some w /\ fp = f1 ++ (f2 ++ f3) /\ bN K CL H Z t w f2 ∧
   ∀ {H' : Hp} {t' : T} {g : List Addr}, (∀ a ∈ f1 ++ f3, H' a = H a) -> bN K CL H' Z t' w g -> cY K CL H' Z (yO f t' fs) gs (f1 ++ (g ++ f3)) := by
 intro fs
 induction fs with
 | nil => intro gs fp h e; cases e
 | cons p fs ih =>
   obtain ⟨x, t0⟩ := p
   intro gs fp h e
   cases h with
   | @cons _ _ v _ vs f0 g0 r rs =>
     rw [anN] at e
     cases hx : f == x with
     | true =>
       rw [hx] at e
       cases e
       have hxe : x = f := (aoR.mp hx).symm
       refine ⟨v, [], f0, g0, by rw [anN, hx], rfl, r, fun {H' t' g} kk r' => ?_⟩
       rw [yO, anu hxe]
       exact cY.cons (fp := g) (gp := g0) r' (rs.mono (.refl _) fun a ha => kk a (by simpa using ha))
     | false =>
       rw [hx] at e
       obtain ⟨w, f1, f2, f3, h1, h2, h3, h4⟩ := ih rs e
       subst h2
       refine ⟨w, f0 ++ f1, f2, f3, by rw [anN, hx]; exact h1, by rw [ani], h3, fun {H' t' g} kk r' => ?_⟩
       rw [yO, anm (fun z => by rw [z, aoT] at hx; cases hx), ani]
       exact .cons (r.mono (.refl _) fun a ha => kk a (by simp [ha])) (h4 (fun a ha => kk a (by rw [ani]; exact anf _ ha)) r')
theorem iQ.kid {k : List Key} {bq : List (List Key × T)} {gs : List (List Key × V)} {fp : List Addr} (h : iQ K CL H Z bq gs fp) (hk : Lr bq k = some t) :
   ∃ v f1 f2 f3, pY gs k = some v /\ fp = f1 ++ (f2 ++ f3) /\ bN K CL H Z t v f2 ∧
     ∀ {H' : Hp} {t' : T} {g : List Addr}, (∀ a ∈ f1 ++ f3, H' a = H a) -> bN K CL H' Z t' v g -> iQ K CL H' Z (UT k t' bq) gs (f1 ++ (g ++ f3)) := by
 refine iQ.ind (P := fun bq gs fp => Lr bq k = some t -> ∃ v f1 f2 f3, pY gs k = some v /\ fp = f1 ++ (f2 ++ f3) /\ bN K CL H Z t v f2 ∧
     ∀ {H' : Hp} {t' : T} {g : List Addr}, (∀ a ∈ f1 ++ f3, H' a = H a) -> bN K CL H' Z t' v g -> iQ K CL H' Z (UT k t' bq) gs (f1 ++ (g ++ f3))) (fun e => by cases e) (fun {x t0 v0 ts vs fp gp} r rr i hk => ?_) h hk
 by_cases e : x = k
 . rw [XT (p := (x, t0)) e] at hk
   cases hk
   refine ⟨v0, [], fp, gp, uJ e, rfl, r, fun {H' t' g} ka q => ?_⟩
   rw [UT, anu e]
   exact (show iQ K CL H' Z ((x, t') :: ts) ((x, v0) :: vs) (g ++ gp) from .cons q (rr.mono (.refl _) fun a ha => ka a ha))
 . rw [XU (p := (x, t0)) e] at hk
   obtain ⟨v, f1, f2, f3, h1, h2, h3, h4⟩ := i hk
   refine ⟨v, fp ++ f1, f2, f3, by rw [rL (p := (x, v0)) e]; exact h1, by rw [h2, ani], h3, fun {H' t' g} ka q => ?_⟩
   rw [UT, anm e, ani]
   exact .cons (r.mono (.refl _) fun a ha => ka a (by simp [ha])) (h4 (fun a ha => ka a (by rw [ani]; exact anf _ ha)) q)
theorem bN.kid {s : Lv} {k : T} (zh : aL Z H) (h : bN K CL H Z t v fp) (hk : t.kid s = some k) : ∃ w f1 f2 f3, At1 H v s w /\ fp = f1 ++ (f2 ++ f3) /\ bN K CL H Z k w f2 ∧
   ∀ {H' : Hp} {k' : T} {g : List Addr}, (∀ c ∈ f1 ++ f3, H' c = H c) -> bN K CL H' Z k' w g -> bN K CL H' Z (t.X3 s k') v (f1 ++ (g ++ f3)) := by
 cases s with
 | ix j =>
   cases h with
   | @lst a us ts g ha rs =>
     obtain ⟨w, f1, f2, f3, h1, h2, h3, h4⟩ := rs.at (j := j) (t := k) hk
     subst h2
     refine ⟨w, a :: f1, f2, f3, ⟨a, us, rfl, .inl ha, h1⟩, rfl, h3, fun {H' k' g} kk r' => ?_⟩
     have q := h4 (fun c hc => kk c (anj _ hc)) r'
     rw [kU h1] at q
     exact .lst ((kk a anc).trans ha) q
   | @tup a us ts g ha rs =>
     obtain ⟨w, f1, f2, f3, h1, h2, h3, h4⟩ := rs.at (j := j) (t := k) hk
     subst h2
     refine ⟨w, f1, f2, f3, ⟨a, us, rfl, .inr (zh _ _ ha), h1⟩, rfl, h3, fun {H' k' g} kk r' => ?_⟩
     have q := h4 kk r'
     rw [kU h1] at q
     exact .tup ha q
   | _ => cases hk
 | fld f =>
   cases h with
   | @ins a dx c gs fs g ha rs =>
     obtain ⟨w, f1, f2, f3, h1, h2, h3, h4⟩ := cY.at fs rs (f := f) (t := k) hk
     subst h2
     refine ⟨w, a :: f1, f2, f3, ⟨a, _, dx, gs, rfl, ha, h1⟩, rfl, h3, fun {H' k' g} kk r' => ?_⟩
     exact .ins ((kk a anc).trans ha) (h4 (fun c hc => kk c (anj _ hc)) r')
   | _ => cases hk
 | key x =>
   cases h with
   | @dct a gs bq g ha rs =>
     obtain ⟨w, f1, f2, f3, h1, h2, h3, h4⟩ := rs.kid (k := x) (t := k) hk
     subst h2
     refine ⟨w, a :: f1, f2, f3, ⟨a, gs, rfl, ha, h1⟩, rfl, h3, fun {H' k' g} kk r' => ?_⟩
     exact .dct ((kk a anc).trans ha) (h4 (fun c hc => kk c (anj _ hc)) r')
   | _ => cases hk
theorem bN.focus (zh : aL Z H) : ∀ (p : List Lv) {t u : T} {v : V} {fp : List Addr}, bN K CL H Z t v fp -> T.IL p t = some u -> ∃ w f1 f2 f3, KD H v p w /\ fp = f1 ++ (f2 ++ f3) /\ bN K CL H Z u w f2 ∧
   ∀ {H' : Hp} {u' : T} {g : List Addr}, (∀ c ∈ f1 ++ f3, H' c = H c) -> bN K CL H' Z u' w g -> bN K CL H' Z (T.O2 p u' t) v (f1 ++ (g ++ f3))
 | [], t, u, v, fp, h, e => by
   obtain ⟨h1, h2⟩ := h.X4
   cases e
   exact ⟨v, [], fp, [], rfl, by simp, h1, fun {H' u' g} _ r => by rw [ao0, anL]; exact h2 r⟩
 | s :: p, t, u, v, fp, h, e => by
   obtain ⟨h1, h2⟩ := h.X4
   rw [T.IL] at e
   cases hk : t.core.kid s with
   | none => rw [hk] at e; cases e
   | some k =>
     rw [hk] at e
     obtain ⟨w1, a1, a2, a3, q1, q2, q3, q4⟩ := h1.kid zh hk
     obtain ⟨w, f1, f2, f3, r1, r2, r3, r4⟩ := bN.focus zh p q3 e
     subst q2 r2
     refine ⟨w, a1 ++ f1, f2, f3 ++ a3, ⟨w1, q1, r1⟩, by simp only [ani], r3, fun {H' u' g} kk r' => ?_⟩
     rw [T.O2, hk]
     have q := h2 (q4 (k' := T.O2 p u' k) (fun c hc => kk c (by
       rcases ank.mp hc with h | h
       . simp [h]
       . simp [h])) (r4 (fun c hc => kk c (by
       rcases ank.mp hc with h | h
       . simp [h]
       . simp [h])) r'))
     simpa only [List.append_assoc] using q
theorem b8.ae0 (S : b8 K CL b H Z δ σ ts vs) (ev : σ[i]? = some (some v0)) (hi : δ[i]? = some (some t0)) (hp : T.IL p t0 = some u) (at0 : KD H v0 p w) : ∃ f2 gp, bN K CL H Z u w f2 /\ bA K CL H Z ts vs gp /\ (f2 ++ gp).Nodup ∧
   ∀ {a : Addr} {o : HO} {u' : T} {tl' : List T} {us' : List V} {g Si : List Addr}, w = .ref a -> a ∈ f2 -> sC o = false -> bN K CL (upd H a o) Z u' w g -> bA K CL (upd H a o) Z tl' us' Si -> (g ++ Si).Nodup -> (∀ c ∈ g ++ Si, c ∈ f2 ++ gp) →
     b8 K CL b (upd H a o) Z (δ.set i (some (T.O2 p u' t0))) σ tl' us' := by
 obtain ⟨fp, gp, e, r, nd, k⟩ := S.rep
 obtain ⟨v1, e1, e2, e3, hv, wY, rt, put, _⟩ := e.get hi
 rw [ev] at hv
 cases hv
 obtain ⟨w', f1, f2, f3, at', hf, ru, put2⟩ := rt.focus S.zh p hp
 have hw := at'.inj at0
 subst hw
 subst hf
 subst wY
 have hpm : ((e1 ++ ((f1 ++ (f2 ++ f3)) ++ e3)) ++ gp).Perm ((e1 ++ (f1 ++ (f3 ++ e3))) ++ (f2 ++ gp)) := List.perm_iff_count.mpr fun c => by
   simp only [List.count_append]; omega
 have nd0 := hpm.nodup_iff.mp nd
 have nd' := an5.mp nd0
 refine ⟨f2, gp, ru, r, nd'.2.1, fun {a o u' tl' us' g Si} hwa ha hm hu ht hnd Xl => ?_⟩
 have hup : ∀ c ∈ e1 ++ (f1 ++ (f3 ++ e3)), upd H a o c = H c := fun c hc => aD fun z => nd'.2.2 c hc a (anl _ ha) z
 have q1 := put2 (H' := upd H a o) (fun c hc => hup c (by
   rcases ank.mp hc with h | h
   . simp [h]
   . simp [h])) hu
 have q2 := put (H' := upd H a o) (.refl _) (fun c hc => hup c (by
   rcases ank.mp hc with h | h
   . simp [h]
   . simp [h])) q1
 rw [kU ev] at q2
 have ahb : ((e1 ++ ((f1 ++ (g ++ f3)) ++ e3)) ++ Si).Perm ((e1 ++ (f1 ++ (f3 ++ e3))) ++ (g ++ Si)) := List.perm_iff_count.mpr fun c => by
   simp only [List.count_append]; omega
 refine S.OQ hm k (by simp [ha]) q2 ht (ahb.nodup_iff.mpr (an5.mpr ⟨nd'.1, hnd, fun c hc d hd => nd'.2.2 c hc d (Xl d hd)⟩)) fun c hc => ?_
 refine hpm.mem_iff.mpr ?_
 rcases ank.mp (ahb.mem_iff.mp hc) with h | h
 . exact anl _ h
 . exact anf _ (Xl c h)
theorem b8.ahc (S : b8 K CL b H Z δ σ ts vs) (ev : σ[i]? = some (some v0)) (hi : δ[i]? = some (some t0)) (hp : T.IL p t0 = some u) : ∃ w f2, KD H v0 p w /\ bN K CL H Z u w f2 := by
 obtain ⟨fp, gp, e, r, nd, k⟩ := S.rep
 obtain ⟨v1, e1, e2, e3, hv, wY, rt, put, _⟩ := e.get hi
 rw [ev] at hv
 cases hv
 obtain ⟨w', f1, f2, f3, at', hf, ru, put2⟩ := rt.focus S.zh p hp
 exact ⟨w', f2, at', ru⟩
theorem b8.abm (S : b8 K CL b H Z δ σ (t :: ts) (v :: vs)) (ev : σ[i]? = some (some v0)) (hi : δ[i]? = some (some t0)) (hp : T.IL p t0 = some (.lst tl)) (at0 : KD H v0 p w) :
   ∃ a us, w = .ref a /\ H a = some (.lst us) /\ us.length = tl.length /\ b8 K CL b (upd H a (.lst (us ++ [v]))) Z (δ.set i (some (T.O2 p (.lst (tl ++ [t])) t0))) σ ts vs := by
 obtain ⟨f2, gp, ru, rr, nd, go⟩ := S.ae0 ev hi hp at0
 cases ru with
 | @lst a us _ g ha rs =>
   cases rr with
   | @cons _ _ _ _ ft gr q1 q2 =>
     have ne : ∀ c ∈ g ++ (ft ++ gr), c ≠ a := fun c hc z => by subst z; exact (an2.mp nd).1 hc
     have pm : ((a :: (g ++ (ft ++ []))) ++ gr).Perm ((a :: g) ++ (ft ++ gr)) := List.perm_iff_count.mpr fun c => by simp only [List.count_append, List.count_cons, List.count_nil]; omega
     exact ⟨a, us, rfl, ha, rs.length.symm, go rfl anc rfl (.lst bx (bA.app (rs.mono (.refl _) fun c hc => aD (ne c (by simp [hc]))) (.cons (q1.mono (.refl _) fun c hc => aD (ne c (by simp [hc]))) .nil)))
       (q2.mono (.refl _) fun c hc => aD (ne c (by simp [hc]))) (pm.nodup_iff.mpr nd) fun c hc => pm.mem_iff.mp hc⟩
end
section
variable {X : Cx} {CL : Str -> Addr} {b : Bx} {δ δ1 : List (Option T)} {e e0 e2 : Expr} {t t0 t1 : T} {tl tl0 : List T} {D : gw} {pos pa pb : Pos} {i : Nat} {x : Str} {iP : List Stmt} {p : List Lv}
noncomputable def TPv (X : Cx) (CL : Str -> Addr) (b : Bx) (e : Expr) (δ : List (Option T)) (i : Nat) (p : List Lv) : Prop :=
 ∀ (H Z : Hp) (σ : L2.St) (ts : List T) (vs : List V) (Q : VK), b8 X.K CL b H Z δ σ ts vs -> (∀ v0 v H' Z', aL Z Z' -> aL H H' -> b8 X.K CL b H' Z' δ σ ts vs -> σ[i]? = some (some v0) -> KD H' v0 p v -> Q v H') -> OI X e σ H Q
theorem IQ (n : Vn X i x) (h : δ[i]? = some (some t)) : TPv X CL b (.Name x pos) δ i [] := fun H Z σ ts vs Q S k => by
 obtain ⟨v, hv, _⟩ := S.look h
 exact cG (qZ n.hi n.hv n.hd n.uF) ⟨v, hv, k v v H Z (.refl _) (.refl _) S hv rfl⟩
theorem X5 {z : Int} {j : Nat} (h : TPv X CL b e δ i p) (hi : δ[i]? = some (some t)) (hg : T.IL p t = some (.lst tl)) (h2 : cy X CL b e2 δ (.int z) δ) (hk : ixN tl.length z = some j) (hp : sA e2 := by exact fun _ _ => rfl) :
   TPv X CL b (.Subscript e e2 pos) δ i (p ++ [.ix j]) := fun H Z σ ts vs Q S k =>
 cG (Hf Ic cM cM hp) (h H Z σ ts vs _ S fun v0 v H' Z' z1 s1 S' ev at0 => h2 H' Z' σ ts vs _ S' fun v2 H2 Z2 z2 s2 S2 r2 => by
   have at2 := at0.mono s2
   obtain ⟨w, f2, at', r⟩ := S2.ahc ev hi hg
   have := at'.inj at2
   subst this
   cases r with
   | @lst a us _ g ha rs =>
     have hj : j < tl.length := (Sd hk).2.1
     obtain ⟨w, _, _, _, hw, _, _, _⟩ := rs.at (anZ hj)
     refine ⟨a, us, z, w, rfl, r2.sc rfl, pA.of ha, ?_, k v0 w H2 Z2 (z1.trans z2) (s1.trans s2) S2 ev (at2.snoc ⟨a, us, rfl, .inl ha, hw⟩)⟩
     unfold Ed
     rw [← rs.length, hk]
     exact hw)
theorem O4 (hE : TPv X CL b e0 δ i p) (h0 : δ[i]? = some (some t0)) (hp0 : T.IL p t0 = some (.lst tl0)) (h : bZ X CL b e δ t δ1) (h1 : δ1[i]? = some (some t1)) (hp1 : T.IL p t1 = some (.lst tl)) (hl : tl.length <= 1000000) (k : gU X CL b iP (δ1.set i (some (T.O2 p (.lst (tl ++ [t])) t1))) D)
   (gT : attributeBase e0 "append" X.env (eval e0 X.env) = eval e0 X.env := by rfl)
   (nM : ((backTo pb (starEach [e] X.env)).all (fun x => !x.1) && (backToKw pb (keywordEach [] X.env)).all (fun x => x.1.isSome) && decide ([e].length + ([] : List Keyword).length + (if ([] : List Keyword).isEmpty then 0 else 1) < 30)) = true := by rfl)
   (hline : (pa.endLine == pb.line) = true := by rfl) (hs : starEach [e] X.env = (false, eval e X.env) :: starEach [] X.env := by exact bG rfl) (Iw : swapsWith (.Call (.Attribute e0 "append" pa) [e] [] pb) none pos.line X.env = pure false := by rfl) :
   gU X CL b (.Expr (.Call (.Attribute e0 "append" pa) [e] [] pb) pos :: iP) δ D := dF fun H Z σ ts vs E S M =>
 yI (yw (yG aoM ao4 ao5 vU cM (bI cM cK hs) gT nM hline hs rfl) Iw) (hE H Z σ ts vs _ S fun v0 v H0 Z0 z0 s0 S0 ev at0 => by
   obtain ⟨w, f2, at', r⟩ := S0.ahc ev h0 hp0
   have := at'.inj at0
   subst this
   refine ⟨?_, h H0 Z0 σ ts vs _ S0 fun v2 H1 Z1 z1 k1 S1 => ?_⟩
   . cases r with
     | lst ha _ => exact .inl ⟨rfl, _, pA.of ha⟩
   . obtain ⟨a, us, ea, ha, hu, S2⟩ := S1.abm ev h1 hp1 (at0.mono k1)
     exact ⟨a, us, v2, ea, rfl, ha, by rw [hu]; exact aov hl (by rw [anF]; decide), M.nx _ σ _ Z1 (z0.trans z1) S2 k⟩)
end
section
variable {X : Cx} {CL : Str -> Addr} {b : Bx} {δ : List (Option T)} {e : Expr} {pos pos' : Pos} {i : Nat} {x : Str} {D : gw} {iP : List Stmt}
variable {A : Type} {k : Nat}
theorem ae1 {z w : Int} (g : Gx X) (nm : Ln X i x) (hx : δ[i]? = some (some (.sh (.int z)))) (h : cy X CL b e δ (.int w) δ) (k : gU X CL b iP (δ.set i (some (.sh (.int (z + w))))) D) :
   gU X CL b (.AugAssign (.Name x pos') .Add e pos :: iP) δ D := dF fun H Z σ ts vs E S M =>
 yI (adW g.nd nm.hi nm.loc cM adX nm.hf) (by
   obtain ⟨v, hv, r⟩ := S.Xk hx
   cases r
   refine ⟨_, hv, h H Z σ ts vs _ S fun v2 H1 Z1 z1 k1 S1 r2 => ?_⟩
   cases r2
   have hl : i < δ.length := by
     rcases Nat.lt_or_ge i δ.length with h | h
     . exact h
     . rw [aoG h] at hx; cases hx
   exact ⟨z, w, rfl, rfl, M.nx _ _ H1 Z1 z1 ((S1.push (.int (z + w))).set hl) k⟩)
end
noncomputable def ae2 {α : Type} : Nat -> (List α -> Prop) -> Prop
 | 0, P => P []
 | n + 1, P => ∀ a, ae2 n fun r => P (a :: r)
theorem EF {α : Type} {n : Nat} {P : List α -> Prop} (h : ae2 n P) : ∀ us : List α, us.length = n -> P us := by
 intro us hl
 induction us generalizing n P with
 | nil => subst hl; exact h
 | cons a r ih => subst hl; exact ih (P := fun r => P (a :: r)) (h a) rfl
noncomputable abbrev kY (K : PySem.W.Frag) (x : Str) (f : Addr) : Prop := PySem.W.nsIn K mainGlobals x = some (some (.ref f))
theorem ae3 (P : Program) (w : World) (mg : Str -> Option Value) (base : Heap) {K : PySem.W.Frag} {h : Heap} (CL : Str -> Addr) (XX : K.In h) (G : h.Ns mainGlobals mg) {x qual : Str} {st : Stmt} {f : Addr} {fd : FuncData} {N ps : List Str} (k : Nat) {A : Type} (arg : A -> List D) (Pre : A -> Prop) (res : A -> T) (F : jQ K x qual st f fd) (S : aJ N ps (aj st)) (m : kY K x f)
   (hb : ∀ (pX : Value) (Ar : Around) (outer : List Env) (s : Shared) (H : Hp) (E : XK) (b : Bx) (a : A), kO k (Ar.deeper (envOfC qual (aj st) s.heap.objs.size f pX)) -> bJ (GJ DJ P w K mg base N qual (aj st) f pX Ar outer s H E).nox -> Pre a →
     gU (GJ DJ P w K mg base N qual (aj st) f pX Ar outer s H E).nox CL b (jP st) (entry N (arg a)) { nx := fun _ => res a = .sh .non, rt := fun t _ => t = res a })
   (q : ∀ (kV doc pm : Value) (an : Option Addr) (pX ct : Value), ae2 ps.length fun us => bindArgs (W.fnOf x qual (yH st) (jP st) (aj st) Value.none kV doc pm an pX ct) { pos := us } = pure (ps.zip us) := by (repeat intro _); rfl) :
   ∃ f fd ps', lY P w K mg base DJ (k + 1) f fd ps' (Us K CL ps.length arg Pre res) /\ mg x = some (.ref f) /\ PySem.W.keepIn K (.ref f) = true /\ Binds K fd ps' [] := ⟨f, fd, ps, Ir F S fun a b c d e f g h r p => hb a b c d e f g h r ⟨⟨S.nd, rfl, .never⟩, r.units⟩ p, anI XX G m, F.kp, F.binds fun a b c d e f => EF (q a b c d e f)⟩
noncomputable instance amn : DecidableEq D := fun a b => Classical.propDecidable (a = b)
end L3
namespace L2
open PySem PySem.Spec PyProof.Rows PySem.Builtin PySem.Builtin.Str
section
variable {X : Cx} {o e i : Expr} {es : List Expr} {to ty : TE} {ta : TA} {apos xo pos : Pos}
noncomputable def ade : V -> List V -> Hp -> VK -> Prop := fun x xs H Q => ∃ a gs k v, x = .ref a /\ xs = [kV k, v] /\ H a = some (.dK gs) /\ pY gs k = none /\ gs.length < sizeLine /\ Q v (upd H a (.dK (putK gs k v)))
theorem abn : MtM X "dict.setdefault" ade := by
 intro pins s σ H x vs v us Q I rx rv h
 obtain ⟨a, gs, k, v', rfl, rfl, hH, hn, hl, q⟩ := h
 cases rx
 cases rv with
 | cons r1 rv =>
   cases rv with
   | cons r2 rv =>
     cases rv
     obtain ⟨z, hd, ws, rel, dd⟩ := Xb I.d9 hH
     have hz : ws.length <= sizeLine := by rw [← rel.length]; exact z
     refine call_meetsIn PySem.F.slot_dict_setdefault dd.typeIs PySem.F.entry_dict_setdefault (PySem.F.args_dict_setdefault_3 _ _ _) (kt_meets_setdefault (gC X.prog X.w) a (Hh r1) hd _) ⟨ws, dd, hz, fun p hp => ?_, fun Wz h' dd' hs' => ?_⟩
     . have := rel.val k
       rw [hn, hp] at this
       cases this
     . have hl2 : (putK gs k v').length <= sizeLine := by have := uK gs k v'; omega
       exact ⟨v', _, Ii I (by rw [hH]; exact True.intro) hs' (let ⟨q, _, _, hq, _⟩ := dd'; ⟨q, hq⟩) (Xd hl2 hd (rel.put k r2) dd'), r2, q⟩
theorem abo (ho : PE X o to) (ha : PA X (e :: es) ta)
   (gT : attributeBase o "setdefault" X.env (eval o X.env) = eval o X.env := by rfl)
   (nM : ((backTo xo (starEach (e :: es) X.env)).all (fun x => !x.1) && (backToKw xo (keywordEach [] X.env)).all (fun x => x.1.isSome) && decide ((e :: es).length + ([] : List Keyword).length + (if ([] : List Keyword).isEmpty then 0 else 1) < 30)) = true := by rfl)
   (hline : (apos.endLine == xo.line) = true := by rfl) (hs : starEach (e :: es) X.env = (false, eval e X.env) :: starEach es X.env := by rfl) (Ef : (backTo xo (starEach es X.env)).any (·.1) = false := by rfl) :
   PE X (.Call (.Attribute o "setdefault" apos) (e :: es) [] xo) (fun σ H Q => to σ H fun x H1 => ∃ a gs, x = .ref a /\ H1 a = some (.dK gs) /\ ta σ H1 fun xs H2 => ade x xs H2 Q) := by
 intro pins s σ H Q I h
 refine wpAny_Call_method_late gT nM hline rfl (ef (ho pins s σ H _ I h) fun v s1 zz => ?_)
 obtain ⟨x, H1, I1, r1, a, gs, rfl, hH, q1⟩ := zz
 have r1' := r1
 cases r1
 obtain ⟨z, hd, ws, rel, dd⟩ := Xb I1.d9 hH
 have dd' := dd
 obtain ⟨ob, es', ep, h1, h2, h3, h4, h5⟩ := dd'
 refine ⟨"dict", "dict.setdefault", PySem.F.plainAttrs_dict, PySem.F.slot_dict_setdefault, PySem.F.type_dict_setdefault, dd.typeIs, fun a' e' => ⟨ob, by cases e'; exact h1, h2.2.1⟩, ?_⟩
 have hA := ha xo pins s1 σ H1 _ I1 q1
 rw [hs] at hA ⊢
 refine Calls.callWith_builtin (by show (false || (backTo xo (starEach es X.env)).any (·.1)) = false; rw [Ef] <;> rfl) (Calls.evalArgs_plain ?_)
 exact ef hA fun us s2 ⟨vs, H2, I2, r2, q2⟩ => abn pins s2 σ H2 _ vs _ us Q I2 r1' r2 q2
theorem UU : MtR X "str.startswith" (fun x xs H Q => ∃ z y : Str, x = .str z /\ xs = [.str y] /\ Q (.bl (Txt.startswith z y)) H) := by
 intro pins s σ H x vs v us Q I rx rv h
 obtain ⟨z, y, rfl, rfl, q⟩ := h
 obtain ⟨t, rfl⟩ := rx
 obtain ⟨u, rfl, t', rfl⟩ := vals1 rv
 exact SC.startswith ⟨.bl _, H, I, rfl, q⟩
theorem UW : MtR X "str.lstrip" (fun x xs H Q => ∃ z y : Str, x = .str z /\ xs = [.str y] /\ z.length <= sizeLine /\ Q (.str (Txt.lstripChars z y)) H) := by
 intro pins s σ H x vs v us Q I rx rv h
 obtain ⟨z, y, rfl, rfl, hz, q⟩ := h
 obtain ⟨t, rfl⟩ := rx
 obtain ⟨u, rfl, t', rfl⟩ := vals1 rv
 exact SC.lstripChars (fun t' k => ⟨.str _, H, I.tok k, ⟨_, rfl⟩, q⟩) hz
noncomputable def part3 (x y : Str) : List Str := match occurrences x y 0 x.length 1 with
 | i :: _ => [strSub x 0 i, y, strSub x (i + y.length) x.length]
 | [] => [x, Str.empty, Str.empty]
theorem abp : MtR X "str.partition" (fun x xs H Q => ∃ z y : Str, x = .str z /\ xs = [.str y] /\ (y.length == 0) = false /\ z.length <= sizeLine /\ ∀ p, H p = none -> Q (.ref p) (upd H p (.tup ((part3 z y).map V.str)))) := by
 intro pins s σ H x vs v us Q I rx rv h
 obtain ⟨z, y, rfl, rfl, hy, hz, q⟩ := h
 obtain ⟨t, rfl⟩ := rx
 obtain ⟨u, rfl, t', rfl⟩ := vals1 rv
 refine call_meets F.slot_str_partition (typeIs_str _ _ _) F.entry_str_partition (F.args_str_partition_2 _ _) (meets_str_partition z y t t' hy hz) ?_
 have hf : H s.heap.objs.size = none := I.d9.fresh (anq _)
 unfold part3 at q
 revert q
 cases occurrences z y 0 z.length 1 with
 | nil => intro q; exact ⟨.ref _, _, I.laid (o := .tup ([z, Str.empty, Str.empty].map V.str)) (fun b u e => ant _ e) (anq _) ⟨anW (show 3 <= 10 by decide) (by rw [anF]; decide), _, .cons ⟨_, rfl⟩ (.cons ⟨_, rfl⟩ (.cons ⟨_, rfl⟩ .nil)), ⟨_, anR _ rfl, rfl, _, rfl⟩⟩, rfl, q _ hf⟩
 | cons i r => intro q; exact ⟨.ref _, _, I.laid (o := .tup ([strSub z 0 i, y, strSub z (i + y.length) z.length].map V.str)) (fun b u e => ant _ e) (anq _) ⟨anW (show 3 <= 10 by decide) (by rw [anF]; decide), _, .cons ⟨_, rfl⟩ (.cons ⟨_, rfl⟩ (.cons ⟨_, rfl⟩ .nil)), ⟨_, anR _ rfl, rfl, _, rfl⟩⟩, rfl, q _ hf⟩
theorem UX : rJ X (.type "int") (fun xs H Q => ∃ (z : Str) (n : Int), xs = [.str z] /\ intText? z = some n /\ z.length <= 640 /\ Q (.int n) H) := by
 intro pins s σ H xs us Q I r h
 obtain ⟨z, n, rfl, hn, hl, q⟩ := h
 obtain ⟨u, rfl, t, rfl⟩ := vals1 r
 exact PySem.W.KIN.call_text hn hl ⟨.int n, H, I.tok _, ⟨_, rfl⟩, q⟩
noncomputable def GD (X : Cx) (x : Str) (f : Str -> Option Int) : Prop := ∃ (a : Addr) (es : Array DictEntry) (n : Nat), X.mg x = some (.ref a) /\ X.K.lookup a = some ⟨.type "dict", none, .dict es n, #[]⟩ /\ PySem.W.KeysLit X.w.params es.toList /\ ∀ k z, f k = some z -> ∃ t, PySem.W.nsIn X.K a k = some (some (.int z t))
theorem ahd {x : Str} {f : Str -> Option Int} {px : Pos} (hm : GD X x f) (hg : Gl X x) (hi : PE X i ty) (hs : Xe i) (hd : (x == ("__debug__" : Str)) = false := by decide) :
   PE X (.Subscript (.Name x px) i pos) (fun σ H Q => ty σ H fun y H1 => ∃ (k : Str) (z : Int), y = .str k /\ f k = some z /\ Q (.int z) H1) := by
 intro pins s σ H Q I h
 obtain ⟨a, es, n, hm, hl, hk, hf⟩ := hm
 refine Sf PySem.F.slot_dict_getitem.lookup hs (DI I hg hm (ef (hi pins s σ H _ I h) fun iv s2 zz => ?_) hd)
 obtain ⟨y, H2, I2, ry, k, z, rfl, hz, q⟩ := zz
 obtain ⟨t, rfl⟩ := ry
 obtain ⟨t2, e⟩ := hf k z hz
 have mp := PySem.W.mapOf_K (prog := X.prog) (w := X.w) I2.Kz hl hk
 exact ⟨mp.typeIs, wpAny_getItem_of (strKind_is X.prog X.w k t) mp (PySem.W.find_K hl e) ⟨.int z, H2, I2.tok _, ⟨_, rfl⟩, q⟩⟩
end
end L2
namespace L3
open PySem PySem.Spec PyProof.Rows L2 PySem.Builtin PySem.Builtin.Str
section
variable {X : Cx} {CL : Str -> Addr} {b : Bx} {e o e2 e3 : Expr} {δ δ1 δ2 : List (Option T)} {pos apos pp px pa : Pos} {i : Nat} {x : Str} {bq : List (Key × L3.D)} {d : L3.D}
theorem UY {z y : Str} (h1 : cy X CL b o δ (.str z) δ1) (h2 : cy X CL b e δ1 (.str y) δ2)
   (gT : attributeBase o "startswith" X.env (eval o X.env) = eval o X.env := by rfl)
   (nM : ((backTo pos (starEach [e] X.env)).all (fun x => !x.1) && (backToKw pos (keywordEach [] X.env)).all (fun x => x.1.isSome) && decide ([e].length + ([] : List Keyword).length + (if ([] : List Keyword).isEmpty then 0 else 1) < 30)) = true := by rfl)
   (hline : (apos.endLine == pos.line) = true := by rfl) (hs : starEach [e] X.env = (false, eval e X.env) :: starEach [] X.env := by exact bG rfl) :
   bZ X CL b (.Call (.Attribute o "startswith" apos) [e] [] pos) δ (.sh (.bl (Txt.startswith z y))) δ2 := fun H Z σ ts vs Q S k =>
 cG (yG aoB PySem.F.slot_str_startswith PySem.F.type_str_startswith UU cM (bI cM cK hs) gT nM hline hs rfl)
   (h1 H Z σ ts vs _ S fun v1 H1 Z1 z1 k1 S1 r1 => by
     have e1 := r1.sc rfl
     subst e1
     refine ⟨rfl, h2 H1 Z1 σ ts vs _ S1 fun v2 H2 Z2 z2 k2 S2 r2 => ?_⟩
     have e2 := r2.sc rfl
     subst e2
     exact ⟨z, y, rfl, rfl, k _ _ _ (z1.trans z2) (k1.trans k2) (S2.push (.bl _))⟩)
theorem UZ {z y w : Str} (h1 : cy X CL b o δ (.str z) δ1) (h2 : cy X CL b e δ1 (.str y) δ2) (hz : z.length <= sizeLine) (hw : Txt.lstripChars z y = w)
   (gT : attributeBase o "lstrip" X.env (eval o X.env) = eval o X.env := by rfl)
   (nM : ((backTo pos (starEach [e] X.env)).all (fun x => !x.1) && (backToKw pos (keywordEach [] X.env)).all (fun x => x.1.isSome) && decide ([e].length + ([] : List Keyword).length + (if ([] : List Keyword).isEmpty then 0 else 1) < 30)) = true := by rfl)
   (hline : (apos.endLine == pos.line) = true := by rfl) (hs : starEach [e] X.env = (false, eval e X.env) :: starEach [] X.env := by exact bG rfl) :
   bZ X CL b (.Call (.Attribute o "lstrip" apos) [e] [] pos) δ (.sh (.str w)) δ2 := fun H Z σ ts vs Q S k =>
 cG (yG aoB PySem.F.slot_str_lstrip PySem.F.type_str_lstrip UW cM (bI cM cK hs) gT nM hline hs rfl)
   (h1 H Z σ ts vs _ S fun v1 H1 Z1 z1 k1 S1 r1 => by
     have e1 := r1.sc rfl
     subst e1
     refine ⟨rfl, h2 H1 Z1 σ ts vs _ S1 fun v2 H2 Z2 z2 k2 S2 r2 => ?_⟩
     have e2 := r2.sc rfl
     subst e2
     subst hw
     exact ⟨z, y, rfl, rfl, hz, k _ _ _ (z1.trans z2) (k1.trans k2) (S2.push (.str _))⟩)
theorem Lw {z y : Str} {l : List Str} (h1 : cy X CL b o δ (.str z) δ1) (h2 : cy X CL b e δ1 (.str y) δ2) (hy : (y.length == 0) = false) (hz : z.length <= sizeLine) (hl : part3 z y = l)
   (gT : attributeBase o "partition" X.env (eval o X.env) = eval o X.env := by rfl)
   (nM : ((backTo pos (starEach [e] X.env)).all (fun x => !x.1) && (backToKw pos (keywordEach [] X.env)).all (fun x => x.1.isSome) && decide ([e].length + ([] : List Keyword).length + (if ([] : List Keyword).isEmpty then 0 else 1) < 30)) = true := by rfl)
   (hline : (apos.endLine == pos.line) = true := by rfl) (hs : starEach [e] X.env = (false, eval e X.env) :: starEach [] X.env := by exact bG rfl) :
   bZ X CL b (.Call (.Attribute o "partition" apos) [e] [] pos) δ (.sh (.tup (l.map .str))) δ2 := by
 have : bZ X CL b (.Call (.Attribute o "partition" apos) [e] [] pos) δ (.tup ((l.map L3.D.str).map T.sh)) δ2 := fun H Z σ ts vs Q S k =>
   cG (yG aoB PySem.F.slot_str_partition PySem.F.type_str_partition abp cM (bI cM cK hs) gT nM hline hs rfl)
     (h1 H Z σ ts vs _ S fun v1 H1 Z1 z1 k1 S1 r1 => by
       have e1 := r1.sc rfl
       subst e1
       refine ⟨rfl, h2 H1 Z1 σ ts vs _ S1 fun v2 H2 Z2 z2 k2 S2 r2 => ?_⟩
       have e2 := r2.sc rfl
       subst e2
       subst hl
       refine ⟨z, y, rfl, rfl, hy, hz, fun p hpn => ?_⟩
       have rc : aI X.K CL Z2 ((part3 z y).map L3.D.str) ((part3 z y).map V.str) := aI.Sx _
       obtain ⟨c1, c2, S4⟩ := (b8.Eo rc S2).OL (by simp) hpn
       exact k _ _ _ (z1.trans (z2.trans c1)) (k1.trans (k2.trans c2)) S4)
 have := Ek this
 rwa [T.gS, oh] at this
theorem IU {z : Str} {n : Int} (hm : X.mg "int" = none) (h : cy X CL b e δ (.str z) δ1) (hn : intText? z = some n) (hl : z.length <= 640) (hg : Gl X "int") (hs : starEach [e] X.env = (false, eval e X.env) :: starEach [] X.env := by exact bG rfl) : bZ X CL b (.Call (.Name "int" pp) [e] [] pos) δ (.sh (.int n)) δ1 := fun H Z σ ts vs Q S k =>
 cG (o8 UX hg hm Hj (bI cM cK hs) (he := hs)) (h H Z σ ts vs _ S fun v H1 Z1 z1 k1 S1 r => ⟨z, n, by rw [r.sc rfl], hn, hl, k _ H1 Z1 z1 k1 (S1.push (.int _))⟩)
theorem SG {f : Str -> Option Int} {k : Str} {z : Int} (hm : GD X x f) (hg : Gl X x) (h : cy X CL b e δ (.str k) δ1) (hf : f k = some z) (hs : Xe e := by exact fun _ _ => rfl) (hd : (x == ("__debug__" : Str)) = false := by decide) : bZ X CL b (.Subscript (.Name x px) e pos) δ (.sh (.int z)) δ1 := fun H Z σ ts vs Q S kk =>
 cG (ahd hm hg cM hs hd) (h H Z σ ts vs _ S fun v H1 Z1 z1 k1 S1 r1 => ⟨k, z, r1.sc rfl, hf, kk _ H1 Z1 z1 k1 (S1.push (.int z))⟩)
theorem abq (k : Key) (n : Vn X i x) (h1 : δ[i]? = some (some (.lZ bq))) (h2 : cy X CL b e2 δ (UK k) δ) (h3 : bZ X CL b e3 δ (.sh d) δ) (hk : yQ bq k = none) (hl : bq.length <= 1000000)
   (gT : attributeBase (.Name x px) "setdefault" X.env (eval (.Name x px) X.env) = eval (.Name x px) X.env := by rfl)
   (nM : ((backTo pos (starEach [e2, e3] X.env)).all (fun x => !x.1) && (backToKw pos (keywordEach [] X.env)).all (fun x => x.1.isSome) && decide ([e2, e3].length + ([] : List Keyword).length + (if ([] : List Keyword).isEmpty then 0 else 1) < 30)) = true := by rfl)
   (hline : (pa.endLine == pos.line) = true := by rfl) (hs : starEach [e2, e3] X.env = (false, eval e2 X.env) :: starEach [e3] X.env := by exact bG rfl) (wV : starEach [e3] X.env = (false, eval e3 X.env) :: starEach [] X.env := by exact bG rfl) (Ef : (backTo pos (starEach [e3] X.env)).any (·.1) = false := by rfl) :
   TEm X CL b (.Call (.Attribute (.Name x px) "setdefault" pa) [e2, e3] [] pos) δ (.sh .any) (δ.set i (some (.lZ (B4 bq k d)))) := fun H Z σ ts vs Q S kk =>
 cG (abo (qZ n.hi n.hv n.hd n.uF) (bI cM (bI cM cK wV) hs) gT nM hline hs Ef) (by
   obtain ⟨v0, e0, r0⟩ := S.look h1
   rw [T.gS] at r0
   cases r0 with
   | @lZ a gs0 _ ha0 rr0 =>
     refine ⟨_, e0, a, gs0, rfl, ha0, h2 H Z σ _ _ _ S fun v2 H2 Z2 z2 k2 S2 r2 => h3 H2 Z2 σ _ _ _ S2 fun v3 H3 Z3 z3 k3 S3 => ?_⟩
     obtain ⟨a2, gs, ea, ha, hg, S4⟩ := S3.XH k h1
     rw [e0] at ea
     cases ea
     have hv : pY gs k = none := by
       obtain ⟨v1, e1, r1⟩ := S3.look h1
       rw [T.gS] at r1
       rw [e0] at e1
       cases e1
       cases r1 with
       | @lZ _ gs1 _ ha1 rr1 =>
         rw [ha] at ha1
         cases ha1
         have := ED (k := k) rr1
         rw [hk] at this
         cases e9 : pY gs k with
         | none => rfl
         | some _ => rw [e9] at this; cases this
     refine ⟨a, gs, k, v3, rfl, by rw [r2.key], ha, hv, by rw [hg]; exact aov hl (by rw [anF]; decide), ?_⟩
     exact kk _ _ Z3 (z2.trans z3) (S4.push (.any _)))
end
end L3
namespace L3
open PySem PySem.Spec PyProof.Rows L2
theorem vX {k a : Str} {z v : Int} {l : List (Str × Int)} (h : ((a, v) :: l).lookup k = some z) : (k = a /\ z = v) \/ l.lookup k = some z := by
 rw [anN] at h
 split at h
 . rename_i e
   exact .inl ⟨eq_of_beq e, (anA h).symm⟩
 . exact .inr h
end L3
namespace Law
open PySem L2 L3
noncomputable def top (i : Nat) : Stmt := PySem.Challenge.pw_moodtree_k19_a_little_text.main.body.getD i (.Pass ⟨0, 0, 0, 0⟩)
noncomputable def chF : Nat -> List Int -> Int -> List Int
 | 0, _, _ => []
 | n + 1, es, k => if k = -1 then [] else k :: chF n es (es.getD k.toNat 0)
noncomputable def Hq (es : List Int) (m : Int) : List Int := chF (es.length + 1) es (es.getD m.toNat 0)
noncomputable def O5 (es : List Int) : Prop := ∀ k : Nat, k < es.length -> -1 <= es.getD k 0 /\ es.getD k 0 < k
theorem O5.at {es : List Int} (h : O5 es) {k : Int} (h0 : 0 <= k) (h1 : k < es.length) : -1 <= es.getD k.toNat 0 /\ es.getD k.toNat 0 < k := by
 have := h k.toNat (by omega)
 omega
noncomputable def nq (ks : List Str) (es ss : List Int) : L3.D := .ins "Tree" [("kinds", .lst (ks.map .str)), ("elders", .lst (es.map .int)), ("starts", .lst (ss.map .int))]
theorem mq {ks : List Str} {es ss : List Int} : List.lookup ("kinds" : Str) [(("kinds" : Str), L3.D.lst (ks.map .str)), ("elders", .lst (es.map .int)), ("starts", .lst (ss.map .int))] = some (.lst (ks.map .str)) := oi
theorem dW {ks : List Str} {es ss : List Int} : List.lookup ("elders" : Str) [(("kinds" : Str), L3.D.lst (ks.map .str)), ("elders", .lst (es.map .int)), ("starts", .lst (ss.map .int))] = some (.lst (es.map .int)) := by
 rw [eO (by decide +kernel), oi]
theorem p9 {ks : List Str} {es ss : List Int} : List.lookup ("starts" : Str) [(("kinds" : Str), L3.D.lst (ks.map .str)), ("elders", .lst (es.map .int)), ("starts", .lst (ss.map .int))] = some (.lst (ss.map .int)) := by
 rw [eO (by decide +kernel), eO (by decide +kernel), oi]
theorem om (ds : List L3.D) : T.gS (.lst (ds.map T.sh)) = .lst ds := by rw [T.gS, oh]
theorem xC (l : List Int) : (T.lst ((l.map L3.D.int).map T.sh)).clean = true := by rw [o9]; exact BZ _
theorem pF (l : List Str) : (T.lst ((l.map L3.D.str).map T.sh)).clean = true := by
 rw [o9]
 induction l with
 | nil => rfl
 | cons x l ih => exact ih
noncomputable def yR (ks : List Str) (es ss : List Int) : List (Str × T) := [("kinds", .lst ((ks.map .str).map T.sh)), ("elders", .lst ((es.map .int).map T.sh)), ("starts", .lst ((ss.map .int).map T.sh))]
theorem Hr (ks : List Str) (es ss : List Int) : T.gS (.ins "Tree" (yR ks es ss)) = nq ks es ss := by
 unfold yR
 rw [T.gS, T.wO, T.wO, T.wO, T.wO, om, om, om]
 rfl
theorem B5 (ks : List Str) (es ss : List Int) : T.bR (yR ks es ss) = true := by
 unfold yR
 rw [T.bR, T.bR, T.bR, T.bR, pF, xC, xC]
 rfl
noncomputable def adg (es : List Int) : Prop := O5 es /\ ∀ k : Nat, k + 1 < es.length -> es.getD (k + 1) 0 = k \/ es.getD (k + 1) 0 ∈ Hq es k
theorem IV : ∀ (n : Nat) (es : List Int) (k : Int), (chF n es k).length <= n
 | 0, _, _ => anq _
 | n + 1, es, k => by
   rw [chF]
   split
   . exact anE _
   . exact Nat.succ_le_succ (IV n es _)
noncomputable def j9 (bs nm : List L3.D) (tr : L3.D) (is os ws : List L3.D) : L3.D := .ins "Chart" [("boxes", .lst bs), ("names", .lst nm), ("tree", tr), ("ins", .lst is), ("outs", .lst os), ("ways", .lst ws)]
section
variable {bs nm is os ws : List L3.D} {tr : L3.D}
theorem iS : List.lookup ("boxes" : Str) [(("boxes" : Str), L3.D.lst bs), ("names", .lst nm), ("tree", tr), ("ins", .lst is), ("outs", .lst os), ("ways", .lst ws)] = some (.lst bs) := oi
theorem c6 : List.lookup ("names" : Str) [(("boxes" : Str), L3.D.lst bs), ("names", .lst nm), ("tree", tr), ("ins", .lst is), ("outs", .lst os), ("ways", .lst ws)] = some (.lst nm) := by
 rw [eO (by decide +kernel), oi]
theorem pG : List.lookup ("tree" : Str) [(("boxes" : Str), L3.D.lst bs), ("names", .lst nm), ("tree", tr), ("ins", .lst is), ("outs", .lst os), ("ways", .lst ws)] = some tr := by
 rw [eO (by decide +kernel), eO (by decide +kernel), oi]
theorem vY : List.lookup ("ins" : Str) [(("boxes" : Str), L3.D.lst bs), ("names", .lst nm), ("tree", tr), ("ins", .lst is), ("outs", .lst os), ("ways", .lst ws)] = some (.lst is) := by
 rw [eO (by decide +kernel), eO (by decide +kernel), eO (by decide +kernel), oi]
theorem sM : List.lookup ("outs" : Str) [(("boxes" : Str), L3.D.lst bs), ("names", .lst nm), ("tree", tr), ("ins", .lst is), ("outs", .lst os), ("ways", .lst ws)] = some (.lst os) := by
 rw [eO (by decide +kernel), eO (by decide +kernel), eO (by decide +kernel), eO (by decide +kernel), oi]
theorem sN : List.lookup ("ways" : Str) [(("boxes" : Str), L3.D.lst bs), ("names", .lst nm), ("tree", tr), ("ins", .lst is), ("outs", .lst os), ("ways", .lst ws)] = some (.lst ws) := by
 rw [eO (by decide +kernel), eO (by decide +kernel), eO (by decide +kernel), eO (by decide +kernel), eO (by decide +kernel), oi]
end
noncomputable def AW (bs nm : List L3.D) : List (Str × T) := [("boxes", .lst (bs.map T.sh)), ("names", .lst (nm.map T.sh))]
noncomputable def AX (is os ws : List L3.D) : List (Str × T) := [("ins", .lst (is.map T.sh)), ("outs", .lst (os.map T.sh)), ("ways", .lst (ws.map T.sh))]
noncomputable def ri (bs nm : List L3.D) (t : T) (is os ws : List L3.D) : List (Str × T) := AW bs nm ++ (("tree" : Str), t) :: AX is os ws
theorem EG (bs nm : List L3.D) (t : T) (is os ws : List L3.D) : T.gS (.ins "Chart" (ri bs nm t is os ws)) = j9 bs nm t.gS is os ws := by
 unfold ri AW AX
 rw [anK, anK, ao0, T.gS, T.wO, T.wO, T.wO, T.wO, T.wO, T.wO, T.wO, om, om, om, om, om]
 rfl
theorem fP {ds : List L3.D} (h : D.cP ds = true) : (T.lst (ds.map T.sh)).clean = true := by
 rw [o9]
 induction ds with
 | nil => rfl
 | cons d ds ih =>
   rw [D.cP, anH] at h
   rw [anD, T.l0, ih h.2, T.clean, h.1]; rfl
theorem IW {bs nm : List L3.D} (h1 : D.cP bs = true) (h2 : D.cP nm = true) : T.bR (AW bs nm) = true := by
 unfold AW
 rw [T.bR, T.bR, T.bR, fP h1, fP h2]; rfl
theorem IX {is os ws : List L3.D} (h1 : D.cP is = true) (h2 : D.cP os = true) (h3 : D.cP ws = true) : T.bR (AX is os ws) = true := by
 unfold AX
 rw [T.bR, T.bR, T.bR, T.bR, fP h1, fP h2, fP h3]; rfl
noncomputable def O6 (p : Str × Int) : L3.D := .tup [.str p.1, .int p.2]
noncomputable def cB (ns : List Int) (k : Int) : Int := if k < ns.length then ns.getD k.toNat 0 else 0
noncomputable def GP : List Nat := (List.range 26).map (· + 97) ++ (List.range 10).map (· + 48)
theorem X6 : ("abcdefghijklmnopqrstuvwxyz0123456789" : Str).cps.toList = GP := by decide +kernel
noncomputable def Lx (k : Int) : Str := ⟨#[GP.getD k.toNat 0]⟩
noncomputable def ahe (m : Int) : Int := (m * 48271 + 11) % 2147483647
noncomputable def O7 (p : Int × Str) : Nat -> Int × Str
 | 0 => p
 | n + 1 => (ahe (O7 p n).1, (O7 p n).2 ++ Lx (ahe (O7 p n).1 % 36))
noncomputable def DS : List Str := ["all", "and", "box", "call", "do", "far", "if", "in", "leaf", "near", "on", "one", "open", "out", "put", "say", "shut", "then", "to"]
noncomputable def isLt (c : Nat) : Bool := decide (97 <= c) && decide (c <= 122)
noncomputable def ny (c : Nat) : Bool := decide (48 <= c) && decide (c <= 57)
theorem EH (c : Nat) : p8 ⟨#[c]⟩ "abcdefghijklmnopqrstuvwxyz" = isLt c := by
 unfold p8
 rw [aoO]
 have e : ("abcdefghijklmnopqrstuvwxyz" : Str).cps.toList = (List.range 26).map (· + 97) := by decide +kernel
 rw [e]
 apply aoF.mpr
 simp only [isLt, aok, anH, anM, aoa]
 constructor
 . rintro ⟨a, h, rfl⟩
   omega
 . intro h
   exact ⟨c - 97, by omega, by omega⟩
theorem SJ (c : Nat) : p8 ⟨#[c]⟩ "abcdefghijklmnopqrstuvwxyz0123456789" = (isLt c || ny c) := by
 unfold p8
 rw [aoO]
 have e : ("abcdefghijklmnopqrstuvwxyz0123456789" : Str).cps.toList = (List.range 26).map (· + 97) ++ (List.range 10).map (· + 48) := by decide +kernel
 rw [e]
 apply aoF.mpr
 simp only [isLt, ny, aok, anH, Bool.or_eq_true, ank, anM, aoa]
 constructor
 . rintro (⟨a, h, rfl⟩ | ⟨a, h, rfl⟩) <;> omega
 . intro h
   rcases h with h | h
   . exact .inl ⟨c - 97, by omega, by omega⟩
   . exact .inr ⟨c - 48, by omega, by omega⟩
noncomputable def gV (x : Str) : Bool := decide (1 <= x.length) && (decide (x.length <= 12) && (!decide (x ∈ DS) && (isLt (x.cps.toList.getD 0 0) && x.cps.toList.all (fun c => isLt c || ny c))))
theorem IY {x : Str} (h : x.length = 0) : x = "" := by
 obtain ⟨⟨l⟩⟩ := x
 have : l.length = 0 := h
 have e : l = [] := List.eq_nil_of_length_eq_zero this
 subst e
 rfl
theorem EI {x : Str} {j : Nat} {d : L3.D} (h : (jB x)[j]? = some d) : ∃ c, d = .str ⟨#[c]⟩ /\ x.cps.toList[j]? = some c := by
 unfold jB at h
 rw [anJ] at h
 obtain ⟨c, hc, rfl⟩ := aoA.mp h
 exact ⟨c, rfl, hc⟩
noncomputable def Ly (i : Int) (n : Nat) : Bool := decide (0 <= i) && decide (i < (n : Int))
noncomputable def bdI (i : Int) : Bool := decide (-(10 ^ (30 : Int).toNat) < i) && decide (i < 10 ^ (30 : Int).toNat)
noncomputable def tmI (n : Nat) (a c : Int) : Bool := (decide (a = -1) || Ly a n) && bdI c
inductive LkA
 | abt (x : Str) (m : Int)
 | num (mk : Str) (a1 c1 a2 c2 : Int)
noncomputable def lkV : LkA -> L3.D
 | .abt x m => .tup [.str x, .int m]
 | .num mk a1 c1 a2 c2 => .tup [.str mk, .tup [.int a1, .int c1], .tup [.int a2, .int c2]]
noncomputable def lkI (n m : Nat) : LkA -> Bool
 | .abt _ k => Ly k n
 | .num mk a1 c1 a2 c2 => decide (mk ∈ (["<", "<=", "=", "!="] : List Str)) && (tmI m a1 c1 && tmI m a2 c2)
noncomputable def ae5 : LkA -> Prop
 | .abt x _ => x ∈ (["open", "shut"] : List Str)
 | .num mk _ _ _ _ => ¬ mk ∈ (["open", "shut"] : List Str)
theorem X7 : ∀ al : List LkA, D.pC (.tup (al.map lkV)) = true := fun al => pD (fun q => by cases q <;> rfl) al
noncomputable def ajV : L3.D -> L3.D
 | .tup [_, _, _, d, _, _] => d
 | d => d
inductive Lz
 | put (i a c : Int)
 | say (x : Str) (a c : Int)
 | call (x : Str)
noncomputable def EJ : Lz -> L3.D
 | .put i a c => .tup [.str "put", .int i, .tup [.int a, .int c]]
 | .say x a c => .tup [.str "say", .str x, .tup [.int a, .int c]]
 | .call x => .tup [.str "call", .str x]
noncomputable def ddL : Lz -> Prop
 | .put _ _ _ => True
 | .say x _ _ => x.length <= 1000
 | .call x => x.length <= 1000
structure LkW where
 src : Int
 sign : Str
 al : List LkA
 dl : List Lz
 tgt : Int
 mode : Str
noncomputable def lwV (w : LkW) : L3.D := .tup [.int w.src, .str w.sign, .tup (w.al.map lkV), .tup (w.dl.map EJ), .int w.tgt, .str w.mode]
noncomputable def GQ (l : List Int) (s : Int) : List Int := if s ∈ l then l else l ++ [s]
noncomputable def WB (l : List Int) : List (Key × L3.D) := l.map fun s => ((Sum.inl s : Key), L3.D.bl true)
theorem SK (l : List Int) (s : Int) : ((WB l).any fun kv => decide (kv.1 = Sum.inl s)) = decide (s ∈ l) := by
 unfold WB
 induction l with
 | nil => rfl
 | cons y l ih =>
   rw [anD, aoj, ih]
   by_cases h : y = s
   . subst h; simp
   . have h' : ¬ s = y := fun e => h e.symm
     have h2 : ¬ (Sum.inl y : Key) = Sum.inl s := fun e => h (Sum.inl.inj e)
     simp [h', h2]
theorem abv (l : List Int) (s : Int) : B4 (WB l) (.inl s) (.bl true) = WB (GQ l s) := by
 unfold B4
 rw [SK]
 unfold GQ
 by_cases h : s ∈ l
 . rw [anu (anz h), anu h]
   unfold WB
   rw [an1]
   refine aoY fun y _ => ?_
   show (if (Sum.inl y : Key) = Sum.inl s then ((Sum.inl y : Key), L3.D.bl true) else ((Sum.inl y : Key), L3.D.bl true)) = _
   split <;> rfl
 . rw [if_neg (by simpa using h), if_neg h]
   unfold WB
   rw [anC]; rfl
noncomputable def adds (l : List Int) : List Int := l.foldl GQ []
theorem U0 (l : List Int) (x : Int) : adds (l ++ [x]) = GQ (adds l) x := by unfold adds; rw [List.foldl_append]; rfl
theorem AY : ∀ (l acc : List Int), (l.foldl GQ acc).length <= acc.length + l.length /\ ∀ x, x ∈ l.foldl GQ acc ↔ x ∈ acc \/ x ∈ l
 | [], acc => ⟨anq _, fun x => by simp⟩
 | y :: l, acc => by
   obtain ⟨h1, h2⟩ := AY l (GQ acc y)
   rw [List.foldl_cons]
   refine ⟨?_, fun x => (h2 x).trans ?_⟩
   . have : (GQ acc y).length <= acc.length + 1 := by unfold GQ; split <;> simp
     rw [anG]; omega
   . unfold GQ
     by_cases hy : y ∈ acc
     . rw [anu hy, ane]
       constructor
       . rintro (z | z)
         . exact .inl z
         . exact .inr (.inr z)
       . rintro (z | rfl | z)
         . exact .inl z
         . exact .inl hy
         . exact .inr z
     . rw [anm hy, ank, anp, ane, or_assoc]
theorem abw (l : List Int) (s : Int) : (yQ (WB l) (.inl s)).isSome = decide (s ∈ l) := by
 rw [← SK]
 unfold yQ
 rw [apd]
 generalize WB l = k
 induction k with
 | nil => rfl
 | cons y k ih =>
   rw [aom, aoj]
   cases h : decide (y.1 = Sum.inl s) with
   | true => rfl
   | false => rw [Bool.false_or]; exact ih
structure ae7 (ks : List Str) (es ss : List Int) : Prop where
 pre : adg es
 n1 : 1 <= es.length
 n2 : es.length <= 900
 deep : ∀ m : Int, 0 <= m -> m < es.length -> (Hq es m).length <= 12
 kl : ks.length = es.length
 sl : ss.length = es.length
 kinds : ∀ m : Nat, m < es.length -> ks.getD m Str.empty ∈ (["leaf", "one", "all"] : List Str) /\ decide (ks.getD m Str.empty = "leaf") = !decide ((m : Int) ∈ es)
 starts : ∀ m : Nat, m < es.length -> (ks.getD m Str.empty ≠ "one" /\ ss.getD m 0 = -1) \/ (ks.getD m Str.empty = "one" /\ Ly (ss.getD m 0) es.length = true /\ es.getD (ss.getD m 0).toNat 0 = m)
noncomputable def ddI (n : Nat) : Lz -> Bool
 | .put i a c => Ly i n && tmI n a c
 | .say x a c => gV x && tmI n a c
 | .call x => gV x
noncomputable def LkW.Ok (n m : Nat) (w : LkW) : Prop := Ly w.src n = true /\ (w.sign.length <= 1000 /\ gV w.sign = true) /\ w.mode ∈ (["new", "near", "far"] : List Str) /\ ((w.tgt = -1 /\ w.mode = "new") \/ (w.tgt ≠ -1 /\ Ly w.tgt n = true)) /\ ∀ q ∈ w.al, ae5 q /\ lkI n m q = true
noncomputable def bxV (q : Str × Int) : L3.D := .tup [.str q.1, .int q.2]
theorem Hs {α : Type} {l : List α} {j : Nat} {p : α} (h : l[j]? = some p) : l.take (j + 1) = l.take j ++ [p] := by
 rw [aoJ, h]
 rfl
noncomputable def tlF : Nat -> Int -> Str -> Str
 | 0, _, x => x
 | n + 1, r, x => if 0 < r then tlF n (r / 36) (x ++ Lx (r % 36)) else x
theorem aby (n : Nat) {r : Int} (x : Str) (h : ¬ 0 < r) : tlF n r x = x := by
 cases n with
 | zero => rfl
 | succ n => rw [tlF, anm h]
noncomputable def uW (m : Int) : Str := tlF 20 (m / 26) (Lx (m % 26))
noncomputable def w19 : List Str := ["all", "and", "box", "call", "do", "far", "if", "in", "leaf", "near", "on", "one", "open", "out", "put", "say", "shut", "then", "to"]
noncomputable def okB (m : Int) (us : List Str) (j : Nat) : Bool := !decide (uW (m + j) ∈ us) && !decide (uW (m + j) ∈ w19)
noncomputable def uh (m : Int) (us : List Str) : Str := match (List.range (us.length + 20)).find? (okB m us) with
 | some j => uW (m + j)
 | none => ""
theorem X8 {m : Int} {us : List Str} {j : Nat} (hj : j < us.length + 20) (Wz : ∀ i, i < j -> okB m us i = false) (h : okB m us j = true) : uh m us = uW (m + j) := by
 have e : (List.range (us.length + 20)).find? (okB m us) = some j := by
   rw [List.find?_range_eq_some]
   exact ⟨h, aoa.mpr hj, fun i hi => by rw [Wz i hi]; rfl⟩
 unfold uh
 rw [e]
theorem X9 {m : Int} {us : List Str} (Wz : ∀ i, i < us.length + 20 -> okB m us i = false) : uh m us = "" := by
 have e : (List.range (us.length + 20)).find? (okB m us) = none := by
   rw [List.find?_eq_none]
   intro i hi
   rw [Wz i (aoa.mp hi)]
   exact ans
 unfold uh
 rw [e]
noncomputable def Cw (c st : Int) : Nat -> List Str
 | 0 => []
 | n + 1 => Cw c st n ++ [uh (c + n * st) (Cw c st n)]
theorem EK (c st : Int) : ∀ n, (Cw c st n).length = n
 | 0 => rfl
 | n + 1 => by rw [Cw, anv, EK c st n]; rfl
noncomputable def EL (s : List Int) : Int := ([1, 26, 936, 33696, 1213056] : List Int).getD (cB s 1 % 5).toNat 0
noncomputable def Yb (s : List Int) (n : Nat) : List Str := Cw (cB s 0 % (26 * 36 ^ (10 : Int).toNat)) (EL s) n
theorem LC (s : List Int) : 0 <= EL s /\ EL s <= 1213056 := by
 unfold EL
 have a := aoe (cB s 1) (show (5 : Int) ≠ 0 by decide)
 have c := an8 (cB s 1) (show (0 : Int) < 5 by decide)
 have : (cB s 1 % 5).toNat = 0 \/ (cB s 1 % 5).toNat = 1 \/ (cB s 1 % 5).toNat = 2 \/ (cB s 1 % 5).toNat = 3 \/ (cB s 1 % 5).toNat = 4 := by omega
 rcases this with e | e | e | e | e <;> rw [e] <;> decide
theorem LD : O5 [-1] := fun k hk => by
 have : k = 0 := by
   rw [aot] at hk
   omega
 subst this
 exact ⟨Int.le_refl _, show (-1 : Int) < ((0 : Nat) : Int) by decide⟩
noncomputable def Sm : Nat -> L3.D -> Prop
 | _, .int _ => True
 | _, .str _ => True
 | n + 1, .lst ds => ds.length <= 1000 /\ ∀ d ∈ ds, Sm n d
 | n + 1, .tup ds => ds.length <= 1000 /\ ∀ d ∈ ds, Sm n d
 | _, _ => False
theorem IZ {ds : List L3.D} {j : Nat} (h : j < ds.length) : Ed ds (j : Int) = some ds[j] := ay (anZ h)
noncomputable def AZ (bs : List L3.D) (ns ks : List Str) (es ss : List Int) (is os ws : List L3.D) : L3.D := .lst [.lst bs, .lst (ns.map .str), .lst (ks.map .str), .lst (es.map .int), .lst (ss.map .int), .lst is, .lst os, .lst ws]
theorem SM (n : Nat) (l : List Str) (h : l.length <= 1000) : Sm (n + 1) (.lst (l.map .str)) := by
 refine ⟨by rw [anh]; exact h, fun d hd => ?_⟩
 obtain ⟨x, _, rfl⟩ := anM.mp hd
 cases n <;> trivial
theorem SN (n : Nat) (l : List Int) (h : l.length <= 1000) : Sm (n + 1) (.lst (l.map .int)) := by
 refine ⟨by rw [anh]; exact h, fun d hd => ?_⟩
 obtain ⟨x, _, rfl⟩ := anM.mp hd
 cases n <;> trivial
structure LJ (P : L3.D -> Prop) (d : L3.D) : Prop where
 im : d.pC = true
 sm : ∀ n, Sm (n + 2) d
 dp : ∀ n, Dep (n + 2) d
 pr : P d
noncomputable def xD (nb : Nat) (d : L3.D) : Prop := ∃ a c : Int, d = .tup [.int a, .int c] /\ (a = -1 \/ (0 <= a /\ a < nb)) /\ c.natAbs < 10 ^ 30
noncomputable def xE (nb : Nat) (d : L3.D) : Prop := (∃ n : Str, d = .tup [.str "call", .str n] /\ n.length <= 21) \/ (∃ (k : Int) (t : L3.D), d = .tup [.str "put", .int k, t] /\ (0 <= k /\ k < nb) /\ xD nb t) \/ (∃ (n : Str) (t : L3.D), d = .tup [.str "say", .str n, t] /\ n.length <= 21 /\ xD nb t)
noncomputable def Yc (nb nm : Nat) (d : L3.D) : Prop := (∃ (w : Str) (k : Int), d = .tup [.str w, .int k] /\ (w = "open" \/ w = "shut") /\ 0 <= k /\ k < nm) \/ (∃ (w : Str) (s t : L3.D), d = .tup [.str w, s, t] /\ w ∈ (["<", "<=", "=", "!="] : List Str) /\ xD nb s /\ xD nb t)
theorem join_eq (l : List Str) : Txt.join " " l = Str.join " " l := StrLaws.glued_eq_join _ _
theorem yS {l : List Str} (h : (l.map (·.length)).sum + l.length <= 100000) : JoinOk " " l = true := by
 unfold JoinOk
 rw [StrLaws.joinTotal, aoc]
 have e : (" " : Str).length = 1 := rfl
 rw [e, Nat.mul_one]
 refine anx ?_
 rw [anF]
 omega
theorem Yd (a c d : Str) : Txt.join " " [a, c, d] = a ++ " " ++ c ++ " " ++ d := by
 rw [join_eq]
 show a ++ " " ++ (c ++ " " ++ d) = _
 rw [aoU (a ++ " ") c " ", aoU (a ++ " ") (c ++ " ") d]
noncomputable def Cy (c : Int) : Int := if c % 2 = 1 then 0 - c / 2 % 10 ^ (30 : Int).toNat else c / 2 % 10 ^ (30 : Int).toNat
structure WY where
 src : Int
 sg : Str
 qs : List L3.D
 ds : List L3.D
 tg : Int
 md : Str
noncomputable def WY.d (w : WY) : L3.D := .tup [.int w.src, .str w.sg, .tup w.qs, .tup w.ds, .int w.tg, .str w.md]
structure OW where
 is : List (List L3.D)
 os : List (List L3.D)
 ws : List WY
structure ahf (nm : Nat) (w : WY) : Prop where
 s1 : PyData.strOk w.sg = true
 s2 : PyData.strOk w.md = true
 s3 : w.sg.length <= 21
 tg : w.tg = -1 /\ w.md = "new" \/ (0 <= w.tg /\ w.tg < nm) /\ w.md ∈ (["new", "near", "far"] : List Str)
structure LK (nb nm m k : Nat) (w : WY) : Prop where
 l3 : w.qs.length + w.ds.length <= k
 g1 : ∀ d ∈ w.qs, LJ (Yc nb nm) d
 g2 : ∀ d ∈ w.ds, LJ (xE nb) d
 fin : ahf nm w
 sr : 0 <= w.src /\ w.src < m
structure abA (P : L3.D -> Prop) (k : Nat) (l : List L3.D) : Prop where
 l1 : l.length <= k
 g1 : ∀ d ∈ l, LJ P d
structure ajY (nb nm k : Nat) (o : OW) : Prop where
 n0 : 0 < o.is.length
 n1 : o.is.length <= k + 1
 n2 : o.os.length = o.is.length
 ii : ∀ l ∈ o.is, abA (xE nb) k l
 oo : ∀ l ∈ o.os, abA (xE nb) k l
 wl : o.ws.length <= k
 ww : ∀ w ∈ o.ws, LK nb nm o.is.length k w
theorem LK.l1 {nb nm m k : Nat} {w : WY} (h : LK nb nm m k w) : w.qs.length <= k := by have := h.l3; omega
theorem LK.l2 {nb nm m k : Nat} {w : WY} (h : LK nb nm m k w) : w.ds.length <= k := by have := h.l3; omega
theorem Ye (c : Int) : (Cy c).natAbs < 10 ^ 30 := by
 have a := aoe (c / 2) (show (10 ^ (30 : Int).toNat : Int) ≠ 0 by decide +kernel)
 have d := an8 (c / 2) (show (0 : Int) < 10 ^ (30 : Int).toNat by decide +kernel)
 have e : (10 ^ (30 : Int).toNat : Int) = ((10 ^ 30 : Nat) : Int) := by decide +kernel
 unfold Cy
 generalize (10 ^ (30 : Int).toNat : Int) = z at a d e ⊢
 generalize (10 ^ 30 : Nat) = y at e ⊢
 split <;> omega
theorem I0 {bs nm is os ws : List L3.D} {t : T} (h1 : D.cP bs = true) (h2 : D.cP nm = true) (h3 : t.clean = true) (h4 : D.cP is = true) (h5 : D.cP os = true) (h6 : D.cP ws = true) : T.bR (ri bs nm t is os ws) = true := by
 unfold ri AW AX
 rw [anK, anK, ao0, T.bR, T.bR, T.bR, T.bR, T.bR, T.bR, T.bR, fP h1, fP h2, h3, fP h4, fP h5, fP h6]
 rfl
noncomputable def eB : L3.D -> Nat -> L3.D
 | .tup ds, k => ds.getD k .non
 | _, _ => .non
noncomputable def sI (i : Int) : Str := Str.ofString (toString i)
theorem kZ {i : Int} (h : i.natAbs < 10 ^ 30) : (sI i).length <= 31 := by
 have := int_text_length_le10 (k := 30) (by decide) h
 unfold sI
 rw [ofString_length]
 exact this
theorem Ja {i : Int} (h : i.natAbs < 10 ^ 30) : i.natAbs.log2 < 1920 := by
 by_cases z : i.natAbs = 0
 . rw [z]; decide
 . exact (Nat.log2_lt z).mpr (Nat.lt_trans h (by decide +kernel))
theorem abB (a c : String) : Str.ofString (a ++ c) = Str.ofString a ++ Str.ofString c := by
 rw [Str.ofString_eq_toList, Str.ofString_eq_toList, Str.ofString_eq_toList]
 refine Str.ext' ?_
 show ((a ++ c).toList.map Char.toNat).toArray = (a.toList.map Char.toNat).toArray ++ (c.toList.map Char.toNat).toArray
 rw [String.toList_append, anC]
 simp
theorem Yg {i : Int} (h : i < 0) : sI i = "-" ++ sI (i.natAbs : Int) := by
 obtain ⟨n, rfl⟩ := Int.eq_negSucc_of_lt_zero h
 exact abB "-" _
noncomputable def yT (k : Int) : Str := if 0 < k then "+" else "-"
theorem yU (k : Int) : (yT k).length = 1 := by
 unfold yT
 split <;> rfl
noncomputable def jy (bn : List Str) (d : L3.D) : Str := if (eB d 0).Sj = -1 then sI (eB d 1).Sj else if (eB d 1).Sj = 0 then bn.getD (eB d 0).Sj.toNat Str.empty
 else bn.getD (eB d 0).Sj.toNat Str.empty ++ yT (eB d 1).Sj ++ sI ((eB d 1).Sj.natAbs : Int)
noncomputable def dG (bn : List Str) (d : L3.D) : Str := if (eB d 0).toS = "call" then "call " ++ (eB d 1).toS
 else (eB d 0).toS ++ " " ++ (if (eB d 0).toS = "put" then bn.getD (eB d 1).Sj.toNat Str.empty else (eB d 1).toS) ++ " " ++ jy bn (eB d 2)
noncomputable def uB (bn ns : List Str) (d : L3.D) : Str := if d.cnt = 2 then (eB d 0).toS ++ " " ++ ns.getD (eB d 1).Sj.toNat Str.empty
 else jy bn (eB d 1) ++ " " ++ (eB d 0).toS ++ " " ++ jy bn (eB d 2)
theorem yV (bn : List Str) (a k : Int) : jy bn (.tup [.int a, .int k]) = if a = -1 then sI k else if k = 0 then bn.getD a.toNat Str.empty else bn.getD a.toNat Str.empty ++ yT k ++ sI (k.natAbs : Int) := rfl
theorem ER (bn : List Str) (n : Str) : dG bn (.tup [.str "call", .str n]) = "call " ++ n := anu rfl
theorem Ht (bn : List Str) (k : Int) (t : L3.D) : dG bn (.tup [.str "put", .int k, t]) = "put" ++ " " ++ bn.getD k.toNat Str.empty ++ " " ++ jy bn t := by
 show (if ("put" : Str) = "call" then _ else "put" ++ " " ++ (if ("put" : Str) = "put" then bn.getD k.toNat Str.empty else _) ++ " " ++ jy bn t) = _
 rw [anm (by decide +kernel), anu rfl]
theorem U1 (bn : List Str) (n : Str) (t : L3.D) : dG bn (.tup [.str "say", .str n, t]) = "say" ++ " " ++ n ++ " " ++ jy bn t := by
 show (if ("say" : Str) = "call" then _ else "say" ++ " " ++ (if ("say" : Str) = "put" then _ else n) ++ " " ++ jy bn t) = _
 rw [anm (by decide +kernel), anm (by decide +kernel)]
theorem Yh (bn ns : List Str) (w : Str) (k : Int) : uB bn ns (.tup [.str w, .int k]) = w ++ " " ++ ns.getD k.toNat Str.empty := rfl
theorem O8 (bn ns : List Str) (w : Str) (s t : L3.D) : uB bn ns (.tup [.str w, s, t]) = jy bn s ++ " " ++ w ++ " " ++ jy bn t := rfl
theorem nP {l : List Str} (h : ∀ x ∈ l, x.length <= 21) (k : Nat) : (l.getD k Str.empty).length <= 21 := by
 rw [anO]
 cases e : l[k]? with
 | none => exact anE _
 | some x => exact h x (anB e)
theorem qa {bn : List Str} {nb : Nat} {d : L3.D} (h : ∀ x ∈ bn, x.length <= 21) (hd : xD nb d) : (jy bn d).length <= 53 := by
 obtain ⟨a, c, rfl, _, hc⟩ := hd
 have e := nP h a.toNat
 have e2 := kZ hc
 have e3 := kZ (i := (c.natAbs : Int)) (by rw [aoC]; exact hc)
 show (if a = -1 then sI c else if c = 0 then bn.getD a.toNat Str.empty else bn.getD a.toNat Str.empty ++ yT c ++ sI (c.natAbs : Int)).length <= 53
 split
 . omega
 split
 . omega
 . rw [str_len, str_len]
   have := yU c
   omega
theorem uX {bn : List Str} {nb : Nat} {d : L3.D} (h : ∀ x ∈ bn, x.length <= 21) (hd : xE nb d) : (dG bn d).length <= 110 := by
 rcases hd with ⟨n, rfl, hn⟩ | ⟨k, t, rfl, _, ht⟩ | ⟨n, t, rfl, hn, ht⟩
 . show (("call " : Str) ++ n).length <= 110
   rw [str_len]
   have : ("call " : Str).length = 5 := rfl
   omega
 . have := qa h ht
   have e := nP h k.toNat
   show (("put" : Str) ++ " " ++ bn.getD k.toNat Str.empty ++ " " ++ jy bn t).length <= 110
   rw [str_len, str_len, str_len, str_len]
   have : ("put" : Str).length = 3 := rfl
   have : (" " : Str).length = 1 := rfl
   omega
 . have := qa h ht
   show (("say" : Str) ++ " " ++ n ++ " " ++ jy bn t).length <= 110
   rw [str_len, str_len, str_len, str_len]
   have : ("say" : Str).length = 3 := rfl
   have : (" " : Str).length = 1 := rfl
   omega
theorem abC {bn ns : List Str} {nb nm : Nat} {d : L3.D} (h : ∀ x ∈ bn, x.length <= 21) (h2 : ∀ x ∈ ns, x.length <= 21) (hd : Yc nb nm d) : (uB bn ns d).length <= 110 := by
 have e1 : (" " : Str).length = 1 := rfl
 rcases hd with ⟨w, k, rfl, hw, _⟩ | ⟨w, s, t, rfl, hw, hs, ht⟩
 . have e := nP h2 k.toNat
   have : w.length <= 4 := by rcases hw with rfl | rfl <;> decide +kernel
   show (w ++ " " ++ ns.getD k.toNat Str.empty).length <= 110
   rw [str_len, str_len]
   omega
 . have a1 := qa h hs
   have a2 := qa h ht
   have : w.length <= 2 := by
     have : ∀ x ∈ (["<", "<=", "=", "!="] : List Str), x.length <= 2 := by decide +kernel
     exact this w hw
   show (jy bn s ++ " " ++ w ++ " " ++ jy bn t).length <= 110
   rw [str_len, str_len, str_len, str_len]
   omega
noncomputable def jn (a : Str) (l : List Str) : Str := l.foldl (fun x w => x ++ " " ++ w) a
theorem Yi (z : Str) : ∀ (l : List Str) (a : Str), z ++ jn a l = jn (z ++ a) l
 | [], a => rfl
 | w :: l, a => by
   show z ++ jn (a ++ " " ++ w) l = jn (z ++ a ++ " " ++ w) l
   rw [Yi z l, aoU z a " ", aoU z (a ++ " ") w]
theorem DT : ∀ (l : List Str) (a : Str), Txt.join " " (a :: l) = jn a l
 | [], a => by rw [join_eq]; rfl
 | w :: l, a => by
   have ih := DT l w
   rw [join_eq] at ih ⊢
   show a ++ " " ++ Str.join " " (w :: l) = jn (a ++ " " ++ w) l
   rw [ih, Yi]
theorem Yj {B : Nat} : ∀ (l : List Str) (a : Str), (∀ x ∈ l, x.length <= B) -> (jn a l).length <= a.length + l.length * (B + 1)
 | [], a, _ => by show a.length <= _; omega
 | w :: l, a, h => by
   have h1 := h w anc
   have h2 := Yj l (a ++ " " ++ w) fun x hx => h x (anj _ hx)
   rw [str_len, str_len] at h2
   have e1 : (" " : Str).length = 1 := rfl
   show (jn (a ++ " " ++ w) l).length <= _
   rw [anG, Nat.succ_mul]
   omega
noncomputable def DU (f g : Str) : List Str -> List Str
 | [] => []
 | t :: r => f :: t :: r.flatMap fun x => [g, x]
theorem Yk (f g : Str) (l : List Str) (t : Str) : DU f g (l ++ [t]) = DU f g l ++ [if l = [] then f else g, t] := by
 cases l with
 | nil => rfl
 | cons x r =>
   show f :: x :: (r ++ [t]).flatMap _ = _
   rw [List.flatMap_append, anm (by intro z; cases z)]
   rfl
theorem qb (f g : Str) (l : List Str) : (DU f g l).length = 2 * l.length := by
 cases l with
 | nil => rfl
 | cons x r =>
   show (f :: x :: r.flatMap fun y => [g, y]).length = _
   have : ∀ r : List Str, (r.flatMap fun y => [g, y]).length = 2 * r.length := fun r => by
     induction r with
     | nil => rfl
     | cons y r ih =>
       rw [List.flatMap_cons, anv, ih]
       show 2 + 2 * r.length = 2 * (r.length + 1)
       omega
   rw [anG, anG, this, anG]
   omega
theorem SQ {f g : Str} {l : List Str} {P : Str -> Prop} (hf : P f) (hg : P g) (h : ∀ x ∈ l, P x) : ∀ x ∈ DU f g l, P x := by
 cases l with
 | nil => intro x hx; cases hx
 | cons y r =>
   intro x hx
   rcases ane.mp hx with rfl | hx
   . exact hf
   rcases ane.mp hx with rfl | hx
   . exact h _ anc
   . obtain ⟨z, hz, hx⟩ := List.mem_flatMap.mp hx
     rcases ane.mp hx with rfl | hx
     . exact hg
     . cases anp.mp hx
       exact h _ (anj _ hz)
theorem Yl {l : List Str} {B : Nat} {z : Str} (hz : z.length = 1) (h : ∀ x ∈ l, x.length <= B) (hb : l.length * (B + 1) <= 16000000) : JoinOk z l = true := by
 unfold JoinOk
 rw [StrLaws.joinTotal, aoc, hz, Nat.mul_one]
 have : ∀ (l : List Str), (∀ x ∈ l, x.length <= B) -> (l.map (·.length)).sum + l.length <= l.length * (B + 1) := fun l => by
   induction l with
   | nil => intro _; exact anE _
   | cons x l ih =>
     intro h
     have a := h x anc
     have c := ih fun y hy => h y (anj _ hy)
     rw [anD, List.sum_cons, anG, Nat.succ_mul]
     omega
 have := this l h
 refine anx ?_
 rw [anF]
 omega
structure CH where
 bs : List (Str × Int)
 ns : List Str
 ks : List Str
 es : List Int
 ss : List Int
 is : List (List L3.D)
 os : List (List L3.D)
 ws : List WY
noncomputable def CH.d (c : CH) : L3.D := j9 (c.bs.map O6) (c.ns.map .str) (nq c.ks c.es c.ss) (c.is.map .tup) (c.os.map .tup) (c.ws.map WY.d)
noncomputable def CH.p (c : CH) : L3.D := AZ (c.bs.map O6) c.ns c.ks c.es c.ss (c.is.map .tup) (c.os.map .tup) (c.ws.map WY.d)
noncomputable def CH.bn (c : CH) : List Str := c.bs.map (·.1)
structure oq (c : CH) : Prop where
 nl : c.ns.length = c.es.length
 kl : c.ks.length = c.es.length
 sl : c.ss.length = c.es.length
 il : c.is.length = c.es.length
 e0 : 0 < c.es.length
 e1 : c.es.length <= 41
 tr : O5 c.es
 nk : ∀ x ∈ c.ns, x.length <= 21
 b3 : c.bs.length <= 3
 bk : ∀ p ∈ c.bs, p.1.length <= 21 /\ p.2.natAbs < 10 ^ 30
 kk : ∀ x ∈ c.ks, x.length <= 4
 one : ∀ m, m < c.es.length -> (c.ks.getD m Str.empty = "one" -> 0 <= c.ss.getD m 0 /\ c.ss.getD m 0 < c.es.length) /\ (c.ks.getD m Str.empty ≠ "one" -> c.ss.getD m 0 = -1)
 ow : ajY c.bs.length c.es.length 40 ⟨c.is, c.os, c.ws⟩
theorem oq.bn {c : CH} (h : oq c) : ∀ x ∈ c.bn, x.length <= 21 := fun x hx => by
 obtain ⟨p, hp, rfl⟩ := anM.mp hx
 exact (h.bk p hp).1
theorem adi {c : CH} {k : Int} (h0 : 0 <= k) (h1 : k < c.bs.length) : Ed (c.bs.map O6) k = some (.tup [.str (c.bn.getD k.toNat Str.empty), .int (c.bs.getD k.toNat (Str.empty, 0)).2]) := by
 rw [xA (f := O6) (Str.empty, 0) h0 h1]
 have hk : k.toNat < c.bs.length := by omega
 unfold CH.bn
 rw [anO, anO, anJ, anZ hk]
 rfl
noncomputable def SR (ns : List Str) (w : WY) : List Str := if w.tg = -1 then [] else ["to", ns.getD w.tg.toNat Str.empty]
noncomputable def Z7 (w : WY) : List Str := if w.md = "new" then [] else [w.md]
noncomputable def wyL (bn ns : List Str) (w : WY) : List Str := w.sg :: (DU "if" "and" (w.qs.map (uB bn ns)) ++ DU "do" "then" (w.ds.map (dG bn)) ++ (SR ns w ++ Z7 w))
noncomputable def O9 (bn ns : List Str) (w : WY) : Str := jn "on" (wyL bn ns w)
noncomputable def Pa (c : CH) (m : Nat) : Str := jn (c.ks.getD m Str.empty) (c.ns.getD m Str.empty :: if c.ks.getD m Str.empty = "one" then [c.ns.getD (c.ss.getD m 0).toNat Str.empty] else [])
noncomputable def xF (c : CH) (m : Nat) : Str := Txt.mul " " ((Hq c.es m).length : Nat)
noncomputable def GF (c : CH) (m : Nat) : List Str := (c.is.getD m []).map (fun d => "in " ++ dG c.bn d) ++ (c.os.getD m []).map fun d => "out " ++ dG c.bn d
noncomputable def kE (c : CH) (l : List WY) (m : Nat) : List Str := (l.filter fun w => decide (w.src = (m : Int))).map (O9 c.bn c.ns)
noncomputable def yW (c : CH) (m : Nat) : List Str := GF c m ++ kE c c.ws m
noncomputable def EV (c : CH) (m : Nat) : List Str := (xF c m ++ Pa c m) :: (yW c m).map fun t => xF c m ++ " " ++ t
noncomputable def Pb (p : Str × Int) : Str := "box " ++ p.1 ++ " " ++ sI p.2
noncomputable def rP (c : CH) (n : Nat) : List Str := c.bs.map Pb ++ (List.range n).flatMap (EV c)
theorem A0 (c : CH) (n : Nat) : rP c (n + 1) = rP c n ++ EV c n := by
 unfold rP
 rw [List.range_succ, List.flatMap_append, ani]
 simp
section
variable {c : CH}
theorem Ym (h : oq c) {w : WY} (hw : LK c.bs.length c.es.length c.is.length 40 w) : (∀ x ∈ wyL c.bn c.ns w, x.length <= 110) /\ (wyL c.bn c.ns w).length <= 84 := by
 have hb := h.bn
 have hn := h.nk
 constructor
 . intro x hx
   rcases ane.mp hx with rfl | hx
   . exact anW hw.fin.s3 (by decide)
   rcases ank.mp hx with hx | hx
   . rcases ank.mp hx with hx | hx
     . exact SQ (P := fun x => x.length <= 110) (by decide +kernel) (by decide +kernel) (fun y hy => by
         obtain ⟨d, hd, rfl⟩ := anM.mp hy
         exact abC hb hn (hw.g1 d hd).pr) x hx
     . exact SQ (P := fun x => x.length <= 110) (by decide +kernel) (by decide +kernel) (fun y hy => by
         obtain ⟨d, hd, rfl⟩ := anM.mp hy
         exact uX hb (hw.g2 d hd).pr) x hx
   rcases ank.mp hx with hx | hx
   . unfold SR at hx
     split at hx
     . cases hx
     . rcases ane.mp hx with rfl | hx
       . decide +kernel
       . cases anp.mp hx
         exact anW (nP hn _) (by decide)
   . unfold Z7 at hx
     split at hx
     . cases hx
     . cases anp.mp hx
       have : ∀ x ∈ (["new", "near", "far"] : List Str), x.length <= 110 := by decide +kernel
       rcases hw.fin.tg with ⟨_, e⟩ | ⟨_, e⟩
       . rw [e]; decide +kernel
       . exact this _ e
 . have a := hw.l3
   unfold wyL
   rw [anG, anv, anv, anv, qb, qb, anh, anh]
   have e1 : (SR c.ns w).length <= 2 := by unfold SR; split <;> exact anb rfl
   have e2 : (Z7 w).length <= 1 := by unfold Z7; split <;> exact anb rfl
   omega
theorem SV (h : oq c) {w : WY} (hw : LK c.bs.length c.es.length c.is.length 40 w) : (O9 c.bn c.ns w).length <= 9326 := by
 obtain ⟨a, d⟩ := Ym h hw
 have := Yj _ "on" a
 have e : ("on" : Str).length = 2 := rfl
 unfold O9
 have : (wyL c.bn c.ns w).length * (110 + 1) <= 84 * 111 := aoV _ d
 omega
theorem Yn (h : oq c) (m : Nat) : (Pa c m).length <= 100 := by
 have hk : (c.ks.getD m Str.empty).length <= 4 := by
   rw [anO]
   cases e : c.ks[m]? with
   | none => exact anE _
   | some x => exact h.kk x (anB e)
 have e1 := nP h.nk m
 have e2 := nP h.nk (c.ss.getD m 0).toNat
 have e3 : (" " : Str).length = 1 := rfl
 unfold Pa
 split
 . show (c.ks.getD m Str.empty ++ " " ++ c.ns.getD m Str.empty ++ " " ++ c.ns.getD (c.ss.getD m 0).toNat Str.empty).length <= 100
   rw [str_len, str_len, str_len, str_len]
   omega
 . show (c.ks.getD m Str.empty ++ " " ++ c.ns.getD m Str.empty).length <= 100
   rw [str_len, str_len]
   omega
theorem abD (n : Nat) : (Txt.mul " " (n : Int)).length <= n + 1 := by
 unfold Txt.mul
 split
 . exact anE _
 split
 . show (1 : Nat) <= n + 1
   omega
 . have : ∀ (k : Nat) (a : Array Nat), ((List.replicate k (" " : Str).cps).foldl (· ++ ·) a).size = a.size + k := fun k => by
     induction k with
     | zero => intro a; rfl
     | succ k ih =>
       intro a
       rw [List.replicate_succ, List.foldl_cons, ih, Array.size_append]
       show a.size + 1 + k = _
       omega
   show ((List.replicate (n : Int).toNat (" " : Str).cps).foldl (· ++ ·) #[]).size <= n + 1
   rw [this, apg]
   show 0 + n <= n + 1
   omega
theorem ae9 {n : Nat} (h : n <= 1000) : MulOk " " (n : Int) := by
 have e : (" " : Str).length = 1 := rfl
 refine ⟨by simp; omega, fun h1 _ => ?_, fun _ _ => ?_⟩
 . rw [e]
   have : (1 : Int) <= (2 ^ 63 - 1) / (n : Int) := Int.le_ediv_of_mul_le (by omega) (by omega)
   omega
 . rw [e, apg, Nat.one_mul]
   refine anx ?_
   rw [anF]
   omega
theorem SW (h : oq c) (m : Nat) : (xF c m).length <= 50 := by
 have a := abD (Hq c.es m).length
 have d := IV (c.es.length + 1) c.es (c.es.getD (m : Int).toNat 0)
 have e := h.e1
 have : (Hq c.es m).length <= c.es.length + 1 := d
 unfold xF
 omega
theorem Yo (h : oq c) {m : Nat} : ∀ x ∈ GF c m, x.length <= 200 := fun x hx => by
 have gi : ∀ {l : List (List L3.D)} {P : L3.D -> Prop}, (∀ x ∈ l, abA P 40 x) -> ∀ d ∈ l.getD m [], P d := fun {l P} hl d hd => by
   rw [anO] at hd
   cases e : l[m]? with
   | none => rw [e] at hd; cases hd
   | some y => rw [e] at hd; exact ((hl y (anB e)).g1 d hd).pr
 rcases ank.mp hx with hx | hx
 . obtain ⟨d, hd, rfl⟩ := anM.mp hx
   have := uX h.bn (gi h.ow.ii d hd)
   rw [str_len]
   show 3 + _ <= 200
   omega
 . obtain ⟨d, hd, rfl⟩ := anM.mp hx
   have := uX h.bn (gi h.ow.oo d hd)
   rw [str_len]
   show 4 + _ <= 200
   omega
theorem abE (h : oq c) : ∀ x ∈ c.bs.map Pb, x.length <= 100 := fun x hx => by
 obtain ⟨p, hp, rfl⟩ := anM.mp hx
 have a := h.bk p hp
 have d := kZ a.2
 have e3 : (" " : Str).length = 1 := rfl
 unfold Pb
 rw [str_len, str_len, str_len]
 show 4 + _ + _ + _ <= 100
 omega
theorem Jb (h : oq c) (m : Nat) : (GF c m).length <= 80 := by
 have gi : ∀ {l : List (List L3.D)} {P : L3.D -> Prop}, (∀ x ∈ l, abA P 40 x) -> (l.getD m []).length <= 40 := fun {l P} hl => by
   rw [anO]
   cases e : l[m]? with
   | none => exact anE _
   | some y => exact (hl y (anB e)).l1
 have a := gi h.ow.ii
 have d := gi h.ow.oo
 unfold GF
 rw [anv, anh, anh]
 dsimp only at a d
 omega
theorem yX (h : oq c) (l : List WY) (hl : l.length <= 40) (m : Nat) : (kE c l m).length <= 40 := by
 unfold kE
 rw [anh]
 exact anW (List.length_filter_le _ _) hl
noncomputable def Z8 (l : List Str) : Nat := (l.map (·.length)).sum + l.length
theorem Jc (l r : List Str) : Z8 (l ++ r) = Z8 l + Z8 r := by
 unfold Z8
 rw [anC, List.sum_append, anv]
 omega
theorem Jd {B : Nat} : ∀ (l : List Str), (∀ x ∈ l, x.length <= B) -> Z8 l <= l.length * (B + 1)
 | [], _ => anE _
 | x :: l, h => by
   have a := h x anc
   have d := Jd l fun y hy => h y (anj _ hy)
   unfold Z8 at d ⊢
   rw [anD, List.sum_cons, anG, Nat.succ_mul]
   omega
theorem Yp (h : oq c) (m : Nat) : Z8 (EV c m) <= 400000 := by
 have b := SW h m
 have md := Yn h m
 have e3 : (" " : Str).length = 1 := rfl
 have hio : ∀ x ∈ (GF c m).map (fun t => xF c m ++ " " ++ t), x.length <= 251 := fun x hx => by
   obtain ⟨t, ht, rfl⟩ := anM.mp hx
   have := Yo h t ht
   rw [str_len, str_len]
   omega
 have hwy : ∀ x ∈ (kE c c.ws m).map (fun t => xF c m ++ " " ++ t), x.length <= 9377 := fun x hx => by
   obtain ⟨t, ht, rfl⟩ := anM.mp hx
   obtain ⟨w, hw, rfl⟩ := anM.mp ht
   have := SV h (h.ow.ww w (aoZ.mp hw).1)
   rw [str_len, str_len]
   omega
 have t1 := Jd _ hio
 have t2 := Jd _ hwy
 have l1 := Jb h m
 have l2 := yX h c.ws h.ow.wl m
 rw [anh] at t1 t2
 have t3 : Z8 [xF c m ++ Pa c m] <= 151 := by
   show (xF c m ++ Pa c m).length + 0 + 1 <= 151
   rw [str_len]
   omega
 have : EV c m = [xF c m ++ Pa c m] ++ ((GF c m).map (fun t => xF c m ++ " " ++ t) ++ (kE c c.ws m).map (fun t => xF c m ++ " " ++ t)) := by
   rw [EV, yW, anC]
   rfl
 rw [this, Jc, Jc]
 have m1 : (GF c m).length * (251 + 1) <= 80 * 252 := aoV _ l1
 have m2 : (kE c c.ws m).length * (9377 + 1) <= 40 * 9378 := aoV _ l2
 omega
theorem SX (h : oq c) : ∀ n, Z8 (rP c n) <= 400 + n * 400000
 | 0 => by
   have a := Jd _ (abE h)
   have d := h.b3
   rw [anh] at a
   unfold rP
   rw [List.range_zero, List.flatMap_nil, anL]
   omega
 | n + 1 => by
   have a := SX h n
   have d := Yp h n
   rw [A0, Jc]
   omega
theorem all_join (h : oq c) : JoinOk "\n" (rP c c.es.length) = true := by
 have a := SX h c.es.length
 have d := h.e1
 unfold JoinOk
 rw [StrLaws.joinTotal, aoc]
 have e : ("\n" : Str).length = 1 := rfl
 rw [e, Nat.mul_one]
 refine anx ?_
 rw [anF]
 unfold Z8 at a
 omega
end
theorem eS (a c : Str) : (a ++ c).cps.toList = a.cps.toList ++ c.cps.toList := PySem.W.KT.app_list a c
theorem pH {a c : Str} (h : a.cps.toList = c.cps.toList) : a = c := Str.ext' (Array.toList_inj.mp h)
theorem SY {c : Nat} : ∀ {p q r s : List Nat}, c ∉ p -> c ∉ q -> p ++ c :: r = q ++ c :: s -> p = q /\ r = s
 | [], [], _, _, _, _, h => ⟨rfl, (aoH h).2⟩
 | [], y :: q, _, _, _, hq, h => absurd (aoH h).1 (fun e => hq (e ▸ anc))
 | x :: p, [], _, _, hp, _, h => absurd (aoH h).1 (fun e => hp (e ▸ anc))
 | x :: p, y :: q, r, s, hp, hq, h => by
   obtain ⟨e1, e2⟩ := aoH h
   obtain ⟨e3, e4⟩ := SY (fun z => hp (anj _ z)) (fun z => hq (anj _ z)) e2
   exact ⟨by rw [e1, e3], e4⟩
theorem pI (c : Nat) (a e : Str) (l : List Str) : (Str.join ⟨#[c]⟩ (a :: e :: l)).cps.toList = a.cps.toList ++ c :: (Str.join ⟨#[c]⟩ (e :: l)).cps.toList := by
 show ((a ++ (⟨#[c]⟩ : Str)) ++ Str.join ⟨#[c]⟩ (e :: l)).cps.toList = _
 rw [eS, eS, ani]
 rfl
theorem LN {c : Nat} : ∀ {l m : List Str}, l ≠ [] -> m ≠ [] -> (∀ p ∈ l, c ∉ p.cps.toList) -> (∀ p ∈ m, c ∉ p.cps.toList) -> (Str.join ⟨#[c]⟩ l).cps.toList = (Str.join ⟨#[c]⟩ m).cps.toList -> l = m
 | [], _, h, _, _, _, _ => absurd rfl h
 | _ :: _, [], _, h, _, _, _ => absurd rfl h
 | [a], [d], _, _, _, _, e => by rw [show a = d from pH e]
 | [a], d :: d2 :: m, _, _, hl, _, e => absurd (show c ∈ a.cps.toList by
     rw [show a.cps.toList = _ from e, pI]
     exact anf _ anc) (hl a anc)
 | a :: a2 :: l, [d], _, _, _, hm, e => absurd (show c ∈ d.cps.toList by
     rw [show d.cps.toList = _ from e.symm, pI]
     exact anf _ anc) (hm d anc)
 | a :: a2 :: l, d :: d2 :: m, _, _, hl, hm, e => by
   rw [pI, pI] at e
   obtain ⟨e1, e2⟩ := SY (hl a anc) (hm d anc) e
   have := LN (l := a2 :: l) (m := d2 :: m) (List.cons_ne_nil _ _) (List.cons_ne_nil _ _) (fun p hp => hl p (anj _ hp)) (fun p hp => hm p (anj _ hp)) e2
   rw [this, show a = d from pH e1]
theorem Yq {x : Str} {c : Nat} (h : c ∈ x.cps.toList) (lim : Nat) (hl : 1 <= lim) : ∃ i r, Builtin.Str.occurrences x ⟨#[c]⟩ 0 x.length lim = i :: r /\ x.cps.toList[i]? = some c /\ ∀ k, k < i -> x.cps.toList[k]? ≠ some c := by
 rcases StrLaws.occ_head x ⟨#[c]⟩ lim hl with ⟨_, h2⟩ | ⟨i, r, h1, h2, h3⟩
 . obtain ⟨j, hj⟩ := List.getElem?_of_mem h
   exact absurd ((aph x c j).mpr hj) (h2 j)
 . exact ⟨i, r, h1, (aph x c i).mp h2, fun k hk e => h3 k hk ((aph x c k).mpr e)⟩
theorem afa {x : Str} {c : Nat} (h : c ∉ x.cps.toList) (lim : Nat) (hl : 1 <= lim) : Builtin.Str.occurrences x ⟨#[c]⟩ 0 x.length lim = [] := by
 rcases StrLaws.occ_head x ⟨#[c]⟩ lim hl with ⟨h1, _⟩ | ⟨i, r, h1, h2, h3⟩
 . exact h1
 . exact absurd (anB ((aph x c i).mp h2)) h
theorem EW {c : Nat} {l : List Str} (h2 : 2 <= l.length) (hf : ∀ p ∈ l, c ∉ p.cps.toList) : sJ (Str.join ⟨#[c]⟩ l) ⟨#[c]⟩ = true /\ splitM (Str.join ⟨#[c]⟩ l) ⟨#[c]⟩ = l := by
 have hc : c ∈ (Str.join ⟨#[c]⟩ l).cps.toList := by
   match l, h2 with
   | a :: d :: l, _ =>
     rw [pI]
     exact anf _ anc
 have hj := StrLaws.join_split (Str.join ⟨#[c]⟩ l) ⟨#[c]⟩
 have hs := StrLaws.split_free (Str.join ⟨#[c]⟩ l) c
 have hlen : (⟨#[c]⟩ : Str).length = 1 := rfl
 generalize hx : Str.join ⟨#[c]⟩ l = x at hc hj hs ⊢
 obtain ⟨i, r, ho, _, _⟩ := Yq hc (x.length + 1) (Nat.le_add_left _ _)
 have k1 : ¬ x.length < (⟨#[c]⟩ : Str).length := fun z => by
   have : x.cps.toList = [] := List.eq_nil_of_length_eq_zero (by rw [aoo]; show x.length = 0; omega)
   rw [this] at hc
   cases hc
 have k2 : ¬ Builtin.Str.strKind x < Builtin.Str.strKind ⟨#[c]⟩ := fun z => StrLaws.kind_free x c z hc
 have k3 : (decide (x.length < (⟨#[c]⟩ : Str).length) || decide (Builtin.Str.strKind x < Builtin.Str.strKind ⟨#[c]⟩)) = false := by
   rw [anx k1, anx k2]; rfl
 have e : Txt.split x ⟨#[c]⟩ = splitM x ⟨#[c]⟩ := by
   unfold Txt.split splitM
   rw [anm (by rw [k3]; exact ans), anm (by rw [ho]; exact ans)]
 refine ⟨?_, ?_⟩
 . unfold sJ
   rw [k3, ho]
   rfl
 . rw [e] at hj hs
   refine LN ?_ ?_ hs hf ?_
   . intro z
     have := length_partsBetween x (Builtin.Str.occurrences x ⟨#[c]⟩ 0 x.length (x.length + 1)) (⟨#[c]⟩ : Str).length
     unfold splitM at z
     rw [z] at this
     cases this
   . intro z
     rw [z] at h2
     exact absurd h2 (by decide)
   . rw [hj, hx]
theorem abF {x : Str} {c : Nat} (h : c ∉ x.cps.toList) : part3 x ⟨#[c]⟩ = [x, "", ""] := by
 unfold part3
 rw [afa h 1 (anq _)]
 rfl
theorem Yr {a r : Str} {c : Nat} (h : c ∉ a.cps.toList) : part3 (a ++ ⟨#[c]⟩ ++ r) ⟨#[c]⟩ = [a, ⟨#[c]⟩, r] := by
 have e : (a ++ ⟨#[c]⟩ ++ r).cps.toList = a.cps.toList ++ c :: r.cps.toList := by
   rw [eS, eS, ani]
   rfl
 have hc : c ∈ (a ++ ⟨#[c]⟩ ++ r).cps.toList := by
   rw [e]
   exact anf _ anc
 obtain ⟨i, s, ho, h1, h2⟩ := Yq hc 1 (anq _)
 have hi : i = a.cps.toList.length := by
   rcases Nat.lt_trichotomy i a.cps.toList.length with z | z | z
   . rw [e, List.getElem?_append_left z] at h1
     exact absurd (anB h1) h
   . exact z
   . refine absurd ?_ (h2 _ z)
     rw [e, aoX (anq _), Nat.sub_self]
     rfl
 unfold part3
 rw [ho]
 subst hi
 have x1 : Builtin.Str.strSub (a ++ ⟨#[c]⟩ ++ r) 0 a.cps.toList.length = a := pH (by
   rw [StrLaws.strSub_toList, e, List.drop_zero, Nat.sub_zero, List.take_left])
 have x2 : Builtin.Str.strSub (a ++ ⟨#[c]⟩ ++ r) (a.cps.toList.length + (⟨#[c]⟩ : Str).length) (a ++ ⟨#[c]⟩ ++ r).length = r := pH (by
   have hl : (a ++ ⟨#[c]⟩ ++ r).length = a.cps.toList.length + 1 + r.cps.toList.length := by
     rw [str_len, str_len]
     show a.length + 1 + r.length = _
     rw [aoo, aoo]
     rfl
   have hd : (a.cps.toList ++ c :: r.cps.toList).drop (a.cps.toList.length + 1) = r.cps.toList := by
     rw [List.drop_append]
     simp
   rw [StrLaws.strSub_toList, e, hl]
   show List.take (a.cps.toList.length + 1 + r.cps.toList.length - (a.cps.toList.length + 1)) (List.drop (a.cps.toList.length + 1) _) = _
   rw [hd, ao9, aoz])
 show [Builtin.Str.strSub (a ++ ⟨#[c]⟩ ++ r) 0 a.cps.toList.length, ⟨#[c]⟩, Builtin.Str.strSub (a ++ ⟨#[c]⟩ ++ r) (a.cps.toList.length + (⟨#[c]⟩ : Str).length) (a ++ ⟨#[c]⟩ ++ r).length] = _
 rw [x1, x2]
theorem B6 {x : Str} {n : Nat} (h : x.cps.toList.takeWhile (fun c => (" " : Str).cps.contains c) = x.cps.toList.take n) (hn : n <= x.cps.toList.length) : (Txt.lstripChars x " ").cps.toList = x.cps.toList.drop n := by
 have e : (x.cps.toList.takeWhile (fun c => (" " : Str).cps.contains c)).length = n := by rw [h, aoy]; omega
 unfold Txt.lstripChars
 rw [PySem.W.stripBy_eq]
 show (Builtin.Str.strSub x (x.cps.toList.takeWhile (fun c => (" " : Str).cps.contains c)).length x.length).cps.toList = _
 rw [e, StrLaws.strSub_toList]
 exact List.take_of_length_le (by rw [List.length_drop, aoo]; exact anq _)
theorem Pg {x : Str} (h : x.cps.toList.head? ≠ some 32) : Txt.lstripChars x " " = x := pH (by
 refine (B6 (n := 0) ?_ (anE _)).trans List.drop_zero
 cases e : x.cps.toList with
 | nil => rfl
 | cons c l =>
   rw [e] at h
   have hc : c ≠ 32 := fun z => h (by rw [z]; rfl)
   rw [List.takeWhile_cons_of_neg (by
     rw [show (" " : Str).cps = #[32] by decide +kernel]
     simp [hc])]
   rfl)
theorem U3 {x : Str} (h : x.cps.toList.head? ≠ some 32) : Txt.lstripChars (" " ++ x) " " = x := pH (by
 have ec : (" " ++ x : Str).cps.toList = 32 :: x.cps.toList := by
   rw [eS]
   rfl
 refine (B6 (n := 1) ?_ (by rw [ec]; exact Nat.le_add_left _ _)).trans (by rw [ec]; rfl)
 rw [ec, List.takeWhile_cons_of_pos (by rw [show (" " : Str).cps = #[32] by decide +kernel]; simp)]
 cases e : x.cps.toList with
 | nil => rfl
 | cons c l =>
   rw [e] at h
   have hc : c ≠ 32 := fun z => h (by rw [z]; rfl)
   rw [List.takeWhile_cons_of_neg (by
     rw [show (" " : Str).cps = #[32] by decide +kernel]
     simp [hc])]
   rfl)
noncomputable def um (x : Str) : Bool := decide (1 <= x.length) && (decide (x.length <= 30) && (!decide (x.cps.toList.getD 0 0 = 48) && x.cps.toList.all ny))
noncomputable def rm (x : Str) : Str := if x.cps.toList.head? = some 45 then ⟨(x.cps.toList.drop 1).toArray⟩ else x
noncomputable def Hu (x : Str) : Bool := decide (x = "0") || um (rm x)
theorem S6 (c : Nat) : p8 ⟨#[c]⟩ "0123456789" = ny c := by
 unfold p8
 rw [aoO]
 have e : ("0123456789" : Str).cps.toList = (List.range 10).map (· + 48) := by decide +kernel
 rw [e]
 apply aoF.mpr
 simp only [ny, aok, anH, anM, aoa]
 constructor
 . rintro ⟨a, h, rfl⟩
   omega
 . intro h
   exact ⟨c - 48, by omega, by omega⟩
theorem EX (m : Nat) : (sI (m : Int)).cps.toList = (Nat.toDigits 10 m).map Char.toNat := PySem.W.KIN.signs_num m
theorem xG (m : Nat) : PySem.NumText.AllDigits (sI (m : Int)).cps.toList := fun c hc => by
 rw [EX] at hc
 obtain ⟨ch, ZW, e⟩ := anM.mp hc
 have r := PyProof.Rows.digit_range (Nat.isDigit_of_mem_toDigits (by decide) (by decide) ZW)
 rw [← e]
 exact r
theorem Ys (m : Nat) : (sI (m : Int)).cps.toList ≠ [] := by
 rw [EX]
 intro e
 have h := PySem.toDigits_len_ge 10 m
 rw [List.map_eq_nil_iff.mp e] at h
 exact absurd h (by decide)
theorem Yt : ∀ m : Nat, 0 < m -> (sI (m : Int)).cps.toList.getD 0 0 ≠ 48 := by
 intro m
 rw [EX]
 induction m using Nat.strongRecOn with
 | ind m ih =>
   intro h0
   by_cases hm : m < 10
   . rw [Nat.toDigits_of_lt_base hm]
     have : ∀ k : Nat, k < 10 -> 0 < k -> ([Nat.digitChar k].map Char.toNat).getD 0 0 ≠ 48 := by decide
     exact this m hm h0
   . have t : Nat.toDigits 10 (m / 10) ++ Nat.toDigits 10 (m % 10) = Nat.toDigits 10 (10 * (m / 10) + m % 10) := Nat.toDigits_append_toDigits (by decide) (by omega) (by omega)
     rw [Nat.div_add_mod] at t
     have := ih (m / 10) (by omega) (by omega)
     have hl : 1 <= (Nat.toDigits 10 (m / 10)).length := PySem.toDigits_len_ge 10 (m / 10)
     rw [← t, anC]
     cases e : (Nat.toDigits 10 (m / 10)).map Char.toNat with
     | nil =>
       rw [List.map_eq_nil_iff.mp e] at hl
       exact absurd hl (by decide)
     | cons c l =>
       rw [e] at this
       exact this
theorem Yu {m : Nat} (h : m < 10 ^ 30) : (sI (m : Int)).length <= 30 := by
 unfold sI
 exact PyProof.Rows.toString_length_le (by omega) (by decide) (by
   have : ((m : Nat) : Int) < ((10 ^ 30 : Nat) : Int) := Int.ofNat_lt.mpr h
   exact this)
theorem kF (x : Str) : x.cps.toList.length = x.length := aoo
theorem Ph {m : Nat} (h0 : 0 < m) (h : m < 10 ^ 30) : um (sI (m : Int)) = true := by
 unfold um
 have h1 : 1 <= (sI (m : Int)).length := by
   rw [← kF]
   exact List.length_pos_iff.mpr (Ys m)
 rw [anz h1, anz (Yu h), anx (Yt m h0), aoi.mpr fun c hc => ?_]
 . rfl
 . have := xG m c hc
   unfold ny
   rw [anz this.1, anz this.2]
   rfl
theorem abG (m : Nat) : (sI (m : Int)).cps.toList.head? ≠ some 45 := by
 have hd := xG m
 cases e : (sI (m : Int)).cps.toList with
 | nil => exact fun z => nomatch z
 | cons c l =>
   intro z
   have : c = 45 := anA z
   have := hd c (by rw [e]; exact anc)
   omega
theorem Je {i : Int} (h : i < 0) : (sI i).cps.toList = 45 :: (sI (i.natAbs : Int)).cps.toList := by
 rw [Yg h, eS]
 rfl
theorem Yv {i : Int} (h : i.natAbs < 10 ^ 30) : Hu (sI i) = true := by
 unfold Hu rm
 by_cases h0 : i < 0
 . rw [Je h0, anu (show (45 :: (sI (i.natAbs : Int)).cps.toList).head? = some 45 from rfl)]
   have e : (⟨((45 :: (sI (i.natAbs : Int)).cps.toList).drop 1).toArray⟩ : Str) = sI (i.natAbs : Int) := pH rfl
   rw [e, Ph (by omega) h, Bool.or_true]
 . obtain ⟨m, rfl⟩ := apc (show 0 <= i by omega)
   have h : m < 10 ^ 30 := h
   rw [anm (abG m)]
   by_cases hm : m = 0
   . subst hm
     rw [anz (show sI ((0 : Nat) : Int) = "0" by decide +kernel)]
     rfl
   . rw [Ph (by omega) h, Bool.or_true]
theorem Pj {i : Int} (h : i.natAbs < 10 ^ 30) : intText? (sI i) = some i := by
 have hl := kZ h
 by_cases h0 : i < 0
 . have := PySem.intText_neg (Je h0) (xG _) (Ys _) (by omega)
   rw [this, EX, PySem.W.KIN.val_back]
   congr 1
   omega
 . obtain ⟨m, rfl⟩ := apc (show 0 <= i by omega)
   have := PySem.intText_digits (xG m) (Ys m) (by omega)
   rw [this, EX, PySem.W.KIN.val_back]
theorem LQ (i : Int) : ∀ c ∈ (sI i).cps.toList, c = 45 \/ (48 <= c /\ c <= 57) := by
 intro c hc
 by_cases h0 : i < 0
 . rw [Je h0] at hc
   rcases ane.mp hc with h | h
   . exact .inl h
   . exact .inr (xG _ c h)
 . obtain ⟨m, rfl⟩ := apc (show 0 <= i by omega)
   exact .inr (xG m c hc)
theorem cF {x : Str} (h : gV x = true) : 1 <= x.length /\ x.length <= 12 /\ (97 <= x.cps.toList.getD 0 0 /\ x.cps.toList.getD 0 0 <= 122) /\ ∀ c ∈ x.cps.toList, (97 <= c /\ c <= 122) \/ (48 <= c /\ c <= 57) := by
 unfold gV isLt ny at h
 simp only [anH, aok, aoi, Bool.or_eq_true] at h
 exact ⟨h.1, h.2.1, h.2.2.2.1, h.2.2.2.2⟩
theorem abH {x : Str} (h : gV x = true) : ∃ c l, x.cps.toList = c :: l /\ 97 <= c /\ c <= 122 := by
 obtain ⟨h1, _, h3, _⟩ := cF h
 cases e : x.cps.toList with
 | nil =>
   rw [← kF, e] at h1
   exact absurd h1 (by decide)
 | cons c l =>
   rw [e] at h3
   exact ⟨c, l, rfl, h3⟩
theorem EY {x : Str} {c : Nat} {l : List Nat} (e : x.cps.toList = c :: l) (hc : 97 <= c) : Hu x = false := by
 unfold Hu rm
 have h1 : ¬ x = "0" := fun z => by
   subst z
   have : ("0" : Str).cps.toList = [48] := by decide +kernel
   rw [this] at e
   have := (aoH e).1
   omega
 rw [anx h1, e, anm (by intro z; have : c = 45 := anA z; omega)]
 unfold um
 rw [e, aoP]
 have : ny c = false := by
   unfold ny
   rw [anx (show ¬ c <= 57 by omega), aou]
 rw [this]
 simp
noncomputable def ixC (c : Nat) : Nat := if 97 <= c then c - 97 else c - 22
noncomputable def abI : List Nat -> Nat
 | [] => 0
 | c :: l => ixC c + 36 * abI l
theorem Yw : ∀ k : Nat, k < 36 -> (isLt (GP.getD k 0) || ny (GP.getD k 0)) = true /\ ixC (GP.getD k 0) = k /\ (k < 26 -> isLt (GP.getD k 0) = true) := by
 decide +kernel
theorem S7 : ∀ (n : Nat) (r : Int) (x : Str), 0 <= r -> r < 36 ^ n -> ∃ t, (tlF n r x).cps.toList = x.cps.toList ++ t /\ (abI t : Int) = r /\ (∀ c ∈ t, (isLt c || ny c) = true) /\ ∀ k : Nat, r < 36 ^ k -> t.length <= k
 | 0, r, x, h0, h1 => ⟨[], by rw [tlF, anL], by
     have : r < 1 := h1
     show ((0 : Nat) : Int) = r
     omega, fun c hc => by (cases hc), fun k _ => anE _⟩
 | n + 1, r, x, h0, h1 => by
   rw [tlF]
   split
   . rename_i hp
     have b1 := aoe r (show (36 : Int) ≠ 0 by decide)
     have b2 := an8 r (show (0 : Int) < 36 by decide)
     obtain ⟨t, e1, e2, e3, e4⟩ := S7 n (r / 36) (x ++ Lx (r % 36)) (Int.ediv_nonneg h0 (by decide)) (Int.ediv_lt_of_lt_mul (by decide) (by rw [← Int.pow_succ]; exact h1))
     obtain ⟨c1, c2, _⟩ := Yw (r % 36).toNat (by omega)
     refine ⟨GP.getD (r % 36).toNat 0 :: t, ?_, ?_, fun c hc => ?_, fun k hk => ?_⟩
     . rw [e1, eS, ani]
       rfl
     . show ((ixC (GP.getD (r % 36).toNat 0) + 36 * abI t : Nat) : Int) = r
       rw [c2]
       omega
     . rcases ane.mp hc with rfl | hc
       . exact c1
       . exact e3 c hc
     . cases k with
       | zero =>
         have : r < 1 := hk
         omega
       | succ k =>
         have := e4 k (Int.ediv_lt_of_lt_mul (by decide) (by rw [← Int.pow_succ]; exact hk))
         rw [anG]
         omega
   . exact ⟨[], by rw [anL], by
       show ((0 : Nat) : Int) = r
       omega, fun c hc => by (cases hc), fun k _ => anE _⟩
theorem p20 : (36 : Int) ^ 20 = 13367494538843734067838845976576 := by decide +kernel
theorem p11 : (36 : Int) ^ 11 = 131621703842267136 := by decide +kernel
theorem EZ {m : Int} (h0 : 0 <= m) (h1 : m < 26 * 131621703842267136) : ∃ c t, (uW m).cps.toList = c :: t /\ isLt c = true /\ ((ixC c + 26 * abI t : Nat) : Int) = m /\ (∀ c ∈ t, (isLt c || ny c) = true) /\ t.length <= 11 := by
 have b1 := aoe m (show (26 : Int) ≠ 0 by decide)
 have b2 := an8 m (show (0 : Int) < 26 by decide)
 obtain ⟨t, e1, e2, e3, e4⟩ := S7 20 (m / 26) (Lx (m % 26)) (by omega) (by rw [p20]; omega)
 obtain ⟨_, c2, c3⟩ := Yw (m % 26).toNat (by omega)
 refine ⟨GP.getD (m % 26).toNat 0, t, e1, c3 (by omega), ?_, e3, e4 11 (by rw [p11]; omega)⟩
 rw [c2]
 omega
theorem Yx {m n : Int} (h0 : 0 <= m) (h1 : m < 26 * 131621703842267136) (k0 : 0 <= n) (k1 : n < 26 * 131621703842267136) (h : uW m = uW n) : m = n := by
 obtain ⟨c, t, e1, _, e2, _⟩ := EZ h0 h1
 obtain ⟨d, u, g1, _, g2, _⟩ := EZ k0 k1
 rw [h, g1] at e1
 obtain ⟨rfl, rfl⟩ := aoH e1
 rw [← e2, ← g2]
theorem Hv {α β : Type} {f : α -> β} : ∀ {l : List α}, (∀ x ∈ l, ∀ y ∈ l, f x = f y -> x = y) -> l.Nodup -> (l.map f).Nodup
 | [], _, _ => .nil
 | a :: l, h, n => by
   obtain ⟨n1, n2⟩ := an2.mp n
   refine an2.mpr ⟨fun hm => ?_, Hv (fun x hx y hy => h x (anj _ hx) y (anj _ hy)) n2⟩
   obtain ⟨y, hy, e⟩ := anM.mp hm
   exact n1 (h y (anj _ hy) a anc e ▸ hy)
theorem abJ {m : Int} (h0 : 0 <= m) (h1 : m < 26 * 131621703842267136) (h : uW m ∉ w19) : gV (uW m) = true := by
 obtain ⟨c, t, e1, e2, _, e3, e4⟩ := EZ h0 h1
 have hl : (uW m).length = t.length + 1 := by rw [← kF, e1]; rfl
 unfold gV
 rw [anz (show 1 <= (uW m).length by omega), anz (show (uW m).length <= 12 by omega), anx (show uW m ∉ DS from h), e1]
 show (true && (true && (!false && (isLt c && (c :: t).all fun c => isLt c || ny c)))) = true
 rw [e2, aoi.mpr fun d hd => ?_]
 . rfl
 . rcases ane.mp hd with rfl | hd
   . rw [e2]; rfl
   . exact e3 d hd
theorem E1 {m : Int} {us : List Str} (h0 : 0 <= m) (h1 : m + us.length + 20 < 26 * 131621703842267136) : gV (uh m us) = true := by
 unfold uh
 split
 . rename_i j e
   obtain ⟨h2, h3, _⟩ := List.find?_range_eq_some.mp e
   have hj := aoa.mp h3
   unfold okB at h2
   simp only [anH, aoc, aox] at h2
   exact abJ (by omega) (by omega) h2.2
 . rename_i e
   exfalso
   have Wz := List.find?_eq_none.mp e
   have hs : (List.range (us.length + 20)).map (fun j : Nat => uW (m + j)) ⊆ us ++ w19 := fun x hx => by
     obtain ⟨j, hj, rfl⟩ := anM.mp hx
     have := Wz j hj
     unfold okB at this
     simp only [anH, aoc, aox, not_and, Classical.not_not] at this
     by_cases z : uW (m + j) ∈ us
     . exact anl _ z
     . exact anf _ (this z)
   have hn : ((List.range (us.length + 20)).map (fun j : Nat => uW (m + j))).Nodup := Hv (fun x hx y hy e => by
     have := aoa.mp hx
     have := aoa.mp hy
     have := Yx (m := m + x) (n := m + y) (by omega) (by omega) (by omega) (by omega) e
     omega) List.nodup_range
   have := hn.length_le_of_subset hs
   rw [anh, aod, anv] at this
   have e : w19.length = 19 := rfl
   omega
theorem ajZ (s : List Int) : ∃ a b c, Yb s 3 = [a, b, c] /\ gV a = true /\ gV b = true /\ gV c = true := by
 have b0 := aoe (cB s 0) (show (26 * 36 ^ (10 : Int).toNat : Int) ≠ 0 by decide +kernel)
 have b1 := an8 (cB s 0) (show (0 : Int) < 26 * 36 ^ (10 : Int).toNat by decide +kernel)
 have b2 : (26 * 36 ^ (10 : Int).toNat : Int) <= 26 * 3656158440062976 := by decide +kernel
 have st := LC s
 unfold Yb
 generalize cB s 0 % (26 * 36 ^ (10 : Int).toNat) = c at b0 b1 ⊢
 generalize EL s = sp at st ⊢
 refine ⟨_, _, _, rfl, E1 ?_ ?_, E1 ?_ ?_, E1 ?_ ?_⟩ <;> simp [EK] <;> omega
structure LT where
 n0 : Str
 md : Str
 n2 : Str
 f : Int
 a : Int
 c : Int
structure jz (p : LT) : Prop where
 n0 : gV p.n0 = true
 md : gV p.md = true
 n2 : gV p.n2 = true
 f : p.f.natAbs < 10 ^ 30
 a : p.a = -1 \/ p.a = 0
 c : p.c.natAbs < 10 ^ 30
noncomputable def KG (n : Str) (a c : Int) : Str := if a = -1 then sI c else if c = 0 then n else n ++ yT c ++ sI (c.natAbs : Int)
noncomputable def LT.tt (p : LT) : Str := KG p.n0 p.a p.c
noncomputable def LT.tn (p : LT) : Str := if p.a = -1 then "" else p.n0
noncomputable def LT.ws (p : LT) : Nat -> List Str
 | 0 => ["box", p.n0, sI p.f]
 | 1 => ["leaf", p.md]
 | 2 => ["in", "put", p.n0, p.tt]
 | _ => ["out", "call", p.n2]
noncomputable def LT.bl : Nat -> Nat
 | 0 => 0
 | 1 => 0
 | _ => 1
noncomputable def LT.rest (p : LT) (i : Nat) : Str := Str.join " " (p.ws i)
noncomputable def LT.line (p : LT) (i : Nat) : Str := if i < 2 then p.rest i else " " ++ p.rest i
noncomputable def LT.lines (p : LT) : List Str := [p.line 0, p.line 1, p.line 2, p.line 3]
noncomputable def LT.text (p : LT) : Str := Str.join "\n" p.lines
noncomputable def LT.word : Nat -> Str
 | 0 => "box"
 | 1 => "leaf"
 | 2 => "in"
 | _ => "out"
noncomputable def LT.ct (p : LT) : Nat -> L3.D
 | 0 => .tup [.str p.n0, .int p.f]
 | 1 => .tup [.str p.md, .str ""]
 | 2 => .tup [.str "put", .str p.n0, .tup [.str p.tn, .int p.c]]
 | _ => .tup [.str "call", .str p.n2]
noncomputable def LT.cn (p : LT) : Nat -> L3.D
 | 0 => .tup [.str p.n0, .int p.f]
 | 1 => .tup [.str p.md, .int (-1)]
 | 2 => .tup [.str "put", .int 0, .tup [.int p.a, .int p.c]]
 | _ => .tup [.str "call", .str p.n2]
noncomputable def LT.fm (p : LT) (i : Nat) : L3.D := .tup [.int ((i : Nat) + 1 : Int), .int (LT.bl i), .str (LT.word i), p.ct i]
noncomputable def LT.nf (p : LT) (i : Nat) : L3.D := .tup [.int ((i : Nat) + 1 : Int), .int (LT.bl i), .str (LT.word i), p.cn i]
noncomputable def LT.fms (p : LT) : List L3.D := [p.fm 0, p.fm 1, p.fm 2, p.fm 3]
noncomputable def LT.nfs (p : LT) : List L3.D := [p.nf 0, p.nf 1, p.nf 2, p.nf 3]
theorem Jf (k : Int) : yT k = ⟨#[if 0 < k then 43 else 45]⟩ := by
 unfold yT
 split <;> decide +kernel
theorem Yy {p : LT} (h : jz p) : ∀ c ∈ p.tt.cps.toList, 33 <= c := by
 intro c hc
 have hn := (cF h.n0).2.2.2
 have hs := LQ
 unfold LT.tt KG at hc
 split at hc
 . have := hs p.c c hc
   omega
 split at hc
 . have := hn c hc
   omega
 . rw [Jf, eS, eS] at hc
   rcases ank.mp hc with hc | hc
   . rcases ank.mp hc with hc | hc
     . have := hn c hc
       omega
     . have : c = (if 0 < p.c then 43 else 45) := anp.mp hc
       split at this <;> omega
   . have := hs _ c hc
     omega
theorem LR {p : LT} (h : jz p) : ∀ i, ∀ w ∈ p.ws i, ∀ c ∈ w.cps.toList, 33 <= c := by
 have lit : ∀ w ∈ (["box", "leaf", "in", "put", "out", "call"] : List Str), ∀ c ∈ w.cps.toList, 33 <= c := by decide +kernel
 have nm : ∀ {x : Str}, gV x = true -> ∀ c ∈ x.cps.toList, 33 <= c := fun hx c hc => by
   have := (cF hx).2.2.2 c hc
   omega
 have nu : ∀ c ∈ (sI p.f).cps.toList, 33 <= c := fun c hc => by
   have := LQ p.f c hc
   omega
 intro i
 match i with
 | 0 =>
   intro w hw
   simp only [LT.ws, ane, ano, an3] at hw
   rcases hw with rfl | rfl | rfl
   . exact lit _ (by decide +kernel)
   . exact nm h.n0
   . exact nu
 | 1 =>
   intro w hw
   simp only [LT.ws, ane, ano, an3] at hw
   rcases hw with rfl | rfl
   . exact lit _ (by decide +kernel)
   . exact nm h.md
 | 2 =>
   intro w hw
   simp only [LT.ws, ane, ano, an3] at hw
   rcases hw with rfl | rfl | rfl | rfl
   . exact lit _ (by decide +kernel)
   . exact lit _ (by decide +kernel)
   . exact nm h.n0
   . exact Yy h
 | _ + 3 =>
   intro w hw
   simp only [LT.ws, ane, ano, an3] at hw
   rcases hw with rfl | rfl | rfl
   . exact lit _ (by decide +kernel)
   . exact lit _ (by decide +kernel)
   . exact nm h.n2
theorem rQ : (" " : Str) = ⟨#[32]⟩ := by decide +kernel
theorem LV : ("\n" : Str) = ⟨#[10]⟩ := by decide +kernel
theorem afc (p : LT) (i : Nat) : 2 <= (p.ws i).length := by
 match i with
 | 0 => exact anb rfl
 | 1 => exact anb rfl
 | 2 => exact anb rfl
 | _ + 3 => exact anb rfl
theorem E2 {p : LT} (h : jz p) (i : Nat) : sJ (p.rest i) " " = true /\ splitM (p.rest i) " " = p.ws i := by
 unfold LT.rest
 rw [rQ]
 exact EW (afc p i) fun w hw z => by
   have := LR h i w hw 32 z
   omega
theorem E3 {c : Nat} : ∀ {l : List Str} {d : Nat}, d ∈ (Str.join ⟨#[c]⟩ l).cps.toList -> d = c \/ ∃ w ∈ l, d ∈ w.cps.toList
 | [], d, h => by
   have : (Str.join ⟨#[c]⟩ []).cps.toList = [] := rfl
   rw [this] at h
   cases h
 | [a], d, h => .inr ⟨a, anc, h⟩
 | a :: e :: l, d, h => by
   rw [pI] at h
   rcases ank.mp h with h | h
   . exact .inr ⟨a, anc, h⟩
   . rcases ane.mp h with h | h
     . exact .inl h
     . rcases E3 h with h | ⟨w, hw, hd⟩
       . exact .inl h
       . exact .inr ⟨w, anj _ hw, hd⟩
theorem E4 {p : LT} (h : jz p) (i : Nat) : ∀ c ∈ (p.rest i).cps.toList, 32 <= c := fun c hc => by
 unfold LT.rest at hc
 rw [rQ] at hc
 rcases E3 hc with z | ⟨w, hw, hd⟩
 . omega
 . have := LR h i w hw c hd
   omega
theorem Pk {p : LT} (h : jz p) (i : Nat) : ∀ c ∈ (p.line i).cps.toList, 32 <= c := fun c hc => by
 unfold LT.line at hc
 split at hc
 . exact E4 h i c hc
 . rw [eS] at hc
   rcases ank.mp hc with hc | hc
   . rw [rQ] at hc
     have : c = 32 := anp.mp hc
     omega
   . exact E4 h i c hc
theorem Pn {p : LT} (h : jz p) : sJ p.text "\n" = true /\ splitM p.text "\n" = p.lines := by
 unfold LT.text
 rw [LV]
 refine EW (c := 10) (l := p.lines) (show 2 <= 4 by decide) fun w hw z => ?_
 have : 32 <= 10 := by
   simp only [LT.lines, ane, ano, an3] at hw
   rcases hw with rfl | rfl | rfl | rfl <;> exact Pk h _ 10 z
 omega
theorem Hw (p : LT) (i : Nat) : (p.rest i).cps.toList.head? ≠ some 32 := by
 have lit : ∀ w ∈ (["box", "leaf", "in", "out"] : List Str), ∃ c l, w.cps.toList = c :: l /\ c ≠ 32 := by
   intro w hw
   simp only [ane, ano, an3] at hw
   rcases hw with rfl | rfl | rfl | rfl
   . exact ⟨98, [111, 120], by decide +kernel, by decide⟩
   . exact ⟨108, [101, 97, 102], by decide +kernel, by decide⟩
   . exact ⟨105, [110], by decide +kernel, by decide⟩
   . exact ⟨111, [117, 116], by decide +kernel, by decide⟩
 have go : ∀ (w e : Str) (l : List Str), w ∈ (["box", "leaf", "in", "out"] : List Str) -> (Str.join " " (w :: e :: l)).cps.toList.head? ≠ some 32 := fun w e l hw => by
   obtain ⟨c, r, h1, h2⟩ := lit w hw
   rw [rQ, pI, h1]
   exact fun z => h2 (anA z)
 match i with
 | 0 => exact go _ _ _ (by decide +kernel)
 | 1 => exact go _ _ _ (by decide +kernel)
 | 2 => exact go _ _ _ (by decide +kernel)
 | _ + 3 => exact go _ _ _ (by decide +kernel)
theorem Pp (p : LT) (i : Nat) : Txt.lstripChars (p.line i) " " = p.rest i := by
 unfold LT.line
 split
 . exact Pg (Hw p i)
 . exact U3 (Hw p i)
theorem LW (p : LT) {i : Nat} (hi : i < 4) : ((p.line i).length : Int) - ((p.rest i).length : Int) = (LT.bl i : Nat) := by
 have e1 : (" " : Str).length = 1 := rfl
 have e : ∀ x : Str, (" " ++ x).length = 1 + x.length := fun x => by rw [str_len, e1]
 have f0 : p.line 0 = p.rest 0 := anu (by decide)
 have f1 : p.line 1 = p.rest 1 := anu (by decide)
 have f2 : p.line 2 = " " ++ p.rest 2 := anm (by decide)
 have f3 : p.line 3 = " " ++ p.rest 3 := anm (by decide)
 have b0 : LT.bl 0 = 0 := rfl
 have b1 : LT.bl 1 = 0 := rfl
 have b2 : LT.bl 2 = 1 := rfl
 have b3 : LT.bl 3 = 1 := rfl
 match i, hi with
 | 0, _ =>
   rw [f0, b0]
   omega
 | 1, _ =>
   rw [f1, b1]
   omega
 | 2, _ =>
   rw [f2, e, b2]
   omega
 | 3, _ =>
   rw [f3, e, b3]
   omega
theorem Pq {p : LT} (h : jz p) : p.tt.length <= 53 := by
 have h1 := (cF h.n0).2.1
 have h2 := kZ h.c
 have h3 := kZ (i := (p.c.natAbs : Int)) (by rw [aoC]; exact h.c)
 unfold LT.tt KG
 split
 . omega
 split
 . omega
 . rw [str_len, str_len]
   have := yU p.c
   omega
theorem afd {p : LT} (h : jz p) (i : Nat) : ∀ w ∈ p.ws i, w.length <= 53 := by
 have lit : ∀ w ∈ (["box", "leaf", "in", "put", "out", "call"] : List Str), w.length <= 53 := by decide +kernel
 have h1 := (cF h.n0).2.1
 have h2 := (cF h.md).2.1
 have h3 := (cF h.n2).2.1
 have h4 := kZ h.f
 have h5 := Pq h
 intro w hw
 match i with
 | 0 =>
   simp only [LT.ws, ane, ano, an3] at hw
   rcases hw with rfl | rfl | rfl
   . exact lit _ (by decide +kernel)
   . omega
   . omega
 | 1 =>
   simp only [LT.ws, ane, ano, an3] at hw
   rcases hw with rfl | rfl
   . exact lit _ (by decide +kernel)
   . omega
 | 2 =>
   simp only [LT.ws, ane, ano, an3] at hw
   rcases hw with rfl | rfl | rfl | rfl
   . exact lit _ (by decide +kernel)
   . exact lit _ (by decide +kernel)
   . omega
   . omega
 | _ + 3 =>
   simp only [LT.ws, ane, ano, an3] at hw
   rcases hw with rfl | rfl | rfl
   . exact lit _ (by decide +kernel)
   . exact lit _ (by decide +kernel)
   . omega
theorem E5 {c : Nat} {n : Nat} : ∀ {l : List Str}, (∀ w ∈ l, w.length <= n) -> (Str.join ⟨#[c]⟩ l).length <= l.length * (n + 1)
 | [], _ => anE _
 | [a], h => by
   have := h a anc
   show a.length <= 1 * (n + 1)
   omega
 | a :: e :: l, h => by
   have h1 := h a anc
   have h2 := E5 (c := c) (l := e :: l) fun w hw => h w (anj _ hw)
   have e3 : (Str.join ⟨#[c]⟩ (a :: e :: l)).length = a.length + 1 + (Str.join ⟨#[c]⟩ (e :: l)).length := by
     show ((a ++ (⟨#[c]⟩ : Str)) ++ Str.join ⟨#[c]⟩ (e :: l)).length = _
     rw [str_len, str_len]
     rfl
   rw [e3, anG, Nat.succ_mul]
   omega
theorem S8 (p : LT) (i : Nat) : (p.ws i).length <= 4 := by
 match i with
 | 0 => exact anb rfl
 | 1 => exact anb rfl
 | 2 => exact anb rfl
 | _ + 3 => exact anb rfl
theorem LX {p : LT} (h : jz p) (i : Nat) : (p.rest i).length <= 216 := by
 have := E5 (c := 32) (afd h i)
 rw [← rQ] at this
 exact anW this (aoV 54 (S8 p i))
theorem LY {p : LT} (h : jz p) (i : Nat) : (p.line i).length <= 217 := by
 have := LX h i
 unfold LT.line
 split
 . omega
 . rw [str_len]
   have e : (" " : Str).length = 1 := rfl
   omega
theorem text_len {p : LT} (h : jz p) : p.text.length <= 872 := by
 have := E5 (c := 10) (n := 217) (l := p.lines) fun w hw => by
   simp only [LT.lines, ane, ano, an3] at hw
   rcases hw with rfl | rfl | rfl | rfl <;> exact LY h _
 rw [← LV] at this
 exact this
theorem sz {n : Nat} (h : n <= 10000) : n <= sizeLine := by rw [anF]; omega
theorem adj {x : Str} (h : gV x = true) : ¬ x = "" := fun z => by
 subst z
 exact absurd (cF h).1 (by decide)
theorem afe {p : LT} (h : jz p) : Hu p.tt = decide (p.a = -1) := by
 unfold LT.tt KG
 by_cases ha : p.a = -1
 . rw [anu ha, anz ha]
   exact Yv h.c
 . rw [anm ha, anx ha]
   obtain ⟨c, l, e, h1, h2⟩ := abH h.n0
   split
   . exact EY e h1
   . have e2 : (p.n0 ++ yT p.c ++ sI (p.c.natAbs : Int)).cps.toList = c :: (l ++ ((yT p.c).cps.toList ++ (sI (p.c.natAbs : Int)).cps.toList)) := by
       rw [eS, eS, e, ani, anK]
     exact EY e2 h1
theorem S9 {x : Str} (h : gV x = true) {c : Nat} (hc : c < 48) : c ∉ x.cps.toList := fun z => by
 have := (cF h).2.2.2 c z
 omega
theorem afg (m : Nat) {c : Nat} (hc : c < 48) : c ∉ (sI (m : Int)).cps.toList := fun z => by
 have := xG m c z
 omega
theorem Tc (p : LT) (i : Nat) : Ed ((p.ws i).map L3.D.str) 0 = some (.str (LT.word i)) := by
 match i with
 | 0 => rfl
 | 1 => rfl
 | 2 => rfl
 | _ + 3 => rfl
theorem Pr (p : LT) (i : Nat) : (p.ct i).pC = true := by
 match i with
 | 0 => rfl
 | 1 => rfl
 | 2 => rfl
 | _ + 3 => rfl
theorem A1 (p : LT) (i : Nat) : (p.cn i).pC = true := by
 match i with
 | 0 => rfl
 | 1 => rfl
 | 2 => rfl
 | _ + 3 => rfl
theorem afh (p : LT) (i : Nat) : (p.fm i).pC = true := by
 show (true && (true && (true && ((p.ct i).pC && true)))) = true
 rw [Pr]
 rfl
theorem afi (p : LT) (i : Nat) : (p.nf i).pC = true := by
 show (true && (true && (true && ((p.cn i).pC && true)))) = true
 rw [A1]
 rfl
noncomputable def LT.dw (p : LT) (b : Bool) : List Str := if b then ["put", p.n0, p.tt] else ["call", p.n2]
noncomputable def LT.rw (c : Nat -> L3.D) (i : Nat) : L3.D := .tup [.int ((i : Nat) + 1 : Int), .int (LT.bl i), .str (LT.word i), c i]
noncomputable def LT.rws (c : Nat -> L3.D) : List L3.D := [LT.rw c 0, LT.rw c 1, LT.rw c 2, LT.rw c 3]
theorem Td (c : Nat -> L3.D) : (LT.rws c).filter (fun d => decide ((eB d 2).toS = "box")) = [LT.rw c 0] := by
 unfold LT.rws
 rw [apa (p := fun d => decide ((eB d 2).toS = "box")) (a := LT.rw c 0) (show decide (LT.word 0 = "box") = true by decide +kernel),
   aof (p := fun d => decide ((eB d 2).toS = "box")) (a := LT.rw c 1) (show ¬ decide (LT.word 1 = "box") = true by decide +kernel),
   aof (p := fun d => decide ((eB d 2).toS = "box")) (a := LT.rw c 2) (show ¬ decide (LT.word 2 = "box") = true by decide +kernel),
   aof (p := fun d => decide ((eB d 2).toS = "box")) (a := LT.rw c 3) (show ¬ decide (LT.word 3 = "box") = true by decide +kernel)]
 rfl
noncomputable def nQ : List Str := ["leaf", "one", "all"]
theorem LZ (c : Nat -> L3.D) : (LT.rws c).filter (fun d => decide ((eB d 2).toS ∈ nQ)) = [LT.rw c 1] := by
 unfold LT.rws
 rw [aof (p := fun d => decide ((eB d 2).toS ∈ nQ)) (a := LT.rw c 0) (show ¬ decide (LT.word 0 ∈ nQ) = true by decide +kernel),
   apa (p := fun d => decide ((eB d 2).toS ∈ nQ)) (a := LT.rw c 1) (show decide (LT.word 1 ∈ nQ) = true by decide +kernel),
   aof (p := fun d => decide ((eB d 2).toS ∈ nQ)) (a := LT.rw c 2) (show ¬ decide (LT.word 2 ∈ nQ) = true by decide +kernel),
   aof (p := fun d => decide ((eB d 2).toS ∈ nQ)) (a := LT.rw c 3) (show ¬ decide (LT.word 3 ∈ nQ) = true by decide +kernel)]
 rfl
theorem E6 {c : Nat -> L3.D} {d : L3.D} (h : d ∈ LT.rws c) : ∃ i, i < 4 /\ d = LT.rw c i := by
 simp only [LT.rws, ane, ano, an3] at h
 rcases h with rfl | rfl | rfl | rfl
 . exact ⟨0, by decide, rfl⟩
 . exact ⟨1, by decide, rfl⟩
 . exact ⟨2, by decide, rfl⟩
 . exact ⟨3, by decide, rfl⟩
theorem Yz {i : Nat} (hi : i < 4) (z : LT.word i = "box") : i = 0 := by
 match i, hi with
 | 0, _ => rfl
 | 1, _ => exact absurd z (by decide +kernel)
 | 2, _ => exact absurd z (by decide +kernel)
 | 3, _ => exact absurd z (by decide +kernel)
theorem U4 {i : Nat} (hi : i < 4) (z : LT.word i ∈ nQ) : i = 1 := by
 match i, hi with
 | 0, _ => exact absurd z (by decide +kernel)
 | 1, _ => rfl
 | 2, _ => exact absurd z (by decide +kernel)
 | 3, _ => exact absurd z (by decide +kernel)
theorem adk (p : LT) (i : Nat) : (T.lst [T.sh (.tup [p.cn i])]).clean = true := by
 show ((p.cn i).pC && true && true) = true
 rw [A1]
 rfl
noncomputable def LT.ch (p : LT) : CH := ⟨[(p.n0, p.f)], [p.md], ["leaf"], [-1], [-1], [[p.cn 2]], [[p.cn 3]], []⟩
theorem lt_str {x : Str} (h : gV x = true) : PyData.strOk x = true := by
 have h := (cF h).2.2.2
 unfold PyData.strOk
 rw [← Array.all_toList, aoi]
 intro c hc
 have := h c hc
 refine anz ?_
 omega
theorem Te : Hq [-1] ((0 : Nat) : Int) = [] := by decide +kernel
theorem abK {p : LT} (h : jz p) : xD 1 (.tup [.int p.a, .int p.c]) := ⟨p.a, p.c, rfl, by
 have := h.a
 omega, h.c⟩
theorem YB {p : LT} (h : jz p) : LJ (xE 1) (p.cn 2) := by
 refine ⟨rfl, fun n => ?_, fun n => ?_, .inr (.inl ⟨0, _, rfl, by decide, abK h⟩)⟩
 . refine ⟨by show 3 <= 1000; decide, fun d hd => ?_⟩
   simp only [ane, ano, an3] at hd
   rcases hd with rfl | rfl | rfl
   . trivial
   . trivial
   . refine ⟨by show 2 <= 1000; decide, fun d hd => ?_⟩
     simp only [ane, ano, an3] at hd
     rcases hd with rfl | rfl <;> cases n <;> trivial
 . refine .tup fun d hd => ?_
   simp only [ane, ano, an3] at hd
   rcases hd with rfl | rfl | rfl
   . exact .str _ _ (by decide +kernel)
   . exact .int _ _
   . refine .tup fun d hd => ?_
     simp only [ane, ano, an3] at hd
     rcases hd with rfl | rfl <;> exact .int _ _
theorem Tf {p : LT} (h : jz p) : LJ (xE 1) (p.cn 3) := by
 have hl := (cF h.n2).2.1
 refine ⟨rfl, fun n => ?_, fun n => ?_, .inl ⟨p.n2, rfl, by omega⟩⟩
 . refine ⟨by show 2 <= 1000; decide, fun d hd => ?_⟩
   simp only [ane, ano, an3] at hd
   rcases hd with rfl | rfl <;> trivial
 . refine .tup fun d hd => ?_
   simp only [ane, ano, an3] at hd
   rcases hd with rfl | rfl
   . exact .str _ _ (by decide +kernel)
   . exact .str _ _ (lt_str h.n2)
theorem afj {p : LT} (h : jz p) : oq p.ch := by
 have h1 := (cF h.n0).2.1
 have h2 := (cF h.md).2.1
 refine ⟨rfl, rfl, rfl, rfl, anb rfl, anb rfl, LD, fun x hx => ?_, anb rfl, fun q hq => ?_, fun x hx => ?_, fun m hm => ?_, ⟨anb rfl, anb rfl, rfl, fun l hl => ?_, fun l hl => ?_, anE _, fun w hw => by (cases hw)⟩⟩
 . cases anp.mp hx
   omega
 . cases anp.mp hq
   exact ⟨by show p.n0.length <= 21; omega, h.f⟩
 . cases anp.mp hx
   decide +kernel
 . have hm : m < 1 := hm
   have : m = 0 := by omega
   subst this
   exact ⟨fun z => absurd z (show ¬ ("leaf" : Str) = "one" by decide +kernel), fun _ => rfl⟩
 . cases anp.mp hl
   exact ⟨by show 1 <= 40; decide, fun d hd => by cases anp.mp hd; exact YB h⟩
 . cases anp.mp hl
   exact ⟨by show 1 <= 40; decide, fun d hd => by cases anp.mp hd; exact Tf h⟩
theorem ahg {p : LT} (h : jz p) : Sm 8 p.ch.p := by
 refine ⟨by show 8 <= 1000; decide, fun d hd => ?_⟩
 simp only [ane, ano, an3] at hd
 rcases hd with rfl | rfl | rfl | rfl | rfl | rfl | rfl | rfl
 . refine ⟨by show 1 <= 1000; decide, fun d hd => ?_⟩
   cases anp.mp hd
   refine ⟨by show 2 <= 1000; decide, fun d hd => ?_⟩
   simp only [ane, ano, an3] at hd
   rcases hd with rfl | rfl <;> trivial
 . exact SM 6 [p.md] (anb rfl)
 . exact SM 6 ["leaf"] (by decide)
 . exact SN 6 [-1] (by decide)
 . exact SN 6 [-1] (by decide)
 . refine ⟨by show 1 <= 1000; decide, fun d hd => ?_⟩
   cases anp.mp hd
   refine ⟨by show 1 <= 1000; decide, fun d hd => ?_⟩
   cases anp.mp hd
   exact (YB h).sm 3
 . refine ⟨by show 1 <= 1000; decide, fun d hd => ?_⟩
   cases anp.mp hd
   refine ⟨by show 1 <= 1000; decide, fun d hd => ?_⟩
   cases anp.mp hd
   exact (Tf h).sm 3
 . exact ⟨anE _, fun d hd => by cases hd⟩
theorem ahh : ae7 ["leaf"] [-1] [-1] := by
 refine ⟨⟨LD, fun k hk => ?_⟩, by decide, by decide, fun m h0 h1 => ?_, rfl, rfl, fun m hm => ?_, fun m hm => ?_⟩
 . have : k + 1 < 1 := hk
   omega
 . have h1 : m < 1 := h1
   have : m = ((0 : Nat) : Int) := by omega
   rw [this, Te]
   decide
 . have hm : m < 1 := hm
   have : m = 0 := by omega
   subst this
   decide +kernel
 . have hm : m < 1 := hm
   have : m = 0 := by omega
   subst this
   exact .inl ⟨by decide +kernel, rfl⟩
theorem Pu (p : LT) : xF p.ch 0 = Str.empty := by
 unfold xF
 show Txt.mul " " ((Hq [-1] ((0 : Nat) : Int)).length : Nat) = Str.empty
 rw [Te]
 decide +kernel
theorem afk (p : LT) (h : jz p) : jy [p.n0] (.tup [.int p.a, .int p.c]) = p.tt := by
 rw [yV]
 unfold LT.tt KG
 by_cases ha : p.a = -1
 . rw [anu ha, anu ha]
 . have : p.a = 0 := h.a.resolve_left ha
   rw [anm ha, anm ha, this]
   rfl
theorem afl {p : LT} (h : jz p) : rP p.ch 1 = p.lines := by
 have e0 : Pb (p.n0, p.f) = p.line 0 := pH (by
   show (("box " : Str) ++ p.n0 ++ " " ++ sI p.f).cps.toList = (("box" : Str) ++ " " ++ (p.n0 ++ " " ++ sI p.f)).cps.toList
   have l1 : ("box " : Str).cps.toList = ("box" : Str).cps.toList ++ (" " : Str).cps.toList := by decide +kernel
   simp only [eS, l1, ani])
 have e1 : xF p.ch 0 ++ Pa p.ch 0 = p.line 1 := by
   rw [Pu]
   show Str.empty ++ jn "leaf" (p.md :: if ("leaf" : Str) = "one" then _ else []) = ("leaf" : Str) ++ " " ++ p.md
   rw [anm (by decide +kernel), Str.empty_append]
   rfl
 have e2 : xF p.ch 0 ++ " " ++ ("in " ++ dG [p.n0] (p.cn 2)) = p.line 2 := by
   rw [Pu, Str.empty_append]
   show " " ++ ("in " ++ dG [p.n0] (.tup [.str "put", .int 0, .tup [.int p.a, .int p.c]])) = _
   rw [Ht, afk p h]
   refine pH ?_
   show ((" " : Str) ++ ("in " ++ (("put" : Str) ++ " " ++ p.n0 ++ " " ++ p.tt))).cps.toList = ((" " : Str) ++ (("in" : Str) ++ " " ++ (("put" : Str) ++ " " ++ (p.n0 ++ " " ++ p.tt)))).cps.toList
   have l1 : ("in " : Str).cps.toList = ("in" : Str).cps.toList ++ (" " : Str).cps.toList := by decide +kernel
   simp only [eS, l1, ani]
 have e3 : xF p.ch 0 ++ " " ++ ("out " ++ dG [p.n0] (p.cn 3)) = p.line 3 := by
   rw [Pu, Str.empty_append]
   show " " ++ ("out " ++ dG [p.n0] (.tup [.str "call", .str p.n2])) = _
   rw [ER]
   refine pH ?_
   show ((" " : Str) ++ ("out " ++ (("call " : Str) ++ p.n2))).cps.toList = ((" " : Str) ++ (("out" : Str) ++ " " ++ (("call" : Str) ++ " " ++ p.n2))).cps.toList
   have l1 : ("out " : Str).cps.toList = ("out" : Str).cps.toList ++ (" " : Str).cps.toList := by decide +kernel
   have l2 : ("call " : Str).cps.toList = ("call" : Str).cps.toList ++ (" " : Str).cps.toList := by decide +kernel
   simp only [eS, l1, l2, ani]
 have e : rP p.ch 1 = [Pb (p.n0, p.f), xF p.ch 0 ++ Pa p.ch 0, xF p.ch 0 ++ " " ++ ("in " ++ dG [p.n0] (p.cn 2)), xF p.ch 0 ++ " " ++ ("out " ++ dG [p.n0] (p.cn 3))] := rfl
 rw [e, e0, e1, e2, e3]
 rfl
theorem abL {p : LT} (h : jz p) : Txt.join "\n" (rP p.ch p.ch.es.length) = p.text := by
 show Txt.join "\n" (rP p.ch 1) = _
 rw [afl h]
 exact StrLaws.glued_eq_join _ _
theorem abM (p : LT) : ("box " : Str) ++ p.n0 ++ " " ++ sI p.f ++ "\nleaf " ++ p.md ++ "\n in put " ++ p.n0 ++ " " ++ p.tt ++ "\n out call " ++ p.n2 = p.text := by
 refine pH ?_
 show _ = ((("box" : Str) ++ " " ++ (p.n0 ++ " " ++ sI p.f)) ++ "\n" ++ ((("leaf" : Str) ++ " " ++ p.md) ++ "\n" ++ (((" " : Str) ++ (("in" : Str) ++ " " ++ (("put" : Str) ++ " " ++ (p.n0 ++ " " ++ p.tt)))) ++ "\n" ++ ((" " : Str) ++ (("out" : Str) ++ " " ++ (("call" : Str) ++ " " ++ p.n2)))))).cps.toList
 have l1 : ("box " : Str).cps.toList = ("box" : Str).cps.toList ++ (" " : Str).cps.toList := by decide +kernel
 have l2 : ("\nleaf " : Str).cps.toList = ("\n" : Str).cps.toList ++ (("leaf" : Str).cps.toList ++ (" " : Str).cps.toList) := by decide +kernel
 have l3 : ("\n in put " : Str).cps.toList = ("\n" : Str).cps.toList ++ ((" " : Str).cps.toList ++ (("in" : Str).cps.toList ++ ((" " : Str).cps.toList ++ (("put" : Str).cps.toList ++ (" " : Str).cps.toList)))) := by decide +kernel
 have l4 : ("\n out call " : Str).cps.toList = ("\n" : Str).cps.toList ++ ((" " : Str).cps.toList ++ (("out" : Str).cps.toList ++ ((" " : Str).cps.toList ++ (("call" : Str).cps.toList ++ (" " : Str).cps.toList)))) := by decide +kernel
 simp only [eS, l1, l2, l3, l4, ani]
seal L3.gU L3.ZX L3.bZ L3.cy L3.uG L3.OJ L3.BAv
noncomputable abbrev vZ : Stmt := top 93
noncomputable abbrev v5 : Type := List Int × Int
noncomputable def nA : v5 -> List L3.D := fun (ns, j) => [.lst (ns.map .int), .int j]
noncomputable def nB : v5 -> Prop := fun (ns, j) => 0 <= j
noncomputable def nE : v5 -> T := fun (ns, j) => (.sh (.int (cB ns j)) : T)
structure U5 (X : Cx) (CL : Str -> Addr) : Prop extends bJ X where
 iT : Ln X 0 "script"
 WC : Ln X 1 "k"
 cC : Gl X "len"
 cD : X.mg "len" = none
theorem U6 {X : Cx} {CL : Str -> Addr} {b : Bx} (E : U5 X CL) {bF : v5} (h : nB bF) :
   av X CL b vZ ["script", "k"] (nA bF) (nE bF) := by
 obtain ⟨ns, j⟩ := bF
 dsimp only [av, nB, nA, nE] at h ⊢
 refine aU (acU (aA E.WC) (ah (yK E.cD (aA E.iT) E.cC))).1 (fun hp => ?_) (fun hp => ?_)
 . have e : j < ns.length := by simpa using of_decide_eq_true hp
   refine aP (aV (bO (aA E.iT) (aA E.WC) (uS h e)) rfl) ?_
   show T.sh _ = T.sh (.int (cB ns j))
   rw [cB, anu e]
 . have e : ¬ j < ns.length := by simpa using of_decide_eq_false hp
   refine ak (aP ao ?_)
   show T.sh _ = T.sh (.int (cB ns j))
   rw [cB, anm e]
theorem xH : kP (aj vZ) ([("script", au), ("k", au), ("len", aq)]) = true := by decide +kernel
theorem Pw : aJ ["script", "k"] ["script", "k"] (aj vZ) := aO
noncomputable abbrev v7 : Stmt := top 94
noncomputable abbrev v8 : Type := Int × List Str
noncomputable def qc : v8 -> List L3.D := fun (m, us) => [.int m, .lst (us.map .str)]
noncomputable def nF : v8 -> Prop := fun (m, us) => 0 <= m /\ m < 100000000000000000000 /\ us.length <= 100
noncomputable def qd : v8 -> T := fun (m, us) => (.sh (.str (uh m us)) : T)
structure U7 (X : Cx) (CL : Str -> Addr) : Prop extends bJ X where
 rR : Ln X 0 "number"
 YC : Ln X 1 "used"
 A2 : Ln X 2 "letters"
 aZ : Ln X 3 "words"
 kg : Ln X 4 "more"
 b7 : Ln X 5 "name"
 sO : Ln X 6 "rest"
 qe : Gl X "range"
 cC : Gl X "len"
 qf : X.mg "range" = none
 cD : X.mg "len" = none
theorem U8 {X : Cx} {CL : Str -> Addr} {b : Bx} (E : U7 X CL) {bF : v8} (h : nF bF) :
   av X CL b v7 ["number", "used", "letters", "words", "more", "name", "rest"] (qc bF) (qd bF) := by
 obtain ⟨m, us⟩ := bF
 dsimp only [av, nF, qc, qd] at h ⊢
 obtain ⟨h0, h1, h2⟩ := h
 have ahi : GP.length = 36 := by decide +kernel
 refine aQ E.g E.A2 aB ?_
 refine aQ E.g E.aZ (EC (l := w19) (ah aB) (ah aB) (by decide +kernel) (by rw [anF]; decide +kernel) (by decide +kernel) (aE rfl)) ?_
 refine lX E.g E.kg (fun j δ => (∃ o5 o6 o7, δ = [some (.sh (.int m)), some (.sh (.lst (us.map .str))), some (.sh (.str "abcdefghijklmnopqrstuvwxyz0123456789")), some (.lst ((w19.map .str).map T.sh)), o5, o6, o7]) /\ ∀ i, i < j -> okB m us i = false)
   (yL E.qf (ah (xq (ah (fc (anh ..) E.cD (aA E.YC) E.cC)) (ah ao))) (by omega) E.qe) ⟨⟨_, _, _, rfl⟩, fun i hi => absurd hi (Nat.not_lt_zero _)⟩ (fun j δ ⟨⟨_, _, _, e⟩, _⟩ => by subst e; exact anb rfl) ?turn ?fin
 case turn =>
   rintro j d δ hj ⟨⟨o5, o6, o7, rfl⟩, Wz⟩
   obtain ⟨rfl, Jg⟩ := uT hj
   rw [Int.zero_add]
   have Jg : j < us.length + 20 := by omega
   have b1 := aoe (m + j) (show (26 : Int) ≠ 0 by decide)
   have b2 := an8 (m + j) (show (0 : Int) < 26 by decide)
   refine aQ E.g E.b7 (aK (Ip (aA E.A2) (ah (uO (ah (xq (aA E.rR) (aA E.kg))) (ah ao) (by decide))) (by rw [anF]; decide +kernel) (by rw [X6]; exact IB 0 b1 (by rw [ahi]; omega))) (t2 := .sh (.str (Lx ((m + j) % 26)))) rfl) ?_
   refine aQ E.g E.sO (Ik (ah (xq (aA E.rR) (aA E.kg))) (ah ao) ⟨by decide, by decide⟩) ?_
   refine Ss E.g (fun n δ => ∃ (r : Int) (x : Str), δ = [some (.sh (.int m)), some (.sh (.lst (us.map .str))), some (.sh (.str "abcdefghijklmnopqrstuvwxyz0123456789")), some (.lst ((w19.map .str).map T.sh)), some (.sh (.int j)), some (.sh (.str x)), some (.sh (.int r))] /\ 0 <= r /\ r < 36 ^ n /\ x.length + n <= 21 /\ tlF n r x = uW (m + j)) 20
     ⟨_, _, rfl, by omega, by have e : (36 : Int) ^ 20 = 13367494538843734067838845976576 := by decide +kernel
                              omega, anq _, rfl⟩ ?_
   rintro n δ ⟨r, x, rfl, r0, r1, x1, hx⟩
   refine ⟨_, _, (Em (aA E.sO) (ah ao)).1, fun hp => ?_, fun hp => ?_⟩
   . have hp : 0 < r := ang hp
     cases n with
     | zero =>
       have : r < 1 := r1
       omega
     | succ n =>
       have c1 := aoe r (show (36 : Int) ≠ 0 by decide)
       have c2 := an8 r (show (0 : Int) < 36 by decide)
       refine aQ E.g E.b7 (cZ (aA E.b7) (ah (aK (Ip (aA E.A2) (ah (uO (aA E.sO) (ah ao) (by decide))) (by rw [anF]; decide +kernel) (by rw [X6]; exact IB 0 c1 (by rw [ahi]; omega))) (t2 := .sh (.str (Lx (r % 36)))) rfl)) (by rw [anF]; show x.length + 1 <= _; omega)) ?_
       refine aQ E.g E.sO (Ik (aA E.sO) (ah ao) ⟨by decide, by decide⟩) ?_
       refine ak ⟨n, aoS _, r / 36, x ++ Lx (r % 36), rfl, Int.ediv_nonneg r0 (by decide), Int.ediv_lt_of_lt_mul (by decide) (by rw [← Int.pow_succ]; exact r1), ?_, ?_⟩
       . rw [str_len]
         show x.length + 1 + n <= 21
         omega
       . rw [← hx, tlF, anu hp]
   . have hp : ¬ 0 < r := anr hp
     rw [aby n x hp] at hx
     subst hx
     refine aU (kQ (kR (DP (aA E.b7) (aA E.YC) rfl rfl).1 (fun hb => (yJ (DP (aA E.b7) (vL E.aZ.1) rfl rfl).1)))) (fun hq => ?_) (fun hq => ak (ak ⟨⟨_, _, _, rfl⟩, fun i hi => ?_⟩))
     . refine aP (v_ E.b7.1) ?_
       show T.sh _ = T.sh (.str (uh m us))
       rw [X8 Jg Wz hq]
     . rcases Nat.lt_succ_iff_lt_or_eq.mp hi with h | rfl
       . exact Wz i h
       . exact hq
 case fin =>
   rintro δ ⟨⟨o5, o6, o7, rfl⟩, Wz⟩
   refine aP aB ?_
   have e : (jA 0 ((us.length : Int) + 20).toNat).length = us.length + 20 := by
     rw [jA, anh, aod]
     omega
   rw [e] at Wz
   show T.sh _ = T.sh (.str (uh m us))
   rw [X9 Wz]
theorem gG : kP (aj v7) ([("number", au), ("used", au), ("letters", au), ("words", au), ("more", au), ("name", au), ("rest", au), ("range", aq), ("len", aq)]) = true := by decide +kernel
theorem Px : aJ ["number", "used", "letters", "words", "more", "name", "rest"] ["number", "used"] (aj v7) := aO
noncomputable abbrev sP : Stmt := top 95
noncomputable abbrev sQ : Type := List Int × Nat
noncomputable def ou : sQ -> List L3.D := fun (s, n) => [.lst (s.map .int), .int n]
noncomputable def oz : sQ -> Prop := fun (s, n) => n <= 100
noncomputable def oA : sQ -> T := fun (s, n) => (.lst (((Yb s n).map .str).map T.sh) : T)
structure Py (X : Cx) (CL : Str -> Addr) : Prop extends bJ X where
 iT : Ln X 0 "script"
 pJ : Ln X 1 "many"
 YD : Ln X 2 "base"
 YF : Ln X 3 "step"
 bf : Ln X 4 "found"
 WC : Ln X 5 "k"
 eF : Gl X "_law_cell_at"
 qe : Gl X "range"
 E7 : Gl X "_law_name_by"
 mw : Fc X CL "_law_cell_at" 1 2 nA nB nE
 qf : X.mg "range" = none
 U9 : Fc X CL "_law_name_by" 1 2 qc nF qd
theorem Pz {X : Cx} {CL : Str -> Addr} {b : Bx} (E : Py X CL) {bF : sQ} (h : oz bF) :
   av X CL b sP ["script", "many", "base", "step", "found", "k"] (ou bF) (oA bF) := by
 obtain ⟨s, n⟩ := bF
 dsimp only [av, oz, ou, oA] at h ⊢
 have e0 := aoe (cB s 1) (show (5 : Int) ≠ 0 by decide)
 have e1 := an8 (cB s 1) (show (0 : Int) < 5 by decide)
 have b0 := aoe (cB s 0) (show (26 * 36 ^ (10 : Int).toNat : Int) ≠ 0 by decide +kernel)
 have b1 := an8 (cB s 0) (show (0 : Int) < 26 * 36 ^ (10 : Int).toNat by decide +kernel)
 have b2 : (26 * 36 ^ (10 : Int).toNat : Int) <= 100000000000000000 := by decide +kernel
 have st := LC s
 refine aQ E.g E.YD (uO (ah (c_ ((s, 0)) E.mw E.eF (ai (aA E.iT) (ai (ah ao) aC)) (show (0 : Int) <= 0 by omega) rfl)) (ah (Xm (ah ao) (ah (Il (ah ao) (ah ao) ⟨by decide, by decide, by decide⟩)) (.inl ⟨by decide, by decide⟩))) (by decide +kernel)) ?_
 refine aQ E.g E.YF (aK (aV (bO (ds := ([1, 26, 936, 33696, 1213056] : List Int).map .int) (dz (p6 (Sz rfl) (aE rfl))) (ah (uO (ah (c_ ((s, 1)) E.mw E.eF (ai (aA E.iT) (ai (ah ao) aC)) (show (0 : Int) <= 1 by omega) rfl)) (ah ao) (by decide))) (uS e0 e1)) rfl) (t2 := .sh (.int (EL s))) rfl) ?_
 unfold Yb
 generalize cB s 0 % (26 * 36 ^ (10 : Int).toNat) = c at b0 b1 ⊢
 generalize EL s = sp at st ⊢
 refine aQ E.g E.bf (mh cL (anE _)) ?_
 refine lX E.g E.WC (fun j δ => ∃ o, δ = [some (.sh (.lst (s.map .int))), some (.sh (.int n)), some (.sh (.int c)), some (.sh (.int sp)), some (.lst (((Cw c sp j).map .str).map T.sh)), o])
   (yL E.qf (aA E.pJ) (by omega) E.qe) ⟨_, rfl⟩ (fun j δ ⟨_, e⟩ => by subst e; exact anb rfl) ?turn ?fin
 case turn =>
   rintro j d δ hj ⟨o, rfl⟩
   obtain ⟨rfl, Jg⟩ := uT hj
   rw [Int.zero_add]
   have hnl := EK c sp j
   have hk : 0 <= (j : Int) * sp /\ (j : Int) * sp <= 1000 * 1213056 := ⟨Int.mul_nonneg (by omega) st.1, Int.mul_le_mul (by omega) st.2 st.1 (by decide)⟩
   have en : ((Cw c sp j).map L3.D.str).map T.sh ++ [T.sh (.str (uh (c + j * sp) (Cw c sp j)))] = ((Cw c sp (j + 1)).map L3.D.str).map T.sh := by
     rw [Cw, anC, anC]
     rfl
   refine ug E.bf.1 rfl (aK (c_ ((c + j * sp, Cw c sp j)) E.U9 E.E7 (ai (ah (xq (aA E.YD) (ah (Xm (aA E.WC) (aA E.YF) (.inl ⟨by omega, by omega⟩))))) (ai (vL E.bf.1) aC)) (by dsimp only [nF]; exact (⟨by omega, by omega, by omega⟩)) rfl) (t2 := .sh (.str (uh (c + j * sp) (Cw c sp j)))) rfl) rfl (by rw [List.length_map, List.length_map]; omega) (ak ?_)
   rw [en]
   exact ⟨_, rfl⟩
 case fin =>
   rintro δ ⟨o, rfl⟩
   have e : (jA 0 (n : Int).toNat).length = n := by
     rw [jA, anh, aod]
     omega
   rw [e]
   exact aP (vM E.bf.1) rfl
theorem fh : kP (aj sP) ([("script", au), ("many", au), ("base", au), ("step", au), ("found", au), ("k", au), ("_law_cell_at", aq), ("range", aq), ("_law_name_by", aq)]) = true := by decide +kernel
theorem L0 : aJ ["script", "many", "base", "step", "found", "k"] ["script", "many"] (aj sP) := aO
noncomputable abbrev qg : Stmt := top 96
noncomputable abbrev uY : Type := Int
noncomputable def mJ : uY -> List L3.D := fun c => [.int c]
noncomputable def mK : uY -> Prop := fun c => True
noncomputable def mL : uY -> T := fun c => (.sh (.int (Cy c)) : T)
structure L1 (X : Cx) (CL : Str -> Addr) : Prop extends bJ X where
 YG : Ln X 0 "cell"
 PB : Ln X 1 "size"
theorem L4 {X : Cx} {CL : Str -> Addr} {b : Bx} (E : L1 X CL) {c} (h : mK c) :
   av X CL b qg ["cell", "size"] (mJ c) (mL c) := by
 dsimp only [av, mK, mJ, mL] at h ⊢
 refine aQ E.g E.PB (uO (ah (Ik (aA E.YG) (ah ao) ⟨by decide, by decide⟩)) (ah (Il (ah ao) (ah ao) ⟨by decide, by decide, by decide⟩)) (by decide)) ?_
 refine aU (dO (ah (uO (aA E.YG) (ah ao) (by decide))) (ah ao)).1 (fun hp => ?_) (fun hp => ak ?_)
 . refine aP (El (ah ao) (aA E.PB)) ?_
   show T.sh _ = T.sh (.int (Cy c))
   unfold Cy
   rw [anu (ang hp)]
 . refine aP (v_ E.PB.1) ?_
   show T.sh _ = T.sh (.int (Cy c))
   unfold Cy
   rw [anm (anr hp)]
theorem yZ : kP (aj qg) ([("cell", au), ("size", au)]) = true := by decide +kernel
theorem Jh : aJ ["cell", "size"] ["cell"] (aj qg) := aO
noncomputable abbrev k6 : Stmt := top 97
noncomputable abbrev k7 : Type := Str × Int × Int
noncomputable def jb : k7 -> List L3.D := fun (n, a, c) => [.str n, .tup [.int a, .int c]]
noncomputable def gk : k7 -> Prop := fun (n, a, c) => n.length <= 100 /\ c.natAbs < 10 ^ 30
noncomputable def jc : k7 -> T := fun (n, a, c) => (.sh (.str (KG n a c)) : T)
structure E8 (X : Cx) (CL : Str -> Addr) : Prop extends bJ X where
 b7 : Ln X 0 "name"
 gn : Ln X 1 "term"
 y9 : Gl X "str"
 Hx : Gl X "int"
 ahj : Gl X "abs"
 za : X.mg "str" = none
 Hy : X.mg "int" = none
 ahk : X.mg "abs" = none
theorem E9 {X : Cx} {CL : Str -> Addr} {b : Bx} (E : E8 X CL) {bF : k7} (h : gk bF) :
   av X CL b k6 ["name", "term"] (jb bF) (jc bF) := by
 obtain ⟨n, a, c⟩ := bF
 dsimp only [av, gk, jb, jc] at h ⊢
 obtain ⟨hn, hc⟩ := h
 have hl := Ja hc
 have hkl := kZ hc
 refine aU (dO (az (aA E.gn) (ah ao) rfl) (ah (dP (ah ao)))).1 (fun hp => ?_) (fun hp => ak ?_)
 . refine aP (vW E.za E.y9 (az (aA E.gn) (ah ao) rfl) hl) ?_
   show T.sh _ = T.sh (.str (KG n a c))
   rw [KG, anu (ang hp)]
   rfl
 have hp : ¬ a = -1 := anr hp
 refine aU (dO (az (aA E.gn) (ah ao) rfl) (ah ao)).1 (fun hq => ?_) (fun hq => ak ?_)
 . refine aP (v_ E.b7.1) ?_
   show T.sh _ = T.sh (.str (KG n a c))
   rw [KG, anm hp, anu (ang hq)]
 have hq : ¬ c = 0 := anr hq
 have hl2 : (((c.natAbs : Nat) : Int)).natAbs.log2 < 1920 := by rw [aoC]; exact hl
 have hk2 : (sI ((c.natAbs : Nat) : Int)).length <= 31 := kZ (by rw [aoC]; exact hc)
 have hpm := yU c
 refine aP (cZ (δ1 := [some (.sh (.str n)), some (.sh (.tup [.int a, .int c]))]) (δ2 := [some (.sh (.str n)), some (.sh (.tup [.int a, .int c]))]) (ah (cZ (δ1 := [some (.sh (.str n)), some (.sh (.tup [.int a, .int c]))]) (aA E.b7) (ah (aK (aV (bO (ds := (["-", "+"] : List Str).map .str) (δ1 := [some (.sh (.str n)), some (.sh (.tup [.int a, .int c]))]) (dz (p6 (gF rfl) (aE rfl))) (ah (aaX E.Hy (ah (Em (az (aA E.gn) (ah ao) rfl) (ah ao)).2) E.Hx)) ?ix) rfl) (t2 := .sh (.str (yT c))) rfl)) (by rw [anF]; omega))) (ah (vW (i := ((c.natAbs : Nat) : Int)) E.za E.y9 (ah (aK (aeN (i := c) E.ahk E.ahj (az (aA E.gn) (ah ao) rfl)) (t2 := .sh (.int ((c.natAbs : Nat) : Int))) (congrArg (fun z => T.sh (.int z)) (by split <;> omega)))) hl2)) (by rw [anF, str_len]; have hk3 : (Str.ofString (toString ((c.natAbs : Nat) : Int))).length <= 31 := hk2; omega)) ?fin
 case ix =>
   unfold yT
   by_cases h0 : 0 < c
   . rw [anz h0, anu rfl, anu h0]
     rfl
   . rw [anx h0, anm ans, anm h0]
     rfl
 case fin =>
   show T.sh _ = T.sh (.str (KG n a c))
   rw [KG, anm hp, anm hq]
   rfl
theorem gW : kP (aj k6) ([("name", au), ("term", au), ("str", aq), ("int", aq), ("abs", aq)]) = true := by decide +kernel
theorem Cz : aJ ["name", "term"] ["name", "term"] (aj k6) := aO
noncomputable abbrev zb : Stmt := top 68
noncomputable abbrev Fb : Type := Str
noncomputable def sR : Fb -> List L3.D := fun x => [.lst [.str x]]
noncomputable def sS : Fb -> Prop := fun x => True
noncomputable def sU : Fb -> T := fun x => (.lZ [(.inr x, .int 0)] : T)
structure YH (X : Cx) (CL : Str -> Addr) : Prop extends bJ X where
 eU : Ln X 0 "names"
 bf : Ln X 1 "found"
 zc : Ln X 2 "place"
 b7 : Ln X 3 "name"
 c7 : Gl X "enumerate"
 c9 : X.mg "enumerate" = none
theorem YJ {X : Cx} {CL : Str -> Addr} {b : Bx} (E : YH X CL) {x} (h : sS x) :
   av X CL b zb ["names", "found", "place", "name"] (sR x) (sU x) := by
 dsimp only [av, sS, sR, sU] at h ⊢
 refine aQ E.g E.bf Sy ?_
 refine xB E.g (p7 E.g.nd E.g.calm E.zc E.b7) (fun j δ => ∃ o3 o4, δ = [some (.sh (.lst [.str x])), some (.lZ (if j = 0 then [] else [(.inr x, .int 0)])), o3, o4])
   (DQ E.c9 (v_ E.eU.1) E.c7) ⟨_, _, rfl⟩
   (fun j δ ⟨_, _, e⟩ => by subst e; intro i hi; simp only [ane, ano, an3] at hi; rcases hi with rfl | rfl <;> exact anb rfl) ?turn ?fin
 case turn =>
   rintro j d δ hj ⟨o3, o4, rfl⟩
   match j with
   | 0 =>
     cases hj
     refine ⟨_, rfl, ?_⟩
     refine SD (abq (.inr x) E.bf.1 rfl (aA E.b7) (v_ E.zc.1) rfl (anE _)) (ak ?_)
     exact ⟨_, _, rfl⟩
   | j + 1 => cases hj
 case fin =>
   rintro δ ⟨o3, o4, rfl⟩
   exact aP (vM E.bf.1) rfl
theorem rS : kP (aj zb) ([("names", au), ("found", au), ("place", au), ("name", au), ("enumerate", aq)]) = true := by decide +kernel
theorem Va : aJ ["names", "found", "place", "name"] ["names"] (aj zb) := aO
noncomputable abbrev sV : Stmt := top 74
noncomputable abbrev sW : Type := Str × Str × Int
noncomputable def jd : sW -> List L3.D := fun (x, y, r) => [.str x, .lZ [(.inr y, .int 0)], .int r]
noncomputable def je : sW -> Prop := fun (x, y, r) => x = "" \/ x = y
noncomputable def jf : sW -> T := fun (x, y, r) => (.sh (.int (if x = "" then -1 else 0)) : T)
structure PD (X : Cx) (CL : Str -> Addr) : Prop extends bJ X where
 b7 : Ln X 0 "name"
 Tg : Ln X 1 "given"
 di : Ln X 2 "row"
theorem PF {X : Cx} {CL : Str -> Addr} {b : Bx} (E : PD X CL) {bF : sW} (h : je bF) :
   av X CL b sV ["name", "given", "row"] (jd bF) (jf bF) := by
 obtain ⟨x, y, r⟩ := bF
 dsimp only [av, je, jd, jf] at h ⊢
 refine aU (bB (aA E.b7) (ah aB)).1 (fun z => ?_) (fun z => ak ?_)
 . refine aP (dP (ah ao)) ?_
   show T.sh _ = T.sh (.int (if x = "" then -1 else 0))
   rw [anu (ang z)]
 have hz : ¬ x = "" := anr z
 have hx : x = y := h.resolve_left hz
 subst hx
 have hv : yQ [((.inr x : Key), L3.D.int 0)] (.inr x) = some (.int 0) := by
   unfold yQ
   rw [List.find?_cons_of_pos (p := fun kv : Key × L3.D => decide (kv.1 = Sum.inr x)) (anz rfl)]
   rfl
 refine aU (abd (.inr x) (by exact E.u) (aA E.b7) (aA E.Tg) rfl) (fun q => ?_) (fun _ => ak ?_)
 . rw [hv] at q
   cases q
 refine aP (aV (abb (.inr x) (by exact E.u) (aA E.Tg) (aA E.b7) hv) rfl) ?_
 show T.sh _ = T.sh (.int (if x = "" then -1 else 0))
 rw [anm hz]
theorem uZ : kP (aj sV) ([("name", au), ("given", au), ("row", au)]) = true := by decide +kernel
theorem L5 : aJ ["name", "given", "row"] ["name", "given", "row"] (aj sV) := aO
noncomputable abbrev jR : Stmt := top 73
noncomputable abbrev jS : Type := LT × Int
noncomputable def iu : jS -> List L3.D := fun (p, r) => [.tup [.str p.tn, .int p.c], .lZ [(.inr p.n0, .int 0)], .int r]
noncomputable def iw : jS -> Prop := fun (p, r) => jz p
noncomputable def iy : jS -> T := fun (p, r) => (.sh (.tup [.int p.a, .int p.c]) : T)
structure CB (X : Cx) (CL : Str -> Addr) : Prop extends bJ X where
 gn : Ln X 0 "term"
 gH : Ln X 1 "boxes"
 di : Ln X 2 "row"
 kh : Gl X "place_of"
 pK : Fc X CL "place_of" 1 3 jd je jf
theorem CD {X : Cx} {CL : Str -> Addr} {b : Bx} (E : CB X CL) {bF : jS} (h : iw bF) :
   av X CL b jR ["term", "boxes", "row"] (iu bF) (iy bF) := by
 obtain ⟨p, r⟩ := bF
 dsimp only [av, iw, iu, iy] at h ⊢
 have hn : (p.tn = "" \/ p.tn = p.n0) /\ (if p.tn = "" then (-1 : Int) else 0) = p.a := by
   unfold LT.tn
   rcases h.a with e | e
   . rw [anu e, anu rfl]
     exact ⟨.inl rfl, e.symm⟩
   . rw [anm (by omega), anm (adj h.n0)]
     exact ⟨.inr rfl, e.symm⟩
 exact aP (cN (aY (aK (c_ (p.tn, p.n0, r) E.pK E.kh (ai (az (aA E.gn) (ah ao) rfl) (ai (aA E.gH) (ai (aA E.di) aC))) hn.1 rfl) (t2 := .sh (.int p.a)) (congrArg (fun z => T.sh (.int z)) hn.2)) (aY (aV (az (aA E.gn) (ah ao) rfl) rfl) cL)) (aE rfl)) rfl
theorem jg : kP (aj jR) ([("term", au), ("boxes", au), ("row", au), ("place_of", aq)]) = true := by decide +kernel
theorem A3 : aJ ["term", "boxes", "row"] ["term", "boxes", "row"] (aj jR) := aO
noncomputable abbrev jT : Stmt := top 72
noncomputable abbrev jU : Type := LT × Bool × Int
noncomputable def iz : jU -> List L3.D := fun (p, b, r) => [p.ct (if b then 2 else 3), .lZ [(.inr p.n0, .int 0)], .int r]
noncomputable def iA : jU -> Prop := fun (p, b, r) => jz p
noncomputable def iB : jU -> T := fun (p, b, r) => (.sh (p.cn (if b then 2 else 3)) : T)
structure CF (X : Cx) (CL : Str -> Addr) : Prop extends bJ X where
 cQ : Ln X 0 "deed"
 gH : Ln X 1 "boxes"
 di : Ln X 2 "row"
 kh : Gl X "place_of"
 nR : Gl X "numbered_term"
 pK : Fc X CL "place_of" 1 3 jd je jf
 CG : Fc X CL "numbered_term" 2 3 iu iw iy
theorem CJ {X : Cx} {CL : Str -> Addr} {b : Bx} (E : CF X CL) {bF : jU} (h : iA bF) :
   av X CL b jT ["deed", "boxes", "row"] (iz bF) (iB bF) := by
 obtain ⟨p, b, r⟩ := bF
 dsimp only [av, iA, iz, iB] at h ⊢
 cases b with
 | true =>
   refine aU (bB (az (aA E.cQ) (ah ao) (ay (j := 0) rfl)) (ah aB)).1 (fun _ => ?_) (fun z => absurd (anr z) (by decide +kernel))
   exact aP (cN (aY aB (aY (aK (c_ (p.n0, p.n0, r) E.pK E.kh (ai (az (aA E.cQ) (ah ao) (ay (j := 1) rfl)) (ai (aA E.gH) (ai (aA E.di) aC))) (.inr rfl) rfl) (t2 := .sh (.int 0)) (congrArg (fun z => T.sh (.int z)) (anm (adj h.n0)))) (aY (c_ (p, r) E.CG E.nR (ai (az (aA E.cQ) (ah ao) (ay (j := 2) rfl)) (ai (aA E.gH) (ai (aA E.di) aC))) h rfl) cL))) (aE rfl)) rfl
 | false =>
   refine aU (bB (az (aA E.cQ) (ah ao) (ay (j := 0) rfl)) (ah aB)).1 (fun z => absurd (ang z) (by decide +kernel)) (fun _ => ak ?_)
   refine aU (bB (az (aA E.cQ) (ah ao) (ay (j := 0) rfl)) (ah aB)).1 (fun z => absurd (ang z) (by decide +kernel)) (fun _ => ak ?_)
   exact aP (v_ E.cQ.1) rfl
theorem gq : kP (aj jT) ([("deed", au), ("boxes", au), ("row", au), ("place_of", aq), ("numbered_term", aq)]) = true := by decide +kernel
theorem A4 : aJ ["deed", "boxes", "row"] ["deed", "boxes", "row"] (aj jT) := aO
noncomputable abbrev jV : Stmt := top 69
noncomputable abbrev jW : Type := LT × Nat
noncomputable def iC : jW -> List L3.D := fun (p, i) => [p.fm i, .lZ [(.inr p.n0, .int 0)], .lZ [(.inr p.md, .int 0)]]
noncomputable def fj : jW -> Prop := fun (p, i) => jz p /\ i < 4
noncomputable def iD : jW -> T := fun (p, i) => (.sh (p.nf i) : T)
structure CK (X : Cx) (CL : Str -> Addr) : Prop extends bJ X where
 bM : Ln X 0 "form"
 gH : Ln X 1 "boxes"
 mO : Ln X 2 "moods"
 di : Ln X 3 "row"
 aS : Ln X 4 "word"
 eW : Ln X 5 "content"
 adl : Gl X "ROW"
 eG : Gl X "WORD"
 rT : Gl X "CONTENT"
 cO : Gl X "KINDS"
 kh : Gl X "place_of"
 jX : Gl X "numbered_deed"
 nG : Gl X "BLANKS"
 adn : ∃ u, X.mg "ROW" = some (.int 0 u)
 cH : ∃ u, X.mg "WORD" = some (.int 2 u)
 eX : ∃ u, X.mg "CONTENT" = some (.int 3 u)
 bW : GT X "KINDS" ["leaf", "one", "all"]
 pK : Fc X CL "place_of" 1 3 jd je jf
 uo : Fc X CL "numbered_deed" 3 3 iz iA iB
 jC : ∃ u, X.mg "BLANKS" = some (.int 1 u)
theorem CM {X : Cx} {CL : Str -> Addr} {b : Bx} (E : CK X CL) {bF : jW} (h : fj bF) :
   av X CL b jV ["form", "boxes", "moods", "row", "word", "content"] (iC bF) (iD bF) := by
 obtain ⟨p, i⟩ := bF
 dsimp only [av, fj, iC, iD] at h ⊢
 obtain ⟨hp, hi⟩ := h
 refine aQ E.g E.di (aV (az (aA E.bM) (ah (aG E.adn E.adl)) (ay (j := 0) rfl)) rfl) ?_
 refine aQ E.g E.aS (aV (az (aA E.bM) (ah (aG E.cH E.eG)) (ay (j := 2) rfl)) rfl) ?_
 refine aQ E.g E.eW (aV (az (aA E.bM) (ah (aG E.eX E.rT)) (ay (j := 3) rfl)) (Pr p i)) ?_
 match i, hi with
 | 0, _ =>
   refine aU (kW (aA E.aS) (ah (b9 E.bW E.cO)) rfl).1 (fun z => absurd (ang z) (by decide +kernel)) (fun _ => ?_)
   refine aU (mj (aA E.aS) (gF rfl)).1 (fun z => absurd (ang z) (by decide +kernel)) (fun _ => ?_)
   refine aU (bB (aA E.aS) (ah aB)).1 (fun z => absurd (ang z) (by decide +kernel)) (fun _ => ak (ak (ak ?_)))
   exact aP (cN (aY (v_ E.di.1) (aY (aV (az (aA E.bM) (ah (aG E.jC E.nG)) (ay (j := 1) rfl)) rfl) (aY (v_ E.aS.1) (aY (v_ E.eW.1) cL)))) (aE rfl)) rfl
 | 1, _ =>
   refine aU (kW (aA E.aS) (ah (b9 E.bW E.cO)) rfl).1 (fun _ => ?_) (fun z => absurd (anr z) (by decide +kernel))
   refine aQ E.g E.eW (cN (ds := [.str p.md, .int (-1)]) (aT (aV (az (aA E.eW) (ah ao) (ay (j := 0) rfl)) rfl) (aT (aK (c_ (("" : Str), p.md, (2 : Int)) E.pK E.kh (ai (az (aA E.eW) (ah ao) (ay (j := 1) rfl)) (ai (aA E.mO) (ai (aA E.di) aC))) (Or.inl rfl) rfl) (t2 := .sh (.int (-1))) rfl) ez)) (aE rfl)) (ak ?_)
   exact aP (cN (aY (v_ E.di.1) (aY (aV (az (aA E.bM) (ah (aG E.jC E.nG)) (ay (j := 1) rfl)) rfl) (aY (v_ E.aS.1) (aY (v_ E.eW.1) cL)))) (aE rfl)) rfl
 | 2, _ =>
   refine aU (kW (aA E.aS) (ah (b9 E.bW E.cO)) rfl).1 (fun z => absurd (ang z) (by decide +kernel)) (fun _ => ?_)
   refine aU (mj (aA E.aS) (gF rfl)).1 (fun _ => ?_) (fun z => absurd (anr z) (by decide +kernel))
   refine aQ E.g E.eW (aK (c_ (p, true, 3) E.uo E.jX (ai (aA E.eW) (ai (aA E.gH) (ai (aA E.di) aC))) hp rfl) (t2 := .sh (p.cn 2)) rfl) (ak (ak ?_))
   exact aP (cN (aY (v_ E.di.1) (aY (aV (az (aA E.bM) (ah (aG E.jC E.nG)) (ay (j := 1) rfl)) rfl) (aY (v_ E.aS.1) (aY (v_ E.eW.1) cL)))) (aE rfl)) rfl
 | 3, _ =>
   refine aU (kW (aA E.aS) (ah (b9 E.bW E.cO)) rfl).1 (fun z => absurd (ang z) (by decide +kernel)) (fun _ => ?_)
   refine aU (mj (aA E.aS) (gF rfl)).1 (fun _ => ?_) (fun z => absurd (anr z) (by decide +kernel))
   refine aQ E.g E.eW (aK (c_ (p, false, 4) E.uo E.jX (ai (aA E.eW) (ai (aA E.gH) (ai (aA E.di) aC))) hp rfl) (t2 := .sh (p.cn 3)) rfl) (ak (ak ?_))
   exact aP (cN (aY (v_ E.di.1) (aY (aV (az (aA E.bM) (ah (aG E.jC E.nG)) (ay (j := 1) rfl)) rfl) (aY (v_ E.aS.1) (aY (v_ E.eW.1) cL)))) (aE rfl)) rfl
theorem bD : kP (aj jV) ([("form", au), ("boxes", au), ("moods", au), ("row", au), ("word", au), ("content", au), ("ROW", aq), ("WORD", aq), ("CONTENT", aq), ("KINDS", aq), ("place_of", aq), ("numbered_deed", aq), ("BLANKS", aq)]) = true := by decide +kernel
theorem A5 : aJ ["form", "boxes", "moods", "row", "word", "content"] ["form", "boxes", "moods"] (aj jV) := aO
noncomputable abbrev sX : Stmt := top 67
noncomputable abbrev xJ : Type := LT
noncomputable def oB : xJ -> List L3.D := fun p => [.lst p.fms]
noncomputable def oE : xJ -> Prop := fun p => jz p
noncomputable def oF : xJ -> T := fun p => (.lst (p.nfs.map T.sh) : T)
structure PJ (X : Cx) (CL : Str -> Addr) : Prop extends bJ X where
 dR : Ln X 0 "forms"
 gH : Ln X 1 "boxes"
 abN : X.env.kindOf "boxes" = some .cell
 mO : Ln X 2 "moods"
 abO : X.env.kindOf "moods" = some .cell
 zf : Gl X "places"
 L6 : Fc X CL "places" 1 1 sR sS sU
 cH : ∃ u, X.mg "WORD" = some (.int 2 u)
 eX : ∃ u, X.mg "CONTENT" = some (.int 3 u)
 bW : GT X "KINDS" ["leaf", "one", "all"]
 CN : Fc X CL "numbered_form" 4 3 iC fj iD
theorem PK {X : Cx} {CL : Str -> Addr} {b : Bx} (E : PJ X CL) {p} (h : oE p) :
   av X CL b sX ["forms", "boxes", "moods"] (oB p) (oF p) := by
 dsimp only [av, oE, oB, oF] at h ⊢
 have h : jz p := h
 refine aQ E.g E.gH (oj (d := .lZ [(.inr p.n0, .int 0)]) (c_ p.n0 E.L6 E.zf (ai (d := .lst [.str p.n0]) (dz (aK (ja (ds := LT.rws p.ct) (p := fun d => decide ((eB d 2).toS = "box")) (g := fun d => .sh (eB (eB d 3) 0)) (bX .nil (by decide +kernel)) E.g.calm (er (v_ E.dR.1)) (.inr rfl) (fun C s0 H0 f0 b' d hd => ?YK) (aE rfl)) (t2 := .lst [.sh (.str p.n0)]) ?eq1)) aC) trivial rfl) rfl) ?zg
 case YK =>
   obtain ⟨i, hi, rfl⟩ := E6 hd
   refine ⟨(bB (az (ah (v_ (dQ (i := 0) rfl (by decide +kernel)))) (ah (aG (by exact E.cH) (dh (by decide +kernel)))) (ay (j := 2) rfl)) (ah aB)).1, fun z => ?_⟩
   cases Yz hi (ang z)
   exact aV (az (az (ah (v_ (dQ (i := 0) rfl (by decide +kernel)))) (ah (aG (by exact E.eX) (dh (by decide +kernel)))) (ay (j := 3) rfl)) (ah ao) (ay (j := 0) rfl)) rfl
 case eq1 =>
   rw [Td]
   rfl
 case zg =>
 refine aQ E.g E.mO (oj (d := .lZ [(.inr p.md, .int 0)]) (c_ p.md E.L6 E.zf (ai (d := .lst [.str p.md]) (dz (aK (ja (ds := LT.rws p.ct) (p := fun d => decide ((eB d 2).toS ∈ nQ)) (g := fun d => .sh (eB (eB d 3) 0)) (bX .nil (by decide +kernel)) E.g.calm (er (v_ E.dR.1)) (.inr rfl) (fun C s0 H0 f0 b' d hd => ?YL) (aE rfl)) (t2 := .lst [.sh (.str p.md)]) ?eq2)) aC) trivial rfl) rfl) ?Fd
 case YL =>
   obtain ⟨i, hi, rfl⟩ := E6 hd
   refine ⟨(kW (az (ah (v_ (dQ (i := 0) rfl (by decide +kernel)))) (ah (aG (by exact E.cH) (dh (by decide +kernel)))) (ay (j := 2) rfl)) (ah (b9 (by exact E.bW) (dh (by decide +kernel)))) rfl).1, fun z => ?_⟩
   cases U4 hi (ang z)
   exact aV (az (az (ah (v_ (dQ (i := 0) rfl (by decide +kernel)))) (ah (aG (by exact E.eX) (dh (by decide +kernel)))) (ay (j := 3) rfl)) (ah ao) (ay (j := 0) rfl)) rfl
 case eq2 =>
   rw [LZ]
   rfl
 case Fd =>
 refine aP (aK (ja (ds := LT.rws p.ct) (p := fun _ => true) (g := fun d => .sh (p.nf ((eB d 0).Sj - 1).toNat)) (bX (.cons E.gH.1 (.inl E.abN) (.cons E.mO.1 (.inl E.abO) .nil)) (by decide +kernel)) E.g.calm (er (v_ E.dR.1)) (.inr rfl) (fun C s0 H0 f0 b' d hd => ?afm) (aE rfl)) (t2 := .lst (p.nfs.map T.sh)) rfl) rfl
 case afm =>
   obtain ⟨i, hi, rfl⟩ := E6 hd
   have ei : ((eB (LT.rw p.ct i) 0).Sj - 1).toNat = i := by
     show (((i : Nat) + 1 : Int) - 1).toNat = i
     omega
   refine ⟨rfl, fun _ => ?_⟩
   show bZ _ _ _ _ _ (T.sh (p.nf ((eB (LT.rw p.ct i) 0).Sj - 1).toNat)) _
   rw [ei]
   exact c_ (p, i) (yM E.CN) (dh (by decide +kernel)) (ai (ah (v_ (dQ (i := 0) rfl (by decide +kernel)))) (ai (ah (v_ (xx (i := 1) rfl (by decide +kernel)))) (ai (ah (v_ (xx (i := 2) rfl (by decide +kernel)))) aC))) (by dsimp only [fj]; exact ⟨h, hi⟩) (afi p i)
theorem kG : kP (aj sX) ([("forms", au), ("boxes", .cell), ("moods", .cell), ("places", aq)]) = true := by decide +kernel
theorem L7 : aJ ["forms", "boxes", "moods"] ["forms"] (aj sX) := aO
noncomputable abbrev v9 : Stmt := top 12
noncomputable abbrev A6 : Type := Str
noncomputable def iU : A6 -> List L3.D := fun x => [.str x]
noncomputable def gy : A6 -> Prop := fun x => x.length <= 1000
noncomputable def iV : A6 -> T := fun x => (.sh (.bl (gV x)) : T)
structure Vb (X : Cx) (CL : Str -> Addr) : Prop extends bJ X where
 bK : Ln X 0 "text"
 Fe : Ln X 1 "sign"
 cC : Gl X "len"
 Ff : Gl X "LONGEST_NAME"
 abP : Gl X "WORDS"
 Vc : Gl X "LETTERS"
 uC : Gl X "LETTERS_AND_FIGURES"
 cD : X.mg "len" = none
 Fg : ∃ u, X.mg "LONGEST_NAME" = some (.int 12 u)
 Ji : GT X "WORDS" ["all", "and", "box", "call", "do", "far", "if", "in", "leaf", "near", "on", "one", "open", "out", "put", "say", "shut", "then", "to"]
 Vd : ∃ u, X.mg "LETTERS" = some (.str "abcdefghijklmnopqrstuvwxyz" u)
 uD : ∃ u, X.mg "LETTERS_AND_FIGURES" = some (.str "abcdefghijklmnopqrstuvwxyz0123456789" u)
theorem Ve {X : Cx} {CL : Str -> Addr} {b : Bx} (E : Vb X CL) {x} (h : gy x) :
   av X CL b v9 ["text", "sign"] (iU x) (iV x) := by
 dsimp only [av, gy, iU, iV] at h ⊢
 have hz : x.length <= sizeLine := an9 (cJ h)
 refine aU (kQ (kC (bB (aA E.bK) (ah aB)).1 (fun hb => (kC (Em (ah (DK E.cD (aA E.bK) (hz) E.cC)) (ah (aG E.Fg E.Ff))).1 (fun hb2 => (j6 (Sv (aA E.bK) (ah (b9 E.Ji E.abP)) (rfl) rfl).1)))))) (fun hp => ?_) (fun hp => ak ?_)
 . refine aP n6 ?_
   have hp : (decide (x = "") || (decide ((12 : Int) < (x.length : Nat)) || decide (x ∈ DS))) = true := hp
   show T.sh _ = T.sh (.bl (gV x))
   refine congrArg (fun z => T.sh (.bl z)) ?_
   simp only [Bool.or_eq_true, aok] at hp
   unfold gV
   rcases hp with z | z | z
   . subst z; decide +kernel
   . rw [anx (p := x.length <= 12) (by omega), ao6, aou]
   . rw [anz z, Bool.not_true, ao6, aou, aou]
 have hp : (decide (x = "") || (decide ((12 : Int) < (x.length : Nat)) || decide (x ∈ DS))) = false := hp
 simp only [Bool.or_eq_false_iff, aox] at hp
 obtain ⟨h1, h2, h3⟩ := hp
 have hl1 : 1 <= x.length := by
   rcases Nat.eq_zero_or_pos x.length with z | z
   . exact absurd (IY z) h1
   . exact z
 have hll : x.cps.toList.length = x.length := by simp [Str.length]
 have hnm : gV x = (isLt (x.cps.toList.getD 0 0) && x.cps.toList.all (fun c => isLt c || ny c)) := by
   unfold gV
   rw [anz hl1, anz (show x.length <= 12 by omega), anx h3]
   rfl
 refine aU (uV (ah (Ip (aA E.bK) (ah ao) hz (IB 0 (by omega) (by omega)))) (ah (EB E.Vd E.Vc)) rfl).1 (fun hp => ?_) (fun hp => ak ?_)
 . refine aP n6 ?_
   rw [EH] at hp
   have hp : (!isLt (x.cps.toList.getD 0 0)) = true := hp
   rw [aoc] at hp
   show T.sh _ = T.sh (.bl (gV x))
   rw [hnm, hp]
   rfl
 rw [EH] at hp
 have hp : (!isLt (x.cps.toList.getD 0 0)) = false := hp
 rw [aoD] at hp
 refine lX E.g E.Fe (fun j δ => (∃ o, δ = [some (.sh (.str x)), o]) /\ (x.cps.toList.take j).all (fun c => isLt c || ny c) = true)
   (XF (v_ E.bK.1)) ⟨⟨_, rfl⟩, rfl⟩ (fun j δ ⟨⟨_, e⟩, _⟩ => by subst e; exact anb rfl) ?turn ?fin
 case turn =>
   rintro j d δ hj ⟨⟨o, rfl⟩, Eh⟩
   obtain ⟨c, rfl, hc⟩ := EI hj
   refine aU (uV (aA E.Fe) (ah (EB E.uD E.uC)) rfl).1 (fun hq => ?_) (fun hq => ak (ak ⟨⟨_, rfl⟩, ?_⟩))
   . refine aP n6 ?_
     rw [SJ] at hq
     have hq : (isLt c || ny c) = false := by simpa using hq
     show T.sh _ = T.sh (.bl (gV x))
     have ha : x.cps.toList.all (fun c => isLt c || ny c) = false := by
       rw [List.all_eq_false]
       exact ⟨c, anB hc, by rw [hq]; decide⟩
     rw [hnm, ha, aou]
   . rw [SJ] at hq
     have hq : (!(isLt c || ny c)) = false := hq
     rw [aoD] at hq
     rw [aoJ, hc, List.all_append, Eh]
     show (true && ([c].all fun c => isLt c || ny c)) = true
     rw [aoP, hq]
     rfl
 case fin =>
   rintro δ ⟨⟨o, rfl⟩, Eh⟩
   refine aP n6 ?_
   rw [show (jB x).length = x.cps.toList.length by simp [jB], aoz] at Eh
   show T.sh _ = T.sh (.bl (gV x))
   rw [hnm, hp, Eh]
   rfl
theorem ki : kP (aj v9) ([("text", au), ("sign", au), ("len", aq), ("LONGEST_NAME", aq), ("WORDS", aq), ("LETTERS", aq), ("LETTERS_AND_FIGURES", aq)]) = true := by decide +kernel
theorem PL : aJ ["text", "sign"] ["text"] (aj v9) := aO
noncomputable abbrev wc : Stmt := top 56
noncomputable abbrev wg : Type := Str × Int
noncomputable def kH : wg -> List L3.D := fun (x, r) => [.str x, .int r]
noncomputable def kI : wg -> Prop := fun (x, r) => gV x = true
noncomputable def kJ : wg -> T := fun (x, r) => (.sh (.str x) : T)
structure Vf (X : Cx) (CL : Str -> Addr) : Prop extends bJ X where
 bK : Ln X 0 "text"
 di : Ln X 1 "row"
 g5 : Gl X "is_name"
 kK : Fc X CL "is_name" 1 1 iU gy iV
theorem Vg {X : Cx} {CL : Str -> Addr} {b : Bx} (E : Vf X CL) {bF : wg} (h : kI bF) :
   av X CL b wc ["text", "row"] (kH bF) (kJ bF) := by
 obtain ⟨x, r⟩ := bF
 dsimp only [av, kI, kH, kJ] at h ⊢
 have hl := (cF h).2.1
 refine aU (fN (eo (aK (c_ x E.kK E.g5 (ai (aA E.bK) aC) (by dsimp only [gy]; omega) rfl) (t2 := .sh (.bl true)) (congrArg (fun z => T.sh (.bl z)) h)))) (fun z => absurd z (by decide)) (fun _ => ak ?_)
 exact aP (v_ E.bK.1) rfl
theorem xK : kP (aj wc) ([("text", au), ("row", au), ("is_name", aq)]) = true := by decide +kernel
theorem PN : aJ ["text", "row"] ["text", "row"] (aj wc) := aO
noncomputable abbrev mP : Stmt := top 59
noncomputable abbrev rq : Type := Str
noncomputable def gX : rq -> List L3.D := fun x => [.str x]
noncomputable def eY : rq -> Prop := fun x => x.length <= 1000
noncomputable def gY : rq -> T := fun x => (.sh (.bl (um x)) : T)
structure GR (X : Cx) (CL : Str -> Addr) : Prop extends bJ X where
 bK : Ln X 0 "text"
 Fe : Ln X 1 "sign"
 cC : Gl X "len"
 Fi : Gl X "MOST_FIGURES"
 Vh : Gl X "FIGURES"
 cD : X.mg "len" = none
 Fj : ∃ u, X.mg "MOST_FIGURES" = some (.int 30 u)
 Vi : ∃ u, X.mg "FIGURES" = some (.str "0123456789" u)
theorem GU {X : Cx} {CL : Str -> Addr} {b : Bx} (E : GR X CL) {x} (h : eY x) :
   av X CL b mP ["text", "sign"] (gX x) (gY x) := by
 dsimp only [av, eY, gX, gY] at h ⊢
 have hz : x.length <= sizeLine := an9 (cJ h)
 have hll := kF x
 refine aU (kQ (kC (bB (aA E.bK) (ah aB)).1 (fun hn => kC (Em (ah (DK E.cD (aA E.bK) (hz) E.cC)) (ah (aG E.Fj E.Fi))).1 (fun _ => j6 (bB (ah (Ip (aA E.bK) (ah ao) hz (IB 0 (by omega) ?ix))) (ah aB)).1)))) (fun hp => ?_) (fun hp => ak ?_)
 case ix =>
   rcases Nat.eq_zero_or_pos x.length with z | z
   . exact absurd (IY z) (anr hn)
   . omega
 . refine aP n6 ?_
   have hp : (decide (x = "") || (decide ((30 : Int) < (x.length : Nat)) || decide ((⟨#[x.cps.toList.getD 0 0]⟩ : Str) = "0"))) = true := hp
   show T.sh _ = T.sh (.bl (um x))
   refine congrArg (fun z => T.sh (.bl z)) ?_
   simp only [Bool.or_eq_true, aok] at hp
   unfold um
   rcases hp with z | z | z
   . subst z; decide +kernel
   . rw [anx (p := x.length <= 30) (by omega), ao6, aou]
   . have e : x.cps.toList.getD 0 0 = 48 := by
       rw [show ("0" : Str) = ⟨#[48]⟩ by decide +kernel] at z
       have := congrArg (fun s : Str => s.cps.toList) z
       exact (aoH this).1
     rw [anz e, Bool.not_true, ao6, aou, aou]
 have hp : (decide (x = "") || (decide ((30 : Int) < (x.length : Nat)) || decide ((⟨#[x.cps.toList.getD 0 0]⟩ : Str) = "0"))) = false := hp
 simp only [Bool.or_eq_false_iff, aox] at hp
 obtain ⟨h1, h2, h3⟩ := hp
 have hl1 : 1 <= x.length := by
   rcases Nat.eq_zero_or_pos x.length with z | z
   . exact absurd (IY z) h1
   . exact z
 have h3 : ¬ x.cps.toList.getD 0 0 = 48 := fun z => h3 (by rw [z]; decide +kernel)
 have hnm : um x = x.cps.toList.all ny := by
   unfold um
   rw [anz hl1, anz (show x.length <= 30 by omega), anx h3]
   rfl
 refine lX E.g E.Fe (fun j δ => (∃ o, δ = [some (.sh (.str x)), o]) /\ (x.cps.toList.take j).all ny = true)
   (XF (v_ E.bK.1)) ⟨⟨_, rfl⟩, rfl⟩ (fun j δ ⟨⟨_, e⟩, _⟩ => by subst e; exact anb rfl) ?turn ?fin
 case turn =>
   rintro j d δ hj ⟨⟨o, rfl⟩, Eh⟩
   obtain ⟨c, rfl, hc⟩ := EI hj
   refine aU (uV (aA E.Fe) (ah (EB E.Vi E.Vh)) rfl).1 (fun hq => ?_) (fun hq => ak (ak ⟨⟨_, rfl⟩, ?_⟩))
   . refine aP n6 ?_
     rw [S6] at hq
     have hq : ny c = false := by simpa using hq
     show T.sh _ = T.sh (.bl (um x))
     have ha : x.cps.toList.all ny = false := by
       rw [List.all_eq_false]
       exact ⟨c, anB hc, by rw [hq]; decide⟩
     rw [hnm, ha]
   . rw [S6] at hq
     have hq : (!ny c) = false := hq
     rw [aoD] at hq
     rw [aoJ, hc, List.all_append, Eh]
     show (true && [c].all ny) = true
     rw [aoP, hq]
     rfl
 case fin =>
   rintro δ ⟨⟨o, rfl⟩, Eh⟩
   refine aP n6 ?_
   rw [show (jB x).length = x.cps.toList.length by simp [jB], aoz] at Eh
   show T.sh _ = T.sh (.bl (um x))
   rw [hnm, Eh]
theorem iW : kP (aj mP) ([("text", au), ("sign", au), ("len", aq), ("MOST_FIGURES", aq), ("FIGURES", aq)]) = true := by decide +kernel
theorem Fl : aJ ["text", "sign"] ["text"] (aj mP) := aO
theorem zj (x : Str) : Txt.startswith x "-" = decide (x.cps.toList.head? = some 45) := by
 unfold Txt.startswith
 obtain ⟨⟨l⟩⟩ := x
 have e1 : ("-" : Str) = ⟨#[45]⟩ := by decide +kernel
 rw [e1]
 unfold Builtin.Str.subAt
 cases l with
 | nil => rfl
 | cons c l =>
   by_cases h : c = 45
   . subst h
     simp [Str.length]
   . simp [Str.length, h]
theorem ahl (n : Nat) : Builtin.Str.strSliceIndices (some 1) none 1 (n + 1) = (List.range n).map (· + 1) := by
 unfold Builtin.Str.strSliceIndices sliceRange
 have e : max (0 : Int) (min 1 ((n + 1 : Nat) : Int)) = 1 := by omega
 simp only [show ¬ (1 : Int) < 0 by decide, if_false, show (1 : Int) > 0 by decide, if_true, e]
 have e2 : (if (1 : Int) < ((n + 1 : Nat) : Int) then (((n + 1 : Nat) : Int) - 1 + 1 - 1) / 1 else 0).toNat = n := by
   split <;> omega
 rw [e2]
 refine aoY fun k _ => ?_
 omega
theorem abQ (l : List Nat) : ∀ r : List Nat, ((List.range l.length).map (· + r.length)).filterMap (fun i => (r ++ l).toArray[i]?) = l := by
 induction l with
 | nil => intro r; rfl
 | cons c l ih =>
   intro r
   rw [anG, List.range_succ_eq_map, anD, aog]
   have e : (r ++ c :: l).toArray[0 + r.length]? = some c := by simp
   rw [e]
   have := ih (r ++ [c])
   rw [anv, aot, ani] at this
   show c :: _ = _
   congr 1
   rw [an1]
   refine Eq.trans ?_ this
   congr 1
   refine aoY fun k _ => ?_
   show k + 1 + r.length = k + (r.length + 1)
   omega
theorem Vj {x : Str} {c : Nat} {l : List Nat} (hx : x.cps.toList = c :: l) : Txt.slice x (some 1) none = ⟨(x.cps.toList.drop 1).toArray⟩ := by
 obtain ⟨⟨m⟩⟩ := x
 have hx : m = c :: l := hx
 subst hx
 unfold Txt.slice
 have hl : (⟨⟨c :: l⟩⟩ : Str).length = l.length + 1 := rfl
 rw [hl, ahl, anm (by simp)]
 have := abQ l [c]
 exact congrArg (fun z : List Nat => (⟨z.toArray⟩ : Str)) this
noncomputable abbrev qh : Stmt := top 58
noncomputable abbrev u0 : Type := Str
noncomputable def jD : u0 -> List L3.D := fun x => [.str x]
noncomputable def fQ : u0 -> Prop := fun x => x.length <= 1000
noncomputable def jE : u0 -> T := fun x => (.sh (.bl (Hu x)) : T)
structure L8 (X : Cx) (CL : Str -> Addr) : Prop extends bJ X where
 bK : Ln X 0 "text"
 Hz : Ln X 1 "figures"
 jF : Gl X "are_figures"
 rz : Fc X CL "are_figures" 1 1 gX eY gY
theorem Ma {X : Cx} {CL : Str -> Addr} {b : Bx} (E : L8 X CL) {x} (h : fQ x) :
   av X CL b qh ["text", "figures"] (jD x) (jE x) := by
 dsimp only [av, fQ, jD, jE] at h ⊢
 have h : x.length <= 1000 := h
 have hl : (rm x).length <= 1000 := by
   unfold rm
   split
   . rw [← kF]
     show (x.cps.toList.drop 1).length <= 1000
     rw [List.length_drop, kF]
     omega
   . exact h
 refine aQ E.g E.Hz (rg (t := .sh (.str (rm x))) (eo (UY (aA E.bK) (ah aB))) (fun z => aK (UJ (aA E.bK) (sz (by omega)) (DN (ah ao)) DM) ?e1) (fun z => aK (v_ E.bK.1) ?e2)) ?rest
 case e1 =>
   rw [zj] at z
   have hz := ang z
   cases hx : x.cps.toList with
   | nil => rw [hx] at hz; cases hz
   | cons c l => rw [Vj hx, rm, anu hz]
 case e2 =>
   rw [zj] at z
   rw [rm, anm (anr z)]
 case rest =>
 exact aP (acX (bB (aA E.bK) (ah aB)).2 (fun _ => j7 (aK (c_ (rm x) E.rz E.jF (ai (aA E.Hz) aC) hl rfl) (t2 := .sh (.bl (um (rm x)))) rfl))) rfl
theorem sY : kP (aj qh) ([("text", au), ("figures", au), ("are_figures", aq)]) = true := by decide +kernel
theorem Jj : aJ ["text", "figures"] ["text"] (aj qh) := aO
noncomputable abbrev qi : Stmt := top 57
noncomputable abbrev qj : Type := Int × Int
noncomputable def mQ : qj -> List L3.D := fun (k, r) => [.str (sI k), .int r]
noncomputable def mR : qj -> Prop := fun (k, r) => k.natAbs < 10 ^ 30
noncomputable def mS : qj -> T := fun (k, r) => (.sh (.int k) : T)
structure Mb (X : Cx) (CL : Str -> Addr) : Prop extends bJ X where
 bK : Ln X 0 "text"
 di : Ln X 1 "row"
 nI : Gl X "is_number"
 Hx : Gl X "int"
 u5 : Fc X CL "is_number" 2 1 jD fQ jE
 Hy : X.mg "int" = none
theorem Mf {X : Cx} {CL : Str -> Addr} {b : Bx} (E : Mb X CL) {bF : qj} (h : mR bF) :
   av X CL b qi ["text", "row"] (mQ bF) (mS bF) := by
 obtain ⟨k, r⟩ := bF
 dsimp only [av, mR, mQ, mS] at h ⊢
 have hl := kZ h
 refine aU (fN (eo (aK (c_ (sI k) E.u5 E.nI (ai (aA E.bK) aC) (by dsimp only [fQ]; omega) rfl) (t2 := .sh (.bl true)) (congrArg (fun z => T.sh (.bl z)) (Yv h))))) (fun z => absurd z (by decide)) (fun _ => ak ?_)
 exact aP (IU E.Hy (aA E.bK) (Pj h) (by omega) E.Hx) rfl
theorem oG : kP (aj qi) ([("text", au), ("row", au), ("is_number", aq), ("int", aq)]) = true := by decide +kernel
theorem Jk : aJ ["text", "row"] ["text", "row"] (aj qi) := aO
noncomputable abbrev wj : Stmt := top 60
noncomputable abbrev wk : Type := LT × Int
noncomputable def qk : wk -> List L3.D := fun (p, r) => [.str p.tt, .int r]
noncomputable def ql : wk -> Prop := fun (p, r) => jz p
noncomputable def qm : wk -> T := fun (p, r) => (.sh (.tup [.str p.tn, .int p.c]) : T)
structure Vk (X : Cx) (CL : Str -> Addr) : Prop extends bJ X where
 bK : Ln X 0 "text"
 di : Ln X 1 "row"
 g8 : Ln X 2 "mark"
 mU : Ln X 3 "parts"
 b7 : Ln X 4 "name"
 kg : Ln X 5 "more"
 nI : Gl X "is_number"
 Hx : Gl X "int"
 g6 : Gl X "name_of"
 jF : Gl X "are_figures"
 u5 : Fc X CL "is_number" 2 1 jD fQ jE
 Hy : X.mg "int" = none
 kL : Fc X CL "name_of" 2 2 kH kI kJ
 rz : Fc X CL "are_figures" 1 1 gX eY gY
theorem Vl {X : Cx} {CL : Str -> Addr} {b : Bx} (E : Vk X CL) {bF : wk} (h : ql bF) :
   av X CL b wj ["text", "row", "mark", "parts", "name", "more"] (qk bF) (qm bF) := by
 obtain ⟨p, r⟩ := bF
 dsimp only [av, ql, qk, qm] at h ⊢
 have hl := Pq h
 have hd : ∀ c : Nat, p8 ⟨#[c]⟩ p.tt = decide (c ∈ p.tt.cps.toList) := fun c => by
   unfold p8
   rw [aoO]
 refine aU (eo (aK (c_ p.tt E.u5 E.nI (ai (aA E.bK) aC) (by dsimp only [fQ]; omega) rfl) (t2 := .sh (.bl (decide (p.a = -1)))) (congrArg (fun z => T.sh (.bl z)) (afe h)))) (fun z => ?_) (fun z => ak ?_)
 . have ha : p.a = -1 := ang z
   have e : p.tt = sI p.c := by rw [LT.tt, KG, anu ha]
   refine aP (cN (ds := [.str "", .int p.c]) (aY aB (aY (IU E.Hy (aA E.bK) (by rw [e]; exact Pj h.c) (by omega) E.Hx) cL)) (aE rfl)) ?_
   show T.sh _ = T.sh (.tup [.str p.tn, .int p.c])
   rw [LT.tn, anu ha]
 have ha : ¬ p.a = -1 := anr z
 have etn : p.tn = p.n0 := by rw [LT.tn, anm ha]
 by_cases hc : p.c = 0
 . have e : p.tt = p.n0 := by rw [LT.tt, KG, anm ha, anu hc]
   have e1 : p8 "-" p.tt = false := by
     rw [show ("-" : Str) = ⟨#[45]⟩ by decide +kernel, hd 45, e]
     exact anx (S9 h.n0 (by decide))
   refine aQ E.g E.g8 (rg (t := .sh (.str "+")) (Li (ah aB) (aA E.bK) rfl).1 (fun q => absurd (e1 ▸ q) (by decide)) (fun _ => aB)) ?_
   refine aQ E.g E.mU (Lw (l := [p.n0, "", ""]) (aA E.bK) (aA E.g8) (by decide +kernel) (sz (by omega)) (by
     rw [show ("+" : Str) = ⟨#[43]⟩ by decide +kernel, e]
     exact abF (S9 h.n0 (by decide)))) ?_
   refine aQ E.g E.b7 (c_ (p.n0, r) E.kL E.g6 (ai (az (aA E.mU) (ah ao) (ay (j := 0) rfl)) (ai (aA E.di) aC)) h.n0 rfl) ?_
   refine aU (bB (az (aA E.mU) (ah ao) (ay (j := 1) rfl)) (ah aB)).1 (fun _ => ?_) (fun q => absurd (anr q) (by decide +kernel))
   refine aP (cN (ds := [.str p.n0, .int 0]) (aY (v_ E.b7.1) (aY ao cL)) (aE rfl)) ?_
   show T.sh _ = T.sh (.tup [.str p.tn, .int p.c])
   rw [etn, hc]
 have e : p.tt = p.n0 ++ yT p.c ++ sI (p.c.natAbs : Int) := by rw [LT.tt, KG, anm ha, anm hc]
 have ecs : p.tt.cps.toList = p.n0.cps.toList ++ (yT p.c).cps.toList ++ (sI (p.c.natAbs : Int)).cps.toList := by rw [e, eS, eS]
 have e1 : p8 "-" p.tt = decide (p.c < 0) := by
   rw [show ("-" : Str) = ⟨#[45]⟩ by decide +kernel, hd 45, ecs]
   apply decide_eq_decide.mpr
   rw [ank, ank, Jf]
   constructor
   . intro q
     rcases q with (q | q) | q
     . exact absurd q (S9 h.n0 (by decide))
     . have : 45 = (if 0 < p.c then 43 else 45) := anp.mp q
       split at this <;> omega
     . exact absurd q (afg _ (by decide))
   . intro q
     refine .inl (.inr (anp.mpr ?_))
     rw [anm (by omega)]
 have hk2 : (sI ((p.c.natAbs : Nat) : Int)).length <= 31 := kZ (by rw [aoC]; exact h.c)
 refine aQ E.g E.g8 (rg (t := .sh (.str (yT p.c))) (Li (ah aB) (aA E.bK) rfl).1 (fun q => aK aB ?p1) (fun q => aK aB ?p2)) ?rest
 case p1 =>
   rw [e1] at q
   have := ang q
   rw [yT, anm (by omega)]
 case p2 =>
   rw [e1] at q
   have := anr q
   rw [yT, anu (by omega)]
 case rest =>
 refine aQ E.g E.mU (Lw (l := [p.n0, yT p.c, sI (p.c.natAbs : Int)]) (aA E.bK) (aA E.g8) (by rw [yU]; rfl) (sz (by omega)) (by
   rw [e, Jf]
   exact Yr (S9 h.n0 (by split <;> decide)))) ?_
 refine aQ E.g E.b7 (c_ (p.n0, r) E.kL E.g6 (ai (az (aA E.mU) (ah ao) (ay (j := 0) rfl)) (ai (aA E.di) aC)) h.n0 rfl) ?_
 refine aU (bB (az (aA E.mU) (ah ao) (ay (j := 1) rfl)) (ah aB)).1 (fun q => ?_) (fun _ => ak ?_)
 . have : yT p.c = "" := ang q
   have e := yU p.c
   rw [this] at e
   cases e
 refine aU (fN (eo (aK (c_ (sI (p.c.natAbs : Int)) E.rz E.jF (ai (az (aA E.mU) (ah ao) (ay (j := 2) rfl)) aC) (by dsimp only [eY]; omega) rfl) (t2 := .sh (.bl true)) (congrArg (fun z => T.sh (.bl z)) (Ph (by omega) h.c))))) (fun z => absurd z (by decide)) (fun _ => ak ?_)
 refine aQ E.g E.kg (IU (n := (p.c.natAbs : Int)) E.Hy (az (aA E.mU) (ah ao) (ay (j := 2) rfl)) (Pj (by rw [aoC]; exact h.c)) (by omega) E.Hx) ?_
 refine aP (cN (ds := [.str p.n0, .int p.c]) (aY (v_ E.b7.1) (aY (rg (t := .sh (.int p.c)) (bB (aA E.g8) (ah aB)).1 (fun q => aK (v_ E.kg.1) ?m1) (fun q => aK (dP (aA E.kg)) ?m2)) cL)) (aE rfl)) ?fin
 case m1 =>
   have q : yT p.c = "+" := ang q
   rw [yT] at q
   split at q
   . exact congrArg (fun z => T.sh (.int z)) (by omega)
   . exact absurd q (by decide +kernel)
 case m2 =>
   have q : ¬ yT p.c = "+" := anr q
   rw [yT] at q
   split at q
   . exact absurd rfl q
   . exact congrArg (fun z => T.sh (.int z)) (by omega)
 case fin =>
   show T.sh _ = T.sh (.tup [.str p.tn, .int p.c])
   rw [etn]
theorem fS : kP (aj wj) ([("text", au), ("row", au), ("mark", au), ("parts", au), ("name", au), ("more", au), ("is_number", aq), ("int", aq), ("name_of", aq), ("are_figures", aq)]) = true := by decide +kernel
theorem PR : aJ ["text", "row", "mark", "parts", "name", "more"] ["text", "row"] (aj wj) := aO
noncomputable abbrev wm : Stmt := top 61
noncomputable abbrev wo : Type := LT × Bool × Int
noncomputable def qo : wo -> List L3.D := fun (p, b, r) => [.lst ((p.dw b).map .str), .int r]
noncomputable def qp : wo -> Prop := fun (p, b, r) => jz p
noncomputable def qq : wo -> T := fun (p, b, r) => (.sh (p.ct (if b then 2 else 3)) : T)
structure Vm (X : Cx) (CL : Str -> Addr) : Prop extends bJ X where
 aZ : Ln X 0 "words"
 di : Ln X 1 "row"
 cC : Gl X "len"
 g6 : Gl X "name_of"
 A7 : Gl X "term_of"
 cD : X.mg "len" = none
 kL : Fc X CL "name_of" 2 2 kH kI kJ
 Vo : Fc X CL "term_of" 3 2 qk ql qm
theorem Vp {X : Cx} {CL : Str -> Addr} {b : Bx} (E : Vm X CL) {bF : wo} (h : qp bF) :
   av X CL b wm ["words", "row"] (qo bF) (qq bF) := by
 obtain ⟨p, b, r⟩ := bF
 dsimp only [av, qp, qo, qq] at h ⊢
 cases b with
 | true =>
   refine aU (kQ (kR (q := false) (dO (ah (fc (n := 3) rfl E.cD (aA E.aZ) E.cC)) (ah ao)).1 fun z => absurd (ang z) (by decide))) (fun z => absurd z (by decide +kernel)) (fun _ => ak ?_)
   refine aU (kQ (kR (dO (ah (fc (n := 3) rfl E.cD (aA E.aZ) E.cC)) (ah ao)).1 fun _ => yJ (mj (bO (aA E.aZ) (ah ao) (ay (j := 0) rfl)) (gF rfl)).1)) (fun _ => ?_) (fun z => absurd z (by decide +kernel))
   exact aP (cN (aY (aV (bO (aA E.aZ) (ah ao) (ay (j := 0) rfl)) rfl) (aY (c_ (p.n0, r) E.kL E.g6 (ai (bO (aA E.aZ) (ah ao) (ay (j := 1) rfl)) (ai (aA E.di) aC)) h.n0 rfl) (aY (c_ (p, r) E.Vo E.A7 (ai (bO (aA E.aZ) (ah ao) (ay (j := 2) rfl)) (ai (aA E.di) aC)) h rfl) cL))) (aE rfl)) rfl
 | false =>
   refine aU (kQ (kR (dO (ah (fc (n := 2) rfl E.cD (aA E.aZ) E.cC)) (ah ao)).1 fun _ => yJ (bB (bO (aA E.aZ) (ah ao) (ay (j := 0) rfl)) (ah aB)).1)) (fun _ => ?_) (fun z => absurd z (by decide +kernel))
   exact aP (cN (aY aB (aY (c_ (p.n2, r) E.kL E.g6 (ai (bO (aA E.aZ) (ah ao) (ay (j := 1) rfl)) (ai (aA E.di) aC)) h.n2 rfl) cL)) (aE rfl)) rfl
theorem pL : kP (aj wm) ([("words", au), ("row", au), ("len", aq), ("name_of", aq), ("term_of", aq)]) = true := by decide +kernel
theorem PV : aJ ["words", "row"] ["words", "row"] (aj wm) := aO
noncomputable abbrev oH : Stmt := top 55
noncomputable abbrev oJ : Type := LT × Nat
noncomputable def k8 : oJ -> List L3.D := fun (p, i) => [.lst ((p.ws i).map .str), .int ((i : Nat) + 1 : Int)]
noncomputable def k9 : oJ -> Prop := fun (p, i) => jz p /\ i < 4
noncomputable def lg : oJ -> T := fun (p, i) => (.sh (p.ct i) : T)
structure Jl (X : Cx) (CL : Str -> Addr) : Prop extends bJ X where
 aZ : Ln X 0 "words"
 di : Ln X 1 "row"
 aS : Ln X 2 "word"
 cC : Gl X "len"
 g6 : Gl X "name_of"
 u6 : Gl X "number_of"
 wu : Gl X "deed_of"
 cD : X.mg "len" = none
 kL : Fc X CL "name_of" 2 2 kH kI kJ
 Mg : Fc X CL "number_of" 3 2 mQ mR mS
 HB : Fc X CL "deed_of" 4 2 qo qp qq
theorem Jm {X : Cx} {CL : Str -> Addr} {b : Bx} (E : Jl X CL) {bF : oJ} (h : k9 bF) :
   av X CL b oH ["words", "row", "word"] (k8 bF) (lg bF) := by
 obtain ⟨p, i⟩ := bF
 dsimp only [av, k9, k8, lg] at h ⊢
 obtain ⟨hp, hi⟩ := h
 refine aQ E.g E.aS (aV (bO (aA E.aZ) (ah ao) (Tc p i)) rfl) ?_
 match i, hi with
 | 0, _ =>
   refine aU (kQ (kR (bB (aA E.aS) (ah aB)).1 fun _ => yJ (dO (ah (fc (n := 3) rfl E.cD (aA E.aZ) E.cC)) (ah ao)).1)) (fun _ => ?_) (fun z => absurd z (by decide +kernel))
   exact aP (cN (aY (c_ (p.n0, 1) E.kL E.g6 (ai (bO (aA E.aZ) (ah ao) (ay (j := 1) rfl)) (ai (aA E.di) aC)) hp.n0 rfl) (aY (c_ (p.f, 1) E.Mg E.u6 (ai (bO (aA E.aZ) (ah ao) (ay (j := 2) rfl)) (ai (aA E.di) aC)) hp.f rfl) cL)) (aE rfl)) rfl
 | 1, _ =>
   refine aU (kQ (kR (q := false) (bB (aA E.aS) (ah aB)).1 fun z => absurd (ang z) (by decide +kernel))) (fun z => absurd z (by decide +kernel)) (fun _ => ak ?_)
   refine aU (kQ (kR (q := false) (bB (aA E.aS) (ah aB)).1 fun z => absurd (ang z) (by decide +kernel))) (fun z => absurd z (by decide +kernel)) (fun _ => ak ?_)
   refine aU (kQ (kR (mj (aA E.aS) (gF rfl)).1 fun _ => yJ (dO (ah (fc (n := 2) rfl E.cD (aA E.aZ) E.cC)) (ah ao)).1)) (fun _ => ?_) (fun z => absurd z (by decide +kernel))
   exact aP (cN (aY (c_ (p.md, 2) E.kL E.g6 (ai (bO (aA E.aZ) (ah ao) (ay (j := 1) rfl)) (ai (aA E.di) aC)) hp.md rfl) (aY aB cL)) (aE rfl)) rfl
 | 2, _ =>
   refine aU (kQ (kR (q := false) (bB (aA E.aS) (ah aB)).1 fun z => absurd (ang z) (by decide +kernel))) (fun z => absurd z (by decide +kernel)) (fun _ => ak ?_)
   refine aU (kQ (kR (q := false) (bB (aA E.aS) (ah aB)).1 fun z => absurd (ang z) (by decide +kernel))) (fun z => absurd z (by decide +kernel)) (fun _ => ak ?_)
   refine aU (kQ (kR (q := false) (mj (aA E.aS) (gF rfl)).1 fun z => absurd (ang z) (by decide +kernel))) (fun z => absurd z (by decide +kernel)) (fun _ => ak ?_)
   refine aU (mj (aA E.aS) (gF rfl)).1 (fun _ => ?_) (fun z => absurd (anr z) (by decide +kernel))
   exact aP (aK (c_ (p, true, 3) E.HB E.wu (ai (d := .lst ((p.dw true).map .str)) (dz (aK (Er (ds := (p.ws 2).map .str) (aA E.aZ) (Le _) (DN (ah ao)) DM) rfl)) (ai (aA E.di) aC)) hp rfl) (t2 := .sh (p.ct 2)) rfl) rfl
 | 3, _ =>
   refine aU (kQ (kR (q := false) (bB (aA E.aS) (ah aB)).1 fun z => absurd (ang z) (by decide +kernel))) (fun z => absurd z (by decide +kernel)) (fun _ => ak ?_)
   refine aU (kQ (kR (q := false) (bB (aA E.aS) (ah aB)).1 fun z => absurd (ang z) (by decide +kernel))) (fun z => absurd z (by decide +kernel)) (fun _ => ak ?_)
   refine aU (kQ (kR (q := false) (mj (aA E.aS) (gF rfl)).1 fun z => absurd (ang z) (by decide +kernel))) (fun z => absurd z (by decide +kernel)) (fun _ => ak ?_)
   refine aU (mj (aA E.aS) (gF rfl)).1 (fun _ => ?_) (fun z => absurd (anr z) (by decide +kernel))
   exact aP (aK (c_ (p, false, 4) E.HB E.wu (ai (d := .lst ((p.dw false).map .str)) (dz (aK (Er (ds := (p.ws 3).map .str) (aA E.aZ) (Le _) (DN (ah ao)) DM) rfl)) (ai (aA E.di) aC)) hp rfl) (t2 := .sh (p.ct 3)) rfl) rfl
theorem fU : kP (aj oH) ([("words", au), ("row", au), ("word", au), ("len", aq), ("name_of", aq), ("number_of", aq), ("deed_of", aq)]) = true := by decide +kernel
theorem GV : aJ ["words", "row", "word"] ["words", "row"] (aj oH) := aO
noncomputable abbrev wA : Stmt := top 54
noncomputable abbrev wB : Type := LT × Nat
noncomputable def qt : wB -> List L3.D := fun (p, i) => [.str (p.line i), .int ((i : Nat) + 1 : Int)]
noncomputable def nJ : wB -> Prop := fun (p, i) => jz p /\ i < 4
noncomputable def qu : wB -> T := fun (p, i) => (.sh (p.fm i) : T)
structure Vq (X : Cx) (CL : Str -> Addr) : Prop extends bJ X where
 lu : Ln X 0 "line"
 di : Ln X 1 "row"
 sO : Ln X 2 "rest"
 aZ : Ln X 3 "words"
 cC : Gl X "len"
 sZ : Gl X "content_of"
 cD : X.mg "len" = none
 Jo : Fc X CL "content_of" 5 2 k8 k9 lg
theorem Vr {X : Cx} {CL : Str -> Addr} {b : Bx} (E : Vq X CL) {bF : wB} (h : nJ bF) :
   av X CL b wA ["line", "row", "rest", "words"] (qt bF) (qu bF) := by
 obtain ⟨p, i⟩ := bF
 dsimp only [av, nJ, qt, qu] at h ⊢
 obtain ⟨hp, hi⟩ := h
 have h1 := LY hp i
 have h2 := LX hp i
 have h3 := S8 p i
 refine aQ E.g E.sO (UZ (aA E.lu) (ah aB) (sz (by omega)) (Pp p i)) ?_
 refine aQ E.g E.aZ (EC (aA E.sO) (ah aB) (E2 hp i).1 (sz (by omega)) (E2 hp i).2 (sz (by omega))) ?_
 refine aP (cN (ds := [.int ((i : Nat) + 1 : Int), .int (((p.line i).length : Nat) - ((p.rest i).length : Nat)), .str (LT.word i), p.ct i]) (aY (v_ E.di.1) (aY (El (ah (DK E.cD (aA E.lu) (sz (by omega)) E.cC)) (ah (DK E.cD (aA E.sO) (sz (by omega)) E.cC))) (aY (aV (bO (vL E.aZ.1) (ah ao) (Tc p i)) rfl) (aY (c_ (p, i) E.Jo E.sZ (ai (vL E.aZ.1) (ai (aA E.di) aC)) ⟨hp, hi⟩ (Pr p i)) cL)))) (aE rfl)) ?_
 show T.sh _ = T.sh (p.fm i)
 rw [LW p hi]
 rfl
theorem mz : kP (aj wA) ([("line", au), ("row", au), ("rest", au), ("words", au), ("len", aq), ("content_of", aq)]) = true := by decide +kernel
theorem PX : aJ ["line", "row", "rest", "words"] ["line", "row"] (aj wA) := aO
noncomputable def LT.pw : Nat -> Str
 | 0 => ""
 | i + 1 => LT.word i
noncomputable def LT.mb (i : Nat) : Int := if i < 2 then -1 else 0
noncomputable abbrev qv : Stmt := top 79
noncomputable abbrev qw : Type := LT × Nat
noncomputable def mV : qw -> List L3.D := fun (p, i) => [p.fm i, .str (LT.pw i), .int (LT.mb i)]
noncomputable def mW : qw -> Prop := fun (p, i) => i < 4
noncomputable def mX : qw -> T := fun (p, i) => (.sh (.bl true) : T)
structure Mh (X : Cx) (CL : Str -> Addr) : Prop extends bJ X where
 bM : Ln X 0 "form"
 iX : Ln X 1 "last_word"
 cI : Ln X 2 "mood_blanks"
 aS : Ln X 3 "word"
 ly : Ln X 4 "blanks"
 eG : Gl X "WORD"
 nG : Gl X "BLANKS"
 cO : Gl X "KINDS"
 DV : Gl X "RANKS"
 cH : ∃ u, X.mg "WORD" = some (.int 2 u)
 jC : ∃ u, X.mg "BLANKS" = some (.int 1 u)
 bW : GT X "KINDS" ["leaf", "one", "all"]
 wC : L2.GD X "RANKS" (fun k => ([("leaf", 0), ("one", 0), ("all", 0), ("in", 1), ("out", 2), ("on", 3)] : List (Str × Int)).lookup k)
theorem Mi {X : Cx} {CL : Str -> Addr} {b : Bx} (E : Mh X CL) {bF : qw} (h : mW bF) :
   av X CL b qv ["form", "last_word", "mood_blanks", "word", "blanks"] (mV bF) (mX bF) := by
 obtain ⟨p, i⟩ := bF
 dsimp only [av, mW, mV, mX] at h ⊢
 have h : i < 4 := h
 refine aQ E.g E.aS (aV (az (aA E.bM) (ah (aG E.cH E.eG)) (ay (j := 2) rfl)) rfl) ?_
 refine aQ E.g E.ly (aV (az (aA E.bM) (ah (aG E.jC E.nG)) (ay (j := 1) rfl)) rfl) ?_
 match i, h with
 | 0, _ =>
   refine aU (bB (aA E.aS) (ah aB)).1 (fun _ => ?_) (fun z => absurd (anr z) (by decide +kernel))
   exact aP (aK (j8 (dO (aA E.ly) (ah ao)).2 (fun _ => j7 (dO (aA E.cI) (ah (dP (ah ao)))).2)) (t2 := .sh (.bl true)) rfl) rfl
 | 1, _ =>
   refine aU (bB (aA E.aS) (ah aB)).1 (fun z => absurd (ang z) (by decide +kernel)) (fun _ => ak ?_)
   refine aU (dO (aA E.cI) (ah (dP (ah ao)))).1 (fun _ => ?_) (fun z => absurd (anr z) (by decide))
   exact aP (aK (j8 (dO (aA E.ly) (ah ao)).2 (fun _ => j7 (kW (aA E.aS) (ah (b9 E.bW E.cO)) rfl).2)) (t2 := .sh (.bl true)) (congrArg (fun z => T.sh (.bl z)) (by decide +kernel))) rfl
 | 2, _ =>
   refine aU (bB (aA E.aS) (ah aB)).1 (fun z => absurd (ang z) (by decide +kernel)) (fun _ => ak ?_)
   refine aU (dO (aA E.cI) (ah (dP (ah ao)))).1 (fun z => absurd (ang z) (by decide)) (fun _ => ak ?_)
   refine aU (kW (aA E.aS) (ah (b9 E.bW E.cO)) rfl).1 (fun z => absurd (ang z) (by decide +kernel)) (fun _ => ak ?_)
   exact aP (aK (j8 (dO (aA E.ly) (ah (xq (aA E.cI) (ah ao)))).2 (fun _ => j7 (acV (i := 0) (j := 1) (ah (SG E.wC E.DV (aA E.iX) (by decide +kernel))) (ah (SG E.wC E.DV (aA E.aS) (by decide +kernel)))).2)) (t2 := .sh (.bl true)) rfl) rfl
 | 3, _ =>
   refine aU (bB (aA E.aS) (ah aB)).1 (fun z => absurd (ang z) (by decide +kernel)) (fun _ => ak ?_)
   refine aU (dO (aA E.cI) (ah (dP (ah ao)))).1 (fun z => absurd (ang z) (by decide)) (fun _ => ak ?_)
   refine aU (kW (aA E.aS) (ah (b9 E.bW E.cO)) rfl).1 (fun z => absurd (ang z) (by decide +kernel)) (fun _ => ak ?_)
   exact aP (aK (j8 (dO (aA E.ly) (ah (xq (aA E.cI) (ah ao)))).2 (fun _ => j7 (acV (i := 1) (j := 2) (ah (SG E.wC E.DV (aA E.iX) (by decide +kernel))) (ah (SG E.wC E.DV (aA E.aS) (by decide +kernel)))).2)) (t2 := .sh (.bl true)) rfl) rfl
theorem dS : kP (aj qv) ([("form", au), ("last_word", au), ("mood_blanks", au), ("word", au), ("blanks", au), ("WORD", aq), ("BLANKS", aq), ("KINDS", aq), ("RANKS", aq)]) = true := by decide +kernel
theorem Jp : aJ ["form", "last_word", "mood_blanks", "word", "blanks"] ["form", "last_word", "mood_blanks"] (aj qv) := aO
noncomputable abbrev zk : Stmt := top 78
noncomputable abbrev Fo : Type := LT
noncomputable def tu : Fo -> List L3.D := fun p => [.str p.text]
noncomputable def tD : Fo -> Prop := fun p => jz p
noncomputable def tE : Fo -> T := fun p => (.lst (p.fms.map T.sh) : T)
structure YM (X : Cx) (CL : Str -> Addr) : Prop extends bJ X where
 bK : Ln X 0 "text"
 dR : Ln X 1 "forms"
 iX : Ln X 2 "last_word"
 cI : Ln X 3 "mood_blanks"
 zc : Ln X 4 "place"
 lu : Ln X 5 "line"
 bM : Ln X 6 "form"
 c7 : Gl X "enumerate"
 A8 : Gl X "form_of"
 u9 : Gl X "may_stand"
 adl : Gl X "ROW"
 eG : Gl X "WORD"
 cO : Gl X "KINDS"
 nG : Gl X "BLANKS"
 c9 : X.mg "enumerate" = none
 Vs : Fc X CL "form_of" 6 2 qt nJ qu
 Mj : Fc X CL "may_stand" 1 3 mV mW mX
 adn : ∃ u, X.mg "ROW" = some (.int 0 u)
 cH : ∃ u, X.mg "WORD" = some (.int 2 u)
 bW : GT X "KINDS" ["leaf", "one", "all"]
 jC : ∃ u, X.mg "BLANKS" = some (.int 1 u)
theorem YN {X : Cx} {CL : Str -> Addr} {b : Bx} (E : YM X CL) {p} (h : tD p) :
   av X CL b zk ["text", "forms", "last_word", "mood_blanks", "place", "line", "form"] (tu p) (tE p) := by
 dsimp only [av, tD, tu, tE] at h ⊢
 have hl := text_len h
 obtain ⟨k1, k2⟩ := Pn h
 refine aQ E.g E.dR (mh cL (anE _)) ?_
 refine aQ E.g E.iX aB ?_
 refine aQ E.g E.cI (dP (ah ao)) ?_
 refine xB E.g (p7 E.g.nd E.g.calm E.zc E.lu) (fun j δ => ∃ o5 o6 o7, δ = [some (.sh (.str p.text)), some (.lst ((p.fms.take j).map T.sh)), some (.sh (.str (LT.pw j))), some (.sh (.int (LT.mb j))), o5, o6, o7])
   (DQ (ds := p.lines.map .str) E.c9 (oj (EC (aA E.bK) (ah aB) k1 (sz (by omega)) k2 (aE rfl)) rfl) E.c7) ⟨_, _, _, rfl⟩
   (fun j δ ⟨_, _, _, e⟩ => by subst e; intro i hi; simp only [ane, ano, an3] at hi; rcases hi with rfl | rfl <;> exact anb rfl) ?turn ?fin
 case turn =>
   rintro j d δ hj ⟨o5, o6, o7, rfl⟩
   have hj4 : j < 4 /\ d = .tup [.int (j : Int), .str (p.line j)] := by
     match j with
     | 0 => cases hj; exact ⟨by decide, rfl⟩
     | 1 => cases hj; exact ⟨by decide, rfl⟩
     | 2 => cases hj; exact ⟨by decide, rfl⟩
     | 3 => cases hj; exact ⟨by decide, rfl⟩
     | j + 4 => cases hj
   obtain ⟨hj4, rfl⟩ := hj4
   refine ⟨_, rfl, ?_⟩
   refine aQ E.g E.bM (c_ (p, j) E.Vs E.A8 (ai (aA E.lu) (ai (ah (xq (aA E.zc) (ah ao))) aC)) (by dsimp only [nJ]; exact ⟨h, hj4⟩) (afh p j)) ?_
   refine aU (fN (eo (aK (c_ (p, j) E.Mj E.u9 (ai (aA E.bM) (ai (aA E.iX) (ai (aA E.cI) aC))) hj4 rfl) (t2 := .sh (.bl true)) rfl))) (fun z => absurd z (by decide)) (fun _ => ak ?_)
   refine aQ E.g E.iX (aV (az (aA E.bM) (ah (aG E.cH E.eG)) (ay (j := 2) rfl)) rfl) ?_
   have hfs : ((p.fms.take j).map T.sh) ++ [T.sh (p.fm j)] = (p.fms.take (j + 1)).map T.sh := by
     match j, hj4 with
     | 0, _ => rfl
     | 1, _ => rfl
     | 2, _ => rfl
     | 3, _ => rfl
   have hfl : (p.fms.take j).length <= 4 := by
     rw [aoy]
     exact Nat.min_le_right _ _
   refine aU (kW (aA E.iX) (ah (b9 E.bW E.cO)) rfl).1 (fun z => ?_) (fun z => ak ?_)
   . have ej : j = 1 := by
       have z := ang z
       match j, hj4 with
       | 0, _ => exact absurd z (by decide +kernel)
       | 1, _ => rfl
       | 2, _ => exact absurd z (by decide +kernel)
       | 3, _ => exact absurd z (by decide +kernel)
     subst ej
     refine aQ E.g E.cI (aV (az (aA E.bM) (ah (aG E.jC E.nG)) (ay (j := 1) rfl)) rfl) (ak ?_)
     refine ug E.dR.1 rfl (v_ E.bM.1) rfl (by rw [anh]; omega) (ak ?_)
     exact ⟨_, _, _, rfl⟩
   . have ej : j ≠ 1 := by
       intro e
       subst e
       exact absurd (anr z) (by decide +kernel)
     refine ug E.dR.1 rfl (v_ E.bM.1) rfl (by rw [anh]; omega) (ak ?_)
     rw [hfs]
     have em : LT.mb (j + 1) = LT.mb j := by
       match j, hj4, ej with
       | 0, _, _ => rfl
       | 2, _, _ => rfl
       | 3, _, _ => rfl
     show ∃ o5 o6 o7, _ = [_, _, _, some (T.sh (.int (LT.mb (j + 1)))), o5, o6, o7]
     rw [em]
     exact ⟨_, _, _, rfl⟩
 case fin =>
   rintro δ ⟨o5, o6, o7, rfl⟩
   exact aP (vM E.dR.1) rfl
theorem dm : kP (aj zk) ([("text", au), ("forms", au), ("last_word", au), ("mood_blanks", au), ("place", au), ("line", au), ("form", au), ("enumerate", aq), ("form_of", aq), ("may_stand", aq), ("ROW", aq), ("WORD", aq), ("KINDS", aq), ("BLANKS", aq)]) = true := by decide +kernel
theorem Vt : aJ ["text", "forms", "last_word", "mood_blanks", "place", "line", "form"] ["text"] (aj zk) := aO
noncomputable abbrev qx : Stmt := top 80
noncomputable abbrev vd : Type := Nat
noncomputable def mY : vd -> List L3.D := fun z => [.lst [.int 0]]
noncomputable def mZ : vd -> Prop := fun z => True
noncomputable def m5 : vd -> T := fun z => (.lst [.sh (.int (-1))] : T)
structure Ml (X : Cx) (CL : Str -> Addr) : Prop extends bJ X where
 YQ : Ln X 0 "depths"
 nK : Ln X 1 "elders"
 lu : Ln X 2 "line"
 bY : Ln X 3 "mood"
 YR : Ln X 4 "deep"
 c7 : Gl X "enumerate"
 c9 : X.mg "enumerate" = none
theorem Mm {X : Cx} {CL : Str -> Addr} {b : Bx} (E : Ml X CL) {z} (h : mZ z) :
   av X CL b qx ["depths", "elders", "line", "mood", "deep"] (mY z) (m5 z) := by
 dsimp only [av, mZ, mY, m5] at h ⊢
 refine aQ E.g E.nK (mh cL (anE _)) ?_
 refine aQ E.g E.lu (mh cL (anE _)) ?_
 refine xB E.g (p7 E.g.nd E.g.calm E.bY E.YR) (fun j δ => ∃ o4 o5, δ = [some (.sh (.lst [.int 0])), some (.lst (if j = 0 then [] else [.sh (.int (-1))])), some (.lst (if j = 0 then [] else [.sh (.int 0)])), o4, o5])
   (DQ E.c9 (v_ E.YQ.1) E.c7) ⟨_, _, rfl⟩
   (fun j δ ⟨_, _, e⟩ => by subst e; intro i hi; simp only [ane, ano, an3] at hi; rcases hi with rfl | rfl <;> exact anb rfl) ?turn ?fin
 case turn =>
   rintro j d δ hj ⟨o4, o5, rfl⟩
   match j with
   | 0 =>
     cases hj
     refine ⟨_, rfl, ?_⟩
     refine aQ E.g E.lu (aK (Er (ds := []) (dz (vM E.lu.1)) rfl DM (DN (aA E.YR))) (t2 := .lst []) rfl) ?_
     refine ug E.nK.1 rfl (rg (t := .sh (.int (-1))) (XS (ds := []) (vL E.lu.1)) (fun q => absurd q (by decide)) (fun _ => (dP (ah ao)))) rfl (anE _) ?_
     refine ug E.lu.1 rfl (v_ E.bY.1) rfl (anE _) (ak ?_)
     exact ⟨_, _, rfl⟩
   | j + 1 => cases hj
 case fin =>
   rintro δ ⟨o4, o5, rfl⟩
   exact aP (vM E.nK.1) rfl
theorem jh : kP (aj qx) ([("depths", au), ("elders", au), ("line", au), ("mood", au), ("deep", au), ("enumerate", aq)]) = true := by decide +kernel
theorem Jq : aJ ["depths", "elders", "line", "mood", "deep"] ["depths"] (aj qx) := aO
noncomputable def LT.dl (p : LT) (b : Bool) : Nat -> List T
 | 0 => []
 | 1 => []
 | 2 => [.lst []]
 | 3 => [.lst (if b then [.sh (p.cn 2)] else [])]
 | _ => [.lst [.sh (p.cn (if b then 2 else 3))]]
noncomputable abbrev tF : Stmt := top 81
noncomputable abbrev tG : Type := LT × Bool
noncomputable def oK : tG -> List L3.D := fun (p, b) => [.lst p.nfs, .str (if b then "in" else "out")]
noncomputable def oM : tG -> Prop := fun (p, b) => True
noncomputable def oN : tG -> T := fun (p, b) => (.lst [.sh (.tup [p.cn (if b then 2 else 3)])] : T)
structure PY (X : Cx) (CL : Str -> Addr) : Prop extends bJ X where
 dR : Ln X 0 "forms"
 aS : Ln X 1 "word"
 bf : Ln X 2 "found"
 bM : Ln X 3 "form"
 eG : Gl X "WORD"
 cO : Gl X "KINDS"
 rT : Gl X "CONTENT"
 cH : ∃ u, X.mg "WORD" = some (.int 2 u)
 bW : GT X "KINDS" ["leaf", "one", "all"]
 eX : ∃ u, X.mg "CONTENT" = some (.int 3 u)
 m7 : X.mg "tuple" = none
theorem PZ {X : Cx} {CL : Str -> Addr} {b : Bx} (E : PY X CL) {bF : tG} (h : oM bF) :
   av X CL b tF ["forms", "word", "found", "form"] (oK bF) (oN bF) := by
 obtain ⟨p, b⟩ := bF
 dsimp only [av, oM, oK, oN] at h ⊢
 refine aQ E.g E.bf (mh cL (anE _)) ?_
 refine lX E.g E.bM (fun j δ => ∃ o, δ = [some (.sh (.lst p.nfs)), some (.sh (.str (if b then "in" else "out"))), some (.lst (p.dl b j)), o]) (er (v_ E.dR.1)) ⟨_, rfl⟩ (fun j δ ⟨_, e⟩ => by subst e; exact anb rfl) ?turn ?fin
 case turn =>
   rintro j d δ hj ⟨o, rfl⟩
   match j with
   | 0 =>
     cases hj
     refine aU (kW (az (aA E.bM) (ah (aG E.cH E.eG)) (ay (j := 2) rfl)) (ah (b9 E.bW E.cO)) rfl).1 (fun z => absurd (ang z) (by decide +kernel)) (fun _ => ?_)
     exact aU (bB (az (aA E.bM) (ah (aG E.cH E.eG)) (ay (j := 2) rfl)) (aA E.aS)).1 (fun z => absurd (ang z) (by cases b <;> decide +kernel)) (fun _ => ak (ak (ak ⟨_, rfl⟩)))
   | 1 =>
     cases hj
     refine aU (kW (az (aA E.bM) (ah (aG E.cH E.eG)) (ay (j := 2) rfl)) (ah (b9 E.bW E.cO)) rfl).1 (fun _ => ?_) (fun z => absurd (anr z) (by decide +kernel))
     exact O4 (IQ E.bf.1 rfl) rfl rfl (mh (tl := []) cL (anE _)) rfl rfl (anE _) (ak (ak ⟨_, rfl⟩))
   | 2 =>
     cases hj
     refine aU (kW (az (aA E.bM) (ah (aG E.cH E.eG)) (ay (j := 2) rfl)) (ah (b9 E.bW E.cO)) rfl).1 (fun z => absurd (ang z) (by decide +kernel)) (fun _ => ?_)
     cases b with
     | true =>
       refine aU (bB (az (aA E.bM) (ah (aG E.cH E.eG)) (ay (j := 2) rfl)) (aA E.aS)).1 (fun _ => ?_) (fun z => absurd (anr z) (by decide +kernel))
       exact O4 (p := [.ix 0]) (X5 (IQ E.bf.1 rfl) rfl rfl (ah (dP (ah ao))) rfl) rfl rfl (aV (az (aA E.bM) (ah (aG E.eX E.rT)) (ay (j := 3) rfl)) rfl) rfl rfl (anE _) (ak (ak (ak ⟨_, rfl⟩)))
     | false =>
       exact aU (bB (az (aA E.bM) (ah (aG E.cH E.eG)) (ay (j := 2) rfl)) (aA E.aS)).1 (fun z => absurd (ang z) (by decide +kernel)) (fun _ => ak (ak (ak ⟨_, rfl⟩)))
   | 3 =>
     cases hj
     refine aU (kW (az (aA E.bM) (ah (aG E.cH E.eG)) (ay (j := 2) rfl)) (ah (b9 E.bW E.cO)) rfl).1 (fun z => absurd (ang z) (by decide +kernel)) (fun _ => ?_)
     cases b with
     | false =>
       refine aU (bB (az (aA E.bM) (ah (aG E.cH E.eG)) (ay (j := 2) rfl)) (aA E.aS)).1 (fun _ => ?_) (fun z => absurd (anr z) (by decide +kernel))
       exact O4 (p := [.ix 0]) (X5 (IQ E.bf.1 rfl) rfl rfl (ah (dP (ah ao))) rfl) rfl rfl (aV (az (aA E.bM) (ah (aG E.eX E.rT)) (ay (j := 3) rfl)) rfl) rfl rfl (anE _) (ak (ak (ak ⟨_, rfl⟩)))
     | true =>
       exact aU (bB (az (aA E.bM) (ah (aG E.cH E.eG)) (ay (j := 2) rfl)) (aA E.aS)).1 (fun z => absurd (ang z) (by decide +kernel)) (fun _ => ak (ak (ak ⟨_, rfl⟩)))
   | j + 4 => cases hj
 case fin =>
   rintro δ ⟨o, rfl⟩
   have him : (p.cn (if b then 2 else 3)).pC = true := A1 p _
   refine aP (aK (ja (p := fun _ => true) (g := fun _ => .sh (.tup [p.cn (if b then 2 else 3)])) (bX .nil (by decide +kernel)) E.g.calm (er (oj (d := .lst [.lst [p.cn (if b then 2 else 3)]]) (vM E.bf.1) rfl)) (.inr rfl) (fun C s0 H0 f0 b' d hd => ?xF) (aE rfl)) (t2 := .lst [.sh (.tup [p.cn (if b then 2 else 3)])]) rfl) rfl
   case xF =>
     cases anp.mp hd
     exact ⟨rfl, fun _ => Ux (by exact E.m7) (ah (v_ (dQ (i := 0) rfl (by decide +kernel)))) (by show ((p.cn (if b then 2 else 3)).pC && true) = true; rw [him]; rfl) (dh (by decide +kernel))⟩
theorem iY : kP (aj tF) ([("forms", au), ("word", au), ("found", au), ("form", au), ("WORD", aq), ("KINDS", aq), ("CONTENT", aq)]) = true := by decide +kernel
theorem Mp : aJ ["forms", "word", "found", "form"] ["forms", "word"] (aj tF) := aO
noncomputable abbrev wF : Stmt := top 82
noncomputable abbrev A9 : Type := LT
noncomputable def qy : A9 -> List L3.D := fun p => [.lst p.nfs]
noncomputable def qz : A9 -> Prop := fun p => True
noncomputable def qA : A9 -> T := fun p => (.lst [] : T)
structure Vu (X : Cx) (CL : Str -> Addr) : Prop extends bJ X where
 dR : Ln X 0 "forms"
 Jr : Ln X 1 "ways"
 bY : Ln X 2 "mood"
 bM : Ln X 3 "form"
 eG : Gl X "WORD"
 cO : Gl X "KINDS"
 rT : Gl X "CONTENT"
 cH : ∃ u, X.mg "WORD" = some (.int 2 u)
 bW : GT X "KINDS" ["leaf", "one", "all"]
 eX : ∃ u, X.mg "CONTENT" = some (.int 3 u)
theorem Vv {X : Cx} {CL : Str -> Addr} {b : Bx} (E : Vu X CL) {p} (h : qz p) :
   av X CL b wF ["forms", "ways", "mood", "form"] (qy p) (qA p) := by
 dsimp only [av, qz, qy, qA] at h ⊢
 refine aQ E.g E.Jr (mh cL (anE _)) ?_
 refine aQ E.g E.bY (dP (ah ao)) ?_
 refine lX E.g E.bM (fun j δ => ∃ z o, δ = [some (.sh (.lst p.nfs)), some (.lst []), some (.sh (.int z)), o]) (er (v_ E.dR.1)) ⟨_, _, rfl⟩ (fun j δ ⟨_, _, e⟩ => by subst e; exact anb rfl) ?turn ?fin
 case turn =>
   rintro j d δ hj ⟨z, o, rfl⟩
   match j with
   | 0 =>
     cases hj
     refine aU (kW (az (aA E.bM) (ah (aG E.cH E.eG)) (ay (j := 2) rfl)) (ah (b9 E.bW E.cO)) rfl).1 (fun z => absurd (ang z) (by decide +kernel)) (fun _ => ?_)
     exact aU (bB (az (aA E.bM) (ah (aG E.cH E.eG)) (ay (j := 2) rfl)) (ah aB)).1 (fun z => absurd (ang z) (by decide +kernel)) (fun _ => ak (ak (ak ⟨_, _, rfl⟩)))
   | 1 =>
     cases hj
     refine aU (kW (az (aA E.bM) (ah (aG E.cH E.eG)) (ay (j := 2) rfl)) (ah (b9 E.bW E.cO)) rfl).1 (fun _ => ?_) (fun z => absurd (anr z) (by decide +kernel))
     exact ae1 E.g E.bY rfl (ah ao) (ak (ak ⟨_, _, rfl⟩))
   | 2 =>
     cases hj
     refine aU (kW (az (aA E.bM) (ah (aG E.cH E.eG)) (ay (j := 2) rfl)) (ah (b9 E.bW E.cO)) rfl).1 (fun z => absurd (ang z) (by decide +kernel)) (fun _ => ?_)
     exact aU (bB (az (aA E.bM) (ah (aG E.cH E.eG)) (ay (j := 2) rfl)) (ah aB)).1 (fun z => absurd (ang z) (by decide +kernel)) (fun _ => ak (ak (ak ⟨_, _, rfl⟩)))
   | 3 =>
     cases hj
     refine aU (kW (az (aA E.bM) (ah (aG E.cH E.eG)) (ay (j := 2) rfl)) (ah (b9 E.bW E.cO)) rfl).1 (fun z => absurd (ang z) (by decide +kernel)) (fun _ => ?_)
     exact aU (bB (az (aA E.bM) (ah (aG E.cH E.eG)) (ay (j := 2) rfl)) (ah aB)).1 (fun z => absurd (ang z) (by decide +kernel)) (fun _ => ak (ak (ak ⟨_, _, rfl⟩)))
   | j + 4 => cases hj
 case fin =>
   rintro δ ⟨z, o, rfl⟩
   exact aP (vM E.Jr.1) rfl
theorem kj : kP (aj wF) ([("forms", au), ("ways", au), ("mood", au), ("form", au), ("WORD", aq), ("KINDS", aq), ("CONTENT", aq)]) = true := by decide +kernel
theorem P0 : aJ ["forms", "ways", "mood", "form"] ["forms"] (aj wF) := aO
noncomputable abbrev DW : Stmt := top 24
noncomputable abbrev DX : Type := List Str × List Int × List Int × Int
noncomputable def rV : DX -> List L3.D := fun (ks, es, ss, m) => [nq ks es ss, .int m]
noncomputable def pe : DX -> Prop := fun (ks, es, ss, m) => O5 es /\ 0 <= m /\ m < es.length /\ es.length <= 1000
noncomputable def rW : DX -> T := fun (ks, es, ss, m) => (.lst (((Hq es m).map .int).map T.sh) : T)
structure abR (X : Cx) (CL : Str -> Addr) : Prop extends bJ X where
 cg : Ln X 0 "tree"
 bY : Ln X 1 "mood"
 bf : Ln X 2 "found"
 qB : Ln X 3 "elder"
 cz : uA X.K (CL "Tree")
 bC : aN X.K (CL "Tree") "elders"
theorem abS {X : Cx} {CL : Str -> Addr} {b : Bx} (E : abR X CL) {bF : DX} (h : pe bF) :
   av X CL b DW ["tree", "mood", "found", "elder"] (rV bF) (rW bF) := by
 obtain ⟨ks, es, ss, m⟩ := bF
 dsimp only [av, pe, rV, rW] at h ⊢
 obtain ⟨ht, h0, h1, hlen⟩ := h
 refine aQ E.g E.bf (mh cL (anE _)) ?_
 refine aQ E.g E.qB (aV (bO (bS E.cz E.bC (aA E.cg) dW) (aA E.bY) (uS h0 h1)) rfl) ?_
 have hm := ht.at h0 h1
 refine Ss E.g (fun n δ => ∃ (k : Int) (l : List Int), δ = [some (.sh (nq ks es ss)), some (.sh (.int m)), some (.lst ((l.map .int).map T.sh)), some (.sh (.int k))] /\ -1 <= k /\ k < n /\ k < es.length /\ l ++ chF n es k = Hq es m /\ l.length + n <= es.length + 1) (es.length + 1)
   ⟨es.getD m.toNat 0, [], rfl, hm.1, by omega, by omega, rfl, by simp⟩ ?_
 rintro n δ ⟨k, l, rfl, k0, k1, k2, k3, k4⟩
 refine ⟨_, _, (nO (aA E.qB) (ah (dP (ah ao)))).1, fun hp => ?_, fun hp => ?_⟩
 . have hk : ¬ k = -1 := by simpa using hp
   have ha := ht.at (k := k) (by omega) k2
   cases n with
   | zero => omega
   | succ n =>
     refine ug E.bf.1 rfl (v_ E.qB.1) rfl (by simp; omega) ?_
     refine aQ E.g E.qB (aV (bO (bS E.cz E.bC (aA E.cg) dW) (aA E.qB) (uS (by omega) k2)) rfl) ?_
     refine ak ⟨n, aoS _, es.getD k.toNat 0, l ++ [k], ?_, ha.1, by omega, by omega, ?_, by simp; omega⟩
     . show [_, _, some (T.lst (((l.map D.int).map T.sh) ++ [T.sh (.int k)])), _] = _
       simp
     . rw [← k3, chF, anm hk, ani]
       rfl
 . have hk : k = -1 := by simpa using hp
   subst hk
   have e : l = Hq es m := by
     rw [← k3]
     cases n with
     | zero => rw [chF, anL]
     | succ n => rw [chF, anu rfl, anL]
   subst e
   exact aP (vM E.bf.1) rfl
theorem zl : kP (aj DW) ([("tree", au), ("mood", au), ("found", au), ("elder", au)]) = true := by decide +kernel
theorem YS : aJ ["tree", "mood", "found", "elder"] ["tree", "mood"] (aj DW) := aO
noncomputable abbrev DY : Stmt := top 25
noncomputable abbrev DZ : Type := List Str × List Int × List Int × Int
noncomputable def rX : DZ -> List L3.D := fun (ks, es, ss, m) => [nq ks es ss, .int m]
noncomputable def mC : DZ -> Prop := fun (ks, es, ss, m) => O5 es /\ 0 <= m /\ m < es.length /\ es.length <= 1000
noncomputable def rY : DZ -> T := fun (ks, es, ss, m) => (.sh (.int ((Hq es m).length : Nat)) : T)
structure abT (X : Cx) (CL : Str -> Addr) : Prop extends bJ X where
 cg : Ln X 0 "tree"
 bY : Ln X 1 "mood"
 cC : Gl X "len"
 zm : Gl X "above"
 cD : X.mg "len" = none
 Js : Fc X CL "above" 1 2 rV pe rW
theorem abU {X : Cx} {CL : Str -> Addr} {b : Bx} (E : abT X CL) {bF : DZ} (h : mC bF) :
   av X CL b DY ["tree", "mood"] (rX bF) (rY bF) := by
 obtain ⟨ks, es, ss, m⟩ := bF
 dsimp only [av, mC, rX, rY] at h ⊢
 have hl : ((Hq es m).map L3.D.int).length = (Hq es m).length := by simp
 exact aP (fc hl E.cD (dz (c_ (ks, es, ss, m) E.Js E.zm (ai (aA E.cg) (ai (aA E.bY) aC)) h (by show (T.lst _).clean = true; rw [o9]; exact BZ _))) E.cC) rfl
theorem zo : kP (aj DY) ([("tree", au), ("mood", au), ("len", aq), ("above", aq)]) = true := by decide +kernel
theorem YT : aJ ["tree", "mood"] ["tree", "mood"] (aj DY) := aO
noncomputable abbrev gI : Stmt := top 33
noncomputable abbrev gJ : Type := List Str × List Int × List Int
noncomputable def fk : gJ -> List L3.D := fun (ks, es, ss) => [nq ks es ss]
noncomputable def dc : gJ -> Prop := fun (ks, es, ss) => adg es /\ 1 <= es.length /\ es.length <= 900 /\ ∀ m : Int, 0 <= m -> m < es.length -> (Hq es m).length <= 12
noncomputable def fq : gJ -> T := fun (ks, es, ss) => (.sh (.bl true) : T)
structure xM (X : Cx) (CL : Str -> Addr) : Prop extends bJ X where
 cg : Ln X 0 "tree"
 bY : Ln X 1 "mood"
 lu : Ln X 2 "line"
 qe : Gl X "range"
 cC : Gl X "len"
 zm : Gl X "above"
 zq : Gl X "depth"
 Vw : Gl X "DEEPEST"
 qf : X.mg "range" = none
 cD : X.mg "len" = none
 Js : Fc X CL "above" 1 2 rV pe rW
 Jt : Fc X CL "depth" 2 2 rX mC rY
 Vx : ∃ u, X.mg "DEEPEST" = some (.int 12 u)
 cz : uA X.K (CL "Tree")
 bC : aN X.K (CL "Tree") "elders"
theorem xN {X : Cx} {CL : Str -> Addr} {b : Bx} (E : xM X CL) {bF : gJ} (h : dc bF) :
   av X CL b gI ["tree", "mood", "line"] (fk bF) (fq bF) := by
 obtain ⟨ks, es, ss⟩ := bF
 dsimp only [av, dc, fk, fq] at h ⊢
 obtain ⟨hp, h1, h2, h3⟩ := h
 have ht := hp.1
 have e0 : es.getD (0 : Int).toNat 0 = -1 := by
   have := ht.at (k := 0) (by omega) (by omega)
   omega
 refine aU (nO (i := -1) (bO (bS E.cz E.bC (aA E.cg) dW) (ah ao) ((uS (by omega) (by omega)).trans (by rw [e0]))) (ah (dP (ah ao)))).1 (fun hq => absurd hq (by decide)) (fun _ => ak ?_)
 refine lX E.g E.bY (fun j δ => ∃ o1 o2, δ = [some (.sh (nq ks es ss)), o1, o2])
   (Uu E.qf (ah ao) (ah (fc (anh ..) E.cD (bS E.cz E.bC (aA E.cg) dW) E.cC)) (by omega) E.qe) ⟨_, _, rfl⟩ (fun j δ ⟨_, _, e⟩ => by subst e; exact anb rfl) ?turn ?fin
 case turn =>
   rintro j d δ hj ⟨o1, o2, rfl⟩
   obtain ⟨rfl, Jg⟩ := uT hj
   have Jg : j + 1 < es.length := by simp at Jg; omega
   have hcl : (Hq es (j : Int)).length <= 12 := h3 j (by omega) (by omega)
   have ej : (1 + (j : Int)) - 1 = (j : Int) := by omega
   refine aQ E.g E.lu (aK (IC (ds := [.int (j : Int)]) (ZZ := (Hq es (j : Int)).map .int) (dz (ds := [.int (j : Int)]) (aK (mh (aY (El (aA E.bY) (ah ao)) cL) (aE rfl)) (by rw [ej]; rfl))) (dz (aK (c_ (ks, es, ss, (j : Int)) E.Js E.zm (ai (aA E.cg) (ai (Xw (ah (El (aA E.bY) (ah ao))) (congrArg L3.D.int ej)) aC)) (by dsimp only [pe]; exact ⟨ht, by omega, by omega, by omega⟩) (xC _)) rfl)) rfl (yN _) (Nat.le_of_lt (cJ (by simp; omega)))) (t2 := .lst ((((j : Int) :: Hq es (j : Int)).map .int).map T.sh)) rfl) ?_
   have hm : es.getD (1 + (j : Int)).toNat 0 ∈ (j : Int) :: Hq es (j : Int) := by
     have := hp.2 j Jg
     rw [show (1 + (j : Int)).toNat = j + 1 by omega]
     rcases this with z | z
     . rw [z]; exact anc
     . exact anj _ z
   refine aU (kQ (kC (aa0 (i := es.getD (1 + (j : Int)).toNat 0) (bO (bS E.cz E.bC (aA E.cg) dW) (aA E.bY) (uS (by omega) (by omega))) (vL E.lu.1) rfl rfl).1 (fun _ => j6 (Em (ah (aK (c_ (ks, es, ss, 1 + (j : Int)) E.Jt E.zq (ai (aA E.cg) (ai (aA E.bY) aC)) (by dsimp only [mC]; exact ⟨ht, by omega, by omega, by omega⟩) rfl) (t2 := .sh (.int ((Hq es (1 + (j : Int))).length : Nat))) rfl)) (ah (aG E.Vx E.Vw))).1))) (fun hq => ?_) (fun _ => ak (ak ⟨_, _, rfl⟩))
   have h12 := h3 (1 + (j : Int)) (by omega) (by omega)
   rw [anz hm, anx (by omega)] at hq
   exact absurd hq (by decide)
 case fin =>
   rintro δ ⟨o1, o2, rfl⟩
   exact aP n6 rfl
theorem bP : kP (aj gI) ([("tree", au), ("mood", au), ("line", au), ("range", aq), ("len", aq), ("above", aq), ("depth", aq), ("DEEPEST", aq)]) = true := by decide +kernel
theorem wQ : aJ ["tree", "mood", "line"] ["tree"] (aj gI) := aO
noncomputable abbrev iE : Stmt := top 34
noncomputable abbrev iF : Type := List Str × List Int × List Int
noncomputable def fX : iF -> List L3.D := fun (ks, es, ss) => [nq ks es ss]
noncomputable def dH : iF -> Prop := fun (ks, es, ss) => ks.length = es.length /\ es.length <= 900 /\ ∀ m : Nat, m < es.length -> ks.getD m Str.empty ∈ (["leaf", "one", "all"] : List Str) /\ decide (ks.getD m Str.empty = "leaf") = !decide ((m : Int) ∈ es)
noncomputable def fY : iF -> T := fun (ks, es, ss) => (.sh (.bl true) : T)
structure zu (X : Cx) (CL : Str -> Addr) : Prop extends bJ X where
 cg : Ln X 0 "tree"
 tH : Ln X 1 "with_inner"
 qB : Ln X 2 "elder"
 bY : Ln X 3 "mood"
 xO : Ln X 4 "kind"
 c7 : Gl X "enumerate"
 cO : Gl X "KINDS"
 c9 : X.mg "enumerate" = none
 bW : GT X "KINDS" ["leaf", "one", "all"]
 cz : uA X.K (CL "Tree")
 bC : aN X.K (CL "Tree") "elders"
 cA : aN X.K (CL "Tree") "kinds"
theorem zx {X : Cx} {CL : Str -> Addr} {b : Bx} (E : zu X CL) {bF : iF} (h : dH bF) :
   av X CL b iE ["tree", "with_inner", "elder", "mood", "kind"] (fX bF) (fY bF) := by
 obtain ⟨ks, es, ss⟩ := bF
 dsimp only [av, dH, fX, fY] at h ⊢
 obtain ⟨h1, h2, h3⟩ := h
 refine aQ E.g E.tH Sy ?_
 refine lX E.g E.qB (fun j δ => ∃ o2 o3 o4, δ = [some (.sh (nq ks es ss)), some (.lZ (WB (adds (es.take j)))), o2, o3, o4])
   (er (g7 E.cz E.bC (v_ E.cg.1) dW)) ⟨_, _, _, rfl⟩ (fun j δ ⟨_, _, _, e⟩ => by subst e; exact anb rfl) ?turn ?fin
 case turn =>
   rintro j d δ hj ⟨o2, o3, o4, rfl⟩
   obtain ⟨x, rfl, _, _, Jg, _, htk⟩ := Ez hj
   have hl := (AY (es.take j) []).1
   have hl2 : (es.take j).length <= 900 := by rw [aoy]; omega
   have hkl : (WB (adds (es.take j))).length <= 1000000 := by unfold WB adds; rw [anh]; simp at hl; omega
   refine aeS (.inl x) E.u E.tH.1 n6 (aA E.qB) rfl hkl (ak ?_)
   rw [abv, ← U0, ← htk]
   exact ⟨_, _, _, rfl⟩
 case fin =>
 rintro δ ⟨o2, o3, o4, rfl⟩
 rw [anh, aoz]
 have hin : ∀ x : Int, decide (x ∈ adds es) = decide (x ∈ es) := fun x => decide_eq_decide.mpr (((AY es []).2 x).trans (by simp))
 refine xB E.g (p7 E.g.nd E.g.calm E.bY E.xO) (fun j δ => ∃ o2 o3 o4, δ = [some (.sh (nq ks es ss)), some (.lZ (WB (adds es))), o2, o3, o4])
   (EA (f := L3.D.str) (l := ks) Str.empty E.c9 (g7 E.cz E.cA (v_ E.cg.1) mq) E.c7) ⟨_, _, _, rfl⟩ (fun j δ ⟨_, _, _, e⟩ => by subst e; intro i hi; simp only [ane, ano, an3] at hi; rcases hi with rfl | rfl <;> exact anb rfl) ?Mq ?fin2
 case Mq =>
   rintro j d δ hj ⟨o2, o3, o4, rfl⟩
   obtain ⟨i, rfl, hi, him, hil, _, _⟩ := Ez hj
   clear hi hil hj
   have hil : i < ks.length := aoa.mp him
   refine ⟨_, rfl, ?_⟩
   obtain ⟨e1, e2⟩ := h3 i (by omega)
   refine aU (kQ (kC (DP (l := ["leaf", "one", "all"]) (aA E.xO) (ah (b9 E.bW E.cO)) rfl rfl).1 (fun _ => j6 (agL (w1 := .bl (decide (ks.getD i Str.empty = "leaf"))) (w2 := .bl (decide ((i : Int) ∈ es))) (ah (bB (aA E.xO) (ah aB)).2) (ah (aK (aeZ (.inl (i : Int)) E.u (aA E.bY) (vE E.tH.1 rfl (by rw [T.gS])) rfl) (t2 := .sh (.bl (decide ((i : Int) ∈ es)))) (congrArg (fun z => T.sh (.bl z)) ((abw _ _).trans (hin _))))) rfl rfl rfl).1))) (fun hp => ?_) (fun _ => ak (ak ⟨_, _, _, rfl⟩))
   rw [anz e1, e2] at hp
   cases hd : decide ((i : Int) ∈ es) with
   | false => rw [hd] at hp; simp at hp
   | true => rw [hd] at hp; simp at hp
 case fin2 =>
   rintro δ ⟨o2, o3, o4, rfl⟩
   exact aP n6 rfl
theorem cE : kP (aj iE) ([("tree", au), ("with_inner", au), ("elder", au), ("mood", au), ("kind", au), ("enumerate", aq), ("KINDS", aq)]) = true := by decide +kernel
theorem xP : aJ ["tree", "with_inner", "elder", "mood", "kind"] ["tree"] (aj iE) := aO
noncomputable abbrev tK : Stmt := top 44
noncomputable abbrev tL : Type := Int × List L3.D
noncomputable def fu : tL -> List L3.D := fun (i, ds) => [.int i, .lst ds]
noncomputable def fB : tL -> Prop := fun (i, ds) => True
noncomputable def fC : tL -> T := fun (i, ds) => (.sh (.bl (Ly i ds.length)) : T)
structure P1 (X : Cx) (CL : Str -> Addr) : Prop extends bJ X where
 rR : Ln X 0 "number"
 di : Ln X 1 "row"
 cC : Gl X "len"
 cD : X.mg "len" = none
theorem P4 {X : Cx} {CL : Str -> Addr} {b : Bx} (E : P1 X CL) {bF : tL} (h : fB bF) :
   av X CL b tK ["number", "row"] (fu bF) (fC bF) := by
 obtain ⟨i, ds⟩ := bF
 dsimp only [av, fB, fu, fC] at h ⊢
 exact aP (ac8 acK R7 (ah ao) (aA E.rR) (ah (fc rfl E.cD (aA E.di) E.cC)) (by with_unfolding_all rfl)).2 rfl
theorem ve : kP (aj tK) ([("number", au), ("row", au), ("len", aq)]) = true := by decide +kernel
theorem Mr : aJ ["number", "row"] ["number", "row"] (aj tK) := aO
noncomputable abbrev gK : Stmt := top 35
noncomputable abbrev gM : Type := List Str × List Int × List Int
noncomputable def fD : gM -> List L3.D := fun (ks, es, ss) => [nq ks es ss]
noncomputable def dg : gM -> Prop := fun (ks, es, ss) => ks.length = es.length /\ ss.length = es.length /\ es.length <= 900 /\ ∀ m : Nat, m < es.length -> (ks.getD m Str.empty ≠ "one" /\ ss.getD m 0 = -1) \/ (ks.getD m Str.empty = "one" /\ Ly (ss.getD m 0) es.length = true /\ es.getD (ss.getD m 0).toNat 0 = m)
noncomputable def fE : gM -> T := fun (ks, es, ss) => (.sh (.bl true) : T)
structure xQ (X : Cx) (CL : Str -> Addr) : Prop extends bJ X where
 cg : Ln X 0 "tree"
 bY : Ln X 1 "mood"
 D0 : Ln X 2 "start"
 c7 : Gl X "enumerate"
 dB : Gl X "is_place"
 c9 : X.mg "enumerate" = none
 fV : Fc X CL "is_place" 1 2 fu fB fC
 cz : uA X.K (CL "Tree")
 cT : aN X.K (CL "Tree") "starts"
 cA : aN X.K (CL "Tree") "kinds"
 bC : aN X.K (CL "Tree") "elders"
theorem xR {X : Cx} {CL : Str -> Addr} {b : Bx} (E : xQ X CL) {bF : gM} (h : dg bF) :
   av X CL b gK ["tree", "mood", "start"] (fD bF) (fE bF) := by
 obtain ⟨ks, es, ss⟩ := bF
 dsimp only [av, dg, fD, fE] at h ⊢
 obtain ⟨h1, h2, h3, h4⟩ := h
 refine xB E.g (p7 E.g.nd E.g.calm E.bY E.D0) (fun j δ => ∃ o1 o2, δ = [some (.sh (nq ks es ss)), o1, o2])
   (EA (f := L3.D.int) (l := ss) 0 E.c9 (g7 E.cz E.cT (v_ E.cg.1) p9) E.c7) ⟨_, _, rfl⟩ (fun j δ ⟨_, _, e⟩ => by subst e; intro i hi; simp only [ane, ano, an3] at hi; rcases hi with rfl | rfl <;> exact anb rfl) ?turn ?fin
 case turn =>
   rintro j d δ hj ⟨o1, o2, rfl⟩
   obtain ⟨i, rfl, hi, him, hil, _, _⟩ := Ez hj
   clear hi hil hj
   have hil : i < ss.length := aoa.mp him
   refine ⟨_, rfl, ?_⟩
   have hk : Ed (ks.map L3.D.str) (i : Int) = some (.str (ks.getD i Str.empty)) := (xA Str.empty (by omega) (by omega)).trans (by rw [apg])
   rcases h4 i (by omega) with ⟨e1, e2⟩ | ⟨e1, e2, e3⟩
   . refine aU (Im (bO (bS E.cz E.cA (aA E.cg) mq) (aA E.bY) hk) (ah aB)).1 (fun _ => ?_) (fun hp => absurd hp (by rw [anx e1]; decide))
     refine aU (nO (aA E.D0) (ah (dP (ah ao)))).1 (fun hp => ?_) (fun _ => ak (ak (ak ⟨_, _, rfl⟩)))
     rw [anz e2] at hp
     exact absurd hp (by decide)
   . refine aU (Im (bO (bS E.cz E.cA (aA E.cg) mq) (aA E.bY) hk) (ah aB)).1 (fun hp => absurd hp (by rw [anz e1]; decide)) (fun _ => ?_)
     have e4 := e2
     unfold Ly at e4
     rw [anH] at e4
     have p0 := ang e4.1
     have p1 := ang e4.2
     have eL : Ly (ss.getD i 0) (es.map L3.D.int).length = true := by rw [anh]; exact e2
     refine aU (kQ (kC (fN (eo (aK (c_ (ss.getD i 0, es.map L3.D.int) E.fV E.dB (ai (aA E.D0) (ai (bS E.cz E.bC (aA E.cg) dW) aC)) trivial rfl) (t2 := .sh (.bl true)) (congrArg (fun z => T.sh (.bl z)) eL)))) (fun _ => j6 (nO (bO (bS E.cz E.bC (aA E.cg) dW) (aA E.D0) (uS p0 p1)) (aA E.bY)).1))) (fun hp => ?_) (fun _ => ak (ak (ak ⟨_, _, rfl⟩)))
     rw [anz e3] at hp
     exact absurd hp (by decide)
 case fin =>
   rintro δ ⟨o1, o2, rfl⟩
   exact aP n6 rfl
theorem dI : kP (aj gK) ([("tree", au), ("mood", au), ("start", au), ("enumerate", aq), ("is_place", aq)]) = true := by decide +kernel
theorem wR : aJ ["tree", "mood", "start"] ["tree"] (aj gK) := aO
noncomputable abbrev jY : Stmt := top 32
noncomputable abbrev jZ : Type := List Str × List Int × List Int × List L3.D
noncomputable def iG : jZ -> List L3.D := fun (ks, es, ss, nm) => [nq ks es ss, .lst nm]
noncomputable def fF : jZ -> Prop := fun (ks, es, ss, nm) => ae7 ks es ss /\ nm.length = es.length
noncomputable def iH : jZ -> T := fun (ks, es, ss, nm) => (.sh (.bl true) : T)
structure CP (X : Cx) (CL : Str -> Addr) : Prop extends bJ X where
 cg : Ln X 0 "tree"
 eU : Ln X 1 "names"
 pJ : Ln X 2 "many"
 cC : Gl X "len"
 ko : Gl X "are_elders_right"
 lz : Gl X "are_kinds_right"
 kr : Gl X "are_starts_right"
 cD : X.mg "len" = none
 xS : Fc X CL "are_elders_right" 3 1 fk dc fq
 zy : Fc X CL "are_kinds_right" 1 1 fX dH fY
 xT : Fc X CL "are_starts_right" 2 1 fD dg fE
 cz : uA X.K (CL "Tree")
 cA : aN X.K (CL "Tree") "kinds"
 bC : aN X.K (CL "Tree") "elders"
 cT : aN X.K (CL "Tree") "starts"
theorem CQ {X : Cx} {CL : Str -> Addr} {b : Bx} (E : CP X CL) {bF : jZ} (h : fF bF) :
   av X CL b jY ["tree", "names", "many"] (iG bF) (iH bF) := by
 obtain ⟨ks, es, ss, nm⟩ := bF
 dsimp only [av, fF, iG, iH] at h ⊢
 obtain ⟨h, hn⟩ := h
 have n1 := h.n1
 refine aQ E.g E.pJ (fc (n := es.length) ((anh ..).trans h.kl) E.cD (bS E.cz E.cA (aA E.cg) mq) E.cC) ?_
 refine aU (kQ (kC (dO (aA E.pJ) (ah ao)).1 (fun _ => kC (nO (ah (fc (n := es.length) (anh ..) E.cD (bS E.cz E.bC (aA E.cg) dW) E.cC)) (aA E.pJ)).1 (fun _ => kC (nO (ah (fc (n := es.length) ((anh ..).trans h.sl) E.cD (bS E.cz E.cT (aA E.cg) p9) E.cC)) (aA E.pJ)).1 (fun _ => j6 (nO (ah (fc (n := es.length) hn E.cD (aA E.eU) E.cC)) (aA E.pJ)).1))))) (fun hp => ?_) (fun _ => ak ?_)
 . rw [anx (show ¬ ((es.length : Nat) : Int) = 0 by omega)] at hp
   simp at hp
 exact aP (aK (j8 (aK (c_ (ks, es, ss) E.xS E.ko (ai (aA E.cg) aC) (by dsimp only [dc]; exact ⟨h.pre, h.n1, h.n2, h.deep⟩) rfl) (t2 := .sh (.bl true)) rfl) (fun _ => j8 (aK (c_ (ks, es, ss) E.zy E.lz (ai (aA E.cg) aC) (by dsimp only [dH]; exact ⟨h.kl, h.n2, h.kinds⟩) rfl) (t2 := .sh (.bl true)) rfl) (fun _ => j7 (aK (c_ (ks, es, ss) E.xT E.kr (ai (aA E.cg) aC) (by dsimp only [dg]; exact ⟨h.kl, h.sl, h.n2, h.starts⟩) rfl) (t2 := .sh (.bl true)) rfl)))) (t2 := .sh (.bl true)) rfl) rfl
theorem cR : kP (aj jY) ([("tree", au), ("names", au), ("many", au), ("len", aq), ("are_elders_right", aq), ("are_kinds_right", aq), ("are_starts_right", aq)]) = true := by decide +kernel
theorem Ba : aJ ["tree", "names", "many"] ["tree", "names"] (aj jY) := aO
noncomputable abbrev iI : Stmt := top 36
noncomputable abbrev lA : Type := List Str
noncomputable def dJ : lA -> List L3.D := fun l => [.lst (l.map .str)]
noncomputable def cj : lA -> Prop := fun l => (∀ x ∈ l, x.length <= 1000 /\ gV x = true) /\ l.Nodup /\ l.length <= 1000
noncomputable def dM : lA -> T := fun l => (.sh (.bl true) : T)
structure zA (X : Cx) (CL : Str -> Addr) : Prop extends bJ X where
 eU : Ln X 0 "names"
 b7 : Ln X 1 "name"
 g5 : Gl X "is_name"
 cC : Gl X "len"
 ahm : Gl X "set"
 kK : Fc X CL "is_name" 1 1 iU gy iV
 cD : X.mg "len" = none
 ahn : X.mg "set" = none
theorem zB {X : Cx} {CL : Str -> Addr} {b : Bx} (E : zA X CL) {l} (h : cj l) :
   av X CL b iI ["names", "name"] (dJ l) (dM l) := by
 dsimp only [av, cj, dJ, dM] at h ⊢
 obtain ⟨h1, h2, h3⟩ := h
 refine lX E.g E.b7 (fun j δ => ∃ o, δ = [some (.sh (.lst (l.map .str))), o]) (er (v_ E.eU.1)) ⟨_, rfl⟩ (fun j δ ⟨_, e⟩ => by subst e; exact anb rfl) ?turn ?fin
 case turn =>
   rintro j d δ hj ⟨o, rfl⟩
   obtain ⟨x, rfl, _, hx, _, _, _⟩ := Ez hj
   obtain ⟨x1, x2⟩ := h1 x hx
   exact aU (fN (eo (aK (c_ x E.kK E.g5 (ai (aA E.b7) aC) x1 rfl) (t2 := .sh (.bl true)) (congrArg (fun z => T.sh (.bl z)) x2)))) (fun hp => absurd hp (by decide)) (fun _ => ak (ak ⟨_, rfl⟩))
 case fin =>
   rintro δ ⟨o, rfl⟩
   exact aP (aK (dO (ah (OZ E.g E.cD E.ahn (aA E.eU) h2 h3 E.cC E.ahm)) (ah (fc (anh ..) E.cD (aA E.eU) E.cC))).2 (t2 := .sh (.bl true)) (congrArg (fun z => T.sh (.bl z)) (anz rfl))) rfl
theorem eK : kP (aj iI) ([("names", au), ("name", au), ("is_name", aq), ("len", aq), ("set", aq)]) = true := by decide +kernel
theorem xU : aJ ["names", "name"] ["names"] (aj iI) := aO
noncomputable abbrev oO : Stmt := top 45
noncomputable abbrev tM : Type := Int
noncomputable def iZ : tM -> List L3.D := fun i => [.int i]
noncomputable def i6 : tM -> Prop := fun i => True
noncomputable def i7 : tM -> T := fun i => (.sh (.bl (bdI i)) : T)
structure Ju (X : Cx) (CL : Str -> Addr) : Prop extends bJ X where
 rR : Ln X 0 "number"
theorem Jv {X : Cx} {CL : Str -> Addr} {b : Bx} (E : Ju X CL) {i} (h : i6 i) :
   av X CL b oO ["number"] (iZ i) (i7 i) := by
 dsimp only [av, i6, iZ, i7] at h ⊢
 exact aP (ac8 R7 R7 (ah (dP (ah (Il (ah ao) (ah ao) ⟨by decide, by decide, by decide⟩)))) (aA E.rR) (ah (Il (ah ao) (ah ao) ⟨by decide, by decide, by decide⟩)) (by with_unfolding_all rfl)).2 rfl
theorem GX : kP (aj oO) ([("number", au)]) = true := by decide +kernel
theorem GY : aJ ["number"] ["number"] (aj oO) := aO
noncomputable abbrev iJ : Stmt := top 37
noncomputable abbrev lB : Type := (List (Str × Int))
noncomputable def fZ : lB -> List L3.D := fun l => [.lst (l.map bxV)]
noncomputable def f6 : lB -> Prop := fun l => (∀ q ∈ l, (q.1.length <= 1000 /\ gV q.1 = true) /\ bdI q.2 = true) /\ (l.map (·.1)).Nodup /\ l.length <= 1000
noncomputable def f7 : lB -> T := fun l => (.sh (.bl true) : T)
structure zC (X : Cx) (CL : Str -> Addr) : Prop extends bJ X where
 gH : Ln X 0 "boxes"
 ado : Ln X 1 "box"
 lC : Gl X "is_bounded"
 fG : Gl X "are_names_right"
 tN : Fc X CL "is_bounded" 1 1 iZ i6 i7
 lD : Fc X CL "are_names_right" 2 1 dJ cj dM
theorem zE {X : Cx} {CL : Str -> Addr} {b : Bx} (E : zC X CL) {l} (h : f6 l) :
   av X CL b iJ ["boxes", "box"] (fZ l) (f7 l) := by
 dsimp only [av, f6, fZ, f7] at h ⊢
 obtain ⟨h1, h2, h3⟩ := h
 refine lX E.g E.ado (fun j δ => ∃ o, δ = [some (.sh (.lst (l.map bxV))), o]) (er (v_ E.gH.1)) ⟨_, rfl⟩ (fun j δ ⟨_, e⟩ => by subst e; exact anb rfl) ?turn ?fin
 case turn =>
   rintro j d δ hj ⟨o, rfl⟩
   obtain ⟨q, hq, rfl⟩ := anM.mp (anB hj)
   exact aU (fN (eo (aK (c_ q.2 E.tN E.lC (ai (az (aA E.ado) (ah ao) (ay (j := 1) rfl)) aC) trivial rfl) (t2 := .sh (.bl true)) (congrArg (fun z => T.sh (.bl z)) (h1 q hq).2)))) (fun hp => absurd hp (by decide)) (fun _ => ak (ak ⟨_, rfl⟩))
 case fin =>
   rintro δ ⟨o, rfl⟩
   have hl : ∀ x ∈ l.map (·.1), x.length <= 1000 /\ gV x = true := fun x hx => by
     obtain ⟨q, hq, rfl⟩ := anM.mp hx
     exact (h1 q hq).1
   refine aP (aK (c_ (l.map (·.1)) E.lD E.fG (ai (dz (aK (ja (p := fun _ => true) (g := fun d => T.sh (.str d.at1.toS)) (bX .nil (by decide +kernel)) E.g.calm (er (v_ E.gH.1)) (.inr rfl) (fun C s0 H0 f0 b' d hd => ?xF) (Nat.le_of_lt (cJ (by rw [List.length_map]; omega)))) ?ceq)) aC) (by dsimp only [cj]; exact ⟨hl, h2, by rw [List.length_map]; exact h3⟩) rfl) rfl) rfl
   case xF =>
     obtain ⟨q, hq, rfl⟩ := anM.mp hd
     exact ⟨rfl, fun _ => aV (az (ah (v_ (dQ (i := 0) rfl (by decide +kernel)))) (ah ao) (ay (j := 0) rfl)) rfl⟩
   case ceq =>
     rw [kD, an1, an1, an1]
     rfl
theorem gO : kP (aj iJ) ([("boxes", au), ("box", au), ("is_bounded", aq), ("are_names_right", aq)]) = true := by decide +kernel
theorem xV : aJ ["boxes", "box"] ["boxes"] (aj iJ) := aO
noncomputable abbrev j0 : Stmt := top 43
noncomputable abbrev j3 : Type := List L3.D × List L3.D × L3.D × List L3.D × List L3.D × List L3.D × Int × Int
noncomputable def fH : j3 -> List L3.D := fun (bs, nm, tr, is, os, ws, i, c) => [j9 bs nm tr is os ws, .tup [.int i, .int c]]
noncomputable def fJ : j3 -> Prop := fun (bs, nm, tr, is, os, ws, i, c) => True
noncomputable def fK : j3 -> T := fun (bs, nm, tr, is, os, ws, i, c) => (.sh (.bl (tmI bs.length i c)) : T)
structure CT (X : Cx) (CL : Str -> Addr) : Prop extends bJ X where
 aF : Ln X 0 "chart"
 gn : Ln X 1 "term"
 dB : Gl X "is_place"
 lC : Gl X "is_bounded"
 fV : Fc X CL "is_place" 1 2 fu fB fC
 tN : Fc X CL "is_bounded" 1 1 iZ i6 i7
 aM : uA X.K (CL "Chart")
 bH : aN X.K (CL "Chart") "boxes"
theorem CV {X : Cx} {CL : Str -> Addr} {b : Bx} (E : CT X CL) {bF : j3} (h : fJ bF) :
   av X CL b j0 ["chart", "term"] (fH bF) (fK bF) := by
 obtain ⟨bs, nm, tr, is, os, ws, i, c⟩ := bF
 dsimp only [av, fJ, fH, fK] at h ⊢
 exact aP (j8 (acX (dO (az (aA E.gn) (ah ao) rfl) (ah (dP (ah ao)))).2 (fun _ => j7 (aK (c_ (i, bs) E.fV E.dB (ai (az (aA E.gn) (ah ao) rfl) (ai (bS E.aM E.bH (aA E.aF) iS) aC)) trivial rfl) (t2 := .sh (.bl (Ly i bs.length))) rfl))) (fun _ => j7 (aK (c_ c E.tN E.lC (ai (az (aA E.gn) (ah ao) rfl) aC) trivial rfl) (t2 := .sh (.bl (bdI c))) rfl))) rfl
theorem ji : kP (aj j0) ([("chart", au), ("term", au), ("is_place", aq), ("is_bounded", aq)]) = true := by decide +kernel
theorem Bb : aJ ["chart", "term"] ["chart", "term"] (aj j0) := aO
noncomputable abbrev j4 : Stmt := top 42
noncomputable abbrev j5 : Type := List L3.D × List L3.D × L3.D × List L3.D × List L3.D × List L3.D × Lz
noncomputable def iK : j5 -> List L3.D := fun (bs, nm, tr, is, os, ws, q) => [j9 bs nm tr is os ws, EJ q]
noncomputable def iL : j5 -> Prop := fun (bs, nm, tr, is, os, ws, q) => ddL q
noncomputable def iM : j5 -> T := fun (bs, nm, tr, is, os, ws, q) => (.sh (.bl (ddI bs.length q)) : T)
structure CW (X : Cx) (CL : Str -> Addr) : Prop extends bJ X where
 aF : Ln X 0 "chart"
 cQ : Ln X 1 "deed"
 aS : Ln X 2 "word"
 dB : Gl X "is_place"
 dD : Gl X "is_term_right"
 g5 : Gl X "is_name"
 fV : Fc X CL "is_place" 1 2 fu fB fC
 gZ : Fc X CL "is_term_right" 2 2 fH fJ fK
 kK : Fc X CL "is_name" 1 1 iU gy iV
 aM : uA X.K (CL "Chart")
 bH : aN X.K (CL "Chart") "boxes"
theorem CY {X : Cx} {CL : Str -> Addr} {b : Bx} (E : CW X CL) {bF : j5} (h : iL bF) :
   av X CL b j4 ["chart", "deed", "word"] (iK bF) (iM bF) := by
 obtain ⟨bs, nm, tr, is, os, ws, q⟩ := bF
 dsimp only [av, iL, iK, iM] at h ⊢
 cases q with
 | put i a' c =>
   refine aQ E.g E.aS (aV (az (aA E.cQ) (ah ao) (ay (j := 0) rfl)) rfl) ?_
   refine aU (bB (aA E.aS) (ah aB)).1 (fun _ => ?_) (fun hp => absurd (anr hp) (by decide +kernel))
   exact aP (j8 (aK (c_ (i, bs) E.fV E.dB (ai (az (aA E.cQ) (ah ao) (ay (j := 1) rfl)) (ai (bS E.aM E.bH (aA E.aF) iS) aC)) trivial rfl) (t2 := .sh (.bl (Ly i bs.length))) rfl) (fun _ => j7 (aK (c_ (bs, nm, tr, is, os, ws, a', c) E.gZ E.dD (ai (aA E.aF) (ai (az (aA E.cQ) (ah ao) (ay (j := 2) rfl)) aC)) trivial rfl) (t2 := .sh (.bl (tmI bs.length a' c))) rfl))) rfl
 | say x a' c =>
   have hx : x.length <= 1000 := h
   refine aQ E.g E.aS (aV (az (aA E.cQ) (ah ao) (ay (j := 0) rfl)) rfl) ?_
   refine aU (bB (aA E.aS) (ah aB)).1 (fun hp => absurd (ang hp) (by decide +kernel)) (fun _ => ak ?_)
   refine aU (bB (aA E.aS) (ah aB)).1 (fun _ => ?_) (fun hp => absurd (anr hp) (by decide +kernel))
   exact aP (j8 (aK (c_ x E.kK E.g5 (ai (az (aA E.cQ) (ah ao) (ay (j := 1) rfl)) aC) hx rfl) (t2 := .sh (.bl (gV x))) rfl) (fun _ => j7 (aK (c_ (bs, nm, tr, is, os, ws, a', c) E.gZ E.dD (ai (aA E.aF) (ai (az (aA E.cQ) (ah ao) (ay (j := 2) rfl)) aC)) trivial rfl) (t2 := .sh (.bl (tmI bs.length a' c))) rfl))) rfl
 | call x =>
   have hx : x.length <= 1000 := h
   refine aQ E.g E.aS (aV (az (aA E.cQ) (ah ao) (ay (j := 0) rfl)) rfl) ?_
   refine aU (bB (aA E.aS) (ah aB)).1 (fun hp => absurd (ang hp) (by decide +kernel)) (fun _ => ak ?_)
   refine aU (bB (aA E.aS) (ah aB)).1 (fun hp => absurd (ang hp) (by decide +kernel)) (fun _ => ak ?_)
   exact aP (aK (j8 (bB (aA E.aS) (ah aB)).2 (fun _ => j7 (aK (c_ x E.kK E.g5 (ai (az (aA E.cQ) (ah ao) (ay (j := 1) rfl)) aC) hx rfl) (t2 := .sh (.bl (gV x))) rfl))) (t2 := .sh (.bl (gV x))) (congrArg (fun z => T.sh (.bl z)) (by rw [anz rfl]; rfl))) rfl
theorem d8 : kP (aj j4) ([("chart", au), ("deed", au), ("word", au), ("is_place", aq), ("is_term_right", aq), ("is_name", aq)]) = true := by decide +kernel
theorem Bc : aJ ["chart", "deed", "word"] ["chart", "deed"] (aj j4) := aO
noncomputable abbrev iN : Stmt := top 38
noncomputable abbrev iO : Type := List L3.D × List L3.D × L3.D × List (List Lz) × List (List Lz) × List LkW
noncomputable def f9 : iO -> List L3.D := fun (bs, nm, tr, is, os, ws) => [j9 bs nm tr (is.map fun l => L3.D.tup (l.map EJ)) (os.map fun l => L3.D.tup (l.map EJ)) (ws.map lwV)]
noncomputable def dN : iO -> Prop := fun (bs, nm, tr, is, os, ws) => is.length = nm.length /\ os.length = nm.length /\ nm.length <= 400 /\ ws.length <= 100 /\ (∀ l ∈ is ++ os ++ ws.map (·.dl), ∀ q ∈ l, ddL q /\ ddI bs.length q = true)
noncomputable def gb : iO -> T := fun (bs, nm, tr, is, os, ws) => (.sh (.bl true) : T)
structure zF (X : Cx) (CL : Str -> Addr) : Prop extends bJ X where
 aF : Ln X 0 "chart"
 pJ : Ln X 1 "many"
 Ti : Ln X 2 "deeds"
 cQ : Ln X 3 "deed"
 cC : Gl X "len"
 nS : Gl X "is_deed_right"
 cD : X.mg "len" = none
 CZ : Fc X CL "is_deed_right" 3 2 iK iL iM
 Jw : ∃ u, X.mg "DEEDS" = some (.int 3 u)
 aM : uA X.K (CL "Chart")
 aW : aN X.K (CL "Chart") "names"
 gA : aN X.K (CL "Chart") "ins"
 fL : aN X.K (CL "Chart") "outs"
 dU : aN X.K (CL "Chart") "ways"
theorem zG {X : Cx} {CL : Str -> Addr} {b : Bx} (E : zF X CL) {bF : iO} (h : dN bF) :
   av X CL b iN ["chart", "many", "deeds", "deed"] (f9 bF) (gb bF) := by
 obtain ⟨bs, nm, tr, is, os, ws⟩ := bF
 dsimp only [av, dN, f9, gb] at h ⊢
 obtain ⟨h1, h2, h3, h4, h5⟩ := h
 refine aQ E.g E.pJ (fc (n := nm.length) rfl E.cD (bS E.aM E.aW (aA E.aF) c6) E.cC) ?_
 refine aU (kQ (kC (nO (ah (fc (n := nm.length) ((anh ..).trans h1) E.cD (bS E.aM E.gA (aA E.aF) vY) E.cC)) (aA E.pJ)).1 (fun _ => j6 (nO (ah (fc (n := nm.length) ((anh ..).trans h2) E.cD (bS E.aM E.fL (aA E.aF) sM) E.cC)) (aA E.pJ)).1))) (fun hp => ?_) (fun _ => ak ?_)
 . simp at hp
 have im : ∀ l : List (List Lz), D.cP (l.map fun l => L3.D.tup (l.map EJ)) = true := fun l => pD (f := fun l : List Lz => L3.D.tup (l.map EJ)) (fun q => show D.cP (q.map EJ) = true from pD (fun q => by cases q <;> rfl) q) l
 refine lX E.g E.Ti (fun j δ => ∃ o1 o2, δ = [some (.sh (j9 bs nm tr (is.map fun l => L3.D.tup (l.map EJ)) (os.map fun l => L3.D.tup (l.map EJ)) (ws.map lwV))), some (.sh (.int nm.length)), o1, o2])
   (er (aa1 (ds := (is ++ os ++ ws.map (·.dl)).map fun l => L3.D.tup (l.map EJ)) (aK (IC (ds := (is ++ os).map fun l => L3.D.tup (l.map EJ)) (ZZ := (ws.map (·.dl)).map fun l => L3.D.tup (l.map EJ)) (dz (aK (IC (bS E.aM E.gA (aA E.aF) vY) (bS E.aM E.fL (aA E.aF) sM) (im is) (im os) (an9 (cJ (by simp; omega)))) (by rw [← anC]))) (dz (aK (ja (p := fun _ => true) (g := fun d => T.sh (ajV d)) (bX .nil (by decide +kernel)) E.g.calm (er (g7 E.aM E.dU (v_ E.aF.1) sN)) (.inr rfl) (fun C s0 H0 f0 b' d hd => ?xF) (an9 (cJ (by rw [anh]; omega)))) ?ceq)) (im _) (im _) (an9 (cJ (by simp; omega)))) (by rw [← anC])))) ⟨_, _, rfl⟩ (fun j δ ⟨_, _, e⟩ => by subst e; exact anb rfl) ?turn ?fin
 case xF =>
   obtain ⟨w, hw, rfl⟩ := anM.mp hd
   exact ⟨rfl, fun _ => aV (az (ah (v_ (dQ (i := 0) rfl (by decide +kernel)))) (ah (aG (by exact E.Jw) (dh (by decide +kernel)))) (ay (j := 3) rfl)) (show D.cP (w.dl.map EJ) = true from pD (fun q => by cases q <;> rfl) _)⟩
 case ceq =>
   rw [kD, an1, an1, an1]
   rfl
 case turn =>
   rintro j d δ hj ⟨o1, o2, rfl⟩
   obtain ⟨l, hl, rfl⟩ := anM.mp (anB hj)
   have hq := h5 l hl
   refine lX E.g E.cQ (fun j δ => ∃ o2, δ = [some (.sh (j9 bs nm tr (is.map fun l => L3.D.tup (l.map EJ)) (os.map fun l => L3.D.tup (l.map EJ)) (ws.map lwV))), some (.sh (.int nm.length)), some (.sh (.tup (l.map EJ))), o2]) (AK (v_ E.Ti.1)) ⟨_, rfl⟩ (fun j δ ⟨_, e⟩ => by subst e; exact anb rfl) ?Mq ?fin2
   case Mq =>
     rintro i d δ hi ⟨o2, rfl⟩
     obtain ⟨q, hqm, rfl⟩ := anM.mp (anB hi)
     exact aU (fN (eo (aK (c_ (bs, nm, tr, is.map fun l => L3.D.tup (l.map EJ), os.map fun l => L3.D.tup (l.map EJ), ws.map lwV, q) E.CZ E.nS (ai (aA E.aF) (ai (aA E.cQ) aC)) (hq q hqm).1 rfl) (t2 := .sh (.bl true)) (congrArg (fun z => T.sh (.bl z)) (hq q hqm).2)))) (fun hp => absurd hp (by decide)) (fun _ => ak (ak ⟨_, rfl⟩))
   case fin2 =>
     rintro δ ⟨o2, rfl⟩
     exact ak ⟨_, _, rfl⟩
 case fin =>
   rintro δ ⟨o1, o2, rfl⟩
   exact aP n6 rfl
theorem cS : kP (aj iN) ([("chart", au), ("many", au), ("deeds", au), ("deed", au), ("len", aq), ("is_deed_right", aq)]) = true := by decide +kernel
theorem xW : aJ ["chart", "many", "deeds", "deed"] ["chart"] (aj iN) := aO
noncomputable abbrev lE : Stmt := top 41
noncomputable abbrev lF : Type := List L3.D × List L3.D × L3.D × List L3.D × List L3.D × List L3.D × LkA
noncomputable def jj : lF -> List L3.D := fun (bs, nm, tr, is, os, ws, q) => [j9 bs nm tr is os ws, lkV q]
noncomputable def jk : lF -> Prop := fun (bs, nm, tr, is, os, ws, q) => ae5 q
noncomputable def jl : lF -> T := fun (bs, nm, tr, is, os, ws, q) => (.sh (.bl (lkI nm.length bs.length q)) : T)
structure Fp (X : Cx) (CL : Str -> Addr) : Prop extends bJ X where
 aF : Ln X 0 "chart"
 qC : Ln X 1 "ask"
 g8 : Ln X 2 "mark"
 dB : Gl X "is_place"
 abW : Gl X "MARKS"
 dD : Gl X "is_term_right"
 fV : Fc X CL "is_place" 1 2 fu fB fC
 Jx : GT X "MARKS" ["<", "<=", "=", "!="]
 gZ : Fc X CL "is_term_right" 2 2 fH fJ fK
 aM : uA X.K (CL "Chart")
 aW : aN X.K (CL "Chart") "names"
theorem Fq {X : Cx} {CL : Str -> Addr} {b : Bx} (E : Fp X CL) {bF : lF} (h : jk bF) :
   av X CL b lE ["chart", "ask", "mark"] (jj bF) (jl bF) := by
 obtain ⟨bs, nm, tr, is, os, ws, q⟩ := bF
 dsimp only [av, jk, jj, jl] at h ⊢
 cases q with
 | abt x m =>
   refine aQ E.g E.g8 (aV (az (aA E.qC) (ah ao) (ay (j := 0) rfl)) rfl) ?_
   refine aU (mj (l := ["open", "shut"]) (aA E.g8) (gF rfl)).1 (fun _ => ?_) (fun hp => absurd (show x ∈ (["open", "shut"] : List Str) from h) (anr hp))
   exact aP (aK (c_ (m, nm) E.fV E.dB (ai (az (aA E.qC) (ah ao) (ay (j := 1) rfl)) (ai (bS E.aM E.aW (aA E.aF) c6) aC)) trivial rfl) rfl) rfl
 | num mk a1 c1 a2 c2 =>
   refine aQ E.g E.g8 (aV (az (aA E.qC) (ah ao) (ay (j := 0) rfl)) rfl) ?_
   refine aU (mj (l := ["open", "shut"]) (aA E.g8) (gF rfl)).1 (fun hp => absurd (ang hp) h) (fun _ => ak ?_)
   exact aP (j8 (Sv (l := ["<", "<=", "=", "!="]) (aA E.g8) (ah (b9 E.Jx E.abW)) rfl rfl).2 (fun _ => j8 (aK (c_ (bs, nm, tr, is, os, ws, a1, c1) E.gZ E.dD (ai (aA E.aF) (ai (az (aA E.qC) (ah ao) (ay (j := 1) rfl)) aC)) trivial rfl) (t2 := .sh (.bl (tmI bs.length a1 c1))) rfl) (fun _ => j7 (aK (c_ (bs, nm, tr, is, os, ws, a2, c2) E.gZ E.dD (ai (aA E.aF) (ai (az (aA E.qC) (ah ao) (ay (j := 2) rfl)) aC)) trivial rfl) (t2 := .sh (.bl (tmI bs.length a2 c2))) rfl)))) rfl
theorem eZ : kP (aj lE) ([("chart", au), ("ask", au), ("mark", au), ("is_place", aq), ("MARKS", aq), ("is_term_right", aq)]) = true := by decide +kernel
theorem C1 : aJ ["chart", "ask", "mark"] ["chart", "ask"] (aj lE) := aO
noncomputable abbrev lG : Stmt := top 40
noncomputable abbrev lH : Type := List L3.D × List L3.D × L3.D × List L3.D × List L3.D × List L3.D × Int × Str × List LkA × List L3.D × Int × Str
noncomputable def jm : lH -> List L3.D := fun (bs, nm, tr, is, os, ws, src, sg, al, dd, tg, md) => [j9 bs nm tr is os ws, .tup [.int src, .str sg, .tup (al.map lkV), .tup dd, .int tg, .str md]]
noncomputable def jo : lH -> Prop := fun (bs, nm, tr, is, os, ws, src, sg, al, dd, tg, md) => Ly src nm.length = true /\ (sg.length <= 1000 /\ gV sg = true) /\ md ∈ (["new", "near", "far"] : List Str) /\ ((tg = -1 /\ md = "new") \/ (tg ≠ -1 /\ Ly tg nm.length = true)) /\ ∀ q ∈ al, ae5 q /\ lkI nm.length bs.length q = true
noncomputable def jq : lH -> T := fun (bs, nm, tr, is, os, ws, src, sg, al, dd, tg, md) => (.sh (.bl true) : T)
structure Ft (X : Cx) (CL : Str -> Addr) : Prop extends bJ X where
 aF : Ln X 0 "chart"
 jw : Ln X 1 "way"
 zH : Ln X 2 "target"
 P5 : Ln X 3 "mode"
 qC : Ln X 4 "ask"
 zI : Gl X "TARGET"
 Jy : Gl X "MODE"
 dB : Gl X "is_place"
 rZ : Gl X "SOURCE"
 g5 : Gl X "is_name"
 P6 : Gl X "SIGN"
 abX : Gl X "MODES"
 P7 : Gl X "ASKS"
 pM : Gl X "is_ask_right"
 zJ : ∃ u, X.mg "TARGET" = some (.int 4 u)
 Jz : ∃ u, X.mg "MODE" = some (.int 5 u)
 fV : Fc X CL "is_place" 1 2 fu fB fC
 r6 : ∃ u, X.mg "SOURCE" = some (.int 0 u)
 kK : Fc X CL "is_name" 1 1 iU gy iV
 P8 : ∃ u, X.mg "SIGN" = some (.int 1 u)
 JA : GT X "MODES" ["new", "near", "far"]
 P9 : ∃ u, X.mg "ASKS" = some (.int 2 u)
 Fv : Fc X CL "is_ask_right" 3 2 jj jk jl
 aM : uA X.K (CL "Chart")
 aW : aN X.K (CL "Chart") "names"
theorem Fw {X : Cx} {CL : Str -> Addr} {b : Bx} (E : Ft X CL) {bF : lH} (h : jo bF) :
   av X CL b lG ["chart", "way", "target", "mode", "ask"] (jm bF) (jq bF) := by
 obtain ⟨bs, nm, tr, is, os, ws, src, sg, al, dd, tg, md⟩ := bF
 dsimp only [av, jo, jm, jq] at h ⊢
 obtain ⟨h1, ⟨h2, h3⟩, h4, h5, h6⟩ := h
 refine aQ E.g E.zH (aV (az (aA E.jw) (ah (aG E.zJ E.zI)) (ay (j := 4) rfl)) rfl) ?_
 refine aQ E.g E.P5 (aV (az (aA E.jw) (ah (aG E.Jz E.Jy)) (ay (j := 5) rfl)) rfl) ?_
 refine aU (kQ (kC (fN (eo (aK (c_ (src, nm) E.fV E.dB (ai (az (aA E.jw) (ah (aG E.r6 E.rZ)) (ay (j := 0) rfl)) (ai (bS E.aM E.aW (aA E.aF) c6) aC)) trivial rfl) (t2 := .sh (.bl true)) (congrArg (fun z => T.sh (.bl z)) h1)))) (fun _ => kC (fN (eo (aK (c_ sg E.kK E.g5 (ai (az (aA E.jw) (ah (aG E.P8 E.P6)) (ay (j := 1) rfl)) aC) h2 rfl) (t2 := .sh (.bl true)) (congrArg (fun z => T.sh (.bl z)) h3)))) (fun _ => j6 (DP (l := ["new", "near", "far"]) (aA E.P5) (ah (b9 E.JA E.abX)) rfl rfl).1)))) (fun hp => ?_) (fun _ => ak ?_)
 . rw [anz h4] at hp
   exact absurd hp (by decide)
 refine aji (fun δ => δ = [some (.sh (j9 bs nm tr is os ws)), some (.sh (.tup [.int src, .str sg, .tup (al.map lkV), .tup dd, .int tg, .str md])), some (.sh (.int tg)), some (.sh (.str md)), none]) (fun δ2 e2 => ?_) (fun k => ?_)
 . subst e2
   refine lX E.g E.qC (fun j δ => ∃ o, δ = [some (.sh (j9 bs nm tr is os ws)), some (.sh (.tup [.int src, .str sg, .tup (al.map lkV), .tup dd, .int tg, .str md])), some (.sh (.int tg)), some (.sh (.str md)), o])
     (AK (aV (az (aA E.jw) (ah (aG E.P9 E.P7)) (ay (j := 2) rfl)) (X7 al))) ⟨_, rfl⟩ (fun j δ ⟨_, e⟩ => by subst e; exact anb rfl) ?turn ?fin
   case turn =>
     rintro j d δ hj ⟨o, rfl⟩
     obtain ⟨q, hq, rfl⟩ := anM.mp (anB hj)
     obtain ⟨q1, q2⟩ := h6 q hq
     exact aU (fN (eo (aK (c_ (bs, nm, tr, is, os, ws, q) E.Fv E.pM (ai (aA E.aF) (ai (aA E.qC) aC)) q1 rfl) (t2 := .sh (.bl true)) (congrArg (fun z => T.sh (.bl z)) q2)))) (fun hp => absurd hp (by decide)) (fun _ => ak (ak ⟨_, rfl⟩))
   case fin =>
     rintro δ ⟨o, rfl⟩
     exact aP n6 rfl
 rcases h5 with ⟨e1, e2⟩ | ⟨e1, e2⟩
 . refine aU (dO (aA E.zH) (ah (dP (ah ao)))).1 (fun _ => ?_) (fun hp => absurd e1 (anr hp))
   refine aU (Im (aA E.P5) (ah aB)).1 (fun hp => ?_) (fun _ => ak (ak (k _ rfl)))
   rw [anz e2] at hp
   exact absurd hp (by decide)
 . refine aU (dO (aA E.zH) (ah (dP (ah ao)))).1 (fun hp => absurd (ang hp) e1) (fun _ => ?_)
   refine aU (fN (eo (aK (c_ (tg, nm) E.fV E.dB (ai (aA E.zH) (ai (bS E.aM E.aW (aA E.aF) c6) aC)) trivial rfl) (t2 := .sh (.bl true)) (congrArg (fun z => T.sh (.bl z)) e2)))) (fun hp => absurd hp (by decide)) (fun _ => ak (ak (k _ rfl)))
theorem bE : kP (aj lG) ([("chart", au), ("way", au), ("target", au), ("mode", au), ("ask", au), ("TARGET", aq), ("MODE", aq), ("is_place", aq), ("SOURCE", aq), ("is_name", aq), ("SIGN", aq), ("MODES", aq), ("ASKS", aq), ("is_ask_right", aq)]) = true := by decide +kernel
theorem C2 : aJ ["chart", "way", "target", "mode", "ask"] ["chart", "way"] (aj lG) := aO
noncomputable abbrev jr : Stmt := top 39
noncomputable abbrev jt : Type := List L3.D × List L3.D × L3.D × List L3.D × List L3.D × List LkW
noncomputable def gP : jt -> List L3.D := fun (bs, nm, tr, is, os, ws) => [j9 bs nm tr is os (ws.map lwV)]
noncomputable def eN : jt -> Prop := fun (bs, nm, tr, is, os, ws) => (∀ w ∈ ws, w.Ok nm.length bs.length) /\ ws.Pairwise (fun a c => a.src <= c.src)
noncomputable def gQ : jt -> T := fun (bs, nm, tr, is, os, ws) => (.sh (.bl true) : T)
structure Bd (X : Cx) (CL : Str -> Addr) : Prop extends bJ X where
 aF : Ln X 0 "chart"
 Qa : Ln X 1 "last"
 jw : Ln X 2 "way"
 rZ : Gl X "SOURCE"
 pN : Gl X "is_way_right"
 r6 : ∃ u, X.mg "SOURCE" = some (.int 0 u)
 Fx : Fc X CL "is_way_right" 4 2 jm jo jq
 aM : uA X.K (CL "Chart")
 dU : aN X.K (CL "Chart") "ways"
theorem Be {X : Cx} {CL : Str -> Addr} {b : Bx} (E : Bd X CL) {bF : jt} (h : eN bF) :
   av X CL b jr ["chart", "last", "way"] (gP bF) (gQ bF) := by
 obtain ⟨bs, nm, tr, is, os, ws⟩ := bF
 dsimp only [av, eN, gP, gQ] at h ⊢
 obtain ⟨h1, h2⟩ := h
 refine aQ E.g E.Qa ao ?_
 refine lX E.g E.jw (fun j δ => ∃ (l : Int) (o : Option T), (∀ w ∈ ws.drop j, l <= w.src) /\ δ = [some (.sh (j9 bs nm tr is os (ws.map lwV))), some (.sh (.int l)), o])
   (er (g7 E.aM E.dU (v_ E.aF.1) sN)) ⟨0, none, fun w hw => ?_, rfl⟩ (fun j δ ⟨_, _, _, e⟩ => by subst e; exact anb rfl) ?turn ?fin
 . have := (h1 w (List.mem_of_mem_drop hw)).1
   unfold Ly at this
   rw [anH] at this
   exact ang this.1
 case turn =>
   rintro j d δ hj ⟨l, o, hl, rfl⟩
   obtain ⟨w, hw, rfl⟩ : ∃ w, ws[j]? = some w /\ lwV w = d := by rw [anJ] at hj; exact aoA.mp hj
   have Jg : j < ws.length := (anS.mp hw).1
   have hdr : ws.drop j = w :: ws.drop (j + 1) := by rw [List.drop_eq_getElem_cons Jg, (anS.mp hw).2]
   have hwm : w ∈ ws := anB hw
   have hlw : l <= w.src := hl w (by rw [hdr]; exact anc)
   refine aU (kQ (kC (acU (az (aA E.jw) (ah (aG E.r6 E.rZ)) (ay (j := 0) rfl)) (aA E.Qa)).1 (fun _ => j6 (fN (eo (aK (c_ (bs, nm, tr, is, os, ws.map lwV, w.src, w.sign, w.al, w.dl.map EJ, w.tgt, w.mode) E.Fx E.pN (ai (aA E.aF) (ai (aA E.jw) aC)) (h1 w hwm) rfl) (t2 := .sh (.bl true)) rfl)))))) (fun hp => ?_) (fun _ => ak ?_)
   . have hp : (decide (w.src < l) || !true) = true := hp
     rw [anx (by omega)] at hp
     exact absurd hp (by decide)
   refine aQ E.g E.Qa (aV (az (aA E.jw) (ah (aG E.r6 E.rZ)) (ay (j := 0) rfl)) rfl) (ak ⟨w.src, _, fun v hv => ?_, rfl⟩)
   have hp := h2.drop (i := j)
   rw [hdr] at hp
   exact (List.pairwise_cons.mp hp).1 v hv
 case fin =>
   rintro δ ⟨l, o, _, rfl⟩
   exact aP n6 rfl
theorem fM : kP (aj jr) ([("chart", au), ("last", au), ("way", au), ("SOURCE", aq), ("is_way_right", aq)]) = true := by decide +kernel
theorem zK : aJ ["chart", "last", "way"] ["chart"] (aj jr) := aO
noncomputable abbrev zL : Stmt := top 31
noncomputable abbrev zM : Type := (List (Str × Int)) × List Str × List Str × List Int × List Int × List (List Lz) × List (List Lz) × List LkW
noncomputable def tO : zM -> List L3.D := fun (bs, nm, ks, es, ss, is, os, ws) => [j9 (bs.map bxV) (nm.map .str) (nq ks es ss) (is.map fun l => L3.D.tup (l.map EJ)) (os.map fun l => L3.D.tup (l.map EJ)) (ws.map lwV)]
noncomputable def pO : zM -> Prop := fun (bs, nm, ks, es, ss, is, os, ws) => (ae7 ks es ss /\ nm.length = es.length /\ es.length <= 400) /\ ((∀ x ∈ nm, x.length <= 1000 /\ gV x = true) /\ nm.Nodup) /\ ((∀ q ∈ bs, (q.1.length <= 1000 /\ gV q.1 = true) /\ bdI q.2 = true) /\ (bs.map (·.1)).Nodup /\ bs.length <= 1000) /\ (is.length = nm.length /\ os.length = nm.length /\ ws.length <= 100 /\ (∀ l ∈ is ++ os ++ ws.map (·.dl), ∀ q ∈ l, ddL q /\ ddI bs.length q = true)) /\ (∀ w ∈ ws, w.Ok nm.length bs.length) /\ ws.Pairwise (fun a c => a.src <= c.src)
noncomputable def tP : zM -> T := fun (bs, nm, ks, es, ss, is, os, ws) => (.sh .non : T)
structure YV (X : Cx) (CL : Str -> Addr) : Prop extends bJ X where
 aF : Ln X 0 "chart"
 nT : Gl X "is_tree_right"
 afW : Gl X "BadTree"
 fG : Gl X "are_names_right"
 afX : Gl X "BadName"
 lI : Gl X "are_boxes_right"
 aho : Gl X "BadBox"
 lJ : Gl X "are_deeds_right"
 afY : Gl X "BadDeed"
 mD : Gl X "are_ways_right"
 ahp : Gl X "BadWay"
 C3 : Fc X CL "is_tree_right" 4 2 iG fF iH
 lD : Fc X CL "are_names_right" 2 1 dJ cj dM
 zN : Fc X CL "are_boxes_right" 3 1 fZ f6 f7
 zO : Fc X CL "are_deeds_right" 4 1 f9 dN gb
 Bf : Fc X CL "are_ways_right" 5 1 gP eN gQ
 aM : uA X.K (CL "Chart")
 cU : aN X.K (CL "Chart") "tree"
 aW : aN X.K (CL "Chart") "names"
 bH : aN X.K (CL "Chart") "boxes"
theorem YW {X : Cx} {CL : Str -> Addr} {b : Bx} (E : YV X CL) {bF : zM} (h : pO bF) :
   av X CL b zL ["chart"] (tO bF) (tP bF) := by
 obtain ⟨bs, nm, ks, es, ss, is, os, ws⟩ := bF
 dsimp only [av, pO, tO, tP] at h ⊢
 obtain ⟨⟨h1, h2, h3⟩, ⟨h4, h5⟩, h6, ⟨h7, h8, h9, h10⟩, h11, h12⟩ := h
 have el : (nm.map L3.D.str).length = nm.length := anh ..
 have eb : (bs.map bxV).length = bs.length := anh ..
 refine aU (fN (eo (aK (c_ (ks, es, ss, nm.map L3.D.str) E.C3 E.nT (ai (bS E.aM E.cU (aA E.aF) pG) (ai (bS E.aM E.aW (aA E.aF) c6) aC)) (by dsimp only [fF]; exact ⟨h1, by omega⟩) rfl) (t2 := .sh (.bl true)) rfl))) (fun hp => absurd hp (by decide)) (fun _ => ak ?_)
 refine aU (fN (eo (aK (c_ nm E.lD E.fG (ai (bS E.aM E.aW (aA E.aF) c6) aC) (by dsimp only [cj]; exact ⟨h4, h5, by omega⟩) rfl) (t2 := .sh (.bl true)) rfl))) (fun hp => absurd hp (by decide)) (fun _ => ak ?_)
 refine aU (fN (eo (aK (c_ bs E.zN E.lI (ai (bS E.aM E.bH (aA E.aF) iS) aC) h6 rfl) (t2 := .sh (.bl true)) rfl))) (fun hp => absurd hp (by decide)) (fun _ => ak ?_)
 refine aU (fN (eo (aK (c_ (bs.map bxV, nm.map L3.D.str, nq ks es ss, is, os, ws) E.zO E.lJ (ai (aA E.aF) aC) (by dsimp only [dN]; rw [el, eb]; exact ⟨h7, h8, by omega, h9, h10⟩) rfl) (t2 := .sh (.bl true)) rfl))) (fun hp => absurd hp (by decide)) (fun _ => ak ?_)
 refine aU (fN (eo (aK (c_ (bs.map bxV, nm.map L3.D.str, nq ks es ss, is.map fun l => L3.D.tup (l.map EJ), os.map fun l => L3.D.tup (l.map EJ), ws) E.Bf E.mD (ai (aA E.aF) aC) (by dsimp only [eN]; rw [el, eb]; exact ⟨h11, h12⟩) rfl) (t2 := .sh (.bl true)) rfl))) (fun hp => absurd hp (by decide)) (fun _ => ak ?_)
 exact ak rfl
theorem gu : kP (aj zL) ([("chart", au), ("is_tree_right", aq), ("BadTree", aq), ("are_names_right", aq), ("BadName", aq), ("are_boxes_right", aq), ("BadBox", aq), ("are_deeds_right", aq), ("BadDeed", aq), ("are_ways_right", aq), ("BadWay", aq)]) = true := by decide +kernel
theorem Vy : aJ ["chart"] ["chart"] (aj zL) := aO
noncomputable abbrev oQ : Stmt := inClass (top 11) 0
noncomputable abbrev tQ : Type := List L3.D × List L3.D × V × List L3.D × List L3.D × List L3.D
noncomputable def vf : tQ -> List L3.D := fun (bs, nm, tv, is, os, ws) => [.lst bs, .lst nm, .val tv, .lst is, .lst os, .lst ws]
noncomputable def vg : tQ -> Prop := fun (bs, nm, tv, is, os, ws) => D.cP bs = true /\ D.cP nm = true /\ D.cP is = true /\ D.cP os = true /\ D.cP ws = true
noncomputable def vh : tQ -> List (Str × T) := fun (bs, nm, tv, is, os, ws) => (ri bs nm (.sh (.val tv)) is os ws : List (Str × T))
structure JB (X : Cx) (CL : Str -> Addr) : Prop extends bJ X where
 rA : Ln X 0 "self"
 gH : Ln X 1 "boxes"
 eU : Ln X 2 "names"
 cg : Ln X 3 "tree"
 Fy : Ln X 4 "ins"
 JC : Ln X 5 "outs"
 Jr : Ln X 6 "ways"
 g9 : Gl X "list"
 ia : X.mg "list" = none
 aM : uA X.K (CL "Chart")
 bH : aN X.K (CL "Chart") "boxes"
 aW : aN X.K (CL "Chart") "names"
 cU : aN X.K (CL "Chart") "tree"
 gA : aN X.K (CL "Chart") "ins"
 fL : aN X.K (CL "Chart") "outs"
 dU : aN X.K (CL "Chart") "ways"
theorem JD {X : Cx} {CL : Str -> Addr} {b : Bx} (E : JB X CL) (bs nm : List L3.D) (tv : V) (is os ws : List L3.D) (y : Addr) (h : D.cP bs = true /\ D.cP nm = true /\ D.cP is = true /\ D.cP os = true /\ D.cP ws = true) :
   gU X CL b (jP oQ) (Xv ["self", "boxes", "names", "tree", "ins", "outs", "ways"] y "Chart" [.lst bs, .lst nm, .val tv, .lst is, .lst os, .lst ws]) { nx := fun δ => δ[0]? = some (some (.pin y (.ins "Chart" (ri bs nm (.sh (.val tv)) is os ws)))), rt := fun _ _ => False } := by
 obtain ⟨h1, h2, h3, h4, h5⟩ := h
 refine yP E.aM E.bH E.rA.1 (nj E.ia (aA E.gH) h1 E.g9 gD) rfl (anb rfl) ?_
 rw [kX]
 refine yP E.aM E.aW E.rA.1 (nj E.ia (aA E.eU) h2 E.g9 gD) rfl (anb rfl) ?_
 rw [ck (by decide +kernel), kX]
 refine yP E.aM E.cU E.rA.1 (v_ E.cg.1) rfl (anb rfl) ?_
 rw [ck (by decide +kernel), ck (by decide +kernel), kX]
 refine yP E.aM E.gA E.rA.1 (nj E.ia (aA E.Fy) h3 E.g9 gD) rfl (anb rfl) ?_
 rw [ck (by decide +kernel), ck (by decide +kernel), ck (by decide +kernel), kX]
 refine yP E.aM E.fL E.rA.1 (nj E.ia (aA E.JC) h4 E.g9 gD) rfl (anb rfl) ?_
 rw [ck (by decide +kernel), ck (by decide +kernel), ck (by decide +kernel), ck (by decide +kernel), kX]
 refine yP E.aM E.dU E.rA.1 (nj E.ia (aA E.Jr) h5 E.g9 gD) rfl (anb rfl) ?_
 rw [ck (by decide +kernel), ck (by decide +kernel), ck (by decide +kernel), ck (by decide +kernel), ck (by decide +kernel), kX]
 exact ak rfl
theorem dX : kP (aj oQ) ([("self", au), ("boxes", au), ("names", au), ("tree", au), ("ins", au), ("outs", au), ("ways", au), ("list", aq)]) = true := by decide +kernel
theorem w4 : aJ ["self", "boxes", "names", "tree", "ins", "outs", "ways"] ["self", "boxes", "names", "tree", "ins", "outs", "ways"] (aj oQ) := aO
noncomputable abbrev qD : Stmt := inClass (top 23) 0
noncomputable abbrev vm : Type := List Str × List Int × List Int
noncomputable def w6 : vm -> List L3.D := fun (ks, es, ss) => [.lst (ks.map .str), .lst (es.map .int), .lst (ss.map .int)]
noncomputable def w9 : vm -> Prop := fun (ks, es, ss) => True
noncomputable def xg : vm -> List (Str × T) := fun (ks, es, ss) => (yR ks es ss : List (Str × T))
structure Ms (X : Cx) (CL : Str -> Addr) : Prop extends bJ X where
 rA : Ln X 0 "self"
 D3 : Ln X 1 "kinds"
 nK : Ln X 2 "elders"
 zP : Ln X 3 "starts"
 g9 : Gl X "list"
 ia : X.mg "list" = none
 cz : uA X.K (CL "Tree")
 cA : aN X.K (CL "Tree") "kinds"
 bC : aN X.K (CL "Tree") "elders"
 cT : aN X.K (CL "Tree") "starts"
theorem Mt {X : Cx} {CL : Str -> Addr} {b : Bx} (E : Ms X CL) (ks : List Str) (es ss : List Int) (y : Addr) (h : True) :
   gU X CL b (jP qD) (Xv ["self", "kinds", "elders", "starts"] y "Tree" [.lst (ks.map .str), .lst (es.map .int), .lst (ss.map .int)]) { nx := fun δ => δ[0]? = some (some (.pin y (.ins "Tree" (yR ks es ss)))), rt := fun _ _ => False } := by
 have hi : D.cP (ks.map L3.D.str) = true := pD (fun _ => rfl) _
 refine yP E.cz E.cA E.rA.1 (nj E.ia (aA E.D3) hi E.g9 gD) rfl (anb rfl) ?_
 rw [kX]
 refine yP E.cz E.bC E.rA.1 (nj E.ia (aA E.nK) (yN _) E.g9 gD) rfl (anb rfl) ?_
 rw [ck (by decide +kernel), kX]
 refine yP E.cz E.cT E.rA.1 (nj E.ia (aA E.zP) (yN _) E.g9 gD) rfl (anb rfl) ?_
 rw [ck (by decide +kernel), ck (by decide +kernel), kX]
 exact ak rfl
theorem lK : kP (aj qD) ([("self", au), ("kinds", au), ("elders", au), ("starts", au), ("list", aq)]) = true := by decide +kernel
theorem zQ : aJ ["self", "kinds", "elders", "starts"] ["self", "kinds", "elders", "starts"] (aj qD) := aO
noncomputable abbrev JF : Stmt := top 77
noncomputable abbrev Qc : Type := LT
noncomputable def zR : Qc -> List L3.D := fun p => [.str p.text]
noncomputable def zS : Qc -> Prop := fun p => jz p
noncomputable def zU : Qc -> T := fun p => (.ins "Chart" (ri [.tup [.str p.n0, .int p.f]] [.str p.md] (.ins "Tree" (yR ["leaf"] [-1] [-1])) [.tup [p.cn 2]] [.tup [p.cn 3]] []) : T)
structure afp (X : Cx) (CL : Str -> Addr) : Prop extends bJ X where
 bK : Ln X 0 "text"
 dR : Ln X 1 "forms"
 mO : Ln X 2 "moods"
 D3 : Ln X 3 "kinds"
 nK : Ln X 4 "elders"
 zP : Ln X 5 "starts"
 aF : Ln X 6 "chart"
 xX : Gl X "numbered"
 Fz : Gl X "formed"
 vn : Gl X "elders_of"
 abY : Gl X "Chart"
 afq : Gl X "Tree"
 tR : Gl X "deeds_of"
 Bg : Gl X "ways_of"
 FD : Gl X "looked"
 Qd : Fc X CL "numbered" 5 1 oB oE oF
 YX : Fc X CL "formed" 7 1 tu tD tE
 Mu : Fc X CL "elders_of" 1 1 mY mZ m5
 abZ : Fm X CL "Chart" 1 7 vf vg vh
 afr : Fm X CL "Tree" 1 4 w6 w9 xg
 FE : Fc X CL "deeds_of" 1 2 oK oM oN
 Vz : Fc X CL "ways_of" 1 1 qy qz qA
 YY : Fc X CL "looked" 6 1 tO pO tP
 cH : ∃ u, X.mg "WORD" = some (.int 2 u)
 bW : GT X "KINDS" ["leaf", "one", "all"]
 jC : ∃ u, X.mg "BLANKS" = some (.int 1 u)
 eX : ∃ u, X.mg "CONTENT" = some (.int 3 u)
theorem afs {X : Cx} {CL : Str -> Addr} {b : Bx} (E : afp X CL) {p} (h : zS p) :
   av X CL b JF ["text", "forms", "moods", "kinds", "elders", "starts", "chart"] (zR p) (zU p) := by
 dsimp only [av, zS, zR, zU] at h ⊢
 have h : jz p := h
 have i2 : D.cP [L3.D.tup [p.cn 2]] = true := by
   show ((p.cn 2).pC && true && true) = true
   rw [A1]
   rfl
 have i3 : D.cP [L3.D.tup [p.cn 3]] = true := by
   show ((p.cn 3).pC && true && true) = true
   rw [A1]
   rfl
 refine aQ E.g E.dR (oj (d := .lst (LT.rws p.cn)) (c_ p E.Qd E.xX (ai (d := .lst p.fms) (dz (c_ p E.YX E.Fz (ai (aA E.bK) aC) h rfl)) aC) h rfl) rfl) ?_
 refine II (p := fun d => decide ((eB d 2).toS ∈ nQ)) (gg := fun d => .sh d) E.g E.mO (bX .nil (by decide +kernel)) (er (v_ E.dR.1)) (.inr rfl) (fun C s0 H0 f0 b' d hd => ?YK) (aE rfl) ?zg (by exact anb rfl) (uQ ⟨_, rfl⟩)
 case YK =>
   obtain ⟨i, hi, rfl⟩ := E6 hd
   exact ⟨(kW (az (ah (v_ (dQ (i := 0) rfl (by decide +kernel)))) (ah (aG (by exact E.cH) (dh (by decide +kernel)))) (ay (j := 2) rfl)) (ah (b9 (by exact E.bW) (dh (by decide +kernel)))) rfl).1, fun z => v_ (dQ (i := 0) rfl (by decide +kernel))⟩
 case zg =>
 rw [LZ]
 refine XZ (i := 2) (d := .lst [LT.rw p.cn 1]) rfl rfl ?_
 show gU X CL b _ [some (.sh (.str p.text)), some (.sh (.lst (LT.rws p.cn))), some (.sh (.lst [LT.rw p.cn 1])), none, none, none, none] _
 refine II (p := fun _ => true) (gg := fun d => .sh (eB d 2)) E.g E.D3 (bX .nil (by decide +kernel)) (er (v_ E.mO.1)) (.inr rfl) (fun C s0 H0 f0 b' d hd => ?YL) (aE rfl) ?Fd (by exact anb rfl) (uQ ⟨_, rfl⟩)
 case YL =>
   cases anp.mp hd
   exact ⟨rfl, fun _ => aV (az (ah (v_ (dQ (i := 0) rfl (by decide +kernel)))) (ah (aG (by exact E.cH) (dh (by decide +kernel)))) (ay (j := 2) rfl)) rfl⟩
 case Fd =>
 refine XZ (i := 3) (d := .lst [.str "leaf"]) rfl rfl ?_
 refine aQ E.g E.nK (oj (d := .lst [.int (-1)]) (c_ 0 E.Mu E.vn (ai (d := .lst [.int 0]) (dz (aK (ja (p := fun _ => true) (g := fun d => .sh (eB d 1)) (bX .nil (by decide +kernel)) E.g.calm (er (v_ E.mO.1)) (.inr rfl) (fun C s0 H0 f0 b' d hd => ?afm) (aE rfl)) (t2 := .lst [.sh (.int 0)]) rfl)) aC) trivial rfl) rfl) ?ahq
 case afm =>
   cases anp.mp hd
   exact ⟨rfl, fun _ => aV (az (ah (v_ (dQ (i := 0) rfl (by decide +kernel)))) (ah (aG (by exact E.jC) (dh (by decide +kernel)))) (ay (j := 1) rfl)) rfl⟩
 case ahq =>
 refine II (p := fun _ => true) (gg := fun d => .sh (eB (eB d 3) 1)) E.g E.zP (bX .nil (by decide +kernel)) (er (v_ E.mO.1)) (.inr rfl) (fun C s0 H0 f0 b' d hd => ?aj2) (aE rfl) ?ahr (by exact anb rfl) (uQ ⟨_, rfl⟩)
 case aj2 =>
   cases anp.mp hd
   exact ⟨rfl, fun _ => aV (az (az (ah (v_ (dQ (i := 0) rfl (by decide +kernel)))) (ah (aG (by exact E.eX) (dh (by decide +kernel)))) (ay (j := 3) rfl)) (ah ao) (ay (j := 1) rfl)) rfl⟩
 case ahr =>
 refine XZ (i := 5) (d := .lst [.int (-1)]) rfl rfl ?_
 show gU X CL b _ [some (.sh (.str p.text)), some (.sh (.lst (LT.rws p.cn))), some (.sh (.lst [LT.rw p.cn 1])), some (.sh (.lst [.str "leaf"])), some (.sh (.lst [.int (-1)])), some (.sh (.lst [.int (-1)])), none] _
 have ib : D.cP [L3.D.tup [.str p.n0, .int p.f]] = true := rfl
 have im : D.cP [L3.D.str p.md] = true := rfl
 have hfz : T.gS (.ins "Chart" (ri [.tup [.str p.n0, .int p.f]] [.str p.md] (.ins "Tree" (yR ["leaf"] [-1] [-1])) [.tup [p.cn 2]] [.tup [p.cn 3]] [])) = p.ch.d := by
   rw [EG, Hr]
   rfl
 refine aQ E.g E.aF (mkP (f := "tree") (t := .ins "Tree" (yR ["leaf"] [-1] [-1])) (Lk := AW [.tup [.str p.n0, .int p.f]] [.str p.md]) (Wy := AX [.tup [p.cn 2]] [.tup [p.cn 3]] []) (fun v => (([.tup [.str p.n0, .int p.f]] : List L3.D), ([.str p.md] : List L3.D), v, ([.tup [p.cn 2]] : List L3.D), ([.tup [p.cn 3]] : List L3.D), ([] : List L3.D))) E.abZ E.abY
   (Lp (d := .lst [.tup [.str p.n0, .int p.f]]) (dz (aK (ja (p := fun d => decide ((eB d 2).toS = "box")) (g := fun d => .sh (eB d 3)) (bX .nil (by decide +kernel)) E.g.calm (er (v_ E.dR.1)) (.inr rfl) (fun C s0 H0 f0 b' d hd => ?aj3) (aE rfl)) ?eq5))
     (Lp (d := .lst [.str p.md]) (dz (aK (ja (p := fun _ => true) (g := fun d => .sh (eB (eB d 3) 0)) (bX .nil (by decide +kernel)) E.g.calm (er (v_ E.mO.1)) (.inr rfl) (fun C s0 H0 f0 b' d hd => ?aj4) (aE rfl)) rfl))
       (XI (aK (mk_ ((["leaf"] : List Str), ([-1] : List Int), ([-1] : List Int)) E.afr E.afq (ai (aA E.D3) (ai (aA E.nK) (ai (aA E.zP) aC))) trivial (B5 _ _ _)) rfl)
         (ai (d := .lst [.tup [p.cn 2]]) (dz (aK (c_ (p, true) E.FE E.tR (ai (aA E.dR) (ai (ah aB) aC)) trivial (adk p 2)) rfl))
           (ai (d := .lst [.tup [p.cn 3]]) (dz (aK (c_ (p, false) E.FE E.tR (ai (aA E.dR) (ai (ah aB) aC)) trivial (adk p 3)) rfl))
             (ai (d := .lst []) (dz (c_ p E.Vz E.Bg (ai (aA E.dR) aC) trivial rfl)) aC))))))
   (fun v => rfl) (fun v => ⟨ib, im, i2, i3, rfl⟩) (fun v => rfl) (IW ib im) (IX i2 i3 rfl)) ?ahs
 case aj3 =>
   obtain ⟨i, hi, rfl⟩ := E6 hd
   refine ⟨(bB (az (ah (v_ (dQ (i := 0) rfl (by decide +kernel)))) (ah (aG (by exact E.cH) (dh (by decide +kernel)))) (ay (j := 2) rfl)) (ah aB)).1, fun z => ?_⟩
   exact aV (az (ah (v_ (dQ (i := 0) rfl (by decide +kernel)))) (ah (aG (by exact E.eX) (dh (by decide +kernel)))) (ay (j := 3) rfl)) (A1 p i)
 case eq5 =>
   rw [Td]
   rfl
 case aj4 =>
   cases anp.mp hd
   exact ⟨rfl, fun _ => aV (az (az (ah (v_ (dQ (i := 0) rfl (by decide +kernel)))) (ah (aG (by exact E.eX) (dh (by decide +kernel)))) (ay (j := 3) rfl)) (ah ao) (ay (j := 0) rfl)) rfl⟩
 case ahs =>
 have hn0 := (cF h.n0).2.1
 have hmd := (cF h.md).2.1
 have hn2 := (cF h.n2).2.1
 have bd : ∀ k : Int, k.natAbs < 10 ^ 30 -> bdI k = true := fun k hk => by
   unfold bdI
   have e : (10 : Int) ^ (30 : Int).toNat = ((10 ^ 30 : Nat) : Int) := by decide +kernel
   rw [e]
   generalize 10 ^ 30 = z at hk
   rw [anz (show -(z : Int) < k by omega), anz (show k < (z : Int) by omega)]
   rfl
 refine SD (c_ (([(p.n0, p.f)] : List (Str × Int)), ([p.md] : List Str), (["leaf"] : List Str), ([-1] : List Int), ([-1] : List Int), ([[Lz.put 0 p.a p.c]] : List (List Lz)), ([[Lz.call p.n2]] : List (List Lz)), ([] : List LkW)) E.YY E.FD (ai (vE E.aF.1 rfl hfz) aC) ?pre rfl).m ?aht
 case pre =>
   dsimp only [pO]
   refine ⟨⟨ahh, rfl, anb rfl⟩, ⟨fun x hx => ?_, an2.mpr ⟨fun z => by (cases z), .nil⟩⟩, ⟨fun q hq => ?_, an2.mpr ⟨fun z => by (cases z), .nil⟩, anb rfl⟩, ⟨rfl, rfl, anE _, fun l hl q hq => ?_⟩, fun w hw => by (cases hw), .nil⟩
   . cases anp.mp hx
     exact ⟨by omega, h.md⟩
   . cases anp.mp hq
     exact ⟨⟨by show p.n0.length <= 1000; omega, h.n0⟩, bd _ h.f⟩
   . have hl : l ∈ [[Lz.put 0 p.a p.c], [Lz.call p.n2]] := hl
     simp only [ane, ano, an3] at hl
     rcases hl with rfl | rfl
     . cases anp.mp hq
       refine ⟨trivial, ?_⟩
       show (Ly 0 1 && ((decide (p.a = -1) || Ly p.a 1) && bdI p.c)) = true
       rw [bd _ h.c]
       rcases h.a with e | e <;> rw [e] <;> decide
     . cases anp.mp hq
       exact ⟨by show p.n2.length <= 1000; omega, h.n2⟩
 case aht =>
 exact aP (vM E.aF.1) rfl
theorem gR : kP (aj JF) ([("text", au), ("forms", au), ("moods", au), ("kinds", au), ("elders", au), ("starts", au), ("chart", au), ("numbered", aq), ("formed", aq), ("elders_of", aq), ("Chart", aq), ("Tree", aq), ("deeds_of", aq), ("ways_of", aq), ("looked", aq)]) = true := by decide +kernel
theorem ab0 : aJ ["text", "forms", "moods", "kinds", "elders", "starts", "chart"] ["text"] (aj JF) := aO
noncomputable abbrev D4 : Stmt := top 98
noncomputable abbrev JG : Type := L3.D
noncomputable def r9 : JG -> List L3.D := fun d => [d, d]
noncomputable def mE (dd : Nat) : JG -> Prop := fun d => Sm dd d
noncomputable def sd : JG -> T := fun d => (.sh (.bl true) : T)
structure ab1 (X : Cx) (CL : Str -> Addr) (dd : Nat) : Prop extends bJ X where
 bf : Ln X 0 "found"
 kM : Ln X 1 "due"
 WC : Ln X 2 "k"
 bu : Gl X "isinstance"
 g9 : Gl X "list"
 qE : Gl X "tuple"
 cC : Gl X "len"
 qe : Gl X "range"
 oR : Gl X "_law_alike"
 g_bool : Gl X "bool"
 bw : X.mg "isinstance" = none
 ia : X.mg "list" = none
 m7 : X.mg "tuple" = none
 cD : X.mg "len" = none
 qf : X.mg "range" = none
 D5 : ∀ d', d' < dd -> Fc X CL "_law_alike" (1 + d') 2 r9 (mE d') sd
 YZ : X.mg "bool" = none
theorem ab2 {X : Cx} {CL : Str -> Addr} {b : Bx} {dd : Nat} (E : ab1 X CL dd) {d} (h : mE dd d) :
   av X CL b D4 ["found", "due", "k"] (r9 d) (sd d) := by
 dsimp only [av, mE, r9, sd] at h ⊢
 cases d with
 | int i =>
   refine aU (kQ (kC (eo (isL E.bw E.ia E.bu E.g9 (aA E.kM))) (fun _ => j6 (eo (isT E.bw E.m7 E.bu E.qE (aA E.kM)))))) (fun hp => absurd hp (by decide)) (fun _ => ak ?_)
   refine aP (j8 (Xn (isB E.bw E.YZ E.bu E.g_bool (aA E.bf))) (fun hb => (j7 (dO (aA E.bf) (aA E.kM)).2))) ?_
   simp
 | str i =>
   refine aU (kQ (kC (eo (isL E.bw E.ia E.bu E.g9 (aA E.kM))) (fun _ => j6 (eo (isT E.bw E.m7 E.bu E.qE (aA E.kM)))))) (fun hp => absurd hp (by decide)) (fun _ => ak ?_)
   refine aP (j8 (Xn (isB E.bw E.YZ E.bu E.g_bool (aA E.bf))) (fun hb => (j7 (bB (aA E.bf) (aA E.kM)).2))) ?_
   simp
 | lst ds =>
   obtain ⟨n, rfl⟩ : ∃ n, dd = n + 1 := by
     cases dd with
     | zero => exact absurd h (by intro z; cases z)
     | succ n => exact ⟨n, rfl⟩
   obtain ⟨hl, hd⟩ : ds.length <= 1000 /\ ∀ d ∈ ds, Sm n d := h
   refine aU (kQ (kC (eo (isL E.bw E.ia E.bu E.g9 (aA E.kM))) (fun _ => j6 (eo (isT E.bw E.m7 E.bu E.qE (aA E.kM)))))) (fun hp => ?_) (fun hp => absurd hp (by decide))
   refine aU (kQ (kC (IA (ah (isL E.bw E.ia E.bu E.g9 (aA E.bf))) (ah (isL E.bw E.ia E.bu E.g9 (aA E.kM)))).1 (fun _ => j6 (IA (ah (isT E.bw E.m7 E.bu E.qE (aA E.bf))) (ah (isT E.bw E.m7 E.bu E.qE (aA E.kM)))).1))) (fun hp => absurd hp (by decide)) (fun _ => ak ?_)
   refine aU (nO (ah (yK E.cD (aA E.bf) E.cC)) (ah (yK E.cD (aA E.kM) E.cC))).1 (fun hp => by simp at hp) (fun _ => ak ?_)
   refine lX E.g E.WC (fun j δ => ∃ o, δ = [some (.sh (.lst ds)), some (.sh (.lst ds)), o])
     (yL E.qf (ah (yK E.cD (aA E.kM) E.cC)) (by omega) E.qe) ⟨_, rfl⟩ (fun j δ ⟨_, e⟩ => by subst e; exact anb rfl) ?turn ?fin
   case turn =>
     rintro j d δ hj ⟨o, rfl⟩
     obtain ⟨rfl, Jg⟩ := uT hj
     have Jg : j < ds.length := by omega
     rw [Int.zero_add]
     refine aU (fN (eo (c_ ds[j] (E.D5 n (by omega)) E.oR (ai (bO (aA E.bf) (aA E.WC) (IZ Jg)) (ai (bO (aA E.kM) (aA E.WC) (IZ Jg)) aC)) (by dsimp only [mE]; exact hd _ (List.getElem_mem _)) rfl))) (fun hp => by cases hp) (fun _ => ak (ak ⟨_, rfl⟩))
   case fin =>
     rintro δ ⟨o, rfl⟩
     exact aP n6 rfl
 | tup ds =>
   obtain ⟨n, rfl⟩ : ∃ n, dd = n + 1 := by
     cases dd with
     | zero => exact absurd h (by intro z; cases z)
     | succ n => exact ⟨n, rfl⟩
   obtain ⟨hl, hd⟩ : ds.length <= 1000 /\ ∀ d ∈ ds, Sm n d := h
   refine aU (kQ (kC (eo (isL E.bw E.ia E.bu E.g9 (aA E.kM))) (fun _ => j6 (eo (isT E.bw E.m7 E.bu E.qE (aA E.kM)))))) (fun hp => ?_) (fun hp => absurd hp (by decide))
   refine aU (kQ (kC (IA (ah (isL E.bw E.ia E.bu E.g9 (aA E.bf))) (ah (isL E.bw E.ia E.bu E.g9 (aA E.kM)))).1 (fun _ => j6 (IA (ah (isT E.bw E.m7 E.bu E.qE (aA E.bf))) (ah (isT E.bw E.m7 E.bu E.qE (aA E.kM)))).1))) (fun hp => absurd hp (by decide)) (fun _ => ak ?_)
   refine aU (nO (ah (Iq E.cD (aA E.bf) E.cC)) (ah (Iq E.cD (aA E.kM) E.cC))).1 (fun hp => by simp at hp) (fun _ => ak ?_)
   refine lX E.g E.WC (fun j δ => ∃ o, δ = [some (.sh (.tup ds)), some (.sh (.tup ds)), o])
     (yL E.qf (ah (Iq E.cD (aA E.kM) E.cC)) (by omega) E.qe) ⟨_, rfl⟩ (fun j δ ⟨_, e⟩ => by subst e; exact anb rfl) ?turn ?fin
   case turn =>
     rintro j d δ hj ⟨o, rfl⟩
     obtain ⟨rfl, Jg⟩ := uT hj
     have Jg : j < ds.length := by omega
     rw [Int.zero_add]
     refine aU (fN (eo (c_ ds[j] (E.D5 n (by omega)) E.oR (ai (az (aA E.bf) (aA E.WC) (IZ Jg)) (ai (az (aA E.kM) (aA E.WC) (IZ Jg)) aC)) (by dsimp only [mE]; exact hd _ (List.getElem_mem _)) rfl))) (fun hp => by cases hp) (fun _ => ak (ak ⟨_, rfl⟩))
   case fin =>
     rintro δ ⟨o, rfl⟩
     exact aP n6 rfl
 | non => exact absurd h (by intro z; cases dd <;> cases z)
 | bl _ => exact absurd h (by intro z; cases dd <;> cases z)
 | ins _ _ => exact absurd h (by intro z; cases dd <;> cases z)
 | any => exact absurd h (by intro z; cases dd <;> cases z)
 | lZ _ => exact absurd h (by intro z; cases dd <;> cases z)
 | dct _ => exact absurd h (by intro z; cases dd <;> cases z)
 | val _ => exact absurd h (by intro z; cases dd <;> cases z)
 | Ej _ _ _ => exact absurd h (by intro z; cases dd <;> cases z)
theorem jG : kP (aj D4) ([("found", au), ("due", au), ("k", au), ("isinstance", aq), ("list", aq), ("tuple", aq), ("len", aq), ("range", aq), ("_law_alike", aq), ("bool", aq)]) = true := by decide +kernel
theorem Mv : aJ ["found", "due", "k"] ["found", "due"] (aj D4) := aO
noncomputable abbrev s_same : Stmt := top 99
noncomputable abbrev JH : Type := List L3.D × List Str × List Str × List Int × List Int × List L3.D × List L3.D × List L3.D
noncomputable def zV : JH -> List L3.D := fun (bs, ns, ks, es, ss, is, os, ws) => [j9 bs (ns.map .str) (nq ks es ss) is os ws, AZ bs ns ks es ss is os ws]
noncomputable def zW : JH -> Prop := fun (bs, ns, ks, es, ss, is, os, ws) => Sm 8 (AZ bs ns ks es ss is os ws)
noncomputable def zX : JH -> T := fun (bs, ns, ks, es, ss, is, os, ws) => (.sh (.bl true) : T)
structure aft (X : Cx) (CL : Str -> Addr) : Prop extends bJ X where
 aF : Ln X 0 "chart"
 mU : Ln X 1 "parts"
 cg : Ln X 2 "tree"
 bf : Ln X 3 "found"
 oR : Gl X "_law_alike"
 D5 : Fc X CL "_law_alike" 9 2 r9 (mE 8) sd
 aM : uA X.K (CL "Chart")
 cz : uA X.K (CL "Tree")
 cU : aN X.K (CL "Chart") "tree"
 bH : aN X.K (CL "Chart") "boxes"
 aW : aN X.K (CL "Chart") "names"
 cA : aN X.K (CL "Tree") "kinds"
 bC : aN X.K (CL "Tree") "elders"
 cT : aN X.K (CL "Tree") "starts"
 gA : aN X.K (CL "Chart") "ins"
 fL : aN X.K (CL "Chart") "outs"
 dU : aN X.K (CL "Chart") "ways"
theorem afu {X : Cx} {CL : Str -> Addr} {b : Bx} (E : aft X CL) {bF : JH} (h : zW bF) :
   av X CL b s_same ["chart", "parts", "tree", "found"] (zV bF) (zX bF) := by
 obtain ⟨bs, ns, ks, es, ss, is, os, ws⟩ := bF
 dsimp only [av, zW, zV, zX] at h ⊢
 refine aQ E.g E.cg (g7 E.aM E.cU (v_ E.aF.1) pG) ?_
 refine aQ E.g E.bf (aK (mH (aT (g7 E.aM E.bH (v_ E.aF.1) iS) (aT (g7 E.aM E.aW (v_ E.aF.1) c6) (aT (g7 E.cz E.cA (v_ E.cg.1) mq) (aT (g7 E.cz E.bC (v_ E.cg.1) dW) (aT (g7 E.cz E.cT (v_ E.cg.1) p9)
   (aT (g7 E.aM E.gA (v_ E.aF.1) vY) (aT (g7 E.aM E.fL (v_ E.aF.1) sM) (aT (g7 E.aM E.dU (v_ E.aF.1) sN) ez))))))))) (t2 := .sh (AZ bs ns ks es ss is os ws)) rfl) ?_
 exact aP (c_ (AZ bs ns ks es ss is os ws) E.D5 E.oR (ai (aA E.bf) (ai (aA E.mU) aC)) h rfl) rfl
theorem zY : kP (aj s_same) ([("chart", au), ("parts", au), ("tree", au), ("found", au), ("_law_alike", aq)]) = true := by decide +kernel
theorem ab3 : aJ ["chart", "parts", "tree", "found"] ["chart", "parts"] (aj s_same) := aO
noncomputable abbrev zZ : Stmt := top 88
noncomputable abbrev z6 : Type := Str × Str × List Str
noncomputable def tS : z6 -> List L3.D := fun (f, g, ts) => [.str f, .str g, .lst (ts.map .str)]
noncomputable def mF : z6 -> Prop := fun (f, g, ts) => ts.length <= 100
noncomputable def tT : z6 -> T := fun (f, g, ts) => (.lst (((DU f g ts).map .str).map T.sh) : T)
structure Y0 (X : Cx) (CL : Str -> Addr) : Prop extends bJ X where
 z7 : Ln X 0 "first"
 VA : Ln X 1 "further"
 qF : Ln X 2 "texts"
 aZ : Ln X 3 "words"
 bK : Ln X 4 "text"
theorem Y3 {X : Cx} {CL : Str -> Addr} {b : Bx} (E : Y0 X CL) {bF : z6} (h : mF bF) :
   av X CL b zZ ["first", "further", "texts", "words", "text"] (tS bF) (tT bF) := by
 obtain ⟨f, g, ts⟩ := bF
 dsimp only [av, mF, tS, tT] at h ⊢
 refine aQ E.g E.aZ (mh cL (anE _)) ?_
 refine lX E.g E.bK (fun j δ => ∃ o, δ = [some (.sh (.str f)), some (.sh (.str g)), some (.sh (.lst (ts.map .str))), some (.lst (((DU f g (ts.take j)).map .str).map T.sh)), o])
   (er (v_ E.qF.1)) ⟨_, rfl⟩ (fun j δ ⟨_, e⟩ => by subst e; exact anb rfl) ?turn ?fin
 case turn =>
   rintro j d δ hj ⟨o, rfl⟩
   rw [anJ] at hj
   cases e : ts[j]? with
   | none => rw [e] at hj; cases hj
   | some t =>
     rw [e] at hj
     cases (anA hj)
     have htl : (ts.take j).length <= 100 := by rw [aoy]; omega
     show gU X CL b _ _ { nx := fun δ => ∃ o, δ = [_, _, _, some (.lst (((DU f g (ts.take (j + 1))).map .str).map T.sh)), o], rt := _, bk := _, ct := _ }
     rw [Hs e, Yk]
     generalize ts.take j = l at htl ⊢
     have hll := qb f g l
     have hem : ((DU f g l).map L3.D.str).isEmpty = decide (l = []) := by cases l <;> rfl
     refine ug E.aZ.1 rfl (rg (t := .sh (.str (if l = [] then f else g))) (XS (vL E.aZ.1)) (fun hp => aK (v_ E.VA.1) (by
       rw [hem, aoc, aox] at hp
       rw [anm hp])) (fun hp => aK (v_ E.z7.1) (by
       rw [hem, aoD, decide_eq_true_iff] at hp
       rw [anu hp]))) rfl (by rw [anh, anh]; omega) ?_
     refine ug E.aZ.1 rfl (v_ E.bK.1) rfl (by rw [anv, anh, anh, aot]; omega) (ak ?_)
     rw [anC, anC, ani]
     exact ⟨_, rfl⟩
 case fin =>
   rintro δ ⟨o, rfl⟩
   refine aP (vM E.aZ.1) ?_
   rw [anh, aoz]
theorem se : kP (aj zZ) ([("first", au), ("further", au), ("texts", au), ("words", au), ("text", au)]) = true := by decide +kernel
theorem VB : aJ ["first", "further", "texts", "words", "text"] ["first", "further", "texts"] (aj zZ) := aO
noncomputable abbrev qG : Stmt := top 91
noncomputable abbrev qH : Type := CH × L3.D
noncomputable def jH : qH -> List L3.D := fun (c, d) => [c.d, d]
noncomputable def cV : qH -> Prop := fun (c, d) => oq c /\ xD c.bs.length d
noncomputable def jI : qH -> T := fun (c, d) => (.sh (.str (jy c.bn d)) : T)
structure Mw (X : Cx) (CL : Str -> Addr) : Prop extends bJ X where
 aF : Ln X 0 "chart"
 gn : Ln X 1 "term"
 kg : Ln X 2 "more"
 b7 : Ln X 3 "name"
 y9 : Gl X "str"
 za : X.mg "str" = none
 aM : uA X.K (CL "Chart")
 bH : aN X.K (CL "Chart") "boxes"
theorem Mx {X : Cx} {CL : Str -> Addr} {b : Bx} (E : Mw X CL) {bF : qH} (h : cV bF) :
   av X CL b qG ["chart", "term", "more", "name"] (jH bF) (jI bF) := by
 obtain ⟨c, d⟩ := bF
 dsimp only [av, cV, jH, jI] at h ⊢
 obtain ⟨hc, a, k, rfl, ha, hk⟩ := h
 have hl := Ja hk
 have hkl := kZ hk
 have hn := nP hc.bn a.toNat
 refine aQ E.g E.kg (aV (az (aA E.gn) (ah ao) rfl) rfl) ?_
 refine aU (dO (az (aA E.gn) (ah ao) rfl) (ah (dP (ah ao)))).1 (fun hp => ?_) (fun hp => ak ?_)
 . refine aP (vW E.za E.y9 (aA E.kg) hl) ?_
   show T.sh _ = T.sh (.str (jy c.bn (.tup [.int a, .int k])))
   rw [yV, anu (ang hp)]
   try rfl
 have hp : ¬ a = -1 := anr hp
 have ha : 0 <= a /\ a < c.bs.length := by
   rcases ha with e | e
   . exact absurd e hp
   . exact e
 refine aQ E.g E.b7 (aV (az (bO (bS E.aM E.bH (aA E.aF) iS) (az (aA E.gn) (ah ao) rfl) (adi ha.1 ha.2)) (ah ao) rfl) rfl) ?_
 refine aU (dO (aA E.kg) (ah ao)).1 (fun hq => ?_) (fun hq => ak ?_)
 . refine aP (v_ E.b7.1) ?_
   show T.sh _ = T.sh (.str (jy c.bn (.tup [.int a, .int k])))
   rw [yV, anm (show ¬ a = -1 from hp), anu (show k = 0 from ang hq)]
   try rfl
 have hq : ¬ k = 0 := anr hq
 have e1 : ("+" : Str).length = 1 := rfl
 have e0 : ("" : Str).length = 0 := rfl
 by_cases h0 : 0 < k
 . refine aP (cZ (ah (cZ (aA E.b7) (ah (rg (t := .sh (.str "+")) (Em (aA E.kg) (ah ao)).1 (fun _ => aB) (fun z => absurd h0 (anr z)))) (by rw [anF, e1]; omega))) (ah (vW E.za E.y9 (aA E.kg) hl)) (by rw [anF, str_len, e1]; show _ + (sI k).length <= _; omega)) ?_
   show T.sh _ = T.sh (.str (jy c.bn (.tup [.int a, .int k])))
   rw [yV, anm (show ¬ a = -1 from hp), anm (show ¬ k = 0 from hq)]
   have ep : yT k = "+" := by rw [yT, anu h0]
   have : ((k.natAbs : Nat) : Int) = k := by omega
   show _ = T.sh (.str (_ ++ yT k ++ sI ((k.natAbs : Nat) : Int)))
   rw [this, ep]
   try rfl
 . refine aP (cZ (ah (cZ (aA E.b7) (ah (rg (t := .sh (.str "")) (Em (aA E.kg) (ah ao)).1 (fun z => absurd (ang z) h0) (fun _ => aB))) (by rw [anF, e0]; omega))) (ah (vW E.za E.y9 (aA E.kg) hl)) (by rw [anF, str_len, e0]; show _ + (sI k).length <= _; omega)) ?_
   show T.sh (.str (c.bn.getD a.toNat Str.empty ++ Str.empty ++ sI k)) = T.sh (.str (jy c.bn (.tup [.int a, .int k])))
   rw [yV, anm (show ¬ a = -1 from hp), anm (show ¬ k = 0 from hq), Str.append_empty, Yg (show k < 0 by omega), ← aoU]
   have ep : yT k = "-" := by rw [yT, anm h0]
   show _ = T.sh (.str (_ ++ yT k ++ _))
   rw [ep]
   try rfl
theorem lM : kP (aj qG) ([("chart", au), ("term", au), ("more", au), ("name", au), ("str", aq)]) = true := by decide +kernel
theorem JK : aJ ["chart", "term", "more", "name"] ["chart", "term"] (aj qG) := aO
noncomputable abbrev tU : Stmt := top 89
noncomputable abbrev tV : Type := CH × L3.D
noncomputable def oS : tV -> List L3.D := fun (c, d) => [c.d, d]
noncomputable def lN : tV -> Prop := fun (c, d) => oq c /\ Yc c.bs.length c.es.length d
noncomputable def oU : tV -> T := fun (c, d) => (.sh (.str (uB c.bn c.ns d)) : T)
structure Qe (X : Cx) (CL : Str -> Addr) : Prop extends bJ X where
 aF : Ln X 0 "chart"
 qC : Ln X 1 "ask"
 g8 : Ln X 2 "mark"
 i9 : Gl X "term_text"
 nL : Fc X CL "term_text" 1 2 jH cV jI
 aM : uA X.K (CL "Chart")
 aW : aN X.K (CL "Chart") "names"
theorem Qf {X : Cx} {CL : Str -> Addr} {b : Bx} (E : Qe X CL) {bF : tV} (h : lN bF) :
   av X CL b tU ["chart", "ask", "mark"] (oS bF) (oU bF) := by
 obtain ⟨c, d⟩ := bF
 dsimp only [av, lN, oS, oU] at h ⊢
 obtain ⟨hc, hd⟩ := h
 have e1 : (" " : Str).length = 1 := rfl
 rcases hd with ⟨w, k, rfl, hw, k0, k1⟩ | ⟨w, s, t, rfl, hw, hs, ht⟩
 . have hbl := nP hc.nk k.toNat
   have hwl : w.length <= 4 := by rcases hw with rfl | rfl <;> decide +kernel
   refine aQ E.g E.g8 (aV (az (aA E.qC) (ah ao) rfl) rfl) ?_
   refine aU (mj (l := ["open", "shut"]) (aA E.g8) (gF rfl)).1 (fun hp => ?_) (fun hp => absurd hp (by rcases hw with rfl | rfl <;> decide +kernel))
   refine aP (cZ (ah (cZ (aA E.g8) (ah aB) (by rw [anF, e1]; omega))) (bO (bS E.aM E.aW (aA E.aF) c6) (az (aA E.qC) (ah ao) rfl) (xA Str.empty k0 (by rw [hc.nl]; exact k1))) (by rw [anF, str_len, e1]; omega)) ?_
   show T.sh _ = T.sh (.str (uB c.bn c.ns _))
   rw [Yh]
 . have h1 := qa hc.bn hs
   have h2 := qa hc.bn ht
   have hwl : w.length <= 2 := by
     have : ∀ x ∈ (["<", "<=", "=", "!="] : List Str), x.length <= 2 := by decide +kernel
     exact this w hw
   refine aQ E.g E.g8 (aV (az (aA E.qC) (ah ao) rfl) rfl) ?_
   refine aU (mj (l := ["open", "shut"]) (aA E.g8) (gF rfl)).1 (fun hp => absurd hp (by
     have : ∀ x ∈ (["<", "<=", "=", "!="] : List Str), ¬ decide (x ∈ (["open", "shut"] : List Str)) = true := by decide +kernel
     exact this w hw)) (fun hp => ak ?_)
   refine aP (sL (l := [jy c.bn s, w, jy c.bn t]) (ah aB) (dz (ds := ([jy c.bn s, w, jy c.bn t] : List Str).map L3.D.str) (p6 (aT (c_ (c, s) E.nL E.i9 (ai (aA E.aF) (ai (az (aA E.qC) (ah ao) rfl) aC)) (by dsimp only [cV]; exact ⟨hc, hs⟩) rfl) (aT (v_ E.g8.1) (aT (c_ (c, t) E.nL E.i9 (ai (aA E.aF) (ai (az (aA E.qC) (ah ao) rfl) aC)) (by dsimp only [cV]; exact ⟨hc, ht⟩) rfl) ez))) (aE rfl))) (yS (by
     show (jy c.bn s).length + (w.length + ((jy c.bn t).length + 0)) + 3 <= _
     omega))) ?_
   show T.sh _ = T.sh (.str (uB c.bn c.ns _))
   rw [O8, Yd]
theorem qI : kP (aj tU) ([("chart", au), ("ask", au), ("mark", au), ("term_text", aq)]) = true := by decide +kernel
theorem My : aJ ["chart", "ask", "mark"] ["chart", "ask"] (aj tU) := aO
noncomputable abbrev qJ : Stmt := top 90
noncomputable abbrev qK : Type := CH × L3.D
noncomputable def jJ : qK -> List L3.D := fun (c, d) => [c.d, d]
noncomputable def dY : qK -> Prop := fun (c, d) => oq c /\ xE c.bs.length d
noncomputable def jK : qK -> T := fun (c, d) => (.sh (.str (dG c.bn d)) : T)
structure Mz (X : Cx) (CL : Str -> Addr) : Prop extends bJ X where
 aF : Ln X 0 "chart"
 cQ : Ln X 1 "deed"
 aS : Ln X 2 "word"
 b7 : Ln X 3 "name"
 i9 : Gl X "term_text"
 nL : Fc X CL "term_text" 1 2 jH cV jI
 aM : uA X.K (CL "Chart")
 bH : aN X.K (CL "Chart") "boxes"
theorem MA {X : Cx} {CL : Str -> Addr} {b : Bx} (E : Mz X CL) {bF : qK} (h : dY bF) :
   av X CL b qJ ["chart", "deed", "word", "name"] (jJ bF) (jK bF) := by
 obtain ⟨c, d⟩ := bF
 dsimp only [av, dY, jJ, jK] at h ⊢
 obtain ⟨hc, hd⟩ := h
 have e1 : (" " : Str).length = 1 := rfl
 rcases hd with ⟨n, rfl, hn⟩ | ⟨k, t, rfl, hk, ht⟩ | ⟨n, t, rfl, hn, ht⟩
 . refine aQ E.g E.aS (aV (az (aA E.cQ) (ah ao) rfl) rfl) ?_
   refine aU (bB (aA E.aS) (ah aB)).1 (fun hp => ?_) (fun hp => absurd hp (by decide +kernel))
   refine aP (cZ (ah aB) (az (aA E.cQ) (ah ao) rfl) (by rw [anF]; show 5 + n.length <= _; omega)) ?_
   show T.sh _ = T.sh (.str (dG c.bn _))
   rw [ER]
 . have htl := qa hc.bn ht
   have hbl := nP hc.bn k.toNat
   refine aQ E.g E.aS (aV (az (aA E.cQ) (ah ao) rfl) rfl) ?_
   refine aU (bB (aA E.aS) (ah aB)).1 (fun hp => absurd hp (by decide +kernel)) (fun hp => ak ?_)
   refine aQ E.g E.b7 (rg (bB (aA E.aS) (ah aB)).1 (fun _ => aV (az (bO (bS E.aM E.bH (aA E.aF) iS) (az (aA E.cQ) (ah ao) rfl) (adi hk.1 hk.2)) (ah ao) rfl) rfl) (fun z => absurd z (by decide +kernel))) ?_
   refine aP (sL (l := ["put", c.bn.getD k.toNat Str.empty, jy c.bn t]) (ah aB) (dz (ds := (["put", c.bn.getD k.toNat Str.empty, jy c.bn t] : List Str).map L3.D.str) (p6 (aT (v_ E.aS.1) (aT (v_ E.b7.1) (aT (c_ (c, t) E.nL E.i9 (ai (aA E.aF) (ai (az (aA E.cQ) (ah ao) rfl) aC)) (by dsimp only [cV]; exact ⟨hc, ht⟩) rfl) ez))) (aE rfl))) (yS (by
     show 3 + ((c.bn.getD k.toNat Str.empty).length + ((jy c.bn t).length + 0)) + 3 <= _
     omega))) ?_
   show T.sh _ = T.sh (.str (dG c.bn _))
   rw [Ht, Yd]
 . have htl := qa hc.bn ht
   refine aQ E.g E.aS (aV (az (aA E.cQ) (ah ao) rfl) rfl) ?_
   refine aU (bB (aA E.aS) (ah aB)).1 (fun hp => absurd hp (by decide +kernel)) (fun hp => ak ?_)
   refine aQ E.g E.b7 (rg (t := .sh (.str n)) (bB (aA E.aS) (ah aB)).1 (fun z => absurd z (by decide +kernel)) (fun _ => aV (az (aA E.cQ) (ah ao) rfl) rfl)) ?_
   refine aP (sL (l := ["say", n, jy c.bn t]) (ah aB) (dz (ds := (["say", n, jy c.bn t] : List Str).map L3.D.str) (p6 (aT (v_ E.aS.1) (aT (v_ E.b7.1) (aT (c_ (c, t) E.nL E.i9 (ai (aA E.aF) (ai (az (aA E.cQ) (ah ao) rfl) aC)) (by dsimp only [cV]; exact ⟨hc, ht⟩) rfl) ez))) (aE rfl))) (yS (by
     show 3 + (n.length + ((jy c.bn t).length + 0)) + 3 <= _
     omega))) ?_
   show T.sh _ = T.sh (.str (dG c.bn _))
   rw [U1, Yd]
theorem lO : kP (aj qJ) ([("chart", au), ("deed", au), ("word", au), ("name", au), ("term_text", aq)]) = true := by decide +kernel
theorem JL : aJ ["chart", "deed", "word", "name"] ["chart", "deed"] (aj qJ) := aO
noncomputable abbrev tW : Stmt := top 87
noncomputable abbrev tX : Type := CH × WY
noncomputable def oV : tX -> List L3.D := fun (c, w) => [c.d, w.d]
noncomputable def lP : tX -> Prop := fun (c, w) => oq c /\ LK c.bs.length c.es.length c.is.length 40 w
noncomputable def oW : tX -> T := fun (c, w) => (.sh (.str (O9 c.bn c.ns w)) : T)
structure Qg (X : Cx) (CL : Str -> Addr) : Prop extends bJ X where
 aF : Ln X 0 "chart"
 z8 : X.env.kindOf "chart" = some .cell
 jw : Ln X 1 "way"
 aZ : Ln X 2 "words"
 P6 : Gl X "SIGN"
 z9 : Gl X "linked"
 P7 : Gl X "ASKS"
 ab4 : Gl X "DEEDS"
 zI : Gl X "TARGET"
 Jy : Gl X "MODE"
 P8 : ∃ u, X.mg "SIGN" = some (.int 1 u)
 MB : Fc X CL "linked" 1 3 tS mF tT
 P9 : ∃ u, X.mg "ASKS" = some (.int 2 u)
 Jw : ∃ u, X.mg "DEEDS" = some (.int 3 u)
 zJ : ∃ u, X.mg "TARGET" = some (.int 4 u)
 Jz : ∃ u, X.mg "MODE" = some (.int 5 u)
 Qh : Fc X CL "ask_text" 2 2 oS lN oU
 qL : Fc X CL "deed_text" 2 2 jJ dY jK
 aM : uA X.K (CL "Chart")
 aW : aN X.K (CL "Chart") "names"
theorem Qi {X : Cx} {CL : Str -> Addr} {b : Bx} (E : Qg X CL) {bF : tX} (h : lP bF) :
   av X CL b tW ["chart", "way", "words"] (oV bF) (oW bF) := by
 obtain ⟨c, w⟩ := bF
 dsimp only [av, lP, oV, oW] at h ⊢
 obtain ⟨hc, hw⟩ := h
 obtain ⟨wl1, wl2⟩ := Ym hc hw
 have q1 := hw.l1
 have q2 := hw.l2
 have hle : ∀ l : List Str, ((l.map L3.D.str).map T.sh).length = l.length := fun l => by rw [anh, anh]
 refine aQ E.g E.aZ (aK (p6 (aT aB (aT (aV (az (aA E.jw) (ah (aG E.P8 E.P6)) rfl) rfl) ez)) (aE rfl)) (t2 := .lst ((([("on" : Str), w.sg] : List Str).map .str).map T.sh)) rfl) ?_
 have hA : ∀ {l : List L3.D} {f : L3.D -> Str}, T.lst ((l.filter fun _ => true).map fun d => T.sh (.str (f d))) = T.lst (((l.map f).map .str).map T.sh) := fun {l f} => by
   rw [kD, an1, an1]
   rfl
 refine Lh (δ1 := [some (.sh c.d), some (.sh w.d), some (.lst (((([("on" : Str), w.sg] : List Str)).map L3.D.str).map T.sh))]) (Z6 := ((DU "if" "and" (w.qs.map (uB c.bn c.ns))).map L3.D.str).map T.sh) (tl := ((([("on" : Str), w.sg] : List Str)).map L3.D.str).map T.sh) E.aZ.1 rfl ?ahu rfl (by rw [hle, hle, qb, anh]; show 2 + _ <= _; omega) ?ahv
 case ahu =>
   refine c_ (("if" : Str), ("and" : Str), w.qs.map (uB c.bn c.ns)) E.MB E.z9 (ai (ah aB) (ai (ah aB) (ai ?amC aC))) (by dsimp only [mF]; rw [List.length_map]; omega) (pF _)
   refine dz (aK (ja (p := fun _ => true) (g := fun d => .sh (.str (uB c.bn c.ns d))) (bX (.cons E.aF.1 (.inl E.z8) .nil) (by decide +kernel)) E.g.calm (AK (Xo (v_ E.jw.1) (ah (aG E.P9 E.P7)) rfl)) (.inr rfl) (fun C s0 H0 f0 b' d hd => ?_) (an9 (cJ (by omega)))) (t2 := .lst (((w.qs.map (uB c.bn c.ns)).map .str).map T.sh)) hA)
   exact ⟨rfl, fun _ => c_ (c, d) (yM E.Qh) (dh (by decide +kernel)) (ai (ah (v_ (xx (i := 1) rfl (by decide +kernel)))) (ai (ah (v_ (dQ (i := 0) rfl (by decide +kernel)))) aC)) (by dsimp only [lN]; exact ⟨hc, (hw.g1 d hd).pr⟩) rfl⟩
 case ahv =>
 rw [← anC, ← anC]
 refine Lh (δ1 := [some (.sh c.d), some (.sh w.d), some (.lst (((([("on" : Str), w.sg] ++ DU "if" "and" (w.qs.map (uB c.bn c.ns)) : List Str)).map L3.D.str).map T.sh))]) (Z6 := ((DU "do" "then" (w.ds.map (dG c.bn))).map L3.D.str).map T.sh) (tl := ((([("on" : Str), w.sg] ++ DU "if" "and" (w.qs.map (uB c.bn c.ns)) : List Str)).map L3.D.str).map T.sh) E.aZ.1 rfl ?ahw rfl (by rw [hle, hle, anv, qb, qb, anh, anh]; show 2 + _ + _ <= _; omega) ?zg
 case ahw =>
   refine c_ (("do" : Str), ("then" : Str), w.ds.map (dG c.bn)) E.MB E.z9 (ai (ah aB) (ai (ah aB) (ai ?amD aC))) (by dsimp only [mF]; rw [List.length_map]; omega) (pF _)
   refine dz (aK (ja (p := fun _ => true) (g := fun d => .sh (.str (dG c.bn d))) (bX (.cons E.aF.1 (.inl E.z8) .nil) (by decide +kernel)) E.g.calm (AK (Xo (v_ E.jw.1) (ah (aG E.Jw E.ab4)) rfl)) (.inr rfl) (fun C s0 H0 f0 b' d hd => ?_) (an9 (cJ (by omega)))) (t2 := .lst (((w.ds.map (dG c.bn)).map .str).map T.sh)) hA)
   exact ⟨rfl, fun _ => c_ (c, d) (yM E.qL) (dh (by decide +kernel)) (ai (ah (v_ (xx (i := 1) rfl (by decide +kernel)))) (ai (ah (v_ (dQ (i := 0) rfl (by decide +kernel)))) aC)) (by dsimp only [dY]; exact ⟨hc, (hw.g2 d hd).pr⟩) rfl⟩
 case zg =>
 rw [← anC, ← anC]
 have hj : JoinOk " " ([("on" : Str), w.sg] ++ DU "if" "and" (w.qs.map (uB c.bn c.ns)) ++ DU "do" "then" (w.ds.map (dG c.bn)) ++ SR c.ns w ++ Z7 w) = true /\ Txt.join " " ([("on" : Str), w.sg] ++ DU "if" "and" (w.qs.map (uB c.bn c.ns)) ++ DU "do" "then" (w.ds.map (dG c.bn)) ++ SR c.ns w ++ Z7 w) = O9 c.bn c.ns w := by
   have e : [("on" : Str), w.sg] ++ DU "if" "and" (w.qs.map (uB c.bn c.ns)) ++ DU "do" "then" (w.ds.map (dG c.bn)) ++ SR c.ns w ++ Z7 w = ("on" : Str) :: wyL c.bn c.ns w := by
     unfold wyL
     rw [ani, ani [("on" : Str), w.sg]]
     rfl
   rw [e]
   refine ⟨Yl (B := 110) rfl (fun x hx => ?_) (by rw [anG]; omega), DT _ _⟩
   rcases ane.mp hx with rfl | hx
   . decide +kernel
   . exact wl1 x hx
 have hlen : ([("on" : Str), w.sg] ++ DU "if" "and" (w.qs.map (uB c.bn c.ns)) ++ DU "do" "then" (w.ds.map (dG c.bn))).length <= 200 := by
   rw [anv, anv, qb, qb, anh, anh]
   show 2 + _ + _ <= _
   omega
 generalize [("on" : Str), w.sg] ++ DU "if" "and" (w.qs.map (uB c.bn c.ns)) ++ DU "do" "then" (w.ds.map (dG c.bn)) = W at hj hlen ⊢
 have htg := hw.fin.tg
 refine ac0 (fun δ => δ = [some (.sh c.d), some (.sh w.d), some (.lst (((W ++ SR c.ns w).map .str).map T.sh))])
   (nO (az (aA E.jw) (ah (aG E.zJ E.zI)) rfl) (ah (dP (ah ao)))).1 (fun hp => ?_) (fun hp => ?_) ?_
 . have hp : ¬ w.tg = -1 := by
     rw [aoc] at hp
     exact anr hp
   have ht : 0 <= w.tg /\ w.tg < c.es.length := by
     rcases htg with ⟨e, _⟩ | ⟨e, _⟩
     . exact absurd e hp
     . exact e
   refine Lh E.aZ.1 rfl (aK (p6 (aT aB (aT (aV (bO (bS E.aM E.aW (aA E.aF) c6) (az (aA E.jw) (ah (aG E.zJ E.zI)) rfl) (xA Str.empty ht.1 (by rw [hc.nl]; exact ht.2))) rfl) ez)) (aE rfl)) (t2 := .lst (((["to", c.ns.getD w.tg.toNat Str.empty] : List Str).map .str).map T.sh)) rfl) rfl (by rw [hle, hle]; show _ + 2 <= _; omega) (ak ?_)
   rw [← anC, ← anC, SR, anm hp]
   try rfl
 . have hp : w.tg = -1 := by
     rw [aoD] at hp
     exact ang hp
   refine ak ?_
   rw [SR, anu hp, anL]
   try rfl
 rintro δ rfl
 have ahx : (W ++ SR c.ns w).length <= 202 := by
   rw [anv]
   have e1 : (SR c.ns w).length <= 2 := by unfold SR; split <;> exact anb rfl
   omega
 generalize W ++ SR c.ns w = W2 at hj ahx ⊢
 refine ac0 (fun δ => δ = [some (.sh c.d), some (.sh w.d), some (.lst (((W2 ++ Z7 w).map .str).map T.sh))])
   (Im (az (aA E.jw) (ah (aG E.Jz E.Jy)) rfl) (ah aB)).1 (fun hp => ?_) (fun hp => ?_) ?_
 . have hp : ¬ w.md = "new" := by
     rw [aoc] at hp
     exact anr hp
   refine ug E.aZ.1 rfl (aV (az (aA E.jw) (ah (aG E.Jz E.Jy)) rfl) rfl) rfl (by rw [hle]; omega) (ak ?_)
   rw [Z7, anm hp, anC, anC]
   try rfl
 . have hp : w.md = "new" := by
     rw [aoD] at hp
     exact ang hp
   refine ak ?_
   rw [Z7, anu hp, anL]
   try rfl
 rintro δ rfl
 refine aP (sL (ah aB) (vL E.aZ.1) hj.1) ?_
 rw [hj.2]
theorem dZ : kP (aj tW) ([("chart", .cell), ("way", au), ("words", au), ("SIGN", aq), ("linked", aq), ("ASKS", aq), ("DEEDS", aq), ("TARGET", aq), ("MODE", aq)]) = true := by decide +kernel
theorem MC : aJ ["chart", "way", "words"] ["chart", "way"] (aj tW) := aO
noncomputable def gB (l : List Str) : T := .lst ((l.map L3.D.str).map T.sh)
theorem VC (l : List Str) : T.gS (gB l) = .lst (l.map .str) := om _
theorem ab5 {α : Type} {n s : Nat} {f : Nat -> α} {x : α} : ((List.range n).map f).set s x = (List.range n).map fun m => if m = s then x else f m := by
 refine ape fun i => ?_
 rw [apf, anJ, anJ]
 by_cases hi : i < n
 . rw [aoq hi]
   by_cases e : s = i
   . subst e
     rw [anu rfl, anh, aod, anu hi]
     simp
   . rw [anm e]
     have : ¬ i = s := fun z => e z.symm
     simp [this]
 . rw [aoG (by rw [aod]; omega)]
   by_cases e : s = i
   . subst e
     rw [anu rfl, anh, aod, anm hi]
     rfl
   . rw [anm e]
     rfl
theorem Qj (c : CH) (l : List WY) (w : WY) (m : Nat) : kE c (l ++ [w]) m = kE c l m ++ if w.src = (m : Int) then [O9 c.bn c.ns w] else [] := by
 unfold kE
 rw [List.filter_append, anC]
 congr 1
 by_cases e : w.src = (m : Int)
 . rw [anu e, List.filter_cons, anu (anz e)]; rfl
 . rw [if_neg e, List.filter_cons, if_neg (by simpa using e)]; rfl
theorem zip_get {ds es : List L3.D} {j : Nat} {d : L3.D} (h : (IJ ds es)[j]? = some d) : ∃ x y, ds[j]? = some x /\ es[j]? = some y /\ d = .tup [x, y] := by
 unfold IJ at h
 rw [anJ] at h
 cases e : (ds.zip es)[j]? with
 | none => rw [e] at h; cases h
 | some p =>
   rw [e] at h
   obtain ⟨h1, h2⟩ := List.getElem?_zip_eq_some.mp e
   exact ⟨p.1, p.2, h1, h2, (anA h).symm⟩
noncomputable abbrev qM : Stmt := top 86
noncomputable abbrev vo : Type := CH
noncomputable def m8 : vo -> List L3.D := fun c => [c.d]
noncomputable def m9 : vo -> Prop := fun c => oq c
noncomputable def ng : vo -> T := fun c => (.lst ((List.range c.es.length).map fun m => gB (yW c m)) : T)
structure MD (X : Cx) (CL : Str -> Addr) : Prop extends bJ X where
 aF : Ln X 0 "chart"
 z8 : X.env.kindOf "chart" = some .cell
 bf : Ln X 1 "found"
 Fy : Ln X 2 "ins"
 JC : Ln X 3 "outs"
 qF : Ln X 4 "texts"
 jw : Ln X 5 "way"
 ahy : Gl X "zip"
 rZ : Gl X "SOURCE"
 xY : Gl X "way_text"
 ahz : X.mg "zip" = none
 r6 : ∃ u, X.mg "SOURCE" = some (.int 0 u)
 Qk : Fc X CL "way_text" 3 2 oV lP oW
 qL : Fc X CL "deed_text" 2 2 jJ dY jK
 aM : uA X.K (CL "Chart")
 dU : aN X.K (CL "Chart") "ways"
 gA : aN X.K (CL "Chart") "ins"
 fL : aN X.K (CL "Chart") "outs"
theorem MF {X : Cx} {CL : Str -> Addr} {b : Bx} (E : MD X CL) {c} (h : m9 c) :
   av X CL b qM ["chart", "found", "ins", "outs", "texts", "way"] (m8 c) (ng c) := by
 dsimp only [av, m9, m8, ng] at h ⊢
 have hc : oq c := h
 have hle : ∀ l : List Str, ((l.map L3.D.str).map T.sh).length = l.length := fun l => by rw [anh, anh]
 have e1 := hc.e1
 have il := hc.il
 have ol : c.os.length = c.es.length := by rw [← il]; exact hc.ow.n2
 have hA : ∀ {l : List L3.D} {f : L3.D -> Str}, T.lst ((l.filter fun _ => true).map fun d => T.sh (.str (f d))) = gB (l.map f) := fun {l f} => by
   rw [kD, gB, an1, an1]
   rfl
 refine aQ E.g E.bf (mh cL (anE _)) ?_
 refine xB E.g (p7 E.g.nd E.g.calm E.Fy E.JC) (fun j δ => ∃ o3 o4 o5 o6, δ = [some (.sh c.d), some (.lst ((List.range j).map fun m => gB (GF c m))), o3, o4, o5, o6])
   (aeV E.ahz (g7 E.aM E.gA (v_ E.aF.1) vY) (g7 E.aM E.fL (v_ E.aF.1) sM) E.ahy (by rw [anh, anh, il, ol])) ⟨_, _, _, _, rfl⟩
   (fun j δ ⟨_, _, _, _, e⟩ => by subst e; intro i hi; simp only [ane, ano, an3] at hi; rcases hi with rfl | rfl <;> exact anb rfl) ?turn ?fin
 case turn =>
   rintro j d δ hj ⟨o3, o4, o5, o6, rfl⟩
   obtain ⟨x, y, hx, hy, rfl⟩ := zip_get hj
   rw [anJ] at hx hy
   cases ex : c.is[j]? with
   | none => rw [ex] at hx; cases hx
   | some p =>
     cases ey : c.os[j]? with
     | none => rw [ey] at hy; cases hy
     | some q =>
       rw [ex] at hx
       rw [ey] at hy
       cases anA hx
       cases anA hy
       have Jg : j < c.es.length := by have := (anS.mp ex).1; omega
       have hp := hc.ow.ii p (anB ex)
       have hq := hc.ow.oo q (anB ey)
       have lp := hp.l1
       have lq := hq.l1
       have hio : GF c j = p.map (fun d => "in " ++ dG c.bn d) ++ q.map fun d => "out " ++ dG c.bn d := by
         unfold GF
         rw [anO, anO, ex, ey]
         rfl
       refine ⟨_, rfl, ?_⟩
       refine II (p := fun _ => true) (gg := fun d => .sh (.str ("in " ++ dG c.bn d))) E.g E.qF (bX (.cons E.aF.1 (.inl E.z8) .nil) (by decide +kernel)) (AK (v_ E.Fy.1)) (.inr rfl) (fun C s0 H0 f0 b' d hd => ⟨rfl, fun _ => cZ (ah aB) (ah (c_ (c, d) (yM E.qL) (dh (by decide +kernel)) (ai (ah (v_ (xx (i := 1) rfl (by decide +kernel)))) (ai (ah (v_ (dQ (i := 0) rfl (by decide +kernel)))) aC)) (by dsimp only [dY]; exact ⟨hc, (hp.g1 d hd).pr⟩) rfl)) (by rw [sizeLine_eq]; have := uX hc.bn (hp.g1 d hd).pr; show 3 + (dG c.bn d).length <= _; omega)⟩) (Nat.le_of_lt (cJ (by omega))) ?rst (by exact Nat.le_of_ble_eq_true rfl) (uQ ⟨_, rfl⟩)
       case rst =>
       rw [hA]
       refine Lh E.qF.1 rfl (aK (ja (p := fun _ => true) (g := fun d => .sh (.str ("out " ++ dG c.bn d))) (bX (.cons E.aF.1 (.inl E.z8) .nil) (by decide +kernel)) E.g.calm (AK (v_ E.JC.1)) (.inr rfl) (fun C s0 H0 f0 b' d hd => ⟨rfl, fun _ => cZ (ah aB) (ah (c_ (c, d) (yM E.qL) (dh (by decide +kernel)) (ai (ah (v_ (xx (i := 1) rfl (by decide +kernel)))) (ai (ah (v_ (dQ (i := 0) rfl (by decide +kernel)))) aC)) (by dsimp only [dY]; exact ⟨hc, (hq.g1 d hd).pr⟩) rfl)) (by rw [sizeLine_eq]; have := uX hc.bn (hq.g1 d hd).pr; show 4 + (dG c.bn d).length <= _; omega)⟩) (Nat.le_of_lt (cJ (by omega)))) (t2 := gB (q.map fun d => "out " ++ dG c.bn d)) hA) rfl (by rw [hle, hle, List.length_map, List.length_map]; omega) ?_
       rw [← anC, ← anC, ← hio]
       refine ug E.bf.1 rfl (aK (vM E.qF.1) (t2 := gB (GF c j)) rfl) rfl (by rw [anh, aod]; omega) (ak ?_)
       show ∃ o3 o4 o5 o6, _ = [_, some (T.lst ((List.range (j + 1)).map fun m => gB (GF c m))), o3, o4, o5, o6]
       rw [List.range_succ, anC]
       exact ⟨_, _, _, _, rfl⟩
 case fin =>
 rintro δ ⟨o3, o4, o5, o6, rfl⟩
 have hzl : (IJ (c.is.map L3.D.tup) (c.os.map L3.D.tup)).length = c.es.length := by
   rw [IJ, anh, List.length_zip, anh, anh, il, ol, Nat.min_self]
 rw [hzl]
 have hwl := hc.ow.wl
 dsimp only at hwl
 refine lX E.g E.jw (fun j δ => ∃ o3 o4 o5 o6, δ = [some (.sh c.d), some (.lst ((List.range c.es.length).map fun m => gB (GF c m ++ kE c (c.ws.take j) m))), o3, o4, o5, o6])
   (er (g7 E.aM E.dU (v_ E.aF.1) sN)) ?base (fun j δ ⟨_, _, _, _, e⟩ => by subst e; exact anb rfl) ?Mq ?fin2
 case base =>
   show ∃ o3 o4 o5 o6, _ = [_, some (T.lst ((List.range c.es.length).map fun m => gB (GF c m ++ kE c (c.ws.take 0) m))), o3, o4, o5, o6]
   rw [show (fun m => gB (GF c m ++ kE c (c.ws.take 0) m)) = fun m => gB (GF c m) from funext fun m => by rw [show kE c (c.ws.take 0) m = [] from rfl, anL]]
   exact ⟨_, _, _, _, rfl⟩
 case Mq =>
   rintro j d δ hj ⟨o3, o4, o5, o6, rfl⟩
   rw [anJ] at hj
   cases ew : c.ws[j]? with
   | none => rw [ew] at hj; cases hj
   | some w =>
     rw [ew] at hj
     cases anA hj
     have hw := hc.ow.ww w (anB ew)
     dsimp only at hw
     obtain ⟨s0, s1⟩ := hw.sr
     obtain ⟨s, hs⟩ : ∃ s : Nat, w.src = (s : Int) := ⟨w.src.toNat, by omega⟩
     have hsl : s < c.es.length := by omega
     have amF : (kE c (c.ws.take j) s).length <= 40 := yX hc _ (by rw [aoy]; omega) s
     have amG := Jb hc s
     have hat : ((List.range c.es.length).map fun m => gB (GF c m ++ kE c (c.ws.take j) m))[s]? = some (gB (GF c s ++ kE c (c.ws.take j) s)) := by
       rw [anJ, aoq hsl]
       rfl
     refine XR s E.bf.1 (Xw (az (aA E.jw) (ah (aG E.r6 E.rZ)) (d := .int w.src) rfl) (by rw [hs])) rfl hat (c_ (c, w) E.Qk E.xY (ai (aA E.aF) (ai (aA E.jw) aC)) (by dsimp only [lP]; exact ⟨hc, hw⟩) rfl) rfl hat (by rw [hle, List.length_append]; omega) (ak ?_)
     show ∃ o3 o4 o5 o6, _ = [_, some (T.lst ((List.range c.es.length).map fun m => gB (GF c m ++ kE c (c.ws.take (j + 1)) m))), o3, o4, o5, o6]
     rw [Hs ew, ab5]
     have aj5 : (fun m => gB (GF c m ++ kE c (c.ws.take j ++ [w]) m)) = fun m => if m = s then T.lst (((GF c s ++ kE c (c.ws.take j) s).map L3.D.str).map T.sh ++ [T.sh (.str (O9 c.bn c.ns w))]) else gB (GF c m ++ kE c (c.ws.take j) m) := funext fun m => by
       rw [Qj, hs]
       by_cases e : m = s
       . subst e
         rw [anu rfl, anu rfl, ← ani, gB, anC, anC]
         rfl
       . rw [anm e, anm (fun z => e (by omega)), anL]
     rw [aj5]
     exact ⟨_, _, _, _, rfl⟩
 case fin2 =>
 rintro δ ⟨o3, o4, o5, o6, rfl⟩
 refine aP (vM E.bf.1) ?_
 rw [anh, aoz]
 rfl
theorem cW : kP (aj qM) ([("chart", .cell), ("found", au), ("ins", au), ("outs", au), ("texts", au), ("way", au), ("zip", aq), ("SOURCE", aq), ("way_text", aq)]) = true := by decide +kernel
theorem JM : aJ ["chart", "found", "ins", "outs", "texts", "way"] ["chart"] (aj qM) := aO
noncomputable abbrev qN : Stmt := top 85
noncomputable abbrev qO : Type := CH × Nat
noncomputable def nh : qO -> List L3.D := fun (c, m) => [c.d, .int m]
noncomputable def jL : qO -> Prop := fun (c, m) => oq c /\ m < c.es.length
noncomputable def ni : qO -> T := fun (c, m) => (.sh (.str (Pa c m)) : T)
structure MG (X : Cx) (CL : Str -> Addr) : Prop extends bJ X where
 aF : Ln X 0 "chart"
 bY : Ln X 1 "mood"
 xO : Ln X 2 "kind"
 aZ : Ln X 3 "words"
 aM : uA X.K (CL "Chart")
 cz : uA X.K (CL "Tree")
 cA : aN X.K (CL "Tree") "kinds"
 cU : aN X.K (CL "Chart") "tree"
 aW : aN X.K (CL "Chart") "names"
 cT : aN X.K (CL "Tree") "starts"
theorem MH {X : Cx} {CL : Str -> Addr} {b : Bx} (E : MG X CL) {bF : qO} (h : jL bF) :
   av X CL b qN ["chart", "mood", "kind", "words"] (nh bF) (ni bF) := by
 obtain ⟨c, m⟩ := bF
 dsimp only [av, jL, nh, ni] at h ⊢
 obtain ⟨hc, hm⟩ := h
 have m0 : (0 : Int) <= m := by omega
 have mk : (m : Int) < c.ks.length := by rw [hc.kl]; omega
 have mn : (m : Int) < c.ns.length := by rw [hc.nl]; omega
 have ms : (m : Int) < c.ss.length := by rw [hc.sl]; omega
 have em : (m : Int).toNat = m := apg m
 have hk : (c.ks.getD m Str.empty).length <= 21 := nP (fun x hx => anW (hc.kk x hx) (by decide)) m
 have hn := nP hc.nk m
 refine aQ E.g E.xO (aK (aV (bO (bS E.cz E.cA (bS E.aM E.cU (aA E.aF) pG) mq) (aA E.bY) (xA Str.empty m0 mk)) rfl) (t2 := .sh (.str (c.ks.getD m Str.empty))) (by rw [em])) ?_
 refine aQ E.g E.aZ (aK (p6 (aT (v_ E.xO.1) (aT (aV (bO (bS E.aM E.aW (aA E.aF) c6) (aA E.bY) (xA Str.empty m0 mn)) rfl) ez)) (aE rfl)) (t2 := .lst ((([c.ks.getD m Str.empty, c.ns.getD m Str.empty] : List Str).map .str).map T.sh)) (by rw [em]; rfl)) ?_
 refine aU (bB (aA E.xO) (ah aB)).1 (fun hp => ?_) (fun hp => ak ?_)
 . have hp : c.ks.getD m Str.empty = "one" := ang hp
   obtain ⟨s0, s1⟩ := (hc.one m hm).1 hp
   have hs := nP hc.nk (c.ss.getD m 0).toNat
   refine ug E.aZ.1 rfl (aV (bO (bS E.aM E.aW (aA E.aF) c6) (Xw (bO (bS E.cz E.cT (bS E.aM E.cU (aA E.aF) pG) p9) (aA E.bY) (uS m0 ms)) (d2 := .int (c.ss.getD m 0)) (by rw [em])) (xA Str.empty s0 (by rw [hc.nl]; exact s1))) rfl) rfl (anb rfl) (ak ?_)
   refine aP (sL (l := [c.ks.getD m Str.empty, c.ns.getD m Str.empty, c.ns.getD (c.ss.getD m 0).toNat Str.empty]) (ah aB) (vL E.aZ.1) (yS (by
     show (c.ks.getD m Str.empty).length + ((c.ns.getD m Str.empty).length + ((c.ns.getD (c.ss.getD m 0).toNat Str.empty).length + 0)) + 3 <= _
     omega))) ?_
   show T.sh _ = T.sh (.str (Pa c m))
   rw [DT, Pa, anu hp]
 . have hp : ¬ c.ks.getD m Str.empty = "one" := anr hp
   refine aP (sL (l := [c.ks.getD m Str.empty, c.ns.getD m Str.empty]) (ah aB) (vL E.aZ.1) (yS (by
     show (c.ks.getD m Str.empty).length + ((c.ns.getD m Str.empty).length + 0) + 2 <= _
     omega))) ?_
   show T.sh _ = T.sh (.str (Pa c m))
   rw [DT, Pa, anm hp]
theorem oX : kP (aj qN) ([("chart", au), ("mood", au), ("kind", au), ("words", au)]) = true := by decide +kernel
theorem JN : aJ ["chart", "mood", "kind", "words"] ["chart", "mood"] (aj qN) := aO
theorem Y4 (c : CH) (n : Nat) : T.gS (.lst ((List.range n).map fun m => gB (yW c m))) = .lst ((List.range n).map fun m => L3.D.lst ((yW c m).map .str)) := by
 rw [T.gS]
 congr 1
 generalize List.range n = l
 induction l with
 | nil => rfl
 | cons m l ih => rw [anD, T.rH, ih, VC, anD]
theorem Ql (c : CH) (n : Nat) : T.clean (.lst ((List.range n).map fun m => gB (yW c m))) = true := by
 rw [o9]
 generalize List.range n = l
 induction l with
 | nil => rfl
 | cons m l ih =>
   rw [anD, T.l0, ih]
   have : (gB (yW c m)).clean = true := pF _
   rw [this]
   rfl
theorem Qm (c : CH) (m : Nat) : (((rP c m).map L3.D.str).map T.sh ++ [T.sh (.str (xF c m ++ Pa c m))]) ++ (((yW c m).map fun t => xF c m ++ " " ++ t).map L3.D.str).map T.sh = ((rP c (m + 1)).map L3.D.str).map T.sh := by
 rw [A0, EV, anC, anC, ani]
 rfl
theorem FG {c : CH} (h : oq c) : ∀ n, (rP c n).length <= 3 + n * 121
 | 0 => by
   have := h.b3
   unfold rP
   rw [List.range_zero, List.flatMap_nil, anL, anh]
   omega
 | n + 1 => by
   have a := FG h n
   have d := Jb h n
   have e := yX h c.ws h.ow.wl n
   rw [A0, anv, EV, anG, anh, yW, anv]
   omega
noncomputable abbrev D6 : Stmt := top 84
noncomputable abbrev JQ : Type := CH
noncomputable def wG : JQ -> List L3.D := fun c => [c.d]
noncomputable def wH : JQ -> Prop := fun c => oq c
noncomputable def wI : JQ -> T := fun c => (.sh (.str (Txt.join "\n" (rP c c.es.length))) : T)
structure ab6 (X : Cx) (CL : Str -> Addr) : Prop extends bJ X where
 aF : Ln X 0 "chart"
 JR : Ln X 1 "rows"
 bY : Ln X 2 "mood"
 qF : Ln X 3 "texts"
 ly : Ln X 4 "blanks"
 Y5 : X.env.kindOf "blanks" = some .cell
 c7 : Gl X "enumerate"
 vp : Gl X "own_texts"
 zq : Gl X "depth"
 vq : Gl X "mood_text"
 c9 : X.mg "enumerate" = none
 MJ : Fc X CL "own_texts" 4 1 m8 m9 ng
 Jt : Fc X CL "depth" 2 2 rX mC rY
 MK : Fc X CL "mood_text" 1 2 nh jL ni
 aM : uA X.K (CL "Chart")
 bH : aN X.K (CL "Chart") "boxes"
 cU : aN X.K (CL "Chart") "tree"
theorem ab7 {X : Cx} {CL : Str -> Addr} {b : Bx} (E : ab6 X CL) {c} (h : wH c) :
   av X CL b D6 ["chart", "rows", "mood", "texts", "blanks"] (wG c) (wI c) := by
 dsimp only [av, wH, wG, wI] at h ⊢
 have hc : oq c := h
 have e1 := hc.e1
 have hle : ∀ l : List Str, ((l.map L3.D.str).map T.sh).length = l.length := fun l => by rw [anh, anh]
 refine XE (parts := part2) (p := fun _ => true) (g := fun d => .sh (.str (Pb (d.at1.toS, d.at2.Sj)))) E.g E.JR (aa8 (xs := ["name", "first"]) .nil (by decide +kernel))
   (Xx (er (g7 E.aM E.bH (v_ E.aF.1) iS))) (.inr rfl) (fun C s0 H0 f0 b' => ⟨p7 (by show List.Nodup (["name", "first"] : List Str); decide +kernel) E.g.calm (OX rfl (by decide +kernel)) (OX rfl (by decide +kernel)), fun d hd => ?YK⟩) (an9 (cJ (by rw [anh]; have := hc.b3; omega))) ?zg (by exact anb rfl) (uQ ⟨_, rfl⟩)
 case YK =>
   obtain ⟨p, hp, rfl⟩ := anM.mp hd
   obtain ⟨b1, b2⟩ := hc.bk p hp
   have b3 := kZ b2
   have e4 : ("box " : Str).length = 4 := rfl
   have es : (" " : Str).length = 1 := rfl
   have hz : ∀ {x : Str}, x.length <= 1000 -> x.length <= sizeLine := fun h => by rw [anF]; omega
   refine ⟨_, rfl, rfl, rfl, fun _ => aK (UN (DR (ah aB) (DR (ah (abj (ah (v_ (dQ (i := 0) rfl (by decide +kernel)))) (hz (by omega)))) (DR (ah aB) (DR (ah (abk (ah (v_ (dQ (i := 1) rfl (by decide +kernel)))) (Ja b2))) (aeW (hz ?_)) (hz ?_)) (hz ?_)) (hz ?_)) (hz ?_))) ?_⟩
   all_goals try (rw [Str.empty_append])
   . rw [str_len, str_len, str_len, e4, es]; show 4 + _ + 1 + (sI p.2).length <= _; omega
   . rw [str_len, str_len, str_len, e4, es]; show 4 + _ + 1 + (sI p.2).length <= _; omega
   . rw [str_len, str_len, e4, es]; omega
   . rw [str_len, e4]; omega
   . rw [e4]; decide
   . rfl
 case zg =>
 have eq1 : T.lst (((c.bs.map O6).filter fun _ => true).map fun d => T.sh (.str (Pb (d.at1.toS, d.at2.Sj)))) = gB (rP c 0) := by
   rw [kD, an1]
   unfold gB rP
   rw [List.range_zero, List.flatMap_nil, anL, an1, an1]
   rfl
 rw [eq1]
 have hoz : (List.range c.es.length).length = c.es.length := aod
 refine xB E.g (p7 E.g.nd E.g.calm E.bY E.qF) (fun j δ => ∃ o3 o4 o5, δ = [some (.sh c.d), some (gB (rP c j)), o3, o4, o5])
   (EA (f := fun m => L3.D.lst ((yW c m).map .str)) (l := List.range c.es.length) 0 E.c9 (oj (c_ c E.MJ E.vp (ai (aA E.aF) aC) hc (Ql c _)) (Y4 c _)) E.c7) ⟨_, _, _, rfl⟩
   (fun j δ ⟨_, _, _, e⟩ => by subst e; intro i hi; simp only [ane, ano, an3] at hi; rcases hi with rfl | rfl <;> exact anb rfl) ?turn ?fin
 case turn =>
   rintro j d δ hj ⟨o3, o4, o5, rfl⟩
   obtain ⟨i, rfl, hi, him, hil, _, _⟩ := Ez hj
   have ei : i = j := by
     rw [List.getElem?_range (by simpa using (List.getElem?_eq_some_iff.mp hi).1)] at hi
     exact (anA hi).symm
   subst ei
   have hil : i < c.es.length := by
     have := aoa.mp him
     rwa [hoz] at this
   have eg : (List.range c.es.length).getD i 0 = i := by
     rw [anO, aoq hil]
     rfl
   refine ⟨_, rfl, ?_⟩
   rw [eg]
   have hrc := FG hc i
   have hio := Jb hc i
   have hwy := yX hc c.ws hc.ow.wl i
   have amI : (yW c i).length <= 120 := by rw [yW, anv]; omega
   have hbl := SW hc i
   have hml := Yn hc i
   have amJ : (Hq c.es i).length <= c.es.length + 1 := IV _ _ _
   refine aQ E.g E.ly (aK (abi (ah aB) (ah (c_ (c.ks, c.es, c.ss, (i : Int)) E.Jt E.zq (ai (bS E.aM E.cU (aA E.aF) pG) (ai (aA E.bY) aC)) (by dsimp only [mC]; exact ⟨hc.tr, by omega, by omega, by omega⟩) rfl)) (ae9 (by omega))) (t2 := .sh (.str (xF c i))) rfl) ?_
   refine ug E.JR.1 rfl (cZ (aA E.ly) (ah (c_ (c, i) E.MK E.vq (ai (aA E.aF) (ai (aA E.bY) aC)) (by dsimp only [jL]; exact ⟨hc, hil⟩) rfl)) (by rw [sizeLine_eq]; show (xF c i).length + (Pa c i).length <= _; omega)) rfl (by rw [hle]; omega) ?_
   refine Lh E.JR.1 rfl (aK (ja (p := fun _ => true) (g := fun d => .sh (.str (xF c i ++ " " ++ d.toS))) (bX (.cons E.ly.1 (.inl E.Y5) .nil) (by decide +kernel)) E.g.calm (er (v_ E.qF.1)) (.inr rfl) (fun C s0 H0 f0 b' d hd => ?YL) (an9 (cJ (by rw [anh]; omega)))) (t2 := gB ((yW c i).map fun t => xF c i ++ " " ++ t)) ?eq2) rfl (by rw [anv, hle, hle, anh, aot]; omega) ?Fd
   case YL =>
     obtain ⟨t, ht, rfl⟩ := anM.mp hd
     have htl : t.length <= 9326 := by
       rcases ank.mp ht with ht | ht
       . exact anW (Yo hc t ht) (by decide)
       . obtain ⟨w, hw, rfl⟩ := anM.mp ht
         exact SV hc (hc.ow.ww w (aoZ.mp hw).1)
     have es : (" " : Str).length = 1 := rfl
     exact ⟨rfl, fun _ => aK (cZ (ah (cZ (ah (v_ (xx (i := 1) rfl (by decide +kernel)))) (ah aB) (by rw [anF, es]; omega))) (ah (v_ (dQ (i := 0) rfl (by decide +kernel)))) (by rw [anF, str_len, es]; omega)) (by rfl)⟩
   case eq2 =>
     rw [kD, gB, an1, an1, an1]
     rfl
   case Fd =>
   refine ak ?_
   show ∃ o3 o4 o5, _ = [_, some (T.lst (((rP c (i + 1)).map L3.D.str).map T.sh)), o3, o4, o5]
   rw [← Qm c i]
   exact ⟨_, _, _, rfl⟩
 case fin =>
   rintro δ ⟨o3, o4, o5, rfl⟩
   have e : ((List.range (List.range c.es.length).length).map fun (i : Nat) => L3.D.tup [.int i, (fun m => L3.D.lst ((yW c m).map .str)) ((List.range c.es.length).getD i 0)]).length = c.es.length := by
     rw [anh, aod, aod]
   rw [e]
   exact aP (sL (l := rP c c.es.length) (ah aB) (vL E.JR.1) (all_join hc)) rfl
theorem jM : kP (aj D6) ([("chart", au), ("rows", au), ("mood", au), ("texts", au), ("blanks", .cell), ("enumerate", aq), ("own_texts", aq), ("depth", aq), ("mood_text", aq)]) = true := by decide +kernel
theorem Y6 : aJ ["chart", "rows", "mood", "texts", "blanks"] ["chart"] (aj D6) := aO
noncomputable abbrev Tj : Stmt := top 100
noncomputable abbrev Y7 : Type := List Int
noncomputable def wJ : Y7 -> List L3.D := fun a => [.lst (a.map .int)]
noncomputable def wK : Y7 -> Prop := fun a => a.length <= 63
noncomputable def wL : Y7 -> T := fun a => (.sh (.bl true) : T)
structure ahA (X : Cx) (CL : Str -> Addr) : Prop extends bJ X where
 iT : Ln X 0 "script"
 eU : Ln X 1 "names"
 z7 : Ln X 2 "first"
 gn : Ln X 3 "term"
 bY : Ln X 4 "mood"
 bK : Ln X 5 "text"
 aF : Ln X 6 "chart"
 Fy : Ln X 7 "ins"
 bf : Ln X 8 "found"
 C4 : Gl X "_law_names_by"
 sf : Gl X "_law_number_by"
 eF : Gl X "_law_cell_at"
 y9 : Gl X "str"
 Bh : Gl X "_law_term_text"
 Qn : Gl X "read"
 ML : Gl X "_law_same"
 JS : Gl X "shown"
 bu : Gl X "isinstance"
 Qo : Fc X CL "_law_names_by" 2 2 ou oz oA
 B7 : Fc X CL "_law_number_by" 1 1 mJ mK mL
 mw : Fc X CL "_law_cell_at" 1 2 nA nB nE
 za : X.mg "str" = none
 FH : Fc X CL "_law_term_text" 1 2 jb gk jc
 afv : Fc X CL "read" 8 1 zR zS zU
 afw : Fc X CL "_law_same" 10 2 zV zW zX
 ab8 : Fc X CL "shown" 5 1 wG wH wI
 bw : X.mg "isinstance" = none
theorem ahB {X : Cx} {CL : Str -> Addr} {b : Bx} (E : ahA X CL) {a} (h : wK a) :
   av X CL b Tj ["script", "names", "first", "term", "mood", "text", "chart", "ins", "found"] (wJ a) (wL a) := by
 dsimp only [av, wK, wJ, wL] at h ⊢
 have hs : a.length <= 63 := by omega
 obtain ⟨n0, n1, n2, en, k0, k1, k2⟩ := ajZ a
 have b3 := aoe (cB a 3) (show (2 : Int) ≠ 0 by decide)
 have b4 := an8 (cB a 3) (show (0 : Int) < 2 by decide)
 have b5 := aoe (cB a 5) (show (2 : Int) ≠ 0 by decide)
 have b6 := an8 (cB a 5) (show (0 : Int) < 2 by decide)
 have f1 := Ye (cB a 2)
 have f2 := Ye (cB a 4)
 refine aQ E.g E.eU (oj (d := .lst [.str n0, .str n1, .str n2]) (c_ (a, 3) E.Qo E.C4 (ai (aA E.iT) (ai (ah ao) aC)) (show 3 <= 100 by decide) (pF _)) (by
   show T.gS (.lst (((Yb a 3).map .str).map T.sh)) = _
   rw [en]
   rfl)) ?_
 refine aQ E.g E.z7 (aK (c_ (cB a 2) E.B7 E.sf (ai (ah (c_ ((a, 2)) E.mw E.eF (ai (aA E.iT) (ai (ah ao) aC)) (show (0 : Int) <= 2 by omega) rfl)) aC) trivial rfl) (t2 := .sh (.int (Cy (cB a 2)))) rfl) ?_
 refine aQ E.g E.gn (cN (ds := [.int (cB a 3 % 2 - 1), .int (Cy (cB a 4))]) (aT (El (ah (uO (ah (c_ ((a, 3)) E.mw E.eF (ai (aA E.iT) (ai (ah ao) aC)) (show (0 : Int) <= 3 by omega) rfl)) (ah ao) (by decide))) (ah ao)) (aT (aK (c_ (cB a 4) E.B7 E.sf (ai (ah (c_ ((a, 4)) E.mw E.eF (ai (aA E.iT) (ai (ah ao) aC)) (show (0 : Int) <= 4 by omega) rfl)) aC) trivial rfl) (t2 := .sh (.int (Cy (cB a 4)))) rfl) ez)) (aE rfl)) ?_
 have hmd : ∃ md, Ed ([n0, n1, n2].map L3.D.str) (cB a 5 % 2) = some (.str md) /\ gV md = true := by
   rcases (show cB a 5 % 2 = 0 \/ cB a 5 % 2 = 1 by omega) with e | e <;> rw [e]
   . exact ⟨n0, rfl, k0⟩
   . exact ⟨n1, rfl, k1⟩
 obtain ⟨md, em, km⟩ := hmd
 refine aQ E.g E.bY (aK (aV (bO (ds := [n0, n1, n2].map L3.D.str) (aA E.eU) (ah (uO (ah (c_ ((a, 5)) E.mw E.eF (ai (aA E.iT) (ai (ah ao) aC)) (show (0 : Int) <= 5 by omega) rfl)) (ah ao) (by decide))) em) rfl) (t2 := .sh (.str md)) rfl) ?_
 generalize Cy (cB a 2) = f at f1 ⊢
 generalize Cy (cB a 4) = c at f2 ⊢
 have ht : cB a 3 % 2 - 1 = -1 \/ cB a 3 % 2 - 1 = 0 := by omega
 generalize cB a 3 % 2 - 1 = q at ht ⊢
 have hp : jz ⟨n0, md, n2, f, q, c⟩ := ⟨k0, km, k2, f1, ht, f2⟩
 have hl0 := (cF k0).2.1
 have hl1 := (cF km).2.1
 have hl2 := (cF k2).2.1
 have hlf := kZ f1
 have Iz : (KG n0 q c).length <= 53 := Pq hp
 have z1 : ("box " : Str).length = 4 := rfl
 have z2 : (" " : Str).length = 1 := rfl
 have z3 : ("\nleaf " : Str).length = 6 := rfl
 have z4 : ("\n in put " : Str).length = 9 := rfl
 have z5 : ("\n out call " : Str).length = 11 := rfl
 show gU X CL b _ [some (.sh (.lst (a.map .int))), some (.sh (.lst [.str n0, .str n1, .str n2])), some (.sh (.int f)), some (.sh (.tup [.int q, .int c])), some (.sh (.str md)), none, none, none, none] _
 refine aQ E.g E.bK (t := .sh (.str (("box " : Str) ++ n0 ++ " " ++ sI f ++ "\nleaf " ++ md))) (cZ (ah (cZ (ah (cZ (ah (cZ (ah (cZ (ah aB) (bO (aA E.eU) (ah ao) rfl) (sz ?c1))) (ah aB) (sz ?c2))) (ah (vW E.za E.y9 (aA E.z7) (Ja f1))) (sz ?c3))) (ah aB) (sz ?c4))) (aA E.bY) (sz ?c5)) ?zg
 case c1 => rw [z1]; omega
 case c2 => rw [str_len, z1, z2]; omega
 case c3 => rw [str_len, str_len, z1, z2]; have : (Str.ofString (toString f)).length <= 31 := hlf; omega
 case c4 => rw [str_len, str_len, str_len, z1, z2, z3]; have : (Str.ofString (toString f)).length <= 31 := hlf; omega
 case c5 => rw [str_len, str_len, str_len, str_len, z1, z2, z3]; have : (Str.ofString (toString f)).length <= 31 := hlf; omega
 case zg =>
 have hx : (("box " : Str) ++ n0 ++ " " ++ sI f ++ "\nleaf " ++ md).length <= 100 := by
   rw [str_len, str_len, str_len, str_len, str_len, z1, z2, z3]
   omega
 show gU X CL b _ [some (.sh (.lst (a.map .int))), some (.sh (.lst [.str n0, .str n1, .str n2])), some (.sh (.int f)), some (.sh (.tup [.int q, .int c])), some (.sh (.str md)), some (.sh (.str (("box " : Str) ++ n0 ++ " " ++ sI f ++ "\nleaf " ++ md))), none, none, none] _
 have hti := abM ⟨n0, md, n2, f, q, c⟩
 dsimp only at hti
 generalize (("box " : Str) ++ n0 ++ " " ++ sI f ++ "\nleaf " ++ md) = x1 at hx hti ⊢
 have ett : LT.tt ⟨n0, md, n2, f, q, c⟩ = KG n0 q c := rfl
 rw [ett] at hti
 refine aQ E.g E.bK (aK (cZ (ah (cZ (ah (cZ (ah (cZ (ah (cZ (ah (cZ (aA E.bK) (ah aB) (sz ?d1))) (bO (aA E.eU) (ah ao) rfl) (sz ?d2))) (ah aB) (sz ?d3))) (ah (aK (c_ (n0, q, c) E.FH E.Bh (ai (bO (aA E.eU) (ah ao) rfl) (ai (aA E.gn) aC)) (by dsimp only [gk]; exact ⟨by omega, f2⟩) rfl) (t2 := .sh (.str (KG n0 q c))) rfl)) (sz ?d4))) (ah aB) (sz ?d5))) (bO (aA E.eU) (ah ao) rfl) (sz ?d6)) (t2 := .sh (.str (LT.text ⟨n0, md, n2, f, q, c⟩))) (congrArg (fun z => T.sh (.str z)) hti)) ?Fd
 case d1 => rw [z4]; omega
 case d2 => rw [str_len, z4]; omega
 case d3 => rw [str_len, str_len, z4, z2]; omega
 case d4 => rw [str_len, str_len, str_len, z4, z2]; omega
 case d5 => rw [str_len, str_len, str_len, str_len, z4, z2, z5]; omega
 case d6 => rw [str_len, str_len, str_len, str_len, str_len, z4, z2, z5]; omega
 case Fd =>
 have hc := afj hp
 have hsm := ahg hp
 have htx := abL hp
 refine aQ E.g E.aF (oj (d := (LT.ch ⟨n0, md, n2, f, q, c⟩).d) (c_ (LT.mk n0 md n2 f q c) E.afv E.Qn (ai (aA E.bK) aC) hp (by
   show T.bR (ri _ _ _ _ _ _) = true
   exact I0 rfl rfl (B5 _ _ _) rfl rfl rfl)) (by
   show T.gS (.ins "Chart" (ri _ _ _ _ _ _)) = _
   rw [EG, Hr]
   rfl)) ?_
 refine aQ E.g E.Fy (cN (ds := [.tup [.str "put", .int 0, .tup [.int q, .int c]]]) (aT (cN (ds := [.str "put", .int 0, .tup [.int q, .int c]]) (aT aB (aT ao (aT (v_ E.gn.1) ez))) (aE rfl)) ez) (aE rfl)) ?_
 show gU X CL b _ [some (.sh (.lst (a.map .int))), some (.sh (.lst [.str n0, .str n1, .str n2])), some (.sh (.int f)), some (.sh (.tup [.int q, .int c])), some (.sh (.str md)), some (.sh (.str (LT.text ⟨n0, md, n2, f, q, c⟩))), some (.sh (LT.ch ⟨n0, md, n2, f, q, c⟩).d), some (.sh (.tup [.tup [.str "put", .int 0, .tup [.int q, .int c]]])), none] _
 refine aU (δ1 := [some (.sh (.lst (a.map .int))), some (.sh (.lst [.str n0, .str n1, .str n2])), some (.sh (.int f)), some (.sh (.tup [.int q, .int c])), some (.sh (.str md)), some (.sh (.str (LT.text ⟨n0, md, n2, f, q, c⟩))), some (.sh (LT.ch ⟨n0, md, n2, f, q, c⟩).d), some (.sh (.tup [.tup [.str "put", .int 0, .tup [.int q, .int c]]])), none]) (fN (eo (aK (c_ (([O6 (n0, f)] : List L3.D), [md], (["leaf"] : List Str), ([-1] : List Int), ([-1] : List Int), ([.tup [.tup [.str "put", .int 0, .tup [.int q, .int c]]]] : List L3.D), ([.tup [.tup [.str "call", .str n2]]] : List L3.D), ([] : List L3.D)) E.afw E.ML (ai (aA E.aF) (ai (d := AZ [O6 (n0, f)] [md] ["leaf"] [-1] [-1] [.tup [.tup [.str "put", .int 0, .tup [.int q, .int c]]]] [.tup [.tup [.str "call", .str n2]]] []) (ah ?parts) aC)) hsm rfl) (t2 := .sh (.bl true)) rfl))) (fun z => absurd z (by decide)) (fun _ => ak ?_)
 case parts =>
   exact aK (mH (aT (mH (aT (cN (ds := [.str n0, .int f]) (aT (aV (bO (ds := [.str n0, .str n1, .str n2]) (aA E.eU) (ah ao) rfl) rfl) (aT (v_ E.z7.1) ez)) (aE rfl)) ez))
     (aT (mH (aT (v_ E.bY.1) ez)) (aT (mH (aT aB ez)) (aT (mH (aT (dP (ah ao)) ez)) (aT (mH (aT (dP (ah ao)) ez)) (aT (mH (aT (v_ E.Fy.1) ez))
       (aT (mH (aT (cN (ds := [.tup [.str "call", .str n2]]) (aT (cN (ds := [.str "call", .str n2]) (aT aB (aT (aV (bO (ds := [.str n0, .str n1, .str n2]) (aA E.eU) (ah ao) rfl) rfl) ez)) (aE rfl)) ez) (aE rfl)) ez)) (aT (mH ez) ez))))))))) rfl
 refine aQ E.g E.bf (aK (c_ (LT.ch ⟨n0, md, n2, f, q, c⟩) E.ab8 E.JS (ai (aA E.aF) aC) hc rfl) (t2 := .sh (.str (LT.text ⟨n0, md, n2, f, q, c⟩))) (congrArg (fun z => T.sh (.str z)) htx)) ?_
 refine aP (j8 (isS E.bw E.za E.bu E.y9 (aA E.bf)) (fun _ => j7 (bB (aA E.bf) (aA E.bK)).2)) ?_
 rw [anz rfl]
 rfl
theorem ic : kP (aj Tj) ([("script", au), ("names", au), ("first", au), ("term", au), ("mood", au), ("text", au), ("chart", au), ("ins", au), ("found", au), ("_law_names_by", aq), ("_law_number_by", aq), ("_law_cell_at", aq), ("str", aq), ("_law_term_text", aq), ("read", aq), ("_law_same", aq), ("shown", aq), ("isinstance", aq)]) = true := by decide +kernel
theorem Y8 : aJ ["script", "names", "first", "term", "mood", "text", "chart", "ins", "found"] ["script"] (aj Tj) := aO
noncomputable def cl (aH aR : Addr) : Str -> Addr := fun c => if c = "Chart" then aH else if c = "Tree" then aR else 0
theorem lQ {aH aR : Addr} : cl aH aR "Chart" = aH := by unfold cl; rw [anu rfl]
theorem wM {aH aR : Addr} : cl aH aR "Tree" = aR := by unfold cl; rw [anm (by decide +kernel)]; rw [anu rfl]
theorem afx {aH aR : Addr} {x : Str} (h : Sg x = true) : cl aH aR x = 0 := by unfold cl; rw [anm (fun e => by rw [e] at h; exact absurd h (by decide +kernel))]; rw [anm (fun e => by rw [e] at h; exact absurd h (by decide +kernel))]
theorem all_mk {l : PySem.W.OpenLaw} {w : World} {K : PySem.W.Frag} {h : Heap} {mg : Str -> Option Value} {fa HC HD FI B8 vt MN FJ uq ur uv FL HF HG xh B9 Ca HJ HK Aa HL Cb MP Cd FN HM Tp Tq pP qP FP pQ uw qQ Ab qR ux uy qS vv vz sj MQ oY qT Y9 JT Za MR Ce FQ Cg FT Ci Cj Tr adp aH aR : Addr} (XX : K.In h) (G : h.Ns mainGlobals mg) (hfa : mg "law" = some (.ref fa))
   {VD VF Qp MS FU zf kh nR jX C5 xX g5 g6 jF nI u6 A7 wu sZ A8 u9 Fz vn tR Bg zm zq ko lz dB kr nT fG lC lI dD nS lJ pM pN mD FD JV MT Qn Tt g_same z9 i9 Qq MV xY vp vq JS adq : FuncData}
   (JW : kY K "Chart" aH) (FW : PySem.W.plainGet K aH Str.empty = true) (FY : PySem.W.hasDictIn K aH = true) (FZ : PySem.W.plainOver K aH = true) (F0 : PySem.W.findIn K (.ref aH) "__setattr__" = some (some (.builtin "object.__setattr__"))) (F2 : PySem.W.makesIn K aH = true) (F3 : PySem.W.keepIn K (.ref aH) = true)
   (rB : PySem.W.findIn K (.ref aH) "boxes" = some none)
   (rC : PySem.W.findIn K (.ref aH) "names" = some none)
   (tY : PySem.W.findIn K (.ref aH) "tree" = some none)
   (vA : PySem.W.findIn K (.ref aH) "ins" = some none)
   (tZ : PySem.W.findIn K (.ref aH) "outs" = some none)
   (t6 : PySem.W.findIn K (.ref aH) "ways" = some none)
   (Qs : kY K "Tree" aR) (JX : PySem.W.plainGet K aR Str.empty = true) (JY : PySem.W.hasDictIn K aR = true) (JZ : PySem.W.plainOver K aR = true) (J1 : PySem.W.findIn K (.ref aR) "__setattr__" = some (some (.builtin "object.__setattr__"))) (J2 : PySem.W.makesIn K aR = true) (J3 : PySem.W.keepIn K (.ref aR) = true)
   (t7 : PySem.W.findIn K (.ref aR) "kinds" = some none)
   (rD : PySem.W.findIn K (.ref aR) "elders" = some none)
   (rE : PySem.W.findIn K (.ref aR) "starts" = some none)
   (Bj : kY K "_law_cell_at" HC) (VG : jQ K "_law_cell_at" "_law_cell_at" vZ HC VD)
   (Bk : kY K "_law_name_by" HD) (VH : jQ K "_law_name_by" "_law_name_by" v7 HD VF)
   (xZ : kY K "_law_names_by" FI) (Qt : jQ K "_law_names_by" "_law_names_by" sP FI Qp)
   (vC : kY K "_law_number_by" B8) (MX : jQ K "_law_number_by" "_law_number_by" qg B8 MS)
   (pR : kY K "_law_term_text" vt) (F4 : jQ K "_law_term_text" "_law_term_text" k6 vt FU)
   (F5 : kY K "places" MN) (Zb : jQ K "places" "places" zb MN zf)
   (x6 : kY K "place_of" FJ) (Qu : jQ K "place_of" "place_of" sV FJ kh)
   (nU : kY K "numbered_term" uq) (C6 : jQ K "numbered_term" "numbered_term" jR uq nR)
   (nV : kY K "numbered_deed" ur) (C7 : jQ K "numbered_deed" "numbered_deed" jT ur jX)
   (nW : kY K "numbered_form" uv) (C8 : jQ K "numbered_form" "numbered_form" jV uv C5)
   (x8 : kY K "numbered" FL) (Qv : jQ K "numbered" "numbered" sX FL xX)
   (Bl : kY K "is_name" HF) (VJ : jQ K "is_name" "is_name" v9 HF g5)
   (Bm : kY K "name_of" HG) (VL : jQ K "name_of" "name_of" wc HG g6)
   (rG : kY K "are_figures" xh) (GZ : jQ K "are_figures" "are_figures" mP xh jF)
   (vD : kY K "is_number" B9) (MY : jQ K "is_number" "is_number" qh B9 nI)
   (vF : kY K "number_of" Ca) (MZ : jQ K "number_of" "number_of" qi Ca u6)
   (Bo : kY K "term_of" HJ) (VM : jQ K "term_of" "term_of" wj HJ A7)
   (Bp : kY K "deed_of" HK) (VN : jQ K "deed_of" "deed_of" wm HK wu)
   (t8 : kY K "content_of" Aa) (J4 : jQ K "content_of" "content_of" oH Aa sZ)
   (Bq : kY K "form_of" HL) (VP : jQ K "form_of" "form_of" wA HL A8)
   (vG : kY K "may_stand" Cb) (M0 : jQ K "may_stand" "may_stand" qv Cb u9)
   (F6 : kY K "formed" MP) (Zc : jQ K "formed" "formed" zk MP Fz)
   (vH : kY K "elders_of" Cd) (M3 : jQ K "elders_of" "elders_of" qx Cd vn)
   (x9 : kY K "deeds_of" FN) (Qw : jQ K "deeds_of" "deeds_of" tF FN tR)
   (Br : kY K "ways_of" HM) (VQ : jQ K "ways_of" "ways_of" wF HM Bg)
   (J5 : kY K "above" Tp) (ab9 : jQ K "above" "above" DW Tp zm)
   (J6 : kY K "depth" Tq) (acd : jQ K "depth" "depth" DY Tq zq)
   (ku : kY K "are_elders_right" pP) (yb : jQ K "are_elders_right" "are_elders_right" gI pP ko)
   (lR : kY K "are_kinds_right" qP) (Ac : jQ K "are_kinds_right" "are_kinds_right" iE qP lz)
   (yc : kY K "is_place" FP) (Qx : jQ K "is_place" "is_place" tK FP dB)
   (kB : kY K "are_starts_right" pQ) (yd : jQ K "are_starts_right" "are_starts_right" gK pQ kr)
   (nX : kY K "is_tree_right" uw) (C9 : jQ K "is_tree_right" "is_tree_right" jY uw nT)
   (lS : kY K "are_names_right" qQ) (Ad : jQ K "are_names_right" "are_names_right" iI qQ fG)
   (t9 : kY K "is_bounded" Ab) (J7 : jQ K "is_bounded" "is_bounded" oO Ab lC)
   (lT : kY K "are_boxes_right" qR) (Ae : jQ K "are_boxes_right" "are_boxes_right" iJ qR lI)
   (nY : kY K "is_term_right" ux) (Dc : jQ K "is_term_right" "is_term_right" j0 ux dD)
   (n5 : kY K "is_deed_right" uy) (Dd : jQ K "is_deed_right" "is_deed_right" j4 uy nS)
   (lU : kY K "are_deeds_right" qS) (Af : jQ K "are_deeds_right" "are_deeds_right" iN qS lJ)
   (pS : kY K "is_ask_right" vv) (F7 : jQ K "is_ask_right" "is_ask_right" lE vv pM)
   (pT : kY K "is_way_right" vz) (F8 : jQ K "is_way_right" "is_way_right" lG vz pN)
   (mG : kY K "are_ways_right" sj) (Bs : jQ K "are_ways_right" "are_ways_right" jr sj mD)
   (F9 : kY K "looked" MQ) (Zd : jQ K "looked" "looked" zL MQ FD)
   (ua : PySem.W.findIn K (.ref aH) "__init__" = some (some (.ref oY))) (uc : PySem.W.isFn K (.ref oY) = true) (Ag : jQ K "__init__" "Chart.__init__" oQ oY JV)
   (vI : PySem.W.findIn K (.ref aR) "__init__" = some (some (.ref qT))) (vJ : PySem.W.isFn K (.ref qT) = true) (Ck : jQ K "__init__" "Tree.__init__" qD qT MT)
   (Qy : kY K "read" Y9) (afy : jQ K "read" "read" JF Y9 Qn)
   (J8 : kY K "_law_alike" JT) (D7 : jQ K "_law_alike" "_law_alike" D4 JT Tt)
   (Qz : kY K "_law_same" Za) (afz : jQ K "_law_same" "_law_same" s_same Za g_same)
   (Ga : kY K "linked" MR) (Ze : jQ K "linked" "linked" zZ MR z9)
   (vK : kY K "term_text" Ce) (M4 : jQ K "term_text" "term_text" qG Ce i9)
   (ye : kY K "ask_text" FQ) (QB : jQ K "ask_text" "ask_text" tU FQ Qq)
   (vN : kY K "deed_text" Cg) (M5 : jQ K "deed_text" "deed_text" qJ Cg MV)
   (yf : kY K "way_text" FT) (QC : jQ K "way_text" "way_text" tW FT xY)
   (vO : kY K "own_texts" Ci) (M6 : jQ K "own_texts" "own_texts" qM Ci vp)
   (vP : kY K "mood_text" Cj) (M7 : jQ K "mood_text" "mood_text" qN Cj vq)
   (J9 : kY K "shown" Tr) (ace : jQ K "shown" "shown" D6 Tr JS)
   (Tv : kY K "law" adp) (Zf : jQ K "law" "law" Tj adp adq)
   (Zg : PySem.W.nsIn K mainGlobals "len" = some none)
   (Ka : PySem.W.nsIn K mainGlobals "range" = some none)
   (Zh : PySem.W.nsIn K mainGlobals "str" = some none)
   (Zi : PySem.W.nsIn K mainGlobals "int" = some none)
   (Zj : PySem.W.nsIn K mainGlobals "abs" = some none)
   (vQ : PySem.W.nsIn K mainGlobals "enumerate" = some none)
   {afA : Tok} (Zk : PySem.W.nsIn K mainGlobals "ROW" = some (some (.int 0 afA)))
   {acf : Tok} (QD : PySem.W.nsIn K mainGlobals "WORD" = some (some (.int 2 acf)))
   {QF : Tok} (Bt : PySem.W.nsIn K mainGlobals "CONTENT" = some (some (.int 3 QF)))
   {Tw : Addr} {Zm : Option Addr} {bW : Nat} {Zn : Array (Option Value)} {QG QH QI : Tok} (Kc : PySem.W.nsIn K mainGlobals "KINDS" = some (some (.ref Tw))) (jN : K.lookup Tw = some ⟨.type "tuple", Zm, .seq #[.str "leaf" QG, .str "one" QH, .str "all" QI] bW, Zn⟩)
   {VR : Tok} (Gb : PySem.W.nsIn K mainGlobals "BLANKS" = some (some (.int 1 VR)))
   {De : Tok} (pU : PySem.W.nsIn K mainGlobals "LONGEST_NAME" = some (some (.int 12 De)))
   {Tz : Addr} {Zo : Option Addr} {Ji : Nat} {Zq : Array (Option Value)} {QJ QK QL QM QN QO QS QT QV QW M8 M9 Nb Nf Ng Nh Ni Nj Nk : Tok} (Kd : PySem.W.nsIn K mainGlobals "WORDS" = some (some (.ref Tz))) (Gd : K.lookup Tz = some ⟨.type "tuple", Zo, .seq #[.str "all" QJ, .str "and" QK, .str "box" QL, .str "call" QM, .str "do" QN, .str "far" QO, .str "if" QS, .str "in" QT, .str "leaf" QV, .str "near" QW, .str "on" M8, .str "one" M9, .str "open" Nb, .str "out" Nf, .str "put" Ng, .str "say" Nh, .str "shut" Ni, .str "then" Nj, .str "to" Nk] Ji, Zq⟩)
   {QX : Tok} (Bu : PySem.W.nsIn K mainGlobals "LETTERS" = some (some (.str "abcdefghijklmnopqrstuvwxyz" QX)))
   {ud : Tok} (ig : PySem.W.nsIn K mainGlobals "LETTERS_AND_FIGURES" = some (some (.str "abcdefghijklmnopqrstuvwxyz0123456789" ud)))
   {Df : Tok} (pV : PySem.W.nsIn K mainGlobals "MOST_FIGURES" = some (some (.int 30 Df)))
   {QY : Tok} (Bv : PySem.W.nsIn K mainGlobals "FIGURES" = some (some (.str "0123456789" QY)))
   {qU : Addr} {Nm : Array DictEntry} {wC : Nat} {QZ Q0 Q5 Q6 Q7 Q8 : Tok} (Ke : PySem.W.nsIn K mainGlobals "RANKS" = some (some (.ref qU))) (Ge : K.lookup qU = some ⟨.type "dict", none, .dict Nm wC, #[]⟩) (Gf : PySem.W.KeysLit w.params Nm.toList) (Bw : PySem.W.nsIn K qU "leaf" = some (some (.int 0 QZ))) (By : PySem.W.nsIn K qU "one" = some (some (.int 0 Q0))) (BD : PySem.W.nsIn K qU "all" = some (some (.int 0 Q5))) (BE : PySem.W.nsIn K qU "in" = some (some (.int 1 Q6))) (BF : PySem.W.nsIn K qU "out" = some (some (.int 2 Q7))) (BG : PySem.W.nsIn K qU "on" = some (some (.int 3 Q8)))
   (Kf : PySem.W.nsIn K mainGlobals "tuple" = some none)
   {Q9 : Tok} (BH : PySem.W.nsIn K mainGlobals "DEEPEST" = some (some (.int 12 Q9)))
   (Zr : PySem.W.nsIn K mainGlobals "set" = some none)
   {Zt : Tok} (Kg : PySem.W.nsIn K mainGlobals "DEEDS" = some (some (.int 3 Zt)))
   {TF : Addr} {Zu : Option Addr} {Jx : Nat} {Zv : Array (Option Value)} {Ra Rb Rc Rf : Tok} (Kh : PySem.W.nsIn K mainGlobals "MARKS" = some (some (.ref TF))) (Gg : K.lookup TF = some ⟨.type "tuple", Zu, .seq #[.str "<" Ra, .str "<=" Rb, .str "=" Rc, .str "!=" Rf] Jx, Zv⟩)
   {VW : Tok} (Gh : PySem.W.nsIn K mainGlobals "TARGET" = some (some (.int 4 VW)))
   {acg : Tok} (Rg : PySem.W.nsIn K mainGlobals "MODE" = some (some (.int 5 acg)))
   {VX : Tok} (Gi : PySem.W.nsIn K mainGlobals "SOURCE" = some (some (.int 0 VX)))
   {ach : Tok} (Rh : PySem.W.nsIn K mainGlobals "SIGN" = some (some (.int 1 ach)))
   {TH : Addr} {Zw : Option Addr} {JA : Nat} {Zx : Array (Option Value)} {Ri Rj Rk : Tok} (Kl : PySem.W.nsIn K mainGlobals "MODES" = some (some (.ref TH))) (Gj : K.lookup TH = some ⟨.type "tuple", Zw, .seq #[.str "new" Ri, .str "near" Rj, .str "far" Rk] JA, Zx⟩)
   {aci : Tok} (Rl : PySem.W.nsIn K mainGlobals "ASKS" = some (some (.int 2 aci)))
   (Rm : PySem.W.nsIn K mainGlobals "list" = some none)
   (uf : PySem.W.nsIn K mainGlobals "isinstance" = some none)
   (y_bool : PySem.W.nsIn K mainGlobals "bool" = some none)
   (Zy : PySem.W.nsIn K mainGlobals "zip" = some none)
   : ∃ fd : FuncData, (∀ (s : Shared) (v : Value), BindsTo s fd ⟨[v], []⟩ [("script", v)]) /\ ∀ base : Heap, K.In base -> base.Ns mainGlobals mg -> lY l.prog w K mg base DJ 11 fa fd ["script"] (Us K (fun _ => 0) 1 wJ wK wL) := by
 have e := hfa.symm.trans (anI XX G Tv)
 cases e
 have Km := Ag.binds (ps := ["self", "boxes", "names", "tree", "ins", "outs", "ways"]) fun _ _ _ _ _ _ => by refine EF ?_; exact fun _ _ _ _ _ _ _ => rfl
 have Nn := Ck.binds (ps := ["self", "kinds", "elders", "starts"]) fun _ _ _ _ _ _ => by refine EF ?_; exact fun _ _ _ _ => rfl
 have TJ := anI XX G J8
 have TL := D7.binds (ps := ["found", "due"]) fun _ _ _ _ _ _ => by refine EF ?_; exact fun _ _ => rfl
 have ak3 := anI XX G Tv
 have ak4 := Zf.binds (ps := ["script"]) fun _ _ _ _ _ _ => by refine EF ?_; exact fun _ => rfl
 have acj := anI XX G JW
 have aM : uA K aH := ⟨FW, FY, FZ, F0⟩
 have gf : uA K ((cl aH aR) "Chart") := by rw [lQ]; exact aM
 have d7 : aN K ((cl aH aR) "Chart") "boxes" := by rw [lQ]; exact rB
 have cX : aN K ((cl aH aR) "Chart") "names" := by rw [lQ]; exact rC
 have lV : aN K ((cl aH aR) "Chart") "tree" := by rw [lQ]; exact tY
 have qV : aN K ((cl aH aR) "Chart") "ins" := by rw [lQ]; exact vA
 have oZ : aN K ((cl aH aR) "Chart") "outs" := by rw [lQ]; exact tZ
 have lW : aN K ((cl aH aR) "Chart") "ways" := by rw [lQ]; exact t6
 have afB := anI XX G Qs
 have cz : uA K aR := ⟨JX, JY, JZ, J1⟩
 have vR : uA K ((cl aH aR) "Tree") := by rw [wM]; exact cz
 have ju : aN K ((cl aH aR) "Tree") "kinds" := by rw [wM]; exact t7
 have fW : aN K ((cl aH aR) "Tree") "elders" := by rw [wM]; exact rD
 have jO : aN K ((cl aH aR) "Tree") "starts" := by rw [wM]; exact rE
 have qW := an6 XX G Zg
 have D8 := an6 XX G Ka
 have Zz := an6 XX G Zh
 have ZC := an6 XX G Zi
 have ahC := an6 XX G Zj
 have kN := an6 XX G vQ
 have ads : ∃ u, mg "ROW" = some (.int 0 u) := ⟨_, anI XX G Zk⟩
 have yg : ∃ u, mg "WORD" = some (.int 2 u) := ⟨_, anI XX G QD⟩
 have sq : ∃ u, mg "CONTENT" = some (.int 3 u) := ⟨_, anI XX G Bt⟩
 have qX := anI XX G Kc
 have Ah : ∃ u, mg "BLANKS" = some (.int 1 u) := ⟨_, anI XX G Gb⟩
 have Gk : ∃ u, mg "LONGEST_NAME" = some (.int 12 u) := ⟨_, anI XX G pU⟩
 have ack := anI XX G Kd
 have VY : ∃ u, mg "LETTERS" = some (.str "abcdefghijklmnopqrstuvwxyz" u) := ⟨_, anI XX G Bu⟩
 have uE : ∃ u, mg "LETTERS_AND_FIGURES" = some (.str "abcdefghijklmnopqrstuvwxyz0123456789" u) := ⟨_, anI XX G ig⟩
 have Gm : ∃ u, mg "MOST_FIGURES" = some (.int 30 u) := ⟨_, anI XX G pV⟩
 have VZ : ∃ u, mg "FIGURES" = some (.str "0123456789" u) := ⟨_, anI XX G Bv⟩
 have acm := anI XX G Ke
 have TN := an6 XX G Kf
 have V0 : ∃ u, mg "DEEPEST" = some (.int 12 u) := ⟨_, anI XX G BH⟩
 have ahD := an6 XX G Zr
 have TQ : ∃ u, mg "DEEDS" = some (.int 3 u) := ⟨_, anI XX G Kg⟩
 have acn := anI XX G Kh
 have Np : ∃ u, mg "TARGET" = some (.int 4 u) := ⟨_, anI XX G Gh⟩
 have ZD : ∃ u, mg "MODE" = some (.int 5 u) := ⟨_, anI XX G Rg⟩
 have Gn : ∃ u, mg "SOURCE" = some (.int 0 u) := ⟨_, anI XX G Gi⟩
 have ZE : ∃ u, mg "SIGN" = some (.int 1 u) := ⟨_, anI XX G Rh⟩
 have aco := anI XX G Kl
 have ZF : ∃ u, mg "ASKS" = some (.int 2 u) := ⟨_, anI XX G Rl⟩
 have Rn := an6 XX G Rm
 have Ai := an6 XX G uf
 have afC := an6 XX G y_bool
 have ahE := an6 XX G Zy
 refine ⟨adq, ?bind, fun base _ _ => ?_⟩
 case bind =>
   obtain ⟨oc, od, kV, doc, pm, an, pX, ct, osl, rfl, lk, uF⟩ := Zf.ex
   exact fun s v => .of_eq rfl
 have q := @ae3 l.prog w mg base K h (cl aH aR) XX G
 have HN := q 0 nA nB nE VG Pw Bj fun _ _ _ _ _ _ _ _ hr u p => U6 (by exact ⟨u, bz xH 0, bz xH 1, bL xH 2, qW⟩) p
 have V1 := q 0 qc nF qd VH Px Bk fun _ _ _ _ _ _ _ _ hr u p => U8 (by exact ⟨u, bz gG 0, bz gG 1, bz gG 2, bz gG 3, bz gG 4, bz gG 5, bz gG 6, bL gG 7, bL gG 8, D8, qW⟩) p
 have Ro := q 1 ou oz oA Qt L0 xZ fun _ _ _ _ _ _ _ _ hr u p => Pz (by exact ⟨u, bz fh 0, bz fh 1, bz fh 2, bz fh 3, bz fh 4, bz fh 5, bL fh 6, bL fh 7, bL fh 8, bU HN hr, D8, bU V1 hr⟩) p
 have Nq := q 0 mJ mK mL MX Jh vC fun _ _ _ _ _ _ _ _ hr u p => L4 (by exact ⟨u, bz yZ 0, bz yZ 1⟩) p
 have Gp := q 0 jb gk jc F4 Cz pR fun _ _ _ _ _ _ _ _ hr u p => E9 (by exact ⟨u, bz gW 0, bz gW 1, bL gW 2, bL gW 3, bL gW 4, Zz, ZC, ahC⟩) p
 have ZG := q 0 sR sS sU Zb Va F5 fun _ _ _ _ _ _ _ _ hr u p => YJ (by exact ⟨u, bz rS 0, bz rS 1, bz rS 2, bz rS 3, bL rS 4, kN⟩) p
 have yh := q 0 jd je jf Qu L5 x6 fun _ _ _ _ _ _ _ _ hr u p => PF (by exact ⟨u, bz uZ 0, bz uZ 1, bz uZ 2⟩) p
 have Dg := q 1 iu iw iy C6 A3 nU fun _ _ _ _ _ _ _ _ hr u p => CD (by exact ⟨u, bz jg 0, bz jg 1, bz jg 2, bL jg 3, bU yh hr⟩) p
 have Dh := q 2 iz iA iB C7 A4 nV fun _ _ _ _ _ _ _ _ hr u p => CJ (by exact ⟨u, bz gq 0, bz gq 1, bz gq 2, bL gq 3, bL gq 4, bU yh hr, bU Dg hr⟩) p
 have Di := q 3 iC fj iD C8 A5 nW fun _ _ _ _ _ _ _ _ hr u p => CM (by exact ⟨u, bz bD 0, bz bD 1, bz bD 2, bz bD 3, bz bD 4, bz bD 5, bL bD 6, bL bD 7, bL bD 8, bL bD 9, bL bD 10, bL bD 11, bL bD 12, ads, yg, sq, uU qX jN (aE rfl) (.cons ⟨_, rfl⟩ (.cons ⟨_, rfl⟩ (.cons ⟨_, rfl⟩ (.nil)))), bU yh hr, bU Dh hr, Ah⟩) p
 have Rp := q 4 oB oE oF Qv L7 x8 fun _ _ _ _ _ _ _ _ hr u p => PK (by exact ⟨u, bz kG 0, frC kG 1, pZ kG 1 rfl, frC kG 2, pZ kG 2 rfl, bL kG 3, bU ZG hr, yg, sq, uU qX jN (aE rfl) (.cons ⟨_, rfl⟩ (.cons ⟨_, rfl⟩ (.cons ⟨_, rfl⟩ (.nil)))), bU Di hr⟩) p
 have wN := q 0 iU gy iV VJ PL Bl fun _ _ _ _ _ _ _ _ hr u p => Ve (by exact ⟨u, bz ki 0, bz ki 1, bL ki 2, bL ki 3, bL ki 4, bL ki 5, bL ki 6, qW, Gk, uU ack Gd (aE rfl) (.cons ⟨_, rfl⟩ (.cons ⟨_, rfl⟩ (.cons ⟨_, rfl⟩ (.cons ⟨_, rfl⟩ (.cons ⟨_, rfl⟩ (.cons ⟨_, rfl⟩ (.cons ⟨_, rfl⟩ (.cons ⟨_, rfl⟩ (.cons ⟨_, rfl⟩ (.cons ⟨_, rfl⟩ (.cons ⟨_, rfl⟩ (.cons ⟨_, rfl⟩ (.cons ⟨_, rfl⟩ (.cons ⟨_, rfl⟩ (.cons ⟨_, rfl⟩ (.cons ⟨_, rfl⟩ (.cons ⟨_, rfl⟩ (.cons ⟨_, rfl⟩ (.cons ⟨_, rfl⟩ (.nil)))))))))))))))))))), VY, uE⟩) p
 have BI := q 1 kH kI kJ VL PN Bm fun _ _ _ _ _ _ _ _ hr u p => Vg (by exact ⟨u, bz xK 0, bz xK 1, bL xK 2, bU wN hr⟩) p
 have xj := q 0 gX eY gY GZ Fl rG fun _ _ _ _ _ _ _ _ hr u p => GU (by exact ⟨u, bz iW 0, bz iW 1, bL iW 2, bL iW 3, bL iW 4, qW, Gm, VZ⟩) p
 have Cm := q 1 jD fQ jE MY Jj vD fun _ _ _ _ _ _ _ _ hr u p => Ma (by exact ⟨u, bz sY 0, bz sY 1, bL sY 2, bU xj hr⟩) p
 have Nr := q 2 mQ mR mS MZ Jk vF fun _ _ _ _ _ _ _ _ hr u p => Mf (by exact ⟨u, bz oG 0, bz oG 1, bL oG 2, bL oG 3, bU Cm hr, ZC⟩) p
 have V2 := q 2 qk ql qm VM PR Bo fun _ _ _ _ _ _ _ _ hr u p => Vl (by exact ⟨u, bz fS 0, bz fS 1, bz fS 2, bz fS 3, bz fS 4, bz fS 5, bL fS 6, bL fS 7, bL fS 8, bL fS 9, bU Cm hr, ZC, bU BI hr, bU xj hr⟩) p
 have V3 := q 3 qo qp qq VN PV Bp fun _ _ _ _ _ _ _ _ hr u p => Vp (by exact ⟨u, bz pL 0, bz pL 1, bL pL 2, bL pL 3, bL pL 4, qW, bU BI hr, bU V2 hr⟩) p
 have Kn := q 4 k8 k9 lg J4 GV t8 fun _ _ _ _ _ _ _ _ hr u p => Jm (by exact ⟨u, bz fU 0, bz fU 1, bz fU 2, bL fU 3, bL fU 4, bL fU 5, bL fU 6, qW, bU BI hr, bU Nr hr, bU V3 hr⟩) p
 have V4 := q 5 qt nJ qu VP PX Bq fun _ _ _ _ _ _ _ _ hr u p => Vr (by exact ⟨u, bz mz 0, bz mz 1, bz mz 2, bz mz 3, bL mz 4, bL mz 5, qW, bU Kn hr⟩) p
 have Nt := q 0 mV mW mX M0 Jp vG fun _ _ _ _ _ _ _ _ hr u p => Mi (by exact ⟨u, bz dS 0, bz dS 1, bz dS 2, bz dS 3, bz dS 4, bL dS 5, bL dS 6, bL dS 7, bL dS 8, yg, Ah, uU qX jN (aE rfl) (.cons ⟨_, rfl⟩ (.cons ⟨_, rfl⟩ (.cons ⟨_, rfl⟩ (.nil)))), ⟨_, _, _, acm, Ge, Gf, fun k z hk => by 
     rcases L3.vX hk with ⟨rfl, rfl⟩ | hk
     . exact ⟨_, Bw⟩
     rcases L3.vX hk with ⟨rfl, rfl⟩ | hk
     . exact ⟨_, By⟩
     rcases L3.vX hk with ⟨rfl, rfl⟩ | hk
     . exact ⟨_, BD⟩
     rcases L3.vX hk with ⟨rfl, rfl⟩ | hk
     . exact ⟨_, BE⟩
     rcases L3.vX hk with ⟨rfl, rfl⟩ | hk
     . exact ⟨_, BF⟩
     rcases L3.vX hk with ⟨rfl, rfl⟩ | hk
     . exact ⟨_, BG⟩
     cases hk⟩⟩) p
 have ZH := q 6 tu tD tE Zc Vt F6 fun _ _ _ _ _ _ _ _ hr u p => YN (by exact ⟨u, bz dm 0, bz dm 1, bz dm 2, bz dm 3, bz dm 4, bz dm 5, bz dm 6, bL dm 7, bL dm 8, bL dm 9, bL dm 10, bL dm 11, bL dm 12, bL dm 13, kN, bU V4 hr, bU Nt hr, ads, yg, uU qX jN (aE rfl) (.cons ⟨_, rfl⟩ (.cons ⟨_, rfl⟩ (.cons ⟨_, rfl⟩ (.nil)))), Ah⟩) p
 have Nu := q 0 mY mZ m5 M3 Jq vH fun _ _ _ _ _ _ _ _ hr u p => Mm (by exact ⟨u, bz jh 0, bz jh 1, bz jh 2, bz jh 3, bz jh 4, bL jh 5, kN⟩) p
 have Rq := q 0 oK oM oN Qw Mp x9 fun _ _ _ _ _ _ _ _ hr u p => PZ (by exact ⟨u, bz iY 0, bz iY 1, bz iY 2, bz iY 3, bL iY 4, bL iY 5, bL iY 6, yg, uU qX jN (aE rfl) (.cons ⟨_, rfl⟩ (.cons ⟨_, rfl⟩ (.cons ⟨_, rfl⟩ (.nil)))), sq, TN⟩) p
 have V5 := q 0 qy qz qA VQ P0 Br fun _ _ _ _ _ _ _ _ hr u p => Vv (by exact ⟨u, bz kj 0, bz kj 1, bz kj 2, bz kj 3, bL kj 4, bL kj 5, bL kj 6, yg, uU qX jN (aE rfl) (.cons ⟨_, rfl⟩ (.cons ⟨_, rfl⟩ (.cons ⟨_, rfl⟩ (.nil)))), sq⟩) p
 have TR := q 0 rV pe rW ab9 YS J5 fun _ _ _ _ _ _ _ _ hr u p => abS (by exact ⟨u, bz zl 0, bz zl 1, bz zl 2, bz zl 3, vR, fW⟩) p
 have TV := q 1 rX mC rY acd YT J6 fun _ _ _ _ _ _ _ _ hr u p => abU (by exact ⟨u, bz zo 0, bz zo 1, bL zo 2, bL zo 3, qW, bU TR hr⟩) p
 have yi := q 2 fk dc fq yb wQ ku fun _ _ _ _ _ _ _ _ hr u p => xN (by exact ⟨u, bz bP 0, bz bP 1, bz bP 2, bL bP 3, bL bP 4, bL bP 5, bL bP 6, bL bP 7, D8, qW, bU TR hr, bU TV hr, V0, vR, fW⟩) p
 have Aj := q 0 fX dH fY Ac xP lR fun _ _ _ _ _ _ _ _ hr u p => zx (by exact ⟨u, bz cE 0, bz cE 1, bz cE 2, bz cE 3, bz cE 4, bL cE 5, bL cE 6, kN, uU qX jN (aE rfl) (.cons ⟨_, rfl⟩ (.cons ⟨_, rfl⟩ (.cons ⟨_, rfl⟩ (.nil)))), vR, fW, ju⟩) p
 have pW := q 0 fu fB fC Qx Mr yc fun _ _ _ _ _ _ _ _ hr u p => P4 (by exact ⟨u, bz ve 0, bz ve 1, bL ve 2, qW⟩) p
 have yj := q 1 fD dg fE yd wR kB fun _ _ _ _ _ _ _ _ hr u p => xR (by exact ⟨u, bz dI 0, bz dI 1, bz dI 2, bL dI 3, bL dI 4, kN, bU pW hr, vR, jO, ju, fW⟩) p
 have Dj := q 3 iG fF iH C9 Ba nX fun _ _ _ _ _ _ _ _ hr u p => CQ (by exact ⟨u, bz cR 0, bz cR 1, bz cR 2, bL cR 3, bL cR 4, bL cR 5, bL cR 6, qW, bU yi hr, bU Aj hr, bU yj hr, vR, ju, fW, jO⟩) p
 have qY := q 1 dJ cj dM Ad xU lS fun _ _ _ _ _ _ _ _ hr u p => zB (by exact ⟨u, bz eK 0, bz eK 1, bL eK 2, bL eK 3, bL eK 4, bU wN hr, qW, ahD⟩) p
 have Ak := q 0 iZ i6 i7 J7 GY t9 fun _ _ _ _ _ _ _ _ hr u p => Jv (by exact ⟨u, bz GX 0⟩) p
 have Al := q 2 fZ f6 f7 Ae xV lT fun _ _ _ _ _ _ _ _ hr u p => zE (by exact ⟨u, bz gO 0, bz gO 1, bL gO 2, bL gO 3, bU Ak hr, bU qY hr⟩) p
 have uz := q 1 fH fJ fK Dc Bb nY fun _ _ _ _ _ _ _ _ hr u p => CV (by exact ⟨u, bz ji 0, bz ji 1, bL ji 2, bL ji 3, bU pW hr, bU Ak hr, gf, d7⟩) p
 have Dk := q 2 iK iL iM Dd Bc n5 fun _ _ _ _ _ _ _ _ hr u p => CY (by exact ⟨u, bz d8 0, bz d8 1, bz d8 2, bL d8 3, bL d8 4, bL d8 5, bU pW hr, bU uz hr, bU wN hr, gf, d7⟩) p
 have Am := q 3 f9 dN gb Af xW lU fun _ _ _ _ _ _ _ _ hr u p => zG (by exact ⟨u, bz cS 0, bz cS 1, bz cS 2, bz cS 3, bL cS 4, bL cS 5, qW, bU Dk hr, TQ, gf, cX, qV, oZ, lW⟩) p
 have Gq := q 2 jj jk jl F7 C1 pS fun _ _ _ _ _ _ _ _ hr u p => Fq (by exact ⟨u, bz eZ 0, bz eZ 1, bz eZ 2, bL eZ 3, bL eZ 4, bL eZ 5, bU pW hr, uU acn Gg (aE rfl) (.cons ⟨_, rfl⟩ (.cons ⟨_, rfl⟩ (.cons ⟨_, rfl⟩ (.cons ⟨_, rfl⟩ (.nil))))), bU uz hr, gf, cX⟩) p
 have Gr := q 3 jm jo jq F8 C2 pT fun _ _ _ _ _ _ _ _ hr u p => Fw (by exact ⟨u, bz bE 0, bz bE 1, bz bE 2, bz bE 3, bz bE 4, bL bE 5, bL bE 6, bL bE 7, bL bE 8, bL bE 9, bL bE 10, bL bE 11, bL bE 12, bL bE 13, Np, ZD, bU pW hr, Gn, bU wN hr, ZE, uU aco Gj (aE rfl) (.cons ⟨_, rfl⟩ (.cons ⟨_, rfl⟩ (.cons ⟨_, rfl⟩ (.nil)))), ZF, bU Gq hr, gf, cX⟩) p
 have BJ := q 4 gP eN gQ Bs zK mG fun _ _ _ _ _ _ _ _ hr u p => Be (by exact ⟨u, bz fM 0, bz fM 1, bz fM 2, bL fM 3, bL fM 4, Gn, bU Gr hr, gf, lW⟩) p
 have ZI := q 5 tO pO tP Zd Vy F9 fun _ _ _ _ _ _ _ _ hr u p => YW (by exact ⟨u, bz gu 0, bL gu 1, bL gu 2, bL gu 3, bL gu 4, bL gu 5, bL gu 6, bL gu 7, bL gu 8, bL gu 9, bL gu 10, bU Dj hr, bU qY hr, bU Al hr, bU Am hr, bU BJ hr, gf, lV, cX, d7⟩) p
 have Ko : lY l.prog w K mg base DJ 1 oY _ ["self", "boxes", "names", "tree", "ins", "outs", "ways"] (spI K (cl aH aR) "Chart" 7 vf vg vh) := Sq Ag w4 fun pX Ar outer s H E b a y hr hp => by
   obtain ⟨p0, p1, p2, p3, p4, p5⟩ := a; refine JD ?_ p0 p1 p2 p3 p4 p5 y hp
   exact ⟨⟨⟨w4.nd, rfl, .never⟩, hr.units⟩, bz dX 0, bz dX 1, bz dX 2, bz dX 3, bz dX 4, bz dX 5, bz dX 6, bL dX 7, Rn, gf, d7, cX, lV, qV, oZ, lW⟩
 have Nv : lY l.prog w K mg base DJ 1 qT _ ["self", "kinds", "elders", "starts"] (spI K (cl aH aR) "Tree" 4 w6 w9 xg) := Sq Ck zQ fun pX Ar outer s H E b a y hr hp => by
   obtain ⟨p0, p1, p2⟩ := a; refine Mt ?_ p0 p1 p2 y hp
   exact ⟨⟨⟨zQ.nd, rfl, .never⟩, hr.units⟩, bz lK 0, bz lK 1, bz lK 2, bz lK 3, bL lK 4, Rn, vR, ju, fW, jO⟩
 have afD := q 7 zR zS zU afy ab0 Qy fun _ _ _ _ _ _ _ _ hr u p => afs (by exact ⟨u, bz gR 0, bz gR 1, bz gR 2, bz gR 3, bz gR 4, bz gR 5, bz gR 6, bL gR 7, bL gR 8, bL gR 9, bL gR 10, bL gR 11, bL gR 12, bL gR 13, bL gR 14, bU Rp hr, bU ZH hr, bU Nu hr, ⟨⟨_, _, _, by rw [lQ]; exact ⟨F2, ua, uc, F3⟩, Ko, by rw [lQ]; exact acj, Km⟩, hr.mono (by decide)⟩, ⟨⟨_, _, _, by rw [wM]; exact ⟨J2, vI, vJ, J3⟩, Nv, by rw [wM]; exact afB, Nn⟩, hr.mono (by decide)⟩, bU Rq hr, bU V5 hr, bU ZI hr, yg, uU qX jN (aE rfl) (.cons ⟨_, rfl⟩ (.cons ⟨_, rfl⟩ (.cons ⟨_, rfl⟩ (.nil)))), Ah, sq⟩) p
 have ZJ : ∀ dd, lY l.prog w K mg base DJ (1 + dd) JT Tt ["found", "due"] (Us K (cl aH aR) 2 r9 (mE dd) sd) := by
   intro dd
   induction dd using Nat.strongRecOn with
   | ind dd ih =>
     rw [show 1 + dd = (0 + dd) + 1 by omega]
     exact Ir D7 Mv fun pX Ar outer s H E b a hr hp => by
       refine ab2 (dd := dd) ?_ hp
       exact ⟨⟨⟨Mv.nd, rfl, .never⟩, hr.units⟩, bz jG 0, bz jG 1, bz jG 2, bL jG 3, bL jG 4, bL jG 5, bL jG 6, bL jG 7, bL jG 8, bL jG 9, Ai, Rn, TN, qW, D8, fun d' hd => ⟨⟨_, _, _, ih d' hd, TJ, D7.kp, TL⟩, hr.mono (by omega)⟩, afC⟩
 have acp := ZJ 8
 have acq := ag2 acp TJ D7.kp TL
 have afE := q 9 zV zW zX afz ab3 Qz fun _ _ _ _ _ _ _ _ hr u p => afu (by exact ⟨u, bz zY 0, bz zY 1, bz zY 2, bz zY 3, bL zY 4, bU acq hr, gf, vR, lV, d7, cX, ju, fW, jO, qV, oZ, lW⟩) p
 have ZK := q 0 tS mF tT Ze VB Ga fun _ _ _ _ _ _ _ _ hr u p => Y3 (by exact ⟨u, bz se 0, bz se 1, bz se 2, bz se 3, bz se 4⟩) p
 have Cp := q 0 jH cV jI M4 JK vK fun _ _ _ _ _ _ _ _ hr u p => Mx (by exact ⟨u, bz lM 0, bz lM 1, bz lM 2, bz lM 3, bL lM 4, Zz, gf, d7⟩) p
 have Rr := q 1 oS lN oU QB My ye fun _ _ _ _ _ _ _ _ hr u p => Qf (by exact ⟨u, bz qI 0, bz qI 1, bz qI 2, bL qI 3, bU Cp hr, gf, cX⟩) p
 have Cq := q 1 jJ dY jK M5 JL vN fun _ _ _ _ _ _ _ _ hr u p => MA (by exact ⟨u, bz lO 0, bz lO 1, bz lO 2, bz lO 3, bL lO 4, bU Cp hr, gf, d7⟩) p
 have Rt := q 2 oV lP oW QC MC yf fun _ _ _ _ _ _ _ _ hr u p => Qi (by exact ⟨u, frC dZ 0, pZ dZ 0 rfl, bz dZ 1, bz dZ 2, bL dZ 3, bL dZ 4, bL dZ 5, bL dZ 6, bL dZ 7, bL dZ 8, ZE, bU ZK hr, ZF, TQ, Np, ZD, bU Rr hr, bU Cq hr, gf, cX⟩) p
 have Nx := q 3 m8 m9 ng M6 JM vO fun _ _ _ _ _ _ _ _ hr u p => MF (by exact ⟨u, frC cW 0, pZ cW 0 rfl, bz cW 1, bz cW 2, bz cW 3, bz cW 4, bz cW 5, bL cW 6, bL cW 7, bL cW 8, ahE, Gn, bU Rt hr, bU Cq hr, gf, lW, qV, oZ⟩) p
 have Ny := q 0 nh jL ni M7 JN vP fun _ _ _ _ _ _ _ _ hr u p => MH (by exact ⟨u, bz oX 0, bz oX 1, bz oX 2, bz oX 3, gf, vR, ju, lV, cX, jO⟩) p
 have acr := q 4 wG wH wI ace Y6 J9 fun _ _ _ _ _ _ _ _ hr u p => ab7 (by exact ⟨u, bz jM 0, bz jM 1, bz jM 2, bz jM 3, frC jM 4, pZ jM 4 rfl, bL jM 5, bL jM 6, bL jM 7, bL jM 8, kN, bU Nx hr, bU TV hr, bU Ny hr, gf, d7, lV⟩) p
 have ahF : lY l.prog w K mg base DJ 11 _ _ ["script"] (Us K (cl aH aR) 1 wJ wK wL) := Ir Zf Y8 fun pX Ar outer s H E b a hr hp => by
   refine ahB ?_ hp
   exact ⟨⟨⟨Y8.nd, rfl, .never⟩, hr.units⟩, bz ic 0, bz ic 1, bz ic 2, bz ic 3, bz ic 4, bz ic 5, bz ic 6, bz ic 7, bz ic 8, bL ic 9, bL ic 10, bL ic 11, bL ic 12, bL ic 13, bL ic 14, bL ic 15, bL ic 16, bL ic 17, bU Ro hr, bU Nq hr, bU HN hr, Zz, bU Gp hr, bU afD hr, bU afE hr, bU acr hr, Ai⟩
 exact ahF.imp (aeF (fun _ => rfl) (fun _ => rfl) fun x hx => afx hx)
theorem walk {l : PySem.W.OpenLaw} {q : Program} {loose : List Str} {XP : (Str -> Option Value) -> Heap -> Prop} {YP : World -> Heap -> Prop} {d : DefRec} {K : Params -> PySem.W.Frag} (hn : l.most = some 63) (hdf : d.params.defaults = [])
   (hY : ∀ (w : World) (h : Heap), YP w h -> (K w.params).In h)
   (F : ∀ (w : World) (mg : Str -> Option Value) (fa : Addr) (h : Heap), (K w.params).In h -> h.Ns mainGlobals mg -> mg d.name = some (.ref fa) →
     ∃ fd : FuncData, (∀ (s : Shared) (u : Value), BindsTo s fd ⟨[u], []⟩ [("script", u)]) /\ ∀ base : Heap, (K w.params).In base -> base.Ns mainGlobals mg -> lY l.prog w (K w.params) mg base DJ 11 fa fd ["script"] (Us (K w.params) (fun _ => 0) 1 wJ wK wL)) :
   PySem.W.WalkO q loose XP YP l.row.toRowW d [] (fun f vs => PySem.call f vs) :=
 L2.aaz (n := 63) (k := 11) (x := "script") (CX := fun _ => DJ) (sp := fun w => Us (K w.params) (fun _ => 0) 1 wJ wK wL) hn (by decide) hdf ⟨rfl, by decide, by decide⟩ hY F (fun _ _ a ns hl _ hS => aeE rfl hl rfl hS) fun _ _ _ _ _ z => z
end Law
namespace PySem.W.Fast
 def tw2510686348689275627 := 0
 def tw8975232316674508241 := 0
 def tw5193509656085160604 := 0
 def tw18366449269722997592 := 0
 def tw6515405629557568126 := 0
 def tw12963925019650401144 := 0
 def tw16116979336200998397 := 0
 def tw1592537408216143742 := 0
 def tw15376983606133729633 := 0
 def tw17605461283598650274 := 0
 def tw12747917416447207206 := 0
 def tw6896499429194334856 := 0
 def tw6025227626854425125 := 0
 def tw3579215605972177180 := 0
 def tw5355313272076540756 := 0
 def tw16473533822382960826 := 0
 def tw18152096482879401010 := 0
 def tw11477917051047774278 := 0
 def tw1253263233858021426 := 0
 def tw3685481120893994872 := 0
 def tw8376164402125644470 := 0
 def tw8116184113344712336 := 0
 def tw3254101544168819583 := 0
 def tw15662036645862667393 := 0
 def tw15637190832123654073 := 0
 def tw14815446224450865883 := 0
 def tw130630841478003437 := 0
 def tw17073418918048509358 := 0
 def tw3182078962067308681 := 0
 def tw11623820124850351288 := 0
 def tw8500674307592036929 := 0
 def tw17214643039721026650 := 0
 def tw5182783051449417322 := 0
 def tw10360878561904296570 := 0
 def tw5845288795528017028 := 0
 def tw6395519587590216007 := 0
 def tw14043621273972548215 := 0
 def tw2293510212467351676 := 0
 def tw12546024388353732952 := 0
 def tw2553457772258504191 := 0
 def tw10553406209797060244 := 0
 def tw4488732805144558234 := 0
 def tw1521078220109102411 := 0
 def tw1829198311756535388 := 0
 def tw13760739477865665923 := 0
 def tw7177479243629787808 := 0
 def tw9569142623811717278 := 0
 def tw1372865437890931606 := 0
 def tw4719299658223035285 := 0
 def tw1811502579687656067 := 0
 def tw7903856961127077281 := 0
 def tw10873733812622429332 := 0
 def tw4656453338811475903 := 0
 def tw2266816101948419083 := 0
 def tw9414423002765413027 := 0
 def tw17382880018058428632 := 0
 def tw13075179422898608940 := 0
 def tw2833745840938028612 := 0
 def tw12324434939960302390 := 0
 def tw14410106574080283660 := 0
 def tw17662814154467200220 := 0
 def tw17943925214195790051 := 0
 def tw6477043961383353248 := 0
 def tw16169123312163877523 := 0
 def tw16621757942462574062 := 0
 def tw15030178809738707962 := 0
 def tw1654442333363569672 := 0
 def tw5961536521024550670 := 0
 def tw15583087113139411695 := 0
 def tw16024561645041933842 := 0
 def tw13087406912117086558 := 0
 def tw8607790044065795752 := 0
 def tw9995748001712124321 := 0
 def tw12468970298898835484 := 0
 def tw3782200102362724873 := 0
 def tw10503304284083004922 := 0
 def tw2483215620970785414 := 0
 def tw5734232942371033165 := 0
 def tw15792387315567099627 := 0
 def tw6901405904125536704 := 0
 def tw16362956132440568639 := 0
 def tw16217202206289039381 := 0
 def tw17286382539853531787 := 0
 def tw13340873491481387195 := 0
 def tw11756627834722996066 := 0
 def tw15807973653308901904 := 0
 def tw11745589221408495215 := 0
 def tw13625844302875167 := 0
 def tw10931089026086972666 := 0
 def tw2509715233125056094 := 0
 def tw14399557576495801419 := 0
 def tw9855453638240956293 := 0
 def tw5279632578680039901 := 0
 def tw17265954005440869621 := 0
 def tw1707416773780404900 := 0
 def tw7308469070007991343 := 0
 def tw2487201107157610440 := 0
 def tw5508193827763241980 := 0
 def tw4762057573168148495 := 0
end PySem.W.Fast
open PySem PySem.W PyProof.Rows
set_option maxRecDepth 100000 in
set_option maxHeartbeats 0 in
theorem PySem.Challenge.cw_moodtree_k19_a_little_text_holds : PySem.Challenge.rw_moodtree_k19_a_little_text.Holds := by
 w_on; o_law; k_head; (case hw => w_witness2)
 k_fill
 refine Law.walk (l := PySem.Challenge.rw_moodtree_k19_a_little_text) rfl rfl (fun w h Y => PySem.W.kIn_of Y) ?F
 case F =>
   intro w mg fa h KX G hmg
   refine' Law.all_mk KX G hmg ?JW ?FW ?FY ?FZ ?F0 ?F2 ?F3 ?rB ?rC ?tY ?vA ?tZ ?t6 ?Qs ?JX ?JY ?JZ ?J1 ?J2 ?J3 ?t7 ?rD ?rE ?Bj (L2.aX ?V6 ?V7 ?V8) ?Bk (L2.aX ?V9 ?Wa ?Wb) ?xZ (L2.aX ?Ru ?Rw ?Rx) ?vC (L2.aX ?Nz ?NB ?NC) ?pR (L2.aX ?Gs ?Gu ?Gv) ?F5 (L2.aX ?ZL ?ZM ?k_places) ?x6 (L2.aX ?Ry ?Rz ?RA) ?nU (L2.aX ?Dl ?Dm ?Dn) ?nV (L2.aX ?Dp ?Dq ?Dr) ?nW (L2.aX ?Ds ?Dt ?Du) ?x8 (L2.aX ?RB ?RC ?RD) ?Bl (L2.aX ?Wc ?Wd ?Wf) ?Bm (L2.aX ?Wg ?Wh ?Wi) ?rG (L2.aX ?G0 ?G3 ?G4) ?vD (L2.aX ?NF ?NK ?NP) ?vF (L2.aX ?NQ ?NR ?NS) ?Bo (L2.aX ?Wj ?Wk ?Wm) ?Bp (L2.aX ?Wn ?Wo ?Wq) ?t8 (L2.aX ?Kp ?Kq ?Kr) ?Bq (L2.aX ?Wr ?Ws ?Wt) ?vG (L2.aX ?NT ?NV ?NW) ?F6 (L2.aX ?ZN ?ZO ?ZP) ?vH (L2.aX ?NX ?NZ ?N1) ?x9 (L2.aX ?RG ?RH ?RJ) ?Br (L2.aX ?Wu ?Wv ?Ww) ?J5 (L2.aX ?acs ?acu ?acv) ?J6 (L2.aX ?acw ?acy ?acz) ?ku (L2.aX ?yk ?ym ?yo) ?lR (L2.aX ?An ?Ao ?Aq) ?yc (L2.aX ?RK ?RL ?RM) ?kB (L2.aX ?yp ?yq ?yr) ?nX (L2.aX ?Dv ?Dw ?Dy) ?lS (L2.aX ?As ?Au ?Av) ?t9 (L2.aX ?Ks ?Ku ?Kv) ?lT (L2.aX ?Aw ?Ax ?Ay) ?nY (L2.aX ?Dz ?DB ?DC) ?n5 (L2.aX ?DE ?DF ?DG) ?lU (L2.aX ?Az ?AA ?AF) ?pS (L2.aX ?Gw ?Gy ?Gz) ?pT (L2.aX ?GA ?GB ?GC) ?mG (L2.aX ?BK ?BL ?BO) ?F9 (L2.aX ?ZQ ?ZR ?ZS) ?ua ?uc (L2.aX ?Kw ?Kx ?Ky) ?vI ?vJ (L2.aX ?N2 ?N3 ?N4) ?Qy (L2.aX ?afF ?afG ?afH) ?J8 (L2.aX ?acA ?acB ?acC) ?Qz (L2.aX ?afI ?afJ ?k_same) ?Ga (L2.aX ?ZT ?ZU ?ZV) ?vK (L2.aX ?N5 ?N6 ?N7) ?ye (L2.aX ?RN ?RP ?RQ) ?vN (L2.aX ?N8 ?N9 ?Oa) ?yf (L2.aX ?RT ?RV ?RW) ?vO (L2.aX ?Ob ?Oc ?Od) ?vP (L2.aX ?Oe ?Og ?Oh) ?J9 (L2.aX ?acD ?acE ?acF) ?Tv (L2.aX ?ahG ?ahH ?ahI) ?Zg ?Ka ?Zh ?Zi ?Zj ?vQ ?Zk ?QD ?Bt ?Kc ?jN ?Gb ?pU ?Kd ?Gd ?Bu ?ig ?pV ?Bv ?Ke ?Ge ?Gf ?Bw ?By ?BD ?BE ?BF ?BG ?Kf ?BH ?Zr ?Kg ?Kh ?Gg ?Gh ?Rg ?Gi ?Rh ?Kl ?Gj ?Rl ?Rm ?uf ?y_bool ?Zy
   case JW | FW | FY | FZ | F0 | F2 | F3 | rB | rC | tY | vA | tZ | t6 | Qs | JX | JY | JZ | J1 | J2 | J3 | t7 | rD | rE | Bj | V6 | V7 | V8 | Bk | V9 | Wa | Wb | xZ | Ru | Rw | Rx | vC | Nz | NB | NC | pR | Gs | Gu | Gv | F5 | ZL | ZM | k_places | x6 | Ry | Rz | RA | nU | Dl | Dm | Dn | nV | Dp | Dq | Dr | nW | Ds | Dt | Du | x8 | RB | RC | RD | Bl | Wc | Wd | Wf | Bm | Wg | Wh | Wi | rG | G0 | G3 | G4 | vD | NF | NK | NP | vF | NQ | NR | NS | Bo | Wj | Wk | Wm | Bp | Wn | Wo | Wq | t8 | Kp | Kq | Kr | Bq | Wr | Ws | Wt | vG | NT | NV | NW | F6 | ZN | ZO | ZP | vH | NX | NZ | N1 | x9 | RG | RH | RJ | Br | Wu | Wv | Ww | J5 | acs | acu | acv | J6 | acw | acy | acz | ku | yk | ym | yo | lR | An | Ao | Aq | yc | RK | RL | RM | kB | yp | yq | yr | nX | Dv | Dw | Dy | lS | As | Au | Av | t9 | Ks | Ku | Kv | lT | Aw | Ax | Ay | nY | Dz | DB | DC | n5 | DE | DF | DG | lU | Az | AA | AF | pS | Gw | Gy | Gz | pT | GA | GB | GC | mG | BK | BL | BO | F9 | ZQ | ZR | ZS | ua | uc | Kw | Kx | Ky | vI | vJ | N2 | N3 | N4 | Qy | afF | afG | afH | J8 | acA | acB | acC | Qz | afI | afJ | k_same | Ga | ZT | ZU | ZV | vK | N5 | N6 | N7 | ye | RN | RP | RQ | vN | N8 | N9 | Oa | yf | RT | RV | RW | vO | Ob | Oc | Od | vP | Oe | Og | Oh | J9 | acD | acE | acF | Tv | ahG | ahH | ahI | Zg | Ka | Zh | Zi | Zj | vQ | Zk | QD | Bt | Kc | jN | Gb | pU | Kd | Gd | Bu | ig | pV | Bv | Ke | Ge => (try delta L3.kY); k_is
   case Gf => k_keys
   case Bw | By | BD | BE | BF | BG | Kf | BH | Zr | Kg | Kh | Gg | Gh | Rg | Gi | Rh | Kl | Gj | Rl | Rm | uf | y_bool | Zy => (try delta L3.kY); k_is
