import PyProof.Rows.All
import Wide.All
import OpenK.AllK
import Wide.FinOn
import Lean
import PyProof.EqAt
import PyProof.EqKinds
import PyProof.TupleCall
import PySem.Challenge.RW_moodtree_k39_a_move_told
set_option Elab.async false
set_option linter.all false
set_option maxRecDepth 100000
set_option maxHeartbeats 4000000
namespace L2
open PySem PySem.Spec PyProof.Rows
noncomputable abbrev amc := @List.length_map
noncomputable abbrev amd := @List.getD_eq_getElem?_getD
noncomputable abbrev ame := @List.mem_cons_self
noncomputable abbrev amf := @List.mem_cons
noncomputable abbrev amg := @Nat.le_of_ble_eq_true
noncomputable abbrev amh := @List.mem_append_right
noncomputable abbrev ami := @List.mem_cons_of_mem
noncomputable abbrev amj := @List.length_append
noncomputable abbrev amk := @if_neg
noncomputable abbrev aml := @List.append_assoc
noncomputable abbrev amm := @Int.toNat_natCast
noncomputable abbrev amn := @List.mem_append
noncomputable abbrev amo := @if_pos
noncomputable abbrev amq := @List.getElem?_eq_getElem
noncomputable abbrev amr := @PySem.W.mg_of
noncomputable abbrev ams := @List.mem_append_left
noncomputable abbrev amt := @Int.emod_lt_of_pos
noncomputable abbrev amu := @Nat.le_refl
noncomputable abbrev amv := @Bool.false_ne_true
noncomputable abbrev amw := @Heap.get?_push_of_some
noncomputable abbrev amx := @of_decide_eq_true
noncomputable abbrev amy := @Heap.lt_size
noncomputable abbrev amA := @List.length_cons
noncomputable abbrev amB := @Int.emod_nonneg
noncomputable abbrev amC := @List.size_toArray
noncomputable abbrev amD := @Bool.and_eq_true
noncomputable abbrev amE := @List.cons_append
noncomputable abbrev amF := @List.append_nil
noncomputable abbrev amG := @wpAny_bind
noncomputable abbrev amH := @List.getElem?_eq_some_iff
noncomputable abbrev amI := @List.map_map
noncomputable abbrev amJ := @List.mem_map
noncomputable abbrev amK := @List.mem_filter
noncomputable abbrev amL := @List.not_mem_nil
noncomputable abbrev amM := @List.Perm.append_left
noncomputable abbrev amN := @decide_eq_false
noncomputable abbrev amO := @Nat.zero_le
noncomputable abbrev amP := @List.take_length
noncomputable abbrev amQ := @Nat.le_of_lt
noncomputable abbrev amR := @List.map_append
noncomputable abbrev amS := @List.Sublist.refl
noncomputable abbrev amT := @List.getElem?_map
noncomputable abbrev amU := @of_decide_eq_false
noncomputable abbrev amV := @List.Sublist.append
noncomputable abbrev amW := @List.flatMap_append
noncomputable abbrev amX := @List.perm_append_comm
noncomputable abbrev amY := @decide_eq_true_eq
noncomputable abbrev amZ := @Nat.lt_of_lt_of_le
noncomputable abbrev am0 := @Nat.le_trans
noncomputable abbrev am1 := @List.lookup_cons
noncomputable abbrev am2 := @List.mem_flatMap
noncomputable abbrev am3 := @Option.some.inj
noncomputable abbrev am4 := @List.nodup_append
noncomputable abbrev am5 := @List.pairwise_cons
noncomputable abbrev am6 := @List.map_cons
noncomputable abbrev am7 := @Nat.ne_of_lt
noncomputable abbrev am8 := @decide_eq_true
noncomputable abbrev am9 := @PySem.W.mg_none_of
noncomputable abbrev ana := @decide_eq_false_iff_not
noncomputable abbrev anb := @Heap.get?_push_size
noncomputable abbrev anc := @List.reverse_cons
noncomputable abbrev ane := @List.flatMap_cons
noncomputable abbrev anf := @List.length_singleton
noncomputable abbrev ang := @wpAny_pure
noncomputable abbrev anh := @List.filter_append
noncomputable abbrev ani := @Int.zero_add
noncomputable abbrev anj := @PyProof.Rows.callWith_type1
noncomputable abbrev ank := @List.length_filter_le
noncomputable abbrev anl := @Bool.not_eq_true'
noncomputable abbrev anm := @List.mem_singleton
noncomputable abbrev ano := @List.replicate_succ
noncomputable abbrev anp := @List.getElem?_range
noncomputable abbrev anq := @sizeLine_eq
noncomputable abbrev anr := @List.nodup_cons
noncomputable abbrev ans := @List.range_succ
noncomputable abbrev ant := @Nat.lt_of_le_of_lt
noncomputable abbrev anu := @List.pairwise_singleton
noncomputable abbrev anv := @List.mem_of_getElem?
noncomputable abbrev anw := @List.all_eq_true
noncomputable abbrev anx := @List.length_reverse
noncomputable abbrev anz := @List.sublist_append_right
noncomputable abbrev anA := @List.length_replicate
noncomputable abbrev anB := @List.getElem?_eq_none
noncomputable abbrev anC := @List.take_append_drop
noncomputable abbrev anD := @List.getElem_mem
noncomputable abbrev anE := @List.filter_map
noncomputable abbrev anF := @List.filterMap_cons
noncomputable abbrev anG := @PySem.mem_of_lookup
noncomputable abbrev anH := @List.map_congr_left
noncomputable abbrev anI := @List.getElem?_append_right
noncomputable abbrev anJ := @List.perm_middle
noncomputable abbrev anK := @List.mem_reverse
noncomputable abbrev anL := @wpAny_Call_Name_kw
noncomputable abbrev anM := @Bool.or_eq_false_iff
noncomputable abbrev anN := @List.flatten_cons
noncomputable abbrev anO := @List.getElem?_cons_succ
noncomputable abbrev anP := @List.mem_range
noncomputable abbrev anQ := @Ne.symm
noncomputable abbrev anR := @List.getElem?_set_self
noncomputable abbrev anS := @Heap.get?_update_other
noncomputable abbrev anT := @wpAny_passesOwn
noncomputable abbrev anU := @List.length_set
noncomputable abbrev anV := @List.take_add_one
noncomputable abbrev anW := @wpAny_mono
noncomputable abbrev anY := @List.drop_eq_getElem_cons
noncomputable abbrev anZ := @Nat.le_succ
noncomputable abbrev an0 := @PySem.F.plainAttrs_list
noncomputable abbrev an1 := @PySem.W.kia_one
noncomputable abbrev an2 := @List.filter_nil
noncomputable abbrev an3 := @List.eq_nil_iff_forall_not_mem
noncomputable abbrev an4 := @Bool.or_eq_true
noncomputable abbrev an5 := @List.takeWhile_sublist
noncomputable abbrev an6 := @or_false
noncomputable abbrev an7 := @wpAny_truthy_bool
noncomputable abbrev an8 := @List.foldl_append
noncomputable abbrev an9 := @Heap.get?_update_self
noncomputable abbrev aoa := @List.takeWhile_append_of_pos
noncomputable abbrev aob := @List.getElem?_set_ne
noncomputable abbrev aoc := @Nat.lt_succ_self
noncomputable abbrev aod := @List.length_take
noncomputable abbrev aoe := @List.mem_of_mem_take
noncomputable abbrev aof := @List.pairwise_append
noncomputable abbrev aog := @List.Pairwise.filter
noncomputable abbrev aoh := @Nat.lt_irrefl
noncomputable abbrev aoi := @Bool.true_and
noncomputable abbrev aoj := @beq_eq_false_iff_ne
noncomputable abbrev aok := @Bool.eq_iff_iff
noncomputable abbrev aol := @List.getElem?_append_left
noncomputable abbrev aom := @List.Pairwise.imp_of_mem
noncomputable abbrev aon := @Bool.not_eq_false'
noncomputable abbrev aoo := @List.map_set
noncomputable abbrev aop := @beq_iff_eq
noncomputable abbrev aoq := @Bool.and_false
noncomputable abbrev aor := @List.Perm.refl
noncomputable abbrev aos := @List.getElem?_replicate
noncomputable abbrev aot := @List.filter_cons_of_neg
noncomputable abbrev aou := @List.filter_cons_of_pos
noncomputable abbrev aov := @List.ext_getElem?
noncomputable abbrev aow := @List.length_range
noncomputable abbrev aox := @List.map_take
noncomputable abbrev aoy := @Bool.and_true
noncomputable abbrev aoz := @Bool.false_or
noncomputable abbrev Key := Sum Int Str
noncomputable def YX : Key -> Value -> Bool
 | .inl k, v => Value.isInt k v
 | .inr x, v => Value.isStrOf x v
noncomputable def agT (w : World) : Key -> Int
 | .inl k => hashInt k
 | .inr x => hashStr w x
theorem fq : ∀ {k : Key} {v : Value}, YX k v = true -> (∃ i t, k = Sum.inl i /\ v = Value.int i t) \/ (∃ x t, k = Sum.inr x /\ v = Value.str x t)
 | .inl i, v, h => by
   obtain ⟨t, e⟩ := Value.isInt_shape (k := i) (v := v) h
   exact .inl ⟨i, t, rfl, e⟩
 | .inr x, v, h => by
   obtain ⟨t, e⟩ := Value.isStrOf_shape (x := x) (v := v) h
   exact .inr ⟨x, t, rfl, e⟩
theorem Zz (a b : Int) : decide ((Sum.inl a : Key) = Sum.inl b) = (a == b) := by
 by_cases e : a = b
 . subst e; simp
 . have h : ¬ (Sum.inl a : Key) = Sum.inl b := fun q => e (Sum.inl.inj q)
   rw [amN h]
   exact (aoj.mpr e).symm
theorem ZC (a b : Str) : decide ((Sum.inr a : Key) = Sum.inr b) = decide (a = b) := by
 by_cases e : a = b
 . subst e; simp
 . have h : ¬ (Sum.inr a : Key) = Sum.inr b := fun q => e (Sum.inr.inj q)
   rw [amN h, amN e]
theorem ZD (a : Int) (b : Str) : decide ((Sum.inl a : Key) = Sum.inr b) = false := amN (fun q => nomatch q)
theorem ZE (a : Str) (b : Int) : decide ((Sum.inr a : Key) = Sum.inl b) = false := amN (fun q => nomatch q)
noncomputable def MY (prog : Program) (w : World) : PySem.KeyKind prog w Key where
 is := YX
 hash := agT w
 inj := fun v a b ha hb => by
   rcases fq ha with ⟨i, t, rfl, rfl⟩ | ⟨x, t, rfl, rfl⟩
   . rcases fq hb with ⟨j, u, rfl, e⟩ | ⟨y, u, rfl, e⟩
     . injection e with e1 _; rw [e1]
     . exact nomatch e
   . rcases fq hb with ⟨j, u, rfl, e⟩ | ⟨y, u, rfl, e⟩
     . exact nomatch e
     . injection e with e1 _; rw [e1]
 byValue := fun k v h => by
   rcases fq h with ⟨i, t, rfl, rfl⟩ | ⟨x, t, rfl, rfl⟩ <;> rfl
 pyHash := fun hv h => by
   rcases fq hv with ⟨i, t, rfl, rfl⟩ | ⟨x, t, rfl, rfl⟩
   . exact wpAny_pyHash_int h
   . exact wpAny_pyHash_str h
 eqBool := fun hu hv h => by
   rcases fq hu with ⟨i, t, rfl, rfl⟩ | ⟨x, t, rfl, rfl⟩
   . rcases fq hv with ⟨j, u, rfl, rfl⟩ | ⟨y, u, rfl, rfl⟩
     . rw [Zz] at h; exact wpAny_eqBool_int h
     . rw [ZD] at h; exact SeqAt.EqAt.int_str i t y u _ _ _ _ h
   . rcases fq hv with ⟨j, u, rfl, rfl⟩ | ⟨y, u, rfl, rfl⟩
     . rw [ZE] at h; exact SeqAt.EqAt.str_int x t j u _ _ _ _ h
     . rw [ZC] at h; exact wpAny_eqBool_str h
 «strs» := fun k x t v h => by
   rcases fq h with ⟨i, u, rfl, e⟩ | ⟨y, u, rfl, e⟩
   . exact nomatch e
   . injection e with e1 _
     subst e1
     cases v <;> rfl
inductive V where
 | non | bl (b : Bool) | int (i : Int) | str (x : Str) | Qu (b : Array UInt8) | flt (b : UInt64) | ref (a : Addr) | ty (n : String)
 deriving DecidableEq
noncomputable def RelV : V -> Value -> Prop
 | .non, u => u = Value.none
 | .bl b, u => u = Value.bool b
 | .int i, u => ∃ t, u = Value.int i t
 | .str x, u => ∃ t, u = Value.str x t
 | .Qu b, u => ∃ t, u = Value.bytes b t
 | .flt b, u => ∃ t, u = Value.float b t
 | .ref a, u => u = Value.ref a
 | .ty n, u => u = Value.type n
noncomputable abbrev Vals : List V -> List Value -> Prop := Paired RelV
theorem Vals.length {xs : List V} {us : List Value} (r : Vals xs us) : xs.length = us.length := Paired.length r
theorem Vals.get : ∀ {xs : List V} {us : List Value} {i : Nat} {x : V}, Vals xs us -> xs[i]? = some x -> ∃ u, us[i]? = some u /\ RelV x u
 | _, _, _, _, .nil, e => by simp at e
 | _, _, 0, _, .cons r _, e => by simp at e; subst e; exact ⟨_, rfl, r⟩
 | _, _, i + 1, x, .cons _ t, e => by
   obtain ⟨u, h1, h2⟩ := Vals.get (i := i) (x := x) t (by simpa using e)
   exact ⟨u, by simpa using h1, h2⟩
theorem Vals.set {x : V} {u : Value} (r : RelV x u) : ∀ {xs : List V} {us : List Value} (i : Nat), Vals xs us -> Vals (xs.set i x) (us.set i u)
 | _, _, _, .nil => .nil
 | _, _, 0, .cons _ t => .cons r t
 | _, _, i + 1, .cons q t => .cons q (Vals.set r i t)
theorem Vals.append : ∀ {xs ys : List V} {us ws : List Value}, Vals xs us -> Vals ys ws -> Vals (xs ++ ys) (us ++ ws)
 | _, _, _, _, .nil, s => s
 | _, _, _, _, .cons r t, s => .cons r (Vals.append t s)
theorem Vals.take : ∀ {xs : List V} {us : List Value} (n : Nat), Vals xs us -> Vals (xs.take n) (us.take n)
 | _, _, 0, _ => .nil
 | _, _, _ + 1, .nil => .nil
 | _, _, n + 1, .cons r t => .cons r (Vals.take n t)
theorem Vals.drop : ∀ {xs : List V} {us : List Value} (n : Nat), Vals xs us -> Vals (xs.drop n) (us.drop n)
 | _, _, 0, r => r
 | _, _, _ + 1, .nil => .nil
 | _, _, n + 1, .cons _ t => Vals.drop n t
noncomputable def JR : Option V -> Option Value -> Prop
 | some v, some u => RelV v u
 | none, none => True
 | _, _ => False
noncomputable def KV {κ : Type} : List (κ × V) -> List (κ × Value) -> Prop := Paired fun (p : κ × V) (q : κ × Value) => p.1 = q.1 /\ RelV p.2 q.2
noncomputable def kV : Key -> V
 | .inl i => .int i
 | .inr x => .str x
inductive HO where
 | lst (xs : List V)
 | tup (xs : List V)
 | dK (ly : List (Key × V)) | dT (ly : List (List Key × V))
 | set (S : Int -> Bool) (n : Nat)
 | ins (C dx : Addr) (fs : List (Str × V))
 | own (x : Addr)
 | xd (fs : List (Str × V))
 | met (f x : Addr)
 | rng (lo hi : Int)
 | fS (o : Obj) (u : HO)
 | ZF (ps : Array Value)
 | tabs (q : Str)
 | ZG (q : Str)
 | ext (φ : Heap -> Prop)
noncomputable abbrev Hp := Addr -> Option HO
noncomputable def upd (H : Hp) (a : Addr) (o : HO) : Hp := fun b => if b = a then some o else H b
theorem bW {H : Hp} {a : Addr} {o : HO} : upd H a o a = some o := by unfold upd; rw [amo rfl]
theorem aH {H : Hp} {a b : Addr} {o : HO} (h : b ≠ a) : upd H a o b = H b := by unfold upd; rw [amk h]
theorem cG {H : Hp} {a b : Addr} {o : HO} (h : H a = some o) (h' : H b = none) : a ≠ b := by
 intro e; subst e; rw [h] at h'; cases h'
section
variable (P : Program) (w : World)
noncomputable def ju (H : Hp) (h : Heap) (a : Addr) : HO -> Prop
 | .lst xs => xs.length <= sizeLine /\ ∃ (its : List Value) (n : Nat), Vals xs its /\ h.get? a = some { cls := .type "list", data := .seq its.toArray n }
 | .tup xs => xs.length <= sizeLine /\ ∃ its : List Value, Vals xs its /\ IsTup h a its.toArray
 | .dK ly => ly.length <= sizeLine /\ (a == sysModules) = false /\ ∃ vs, KV ly vs /\ h.DictOf (MY P w) a vs
 | .dT ly => ly.length <= sizeLine /\ (a == sysModules) = false /\ ∃ xs : List (List Key × Addr × Value),
     Paired (fun (p : List Key × V) (q : List Key × Addr × Value) => p.1 = q.1 /\ H q.2.1 = some (.tup (p.1.map kV)) /\ RelV p.2 q.2.2) ly xs ∧
     ∃ o es ep, h.get? a = some o /\ o.ExactDict /\ o.data = .dict es ep /\ es.toList = xs.map (entryOfKey (tupleKind (MY P w))) /\ (xs.map (·.1)).Nodup
 | .set S n => h.SetOf (intKind P w) a S n
 | .ins C dx fs => H dx = some (.own a) /\ fs.length <= 1000 /\ dx ≠ a /\ h.get? a = some (PySem.W.instObj C dx) ∧
     ∃ mA, h.Ns1 dx mA /\ (∀ f, JR (fs.lookup f) (mA f)) /\ PySem.Within mA (fs.map (·.1))
 | .own _ => ∃ o, h.get? a = some o
 | .xd fs => ∃ mA, h.Ns1 a mA /\ ∀ f, JR (fs.lookup f) (mA f)
 | .rng lo hi => ∃ t u v, h.get? a = some { cls := .type "range", data := .fields #[.int lo t, .int hi u, .int 1 v] }
 | .fS o u => h.get? a = some o /\ ju H h a u
 | .ZF ps => h.get? a = some { cls := .none, data := .fields ps }
 | .tabs q => ∃ ps : Array Value, h.get? a = some { cls := .none, data := .fields ps } /\ TriplesOk ps.toList /\ ∀ pos cv, codeAmong pos ps.toList = some cv -> ∃ c, cv = .ref c /\ H c = some (.ZG q)
 | .ZG q => ∃ o vs t, h.get? a = some o /\ o.data = .fields vs /\ vs[1]? = some (.str q t)
 | .met f x => h.get? a = some (PySem.W.methodObj (.ref f) (.ref x))
 | .ext φ => φ h /\ (∃ o, h.get? a = some o) /\ ∀ h1 h2 : Heap, φ h1 -> (∀ o, h1.get? a = some o -> h2.get? a = some o) -> φ h2
noncomputable def yR (H : Hp) (h : Heap) : Prop := ∀ a o, H a = some o -> ju P w H h a o
end
section
variable {P : Program} {w : World} {H H' : Hp} {h h' : Heap} {a : Addr} {o : HO}
theorem ju.lt (x : ju P w H h a o) : a < h.objs.size := by
 cases o with
 | lst xs => obtain ⟨_, _, _, _, e⟩ := x; exact amy e
 | tup xs => obtain ⟨_, _, _, p⟩ := x; exact p.lt
 | dK ly => obtain ⟨_, _, _, _, o, _, _, e, _⟩ := x; exact amy e
 | dT ly => obtain ⟨_, _, _, _, o, _, _, e, _⟩ := x; exact amy e
 | set S n => obtain ⟨o, _, _, _, e, _⟩ := x; exact amy e
 | ins C dx fs => obtain ⟨_, _, _, e, _⟩ := x; exact amy e
 | own y => obtain ⟨_, e⟩ := x; exact amy e
 | xd fs => obtain ⟨_, ⟨_, _, _, e, _⟩, _⟩ := x; exact amy e
 | rng lo hi => obtain ⟨_, _, _, e⟩ := x; exact amy e
 | fS ob u => obtain ⟨e, _⟩ := x; exact amy e
 | ZF ps => exact amy (show h.get? a = some _ from x)
 | tabs q => obtain ⟨_, e, _⟩ := x; exact amy e
 | ZG q => obtain ⟨_, _, _, e, _⟩ := x; exact amy e
 | met f y => exact amy (show h.get? a = some _ from x)
 | ext φ => obtain ⟨_, ⟨_, e⟩, _⟩ := x; exact amy e
theorem Paired.adW {α β : Type} {F G : α -> β -> Prop} : ∀ {l₁ : List α} {l₂ : List β}, Paired F l₁ l₂ -> (∀ a b, F a b -> G a b) -> Paired G l₁ l₂
 | _, _, .nil, _ => .nil
 | _, _, .cons r t, f => .cons (f _ _ r) (Paired.adW t f)
theorem ju.Ds (x : ju P w H h a o) (k : ∀ b u, (b = a \/ H b = some (.own a)) -> h.get? b = some u -> h'.get? b = some u)
   (ho : ∀ b, H b = some (.own a) -> H' b = some (.own a)) (ht : ∀ b xs, H b = some (.tup xs) -> H' b = some (.tup xs)) (oh : ∀ b q, H b = some (.ZG q) -> H' b = some (.ZG q) := by intro _ _ q; exact q) : ju P w H' h' a o := by
 induction o with
 | lst xs => obtain ⟨z, its, n, r, e⟩ := x; exact ⟨z, its, n, r, k _ _ (.inl rfl) e⟩
 | tup xs => obtain ⟨z, its, r, ob, e, c⟩ := x; exact ⟨z, its, r, ob, k _ _ (.inl rfl) e, c⟩
 | dK ly => obtain ⟨z, y, vs, r, ob, es, ep, e, c⟩ := x; exact ⟨z, y, vs, r, ob, es, ep, k _ _ (.inl rfl) e, c⟩
 | dT ly =>
   obtain ⟨z, y, xs, r, ob, es, ep, e, c⟩ := x
   exact ⟨z, y, xs, Paired.adW r fun p q z => ⟨z.1, ht _ _ z.2.1, z.2.2⟩, ob, es, ep, k _ _ (.inl rfl) e, c⟩
 | set S n => obtain ⟨ob, es, ep, t, e, c⟩ := x; exact ⟨ob, es, ep, t, k _ _ (.inl rfl) e, c⟩
 | ins C dx fs =>
   obtain ⟨d, z, ne, e, mA, ⟨od, es, ep, e2, c⟩, r⟩ := x
   exact ⟨ho _ d, z, ne, k _ _ (.inl rfl) e, mA, ⟨od, es, ep, k _ _ (.inr d) e2, c⟩, r⟩
 | own y => obtain ⟨ob, e⟩ := x; exact ⟨ob, k _ _ (.inl rfl) e⟩
 | xd fs => obtain ⟨mA, ⟨od, es, ep, e, c⟩, r⟩ := x; exact ⟨mA, ⟨od, es, ep, k _ _ (.inl rfl) e, c⟩, r⟩
 | rng lo hi => obtain ⟨t, u, v, e⟩ := x; exact ⟨t, u, v, k _ _ (.inl rfl) e⟩
 | fS ob u ih => obtain ⟨e, q⟩ := x; exact ⟨k _ _ (.inl rfl) e, ih q⟩
 | ZF ps =>
   have e : h.get? a = some { cls := .none, data := .fields ps } := x
   show h'.get? a = some { cls := .none, data := .fields ps }
   exact k a _ (.inl rfl) e
 | met f y =>
   have e : h.get? a = some (PySem.W.methodObj (.ref f) (.ref y)) := x
   show h'.get? a = some (PySem.W.methodObj (.ref f) (.ref y))
   exact k a _ (.inl rfl) e
 | tabs q => obtain ⟨ps, e, tr, cs⟩ := x; exact ⟨ps, k _ _ (.inl rfl) e, tr, fun pos cv z => let ⟨c, e1, e2⟩ := cs pos cv z; ⟨c, e1, oh _ _ e2⟩⟩
 | ZG q => obtain ⟨ob, vs, t, e, r⟩ := x; exact ⟨ob, vs, t, k _ _ (.inl rfl) e, r⟩
 | ext φ => obtain ⟨p, ⟨o, e⟩, st⟩ := x; exact ⟨st _ _ p fun o q => k _ _ (.inl rfl) q, ⟨o, k _ _ (.inl rfl) e⟩, st⟩
theorem yR.lt (x : yR P w H h) (e : H a = some o) : a < h.objs.size := (x a o e).lt
theorem yR.fresh (x : yR P w H h) (e : h.objs.size <= a) : H a = none := by
 cases q : H a with
 | none => rfl
 | some u => exact absurd (amZ (x.lt q) e) (aoh _)
theorem yR.kept (x : yR P w H h) (k : ∀ b u, h.get? b = some u -> h'.get? b = some u) : yR P w H h' := fun a o e =>
 (x a o e).Ds (fun b u _ q => k b u q) (fun _ q => q) fun _ _ q => q
theorem yR.laid (x : yR P w H h) (k : ∀ b u, h.get? b = some u -> h'.get? b = some u) (hp : h.objs.size <= a) (new : ju P w (upd H a o) h' a o) : yR P w (upd H a o) h' := fun b u e => by
 have hn := x.fresh hp
 by_cases hb : b = a
 . subst hb; rw [bW] at e; cases e; exact new
 . rw [aH hb] at e
   exact (x b u e).Ds (fun c v _ q => k c v q) (fun c q => by rw [aH (cG q hn)]; exact q) (fun c xs q => by rw [aH (cG q hn)]; exact q) fun c z q => by rw [aH (cG q hn)]; exact q
end
noncomputable def Rd (H : Hp) (a : Addr) (u : HO) : Prop := H a = some u \/ ∃ o, H a = some (.fS o u)
theorem Rd.ok {P : Program} {w : World} {H : Hp} {h : Heap} {a : Addr} {u : HO} (r : Rd H a u) (x : yR P w H h) : ju P w H h a u := by
 rcases r with r | ⟨o, r⟩
 . exact x a u r
 . obtain ⟨_, q⟩ := x a _ r
   exact q
noncomputable def Mut : Option HO -> Prop
 | some (.lst _) => True
 | some (.dK _) => True
 | some (.dT _) => True
 | some (.set _ _) => True
 | some (.ins _ _ _) => True
 | some (.ext _) => True
 | some (.tabs _) => True
 | _ => False
section
variable {P : Program} {w : World} {H : Hp} {h h' : Heap} {x e : Addr} {o' : HO}
theorem yR.write (ok : yR P w H h) (mu : Mut (H x)) (he : e = x \/ H e = some (.own x)) (k : ∀ b u, b ≠ e -> h.get? b = some u -> h'.get? b = some u) (heo : ∃ u, h'.get? e = some u)
   (new : ju P w (upd H x o') h' x o') : yR P w (upd H x o') h' := fun b u q => by
 have adX : ∀ c y, H c = some (.own y) -> c ≠ x := fun c y r z => by subst z; rw [r] at mu; exact mu
 have agV : ∀ c xs, H c = some (.tup xs) -> c ≠ x := fun c xs r z => by subst z; rw [r] at mu; exact mu
 have agW : ∀ c q, H c = some (.ZG q) -> c ≠ x := fun c q r z => by subst z; rw [r] at mu; exact mu
 by_cases hb : b = x
 . subst hb; rw [bW] at q; cases q; exact new
 . rw [aH hb] at q
   by_cases Ve : b = e
   . have q' : H b = some (.own x) := by
       rcases he with z | z
       . exact absurd (Ve.trans z) hb
       . rw [Ve]; exact z
     rw [q] at q'; cases q'
     obtain ⟨v, hv⟩ := heo
     exact ⟨v, by rw [Ve]; exact hv⟩
   . refine (ok b u q).Ds (fun c v hc r => k c v ?_ r) (fun c r => by rw [aH (adX c b r)]; exact r) (fun c xs r => by rw [aH (agV c xs r)]; exact r) fun c z r => by rw [aH (agW c z r)]; exact r
     rcases hc with rfl | hc
     . exact Ve
     . rintro rfl
       rcases he with z | z
       . exact adX c b hc z
       . rw [hc] at z; cases z; exact hb rfl
end
structure Un (fs ex : List Addr) (H H' : Hp) (h h' : Heap) : Prop where
 keep : ∀ b o, h.get? b = some o -> H b = none -> b ∉ fs -> b ∉ ex -> h'.get? b = some o
 slot : ∀ b o, h.get? b = some o -> H b = none -> b ∈ fs -> b ∉ ex -> ∃ sl, h'.get? b = some { o with slots := sl }
 free : ∀ b o, h.get? b = some o -> H b = none -> b ∉ ex -> H' b = none
 there : ∀ b o, h.get? b = some o -> b ∉ ex -> ∃ o', h'.get? b = some o'
 Dt : ∀ b xs, H b = some (.tup xs) -> H' b = some (.tup xs)
 fL : ∀ b o u, H b = some (.fS o u) -> H' b = some (.fS o u)
 Du : ∀ b ps, H b = some (.ZF ps) -> ∃ more, H' b = some (.ZF (ps ++ more))
section
variable {fs fs' ex ex' : List Addr} {H H1 H2 : Hp} {h h1 h2 h' : Heap} {a x e : Addr} {o : HO}
theorem Un.any (u : Un fs ex H H1 h h1) {b : Addr} {ob : Obj} (q : h.get? b = some ob) (n : H b = none) (hx : b ∉ ex) : ∃ sl, h1.get? b = some { ob with slots := sl } := by
 by_cases hb : b ∈ fs
 . exact u.slot b ob q n hb hx
 . exact ⟨ob.slots, u.keep b ob q n hb hx⟩
theorem Un.kept (k : ∀ b u, h.get? b = some u -> h'.get? b = some u) : Un fs ex H H h h' :=
 ⟨fun b ob q _ _ _ => k b ob q, fun b ob q _ _ _ => ⟨ob.slots, k b ob q⟩, fun _ _ _ n _ => n, fun b ob q _ => ⟨ob, k b ob q⟩, fun _ _ q => q, fun _ _ _ q => q, fun _ ps q => ⟨#[], by rw [q]; simp⟩⟩
theorem Un.refl : Un fs ex H H h h := Un.kept fun _ _ q => q
theorem Un.laid (k : ∀ b u, h.get? b = some u -> h'.get? b = some u) (hp : h.objs.size <= a) (hn : H a = none) : Un fs ex H (upd H a o) h h' where
 keep := fun b u q _ _ _ => k b u q
 slot := fun b u q _ _ _ => ⟨u.slots, k b u q⟩
 free := fun b u q n _ => by rw [aH (am7 (amZ (amy q) hp))]; exact n
 there := fun b u q _ => ⟨u, k b u q⟩
 Dt := fun b xs q => by rw [aH (cG q hn)]; exact q
 fL := fun b u xs q => by rw [aH (cG q hn)]; exact q
 Du := fun b ps q => ⟨#[], by rw [aH (cG q hn), q]; simp⟩
theorem Un.write (mu : Mut (H x)) (he : e = x \/ H e = some (.own x)) (k : ∀ b u, b ≠ e -> h.get? b = some u -> h'.get? b = some u) (heo : ∃ u, h'.get? e = some u) : Un fs ex H (upd H x o) h h' := by
 have hx : ∀ b, H b = none -> b ≠ x := fun b n z => by subst z; rw [n] at mu; exact mu
 have hb : ∀ b, H b = none -> b ≠ e := fun b n z => by
   subst z
   rcases he with r | r
   . exact hx b n r
   . rw [n] at r; cases r
 have hm : ∀ b u, H b = some u -> ¬ Mut (some u) -> b ≠ x := fun b u q nm z => by subst z; rw [q] at mu; exact nm mu
 refine ⟨fun b u q n _ _ => k b u (hb b n) q, fun b u q n _ _ => ⟨u.slots, k b u (hb b n) q⟩, fun b u q n _ => by rw [aH (hx b n)]; exact n, fun b u q _ => ?_,
   fun b xs q => by rw [aH (hm b _ q fun z => z)]; exact q, fun b u xs q => by rw [aH (hm b _ q fun z => z)]; exact q, fun b ps q => ⟨#[], by rw [aH (hm b _ q fun z => z), q]; simp⟩⟩
 by_cases Ve : b = e
 . subst Ve; exact heo
 . exact ⟨u, k b u Ve q⟩
end
noncomputable def trk (h : Heap) (H : Hp) : List Addr := (List.range h.objs.size).filter fun a => (H a).isSome
noncomputable def Dv (h : Heap) (H : Hp) : Heap := PySem.W.hideAll h (trk h H)
theorem Om (h : Heap) (H : Hp) : (Dv h H).objs.size = h.objs.size := PySem.W.hideAll_size _ _
theorem QI {h : Heap} {H : Hp} {b : Addr} {o : Obj} (e : h.get? b = some o) (n : H b = none) : (Dv h H).get? b = some o :=
 PySem.W.hideAll_get _ e fun hm => by
   have q : (H b).isSome = true := (amK.mp hm).2
   rw [n] at q; simp at q
theorem Vj {h : Heap} {H : Hp} {b : Addr} {o : Obj} (e : (Dv h H).get? b = some o) : h.get? b = some o /\ H b = none := by
 have e' : h.get? b = some o := PySem.W.of_hideAll (trk h H) e
 refine ⟨e', ?_⟩
 cases q : H b with
 | none => rfl
 | some x =>
   have hm : b ∈ trk h H := amK.mpr ⟨anP.mpr (amy e'), by simp [q]⟩
   have z : (Dv h H).get? b = none := PySem.W.hideAll_none (trk h H) hm
   rw [z] at e; cases e
noncomputable def Vk (g h : Heap) (L : Addr) : List (Addr × Obj) := (List.range h.objs.size).filterMap fun a => if a = L \/ (g.get? a).isSome = true then none else (h.get? a).map fun o => (a, o)
noncomputable def rest (g h : Heap) (L d : Addr) : List (Addr × Obj) := (Vk g h L).filter fun p => decide (p.1 ≠ d)
structure Mod (K : PySem.W.Frag) (mg : Str -> Option Value) (base : Heap) : Prop where
 kin : K.In base
 glob : base.Ns mainGlobals mg
 blt : ∃ mb, base.Ns builtinsNs mb /\ ∀ x : Str, x ≠ "__name__" -> mb x = bootBuiltins x
 nolimit : base.NoLimit
structure Cx where
 prog : Program
 w : World
 K : PySem.W.Frag
 mg : Str -> Option Value
 base : Heap
 A : Around
 N : List Str
 s₀ : Shared
 H₀ : Hp
 env : Env
 outer : List Env
 stack : List Env
 ex : List Addr
 fn : Str -> Bool
 calm : Bool
 pn : List (Addr × Obj)
 xe : Value -> Shared -> Prop
noncomputable def Qv (l : List Env) : List Addr := l.filterMap (·.frame)
noncomputable abbrev Cx.fs (X : Cx) : List Addr := Qv X.outer
noncomputable def ZH (sc : Scope) (x : Str) : Prop := sc.names.lookup x = some .local \/ sc.names.lookup x = some .cell \/ sc.names.lookup x = some .free
noncomputable def Loc (sc : Scope) (x : Str) : Prop := sc.names.lookup x = some .local \/ sc.names.lookup x = some .cell
noncomputable def Look (env : Env) (h : Heap) (m : Str -> Option Value) (x : Str) (u : Value) : Prop :=
 (env.kindOf x = some .local /\ m x = some u) \/ ((env.kindOf x = some .cell \/ env.kindOf x = some .free) /\ ∃ c, env.cells.lookup x = some c /\ h.IsCell c (some u))
structure Cx.Ok (X : Cx) : Prop where
 mod : Mod X.K X.mg X.base
 kind : X.env.scope.kind = .function
 glob : X.env.globals = mainGlobals
 blt : X.env.builtins = builtinsNs
 above : X.s₀.heap.objs.size <= X.env.locals
 inj : ∀ x y c, X.env.cells.lookup x = some c -> X.env.cells.lookup y = some c -> x = y
 has : ∀ x, (X.env.kindOf x = some .cell \/ X.env.kindOf x = some .free) -> ∃ c, X.env.cells.lookup x = some c
 cab : ∀ x c, X.fn x = true -> X.env.cells.lookup x = some c -> X.s₀.heap.objs.size <= c
 hd : X.calm = true -> X.A.handled = none
 frames : X.A.frames = some X.stack
 stk : X.stack = X.outer \/ (X.stack = X.env :: X.outer /\ X.env.frame = some X.env.locals)
 exf : ∀ b ∈ X.ex, b ≠ X.env.locals /\ ∀ x c, X.env.cells.lookup x = some c -> c ≠ b
 bs : ∀ b o, X.base.get? b = some o -> X.s₀.heap.get? b = some o /\ X.H₀ b = none
 Vl : X.base.objs.size <= X.s₀.heap.objs.size
 QJ : ∀ b o, X.base.get? b = some o -> b ∉ X.ex
 Vm : ∀ b ∈ X.ex, b ∉ X.fs
 yH : X.s₀.heap.FunFrames X.base X.outer
 ZI : ∀ b ∈ X.fs, X.H₀ b = none
structure Inv (X : Cx) (pins : List (Addr × Obj)) (σ : List (Option V)) (H : Hp) (s : Shared) : Prop where
 ok : X.Ok
 os : s.os = X.s₀.os
 bare : AllBare s.gens
 base : Un X.fs X.ex X.H₀ H X.s₀.heap s.heap
 loc : ∃ m, s.heap.Ns X.env.locals m /\ ∀ (i : Nat) (x : Str) (v : V), X.N[i]? = some x -> σ[i]? = some (some v) -> ZH X.env.scope x -> ∃ u, RelV v u /\ Look X.env s.heap m x u
 cell : ∀ x c, X.env.cells.lookup x = some c -> ∃ v, s.heap.IsCell c v
 free : H X.env.locals = none
 tH : ∀ x c, X.env.cells.lookup x = some c -> H c = none
 pin : ∀ p ∈ X.pn ++ pins, s.heap.get? p.1 = some p.2 /\ H p.1 = none /\ p.1 ≠ X.env.locals /\ p.1 ∉ X.fs /\ ∀ v, p.2.data ≠ .cell v
 iP : yR X.prog X.w H s.heap
 len : σ.length = X.N.length
section
variable {X : Cx} {pins : List (Addr × Obj)} {σ : List (Option V)} {H H' : Hp} {s : Shared} {h' : Heap}
theorem Cx.Ok.agX (ok : X.Ok) {b : Addr} {o : Obj} (e : X.base.get? b = some o) : b ∉ X.fs := fun hb => by
 have := (ok.yH.mem hb).1
 rw [e] at this; cases this
theorem Inv.bs (I : Inv X pins σ H s) : ∀ b o, X.base.get? b = some o -> s.heap.get? b = some o /\ H b = none := fun b o e =>
 ⟨I.base.keep b o (I.ok.bs b o e).1 (I.ok.bs b o e).2 (I.ok.agX e) (I.ok.QJ b o e), I.base.free b o (I.ok.bs b o e).1 (I.ok.bs b o e).2 (I.ok.QJ b o e)⟩
theorem Inv.bk (I : Inv X pins σ H s) : ∀ b o, X.base.get? b = some o -> s.heap.get? b = some o := fun b o e => (I.bs b o e).1
theorem Inv.mod (I : Inv X pins σ H s) : Mod X.K X.mg X.base := I.ok.mod
theorem Inv.G0 (I : Inv X pins σ H s) : X.K.In s.heap := I.ok.mod.kin.keeps I.bk
theorem Inv.lt (I : Inv X pins σ H s) : X.env.locals < s.heap.objs.size := let ⟨_, hn, _⟩ := I.loc; hn.lt
theorem Inv.sz (I : Inv X pins σ H s) : X.s₀.heap.objs.size <= s.heap.objs.size := am0 I.ok.above (amQ I.lt)
theorem Inv.agY (I : Inv X pins σ H s) {a : Addr} (h : s.heap.objs.size <= a) : a ∉ X.fs := fun hb => by
 obtain ⟨_, o, ho, _⟩ := I.ok.yH.mem hb
 exact absurd (amZ (amy ho) (am0 I.sz h)) (aoh _)
theorem Inv.ZJ (I : Inv X pins σ H s) : ∀ x c, X.env.cells.lookup x = some c -> c ≠ X.env.locals := fun x c e z => by
 obtain ⟨v, o, ho, hd⟩ := I.cell x c e
 obtain ⟨m, ⟨o', es, ep, Vo, hd', _⟩, _⟩ := I.loc
 rw [z, Vo] at ho; cases ho; rw [hd'] at hd; cases hd
theorem Inv.yH (I : Inv X pins σ H s) : s.heap.FunFrames X.base X.outer := by
 have all : ∀ (l : List Env), (∀ b ∈ Qv l, b ∈ X.fs) -> X.s₀.heap.FunFrames X.base l -> s.heap.FunFrames X.base l := by
   intro l
   induction l with
   | nil => intro _ _; trivial
   | cons env r ih =>
     intro hs hl
     obtain ⟨hk, ⟨L, o, hf, hn, ho, hd⟩, hr⟩ := hl
     have hL : L ∈ X.fs := hs L (by unfold Qv; rw [anF, hf]; exact ame)
     obtain ⟨sl, e⟩ := I.base.slot L o ho (I.ok.ZI L hL) hL fun z => I.ok.Vm L z hL
     exact ⟨hk, ⟨L, _, hf, hn, e, hd⟩, ih (fun b hb => hs b (by unfold Qv; rw [anF, hf]; exact ami _ hb)) hr⟩
 exact all X.outer (fun _ hb => hb) I.ok.yH
theorem Inv.stack (I : Inv X pins σ H s) : s.heap.FunFrames X.base X.stack := by
 rcases I.ok.stk with e | ⟨e, hf⟩
 . rw [e]; exact I.yH
 . rw [e]
   obtain ⟨m, hn, _⟩ := I.loc
   refine .cons (by rw [I.ok.kind]; decide) hf hn ?_ I.yH
   exact Heap.get?_none_of_le (am0 I.ok.Vl I.ok.above)
theorem Inv.Dw (I : Inv X pins σ H s) : ∀ b ∈ Qv X.stack, b ∈ X.env.locals :: X.fs := fun b hb => by
 rcases I.ok.stk with e | ⟨e, hf⟩
 . rw [e] at hb; exact ami _ hb
 . rw [e] at hb
   unfold Qv at hb
   rw [anF, hf] at hb
   exact hb
theorem Inv.MZ (I : Inv X pins σ H s) : ∀ b ∈ Qv X.stack, H b = none := fun b hb => by
 rcases amf.mp (I.Dw b hb) with e | hb
 . rw [e]; exact I.free
 . obtain ⟨_, o, ho, _⟩ := I.ok.yH.mem hb
   exact I.base.free b o ho (I.ok.ZI b hb) fun z => I.ok.Vm b z hb
theorem Inv.step {g' : Array GenState} {t' : Nat} {d' : Drawn} {ch : List Addr} (I : Inv X pins σ H s)
   (QK : ∀ b ∈ ch, (b ∈ X.ex \/ X.s₀.heap.objs.size <= b) /\ b ≠ X.env.locals /\ (∀ x c, X.env.cells.lookup x = some c -> c ≠ b) /\ ∀ p ∈ X.pn ++ pins, p.1 ≠ b)
   (keep : ∀ b o, b ≠ X.env.locals -> b ∉ X.fs -> b ∉ ch -> s.heap.get? b = some o -> H b = none -> h'.get? b = some o)
   (slot : ∀ b o, b ≠ X.env.locals -> b ∈ X.fs -> b ∉ ch -> s.heap.get? b = some o -> H b = none -> ∃ sl, h'.get? b = some { o with slots := sl }) (free : ∀ b o, b ∉ ch -> s.heap.get? b = some o -> H b = none -> H' b = none)
   (there : ∀ b o, b ∉ ch -> s.heap.get? b = some o -> ∃ o', h'.get? b = some o')
   (Dt : ∀ b xs, H b = some (.tup xs) -> H' b = some (.tup xs)) (fL : ∀ b o u, H b = some (.fS o u) -> H' b = some (.fS o u)) (Du : ∀ b ps, H b = some (.ZF ps) -> ∃ more, H' b = some (.ZF (ps ++ more)))
   (ns : ∀ m, s.heap.Ns X.env.locals m -> h'.Ns X.env.locals m) (iP : yR X.prog X.w H' h') (hg : AllBare g') :
   Inv X pins σ H' { s with heap := h', gens := g', drawn := d', toks := t' } := by
 have neL : ∀ b o, X.s₀.heap.get? b = some o -> b ≠ X.env.locals := fun b o e => am7 (amZ (amy e) I.ok.above)
 have neC : ∀ b o, X.s₀.heap.get? b = some o -> b ∉ X.ex -> b ∉ ch := fun b o e hx hb => by
   rcases (QK b hb).1 with z | z
   . exact hx z
   . exact absurd (amZ (amy e) z) (aoh _)
 have cellK : ∀ x c, X.env.cells.lookup x = some c -> ∀ v, s.heap.IsCell c v -> h'.IsCell c v := fun x c e v ⟨o, ho, hd⟩ => by
   have nch : c ∉ ch := fun z => (QK c z).2.2.1 x c e rfl
   by_cases hc : c ∈ X.fs
   . obtain ⟨sl, q⟩ := slot c o (I.ZJ x c e) hc nch ho (I.tH x c e)
     exact ⟨_, q, hd⟩
   . exact ⟨o, keep c o (I.ZJ x c e) hc nch ho (I.tH x c e), hd⟩
 refine ⟨I.ok, I.os, hg, ⟨fun b o e n hb hx => ?_, fun b o e n hb hx => ?_, fun b o e n hx => ?_, fun b o e hx => ?_, fun b xs e => Dt b xs (I.base.Dt b xs e), fun b o xs e => fL b o xs (I.base.fL b o xs e), fun b ps e => ?_⟩, ?_, fun x c e => ?_, ?_, fun x c e => ?_, fun p hp => ?_, iP, I.len⟩
 . exact keep b o (neL b o e) hb (neC b o e hx) (I.base.keep b o e n hb hx) (I.base.free b o e n hx)
 . obtain ⟨sl, e1⟩ := I.base.slot b o e n hb hx
   obtain ⟨sl', e2⟩ := slot b _ (neL b o e) hb (neC b o e hx) e1 (I.base.free b o e n hx)
   exact ⟨sl', e2⟩
 . obtain ⟨o', e1⟩ := I.base.there b o e hx
   exact free b o' (neC b o e hx) e1 (I.base.free b o e n hx)
 . obtain ⟨o', e1⟩ := I.base.there b o e hx
   exact there b o' (neC b o e hx) e1
 . obtain ⟨m1, e1⟩ := I.base.Du b ps e
   obtain ⟨m2, e2⟩ := Du b _ e1
   exact ⟨m1 ++ m2, by rw [e2, Array.append_assoc]⟩
 . obtain ⟨m, hn, hl⟩ := I.loc
   refine ⟨m, ns m hn, fun i x v e1 e2 e3 => ?_⟩
   obtain ⟨u, r, l⟩ := hl i x v e1 e2 e3
   refine ⟨u, r, ?_⟩
   rcases l with l | ⟨k, c, e, z⟩
   . exact .inl l
   . exact .inr ⟨k, c, e, cellK x c e _ z⟩
 . obtain ⟨v, z⟩ := I.cell x c e
   exact ⟨v, cellK x c e v z⟩
 . obtain ⟨m, ⟨o, _, _, ho, _⟩, _⟩ := I.loc
   exact free _ o (fun z => (QK _ z).2.1 rfl) ho I.free
 . obtain ⟨v, o, ho, hd⟩ := I.cell x c e
   exact free c o (fun z => (QK c z).2.2.1 x c e rfl) ho (I.tH x c e)
 . obtain ⟨e, n, ne, nf, d⟩ := I.pin p hp
   have nch : p.1 ∉ ch := fun z => (QK p.1 z).2.2.2 p hp rfl
   exact ⟨keep p.1 p.2 ne nf nch e n, free p.1 p.2 nch e n, ne, nf, d⟩
theorem Inv.un {t' : Nat} (I : Inv X pins σ H s) (u : Un X.fs [] H H' s.heap h') (iP : yR X.prog X.w H' h') : Inv X pins σ H' { s with heap := h', toks := t' } := by
 obtain ⟨m, ⟨o, es, ep, ho, r⟩, _⟩ := id I.loc
 obtain ⟨sl, hL⟩ := u.any ho I.free (by simp)
 exact I.step (g' := s.gens) (d' := s.drawn) (ch := []) (fun _ z => nomatch z) (fun b o _ hb _ e n => u.keep b o e n hb (by simp)) (fun b o _ hb _ e n => u.slot b o e n hb (by simp)) (fun b o _ e n => u.free b o e n (by simp)) (fun b o _ e => u.there b o e (by simp)) u.Dt u.fL u.Du (fun m' hm => by
   obtain ⟨o', es', ep', Vo, r'⟩ := hm
   rw [ho] at Vo; cases Vo
   exact ⟨_, es', ep', hL, r'⟩) iP I.bare
theorem Inv.call {g' : Array GenState} {t' : Nat} {d' : Drawn} {ch : List Addr} (I : Inv X pins σ H s) (u : Un (Qv X.stack) ch H H' s.heap h') (iP : yR X.prog X.w H' h') (hg : AllBare g')
   (QK : ∀ b ∈ ch, (b ∈ X.ex \/ X.s₀.heap.objs.size <= b) /\ b ≠ X.env.locals /\ (∀ x c, X.env.cells.lookup x = some c -> c ≠ b) /\ ∀ p ∈ X.pn ++ pins, p.1 ≠ b) :
   Inv X pins σ H' { s with heap := h', gens := g', drawn := d', toks := t' } := by
 obtain ⟨m, ⟨o, es, ep, ho, r⟩, _⟩ := id I.loc
 obtain ⟨sl, hL⟩ := u.any ho I.free fun z => (QK _ z).2.1 rfl
 exact I.step (ch := ch) QK (fun b o hL hb hc e n => u.keep b o e n (fun z => (amf.mp (I.Dw b z)).elim hL hb) hc) (fun b o _ _ hc e n => u.any e n hc) (fun b o hc e n => u.free b o e n hc) (fun b o hc e => u.there b o e hc) u.Dt u.fL u.Du (fun m' hm => by
   obtain ⟨o', es', ep', Vo, r'⟩ := hm
   rw [ho] at Vo; cases Vo
   exact ⟨_, es', ep', hL, r'⟩) iP hg
theorem Inv.turned {t' : Nat} {it : Addr} (I : Inv X pins σ H s) (k : ∀ b o, b ≠ it -> s.heap.get? b = some o -> h'.get? b = some o) (hn : H it = none) (hL : it ≠ X.env.locals)
   (h1 : it ∈ X.ex \/ X.s₀.heap.objs.size <= it) (h2 : ∀ x c, X.env.cells.lookup x = some c -> c ≠ it) (h3 : ∀ p ∈ X.pn ++ pins, p.1 ≠ it) : Inv X pins σ H { s with heap := h', toks := t' } := by
 have nit : ∀ b u, H b = some u -> b ≠ it := fun b u e z => by rw [z, hn] at e; cases e
 refine I.step (g' := s.gens) (d' := s.drawn) (ch := [it]) (fun b hb => ?_) (fun b o _ _ hc e _ => k b o (fun z => hc (by simp [z])) e) (fun b o _ _ hc e _ => ⟨o.slots, k b o (fun z => hc (by simp [z])) e⟩) (fun _ _ _ _ n => n)
   (fun b o hc e => ⟨o, k b o (fun z => hc (by simp [z])) e⟩) (fun _ _ e => e) (fun _ _ _ e => e) (fun b ps e => ⟨#[], by rw [e]; simp⟩) (fun m hm => ?_) (fun b u e => ?_) I.bare
 . have e : b = it := by simpa using hb
   subst e
   exact ⟨h1, hL, h2, h3⟩
 . obtain ⟨o, es, ep, ho, r⟩ := hm
   exact ⟨o, es, ep, k _ o (anQ hL) ho, r⟩
 . refine (I.iP b u e).Ds (fun c v hc q => k c v ?_ q) (fun _ q => q) fun _ _ q => q
   rcases hc with z | z
   . rw [z]; exact nit b u e
   . exact nit c _ z
theorem Inv.tok (I : Inv X pins σ H s) (t : Nat) : Inv X pins σ H { s with toks := t } := I.un (h' := s.heap) (t' := t) Un.refl I.iP
theorem Inv.kept {t' : Nat} (I : Inv X pins σ H s) (k : ∀ b u, s.heap.get? b = some u -> h'.get? b = some u) : Inv X pins σ H { s with heap := h', toks := t' } := I.un (Un.kept k) (I.iP.kept k)
theorem Inv.laid {a : Addr} {o : HO} {t' : Nat} (I : Inv X pins σ H s) (k : ∀ b u, s.heap.get? b = some u -> h'.get? b = some u) (hp : s.heap.objs.size <= a) (new : ju X.prog X.w (upd H a o) h' a o) :
   Inv X pins σ (upd H a o) { s with heap := h', toks := t' } := I.un (Un.laid k hp (I.iP.fresh hp)) (I.iP.laid k hp new)
theorem Inv.write {x e : Addr} {o : HO} {t' : Nat} (I : Inv X pins σ H s) (mu : Mut (H x)) (he : e = x \/ H e = some (.own x)) (k : ∀ b u, b ≠ e -> s.heap.get? b = some u -> h'.get? b = some u) (heo : ∃ u, h'.get? e = some u)
   (new : ju X.prog X.w (upd H x o) h' x o) : Inv X pins σ (upd H x o) { s with heap := h', toks := t' } := I.un (Un.write mu he k heo) (I.iP.write mu he k heo new)
theorem Inv.yS {M0 : List (Addr × Obj)} (I : Inv X pins σ H s) (h : ∀ p ∈ M0, s.heap.get? p.1 = some p.2 /\ H p.1 = none /\ p.1 ≠ X.env.locals /\ p.1 ∉ X.fs /\ ∀ v, p.2.data ≠ .cell v) : Inv X M0 σ H s :=
 ⟨I.ok, I.os, I.bare, I.base, I.loc, I.cell, I.free, I.tH, fun p hp => (amn.mp hp).elim (fun z => I.pin p (ams _ z)) (h p), I.iP, I.len⟩
theorem G6 {N : List Str} (hN : N.Nodup) {i j : Nat} {x : Str} (a : N[i]? = some x) (b : N[j]? = some x) : i = j := by
 obtain ⟨h1, e1⟩ := amH.mp a
 obtain ⟨h2, e2⟩ := amH.mp b
 exact (List.getElem_inj hN).mp (e1.trans e2.symm)
theorem Oo {M : Model} {A : Around} {E : Value -> Shared -> Prop} {i : Nat} {x : Str} {v : V} {u : Value} {Q : Unit -> Shared -> Prop} (I : Inv X pins σ H s) (hN : X.N.Nodup) (hi : X.N[i]? = some x) (hx : Loc X.env.scope x) (r : RelV v u)
   (h : ∀ s', Inv X pins (σ.set i (some v)) H s' -> (∃ a, Heap.SameBut a s.heap s'.heap /\ (a = X.env.locals \/ X.env.cells.lookup x = some a)) -> Q () s') (hf : X.fn x = true \/ X.env.scope.names.lookup x = some .local := by first | exact .inl rfl | exact .inr rfl | assumption) : wpAny M A (storeName X.env x u) Q E s := by
 obtain ⟨m, hn, hl⟩ := id I.loc
 have ag1 : (X.env.scope.kind == .class || (X.env.scope.kind == .module && X.env.locals != X.env.globals)) = false := by rw [I.ok.kind]; rfl
 have hiσ : i < σ.length := by rw [I.len]; exact (amH.mp hi).1
 have ZJ := I.ZJ
 have tracked : ∀ {a : Addr} {h' : Heap}, (∃ o, s.heap.get? a = some o /\ H a = none) -> Heap.SameBut a s.heap h' -> yR X.prog X.w H h' := fun {a h'} ha hs b ob e => by
   obtain ⟨_, _, YY⟩ := ha
   refine (I.iP b ob e).Ds (fun c w' hc q => (hs.2 c ?_).trans q) (fun _ q => q) fun _ _ q => q
   rintro rfl
   rcases hc with rfl | hc
   . rw [YY] at e; cases e
   . rw [YY] at hc; cases hc
 rcases hx with hk | hk
 . refine wpAny_storeName_local hk hn (fun h' hn' hs => ?_) ag1
   obtain ⟨oL, _, _, hoL, _⟩ := id hn
   refine h _ ⟨I.ok, I.os, I.bare, ⟨fun b o e n hb hx => ?_, fun b o e n hb hx => ?_, I.base.free, fun b o e hx => ?_, I.base.Dt, I.base.fL, I.base.Du⟩, ⟨_, hn', fun j y v' e1 e2 e3 => ?_⟩, fun y c e => ?_, I.free, I.tH, fun p hp => ?_, tracked ⟨oL, hoL, I.free⟩ hs, by simpa using I.len⟩ ⟨_, hs, .inl rfl⟩
   . exact (hs.2 b (am7 (amZ (amy e) I.ok.above))).trans (I.base.keep b o e n hb hx)
   . obtain ⟨sl, e1⟩ := I.base.slot b o e n hb hx
     exact ⟨sl, (hs.2 b (am7 (amZ (amy e) I.ok.above))).trans e1⟩
   . obtain ⟨o', e1⟩ := I.base.there b o e hx
     exact ⟨o', (hs.2 b (am7 (amZ (amy e) I.ok.above))).trans e1⟩
   . by_cases hj : j = i
     . subst hj
       rw [hi] at e1; cases e1
       rw [anR hiσ] at e2
       cases e2
       exact ⟨u, r, .inl ⟨hk, by simp⟩⟩
     . rw [aob (anQ hj)] at e2
       obtain ⟨u', r', q⟩ := hl j y v' e1 e2 e3
       refine ⟨u', r', ?_⟩
       rcases q with ⟨k, e⟩ | ⟨k, c, e, z⟩
       . refine .inl ⟨k, ?_⟩
         have : y ≠ x := fun e => hj (G6 hN e1 (e ▸ hi))
         simp [this, e]
       . exact .inr ⟨k, c, e, z.sameBut hs (ZJ y c e)⟩
   . obtain ⟨w', z⟩ := I.cell y c e
     exact ⟨w', z.sameBut hs (ZJ y c e)⟩
   . obtain ⟨e, n, ne, nf, d⟩ := I.pin p hp
     exact ⟨(hs.2 p.1 ne).trans e, n, ne, nf, d⟩
 . have ZK : X.fn x = true := by
     rcases hf with z | z
     . exact z
     . rw [z] at hk; cases hk
   obtain ⟨c, hc⟩ := I.ok.has x (.inl hk)
   obtain ⟨w', z⟩ := I.cell x c hc
   refine wpAny_storeName_cell I.ok.kind hk hc z (fun h' ZL hs => ?_)
   obtain ⟨oc, hoc, ag2⟩ := id z
   refine h { s with heap := h' } ⟨I.ok, I.os, I.bare, ⟨fun b o e n hb hx => ?_, fun b o e n hb hx => ?_, I.base.free, fun b o e hx => ?_, I.base.Dt, I.base.fL, I.base.Du⟩, ⟨m, hn.sameBut hs (Ne.symm (ZJ x c hc)), fun j y v' e1 e2 e3 => ?_⟩, fun y c' e => ?_, I.free, I.tH, fun p hp => ?_, tracked ⟨oc, hoc, I.tH x c hc⟩ hs, by simpa using I.len⟩ ⟨c, hs, .inr hc⟩
   . exact (hs.2 b (am7 (amZ (amy e) (I.ok.cab x c ZK hc)))).trans (I.base.keep b o e n hb hx)
   . obtain ⟨sl, e1⟩ := I.base.slot b o e n hb hx
     exact ⟨sl, (hs.2 b (am7 (amZ (amy e) (I.ok.cab x c ZK hc)))).trans e1⟩
   . obtain ⟨o', e1⟩ := I.base.there b o e hx
     exact ⟨o', (hs.2 b (am7 (amZ (amy e) (I.ok.cab x c ZK hc)))).trans e1⟩
   . by_cases hj : j = i
     . subst hj
       rw [hi] at e1; cases e1
       rw [anR hiσ] at e2
       cases e2
       exact ⟨u, r, .inr ⟨.inl hk, c, hc, ZL⟩⟩
     . rw [aob (anQ hj)] at e2
       obtain ⟨u', r', q⟩ := hl j y v' e1 e2 e3
       refine ⟨u', r', ?_⟩
       rcases q with q | ⟨k, c', e, z'⟩
       . exact .inl q
       . refine .inr ⟨k, c', e, z'.sameBut hs ?_⟩
         rintro rfl
         exact hj (G6 hN e1 (I.ok.inj _ _ _ e hc ▸ hi))
   . by_cases hcc : c' = c
     . subst hcc; exact ⟨_, ZL⟩
     . obtain ⟨w2, z2⟩ := I.cell y c' e
       exact ⟨w2, z2.sameBut hs hcc⟩
   . obtain ⟨e, n, ne, nf, d⟩ := I.pin p hp
     refine ⟨(hs.2 p.1 ?_).trans e, n, ne, nf, d⟩
     intro q
     rw [q, hoc] at e
     have q' : oc = p.2 := am3 e
     exact d w' (by rw [← q']; exact ag2)
theorem G7 {M : Model} {A : Around} {E : Value -> Shared -> Prop} {i : Nat} {x : Str} {v : V} {u : Value} {Q : Unit -> Shared -> Prop} (I : Inv X pins σ H s) (hN : X.N.Nodup) (hi : X.N[i]? = some x) (hx : Loc X.env.scope x) (r : RelV v u)
   (h : ∀ s', Inv X pins (σ.set i (some v)) H s' -> Q () s') (hf : X.fn x = true \/ X.env.scope.names.lookup x = some .local := by first | exact .inl rfl | exact .inr rfl | assumption) : wpAny M A (storeName X.env x u) Q E s :=
 Oo I hN hi hx r (fun s' I' _ => h s' I') hf
end
noncomputable abbrev XK := Value -> Option Addr -> Hp -> Prop
noncomputable abbrev St := List (Option V)
noncomputable abbrev VK := V -> Hp -> Prop
noncomputable abbrev TE := St -> Hp -> VK -> Prop
noncomputable abbrev TT := St -> Hp -> (Bool -> Hp -> Prop) -> Prop
noncomputable abbrev TA := St -> Hp -> (List V -> Hp -> Prop) -> Prop
structure Ends where
 nx : St -> Hp -> Prop
 rt : VK
 bk : St -> Hp -> Prop := fun _ _ => False
 ct : St -> Hp -> Prop := fun _ _ => False
noncomputable abbrev TS := Ends -> St -> Hp -> Prop
noncomputable def EP (X : Cx) (pins : List (Addr × Obj)) (σ : St) (Q : VK) (u : Value) (s' : Shared) : Prop := ∃ v H', Inv X pins σ H' s' /\ RelV v u /\ Q v H'
noncomputable def TP (X : Cx) (pins : List (Addr × Obj)) (σ : St) (Q : Bool -> Hp -> Prop) (b : Bool) (s' : Shared) : Prop := ∃ H', Inv X pins σ H' s' /\ Q b H'
noncomputable def AP (X : Cx) (pins : List (Addr × Obj)) (σ : St) (Q : List V -> Hp -> Prop) (us : List Value) (s' : Shared) : Prop := ∃ vs H', Inv X pins σ H' s' /\ Vals vs us /\ Q vs H'
noncomputable def SP (X : Cx) (pins : List (Addr × Obj)) (D : Ends) (f : Flow) (s' : Shared) : Prop :=
 match f with
 | .next => ∃ σ' H', Inv X pins σ' H' s' /\ D.nx σ' H'
 | .brk => ∃ σ' H', Inv X pins σ' H' s' /\ D.bk σ' H'
 | .cont => ∃ σ' H', Inv X pins σ' H' s' /\ D.ct σ' H'
 | .ret u => ∃ v σ' H', Inv X pins σ' H' s' /\ RelV v u /\ D.rt v H'
noncomputable def PE (X : Cx) (e : Expr) (t : TE) : Prop :=
 ∀ (pins : List (Addr × Obj)) (s : Shared) (σ : St) (H : Hp) (Q : VK), Inv X pins σ H s -> t σ H Q -> wpAny (model X.prog X.w) X.A (eval e X.env) (EP X pins σ Q) X.xe s
noncomputable def PT (X : Cx) (e : Expr) (t : TT) : Prop :=
 ∀ (pins : List (Addr × Obj)) (s : Shared) (σ : St) (H : Hp) (Q : Bool -> Hp -> Prop), Inv X pins σ H s -> t σ H Q -> wpAny (model X.prog X.w) X.A (isTrue e X.env (eval e X.env)) (TP X pins σ Q) X.xe s
noncomputable def PW (X : Cx) (e : Expr) (t : TT) : Prop :=
 ∀ (whole : Sem Value) (pins : List (Addr × Obj)) (s : Shared) (σ : St) (H : Hp) (Q : Bool -> Hp -> Prop), Inv X pins σ H s -> t σ H Q -> wpAny (model X.prog X.w) X.A (isTrue e X.env whole) (TP X pins σ Q) X.xe s
noncomputable def PA (X : Cx) (es : List Expr) (t : TA) : Prop :=
 ∀ (pos : Pos) (pins : List (Addr × Obj)) (s : Shared) (σ : St) (H : Hp) (Q : List V -> Hp -> Prop), Inv X pins σ H s -> t σ H Q -> wpAny (model X.prog X.w) X.A (spliced (backTo pos (starEach es X.env))) (AP X pins σ Q) X.xe s
noncomputable def PS (X : Cx) (st : Stmt) (t : TS) : Prop :=
 ∀ (pins : List (Addr × Obj)) (s : Shared) (σ : St) (H : Hp) (D : Ends), Inv X pins σ H s -> t D σ H -> wpAny (model X.prog X.w) X.A (exec st X.env) (SP X pins D) X.xe s
noncomputable def M3 (X : Cx) (st : List Stmt) (t : TS) : Prop :=
 ∀ (pins : List (Addr × Obj)) (s : Shared) (σ : St) (H : Hp) (D : Ends), Inv X pins σ H s -> t D σ H -> wpAny (model X.prog X.w) X.A (execs st X.env) (SP X pins D) X.xe s
theorem gH {α : Type} {t : Sem α} {Q Q' : α -> Shared -> Prop} {M : Model} {A : Around} {E : Value -> Shared -> Prop} {s : Shared} (h : wpAny M A t Q E s) (hQ : ∀ a s, Q a s -> Q' a s) : wpAny M A t Q' E s := anW h hQ fun _ _ x => x
section
variable {X : Cx}
noncomputable def ag3 (i : Nat) : TE := fun σ H Q => ∃ v, σ[i]? = some (some v) /\ Q v H
noncomputable def tC (v : V) : TE := fun _ H Q => Q v H
theorem mV {i : Nat} {x : Str} {pos : Pos} (hN : X.N[i]? = some x) (hv : ZH X.env.scope x) (hd : (x == ("__debug__" : Str)) = false := by decide) (oh : (x == ("__classdict__" : Str)) = false := by decide) : PE X (.Name x pos) (ag3 i) := by
 intro pins s σ H Q I h
 obtain ⟨v, e, h⟩ := h
 obtain ⟨m, hn, hl⟩ := I.loc
 obtain ⟨u, r, l⟩ := hl i x v hN e hv
 have fin : EP X pins σ Q u s := ⟨v, H, I, r, h⟩
 rcases l with ⟨hk, hm⟩ | ⟨hk, c, hc, Cq⟩
 . exact wpAny_Name (wpAny_loadName_local I.ok.kind hk hn hm fin) hd
 . rcases hk with hk | hk
   . exact wpAny_Name (wpAny_loadName_cell I.ok.kind hk hc Cq fin) hd
   . exact wpAny_Name (wpAny_loadName_free I.ok.kind hk hc Cq fin oh) hd
theorem QL {i j pos} : PE X (.Constant (.int i) j pos) (tC (.int i)) := fun _ _ _ H _ I h => wpAny_Constant_int ⟨.int i, H, I.tok _, ⟨_, rfl⟩, h⟩
theorem YZ {b j pos} : PE X (.Constant (.bool b) j pos) (tC (.bl b)) := fun _ _ _ H _ I h => Constant_bool ⟨.bl b, H, I, rfl, h⟩
theorem ZM {x j pos} : PE X (.Constant (.str x) j pos) (tC (.str x)) := fun _ _ _ H _ I h => Calls.Constant_str ⟨.str x, H, I.tok _, ⟨_, rfl⟩, h⟩
noncomputable def Gl (X : Cx) (x : Str) : Prop := X.env.kindOf x = some .globalImplicit
theorem yT {E : Value -> Shared -> Prop} {pins : List (Addr × Obj)} {s : Shared} {σ : St} {H : Hp} {x : Str} {u : Value} {pos : Pos} {Q : Value -> Shared -> Prop} (I : Inv X pins σ H s) (hg : Gl X x) (hm : X.mg x = some u) (h : Q u s)
   (hd : (x == ("__debug__" : Str)) = false := by decide) : wpAny (model X.prog X.w) X.A (eval (.Name x pos) X.env) Q E s :=
 Calls.Name_function_global I.ok.kind hg (Calls.loadGlobal_global (by rw [I.ok.glob]; exact I.mod.glob.keeps I.bk) hm h) hd
theorem mW {E : Value -> Shared -> Prop} {pins : List (Addr × Obj)} {s : Shared} {σ : St} {H : Hp} {x : Str} {u : Value} {pos : Pos} {Q : Value -> Shared -> Prop} (I : Inv X pins σ H s) (hg : Gl X x) (hm : X.mg x = none) (hv : bootBuiltins x = some u) (h : Q u s)
   (hn : x ≠ "__name__" := by decide) (hd : (x == ("__debug__" : Str)) = false := by decide) : wpAny (model X.prog X.w) X.A (eval (.Name x pos) X.env) Q E s := by
 obtain ⟨mb, h1, h2⟩ := I.mod.blt
 exact Calls.Name_function_global I.ok.kind hg (Calls.loadGlobal_builtin (by rw [I.ok.glob]; exact I.mod.glob.keeps I.bk) hm (by rw [I.ok.blt]; exact h1.keeps I.bk) ((h2 x hn).trans hv) h) hd
theorem Vp {x : Str} {v : V} {u : Value} {pos : Pos} (hg : Gl X x) (hm : X.mg x = some u) (r : RelV v u) (hd : (x == ("__debug__" : Str)) = false := by decide) : PE X (.Name x pos) (tC v) :=
 fun _ _ _ H _ I h => yT I hg hm ⟨v, H, I, r, h⟩ hd
theorem Vq {x : Str} {v : V} {u : Value} {pos : Pos} (hg : Gl X x) (hm : X.mg x = none) (hv : bootBuiltins x = some u) (r : RelV v u) (hn : x ≠ "__name__" := by decide) (hd : (x == ("__debug__" : Str)) = false := by decide) : PE X (.Name x pos) (tC v) :=
 fun _ _ _ H _ I h => mW I hg hm hv ⟨v, H, I, r, h⟩ hn hd
variable {a b : Expr} {ta tb : TE} {pos : Pos}
noncomputable def tB (t : TE) : TT := fun σ H Q => t σ H fun x H1 => ∃ c, x = .bl c /\ Q c H1
theorem ZN {e : Expr} {t : TE} (h : PE X e t) (he : ∀ whole, isTrue e X.env whole = (do let v ← whole; standAt e.pos; holding [v] (truthy v)) := by intro _; rfl) : PT X e (tB t) := by
 intro pins s σ H Q I hw
 refine isTrue_plain (gH (h pins s σ H _ I hw) fun v s1 zz => ?_) (he _)
 obtain ⟨x, H1, I1, r1, q1⟩ := zz
 obtain ⟨d, rfl, q⟩ := q1
 cases r1
 exact an7 ⟨H1, I1, q⟩
variable {tA tB' : TT} {rest : List Expr}
noncomputable def ag4 (t u : TT) : TT := fun σ H Q => t σ H fun c H1 => if c = true then u σ H1 Q else Q false H1
noncomputable def tOr (t u : TT) : TT := fun σ H Q => t σ H fun c H1 => if c = true then Q true H1 else u σ H1 Q
noncomputable def ag5 (t : TT) : TT := fun σ H Q => t σ H fun c H1 => Q (!c) H1
theorem Vr (ha : PT X a tA) : PW X (.BoolOp .And [a] pos) tA := by
 intro wh pins s σ H Q I h
 refine isTrue_and (gH (ha pins s σ H Q I h) fun c s1 e => ?_)
 cases c with
 | true => exact isTrue_and_nil e
 | false => exact e
theorem ZO (ha : PT X a tA) : PW X (.BoolOp .Or [a] pos) tA := by
 intro wh pins s σ H Q I h
 refine isTrue_or (gH (ha pins s σ H Q I h) fun c s1 e => ?_)
 cases c with
 | false => exact isTrue_or_nil e
 | true => exact e
theorem ZP (ha : PT X a tA) (hb : PW X (.BoolOp .And (b :: rest) pos) tB') : PW X (.BoolOp .And (a :: b :: rest) pos) (ag4 tA tB') := by
 intro wh pins s σ H Q I h
 refine isTrue_and (gH (ha pins s σ H _ I h) fun c s1 zz => ?_)
 obtain ⟨H1, I1, q1⟩ := zz
 cases c with
 | true => exact hb wh pins s1 σ H1 Q I1 q1
 | false => exact ⟨H1, I1, q1⟩
theorem ad2 (ha : PT X a tA) (hb : PW X (.BoolOp .Or (b :: rest) pos) tB') : PW X (.BoolOp .Or (a :: b :: rest) pos) (tOr tA tB') := by
 intro wh pins s σ H Q I h
 refine isTrue_or (gH (ha pins s σ H _ I h) fun c s1 zz => ?_)
 obtain ⟨H1, I1, q1⟩ := zz
 cases c with
 | true => exact ⟨H1, I1, q1⟩
 | false => exact hb wh pins s1 σ H1 Q I1 q1
theorem ZQ (ha : PT X a tA) : PT X (.UnaryOp .Not a pos) (ag5 tA) := by
 intro pins s σ H Q I h
 exact isTrue_not (ha pins s σ H (fun c H1 => Q (!c) H1) I h)
noncomputable def ad3 (ta tb : TE) : TE := fun σ H Q => ta σ H fun x H1 => ∃ c, x = .bl c /\ if c = true then tb σ H1 Q else Q (.bl false) H1
noncomputable def ag6 (ta tb : TE) : TE := fun σ H Q => ta σ H fun x H1 => ∃ c, x = .bl c /\ if c = true then Q (.bl true) H1 else tb σ H1 Q
noncomputable def ad4 (ta : TE) : TE := fun σ H Q => ta σ H fun x H1 => ∃ c, x = .bl c /\ Q (.bl (!c)) H1
theorem ZR {op} {t : TE} (h : PE X a t) : PE X (.BoolOp op [a] pos) t := fun pins s σ H Q I hw => BoolOp_one (h pins s σ H Q I hw)
theorem ZS (ha : PE X a ta) (hb : PE X (.BoolOp .And (b :: rest) pos) tb) : PE X (.BoolOp .And (a :: b :: rest) pos) (ad3 ta tb) := by
 intro pins s σ H Q I h
 refine BoolOp_and (gH (ha pins s σ H _ I h) fun v s1 zz => ?_)
 obtain ⟨x, H1, I1, r1, q1⟩ := zz
 obtain ⟨c, rfl, q1⟩ := q1
 cases r1
 refine an7 ?_
 cases c with
 | true => exact hb pins s1 σ H1 Q I1 q1
 | false => exact ⟨.bl false, H1, I1, rfl, q1⟩
theorem ad5 (ha : PE X a ta) (hb : PE X (.BoolOp .Or (b :: rest) pos) tb) : PE X (.BoolOp .Or (a :: b :: rest) pos) (ag6 ta tb) := by
 intro pins s σ H Q I h
 refine BoolOp_or (gH (ha pins s σ H _ I h) fun v s1 zz => ?_)
 obtain ⟨x, H1, I1, r1, q1⟩ := zz
 obtain ⟨c, rfl, q1⟩ := q1
 cases r1
 refine an7 ?_
 cases c with
 | false => exact hb pins s1 σ H1 Q I1 q1
 | true => exact ⟨.bl true, H1, I1, rfl, q1⟩
theorem ZT (ha : PE X a ta) : PE X (.UnaryOp .Not a pos) (ad4 ta) := by
 intro pins s σ H Q I h
 refine UnaryOp_ (gH (ha pins s σ H _ I h) fun v s1 zz => ?_)
 obtain ⟨x, H1, I1, r1, q1⟩ := zz
 obtain ⟨c, rfl, q1⟩ := q1
 cases r1
 exact not_of (an7 ⟨.bl (!c), H1, I1, rfl, q1⟩)
noncomputable def tIf (t : TT) (ta tb : TE) : TE := fun σ H Q => t σ H fun c H1 => if c = true then ta σ H1 Q else tb σ H1 Q
theorem QM {c : Expr} (hc : PT X c tA) (ha : PE X a ta) (hb : PE X b tb) : PE X (.IfExp c a b pos) (tIf tA ta tb) := by
 intro pins s σ H Q I h
 refine wpAny_IfExp (gH (hc pins s σ H _ I h) fun d s1 zz => ?_)
 obtain ⟨H1, I1, q1⟩ := zz
 cases d with
 | true => exact ha pins s1 σ H1 Q I1 q1
 | false => exact hb pins s1 σ H1 Q I1 q1
end
noncomputable def oi (K : PySem.W.Frag) (H : Hp) (a : Addr) (xs : List V) : Prop :=
 Rd H a (.lst xs) ∨
   ∃ (o : Obj) (its : Array Value) (n : Nat), K.lookup a = some o /\ o.cls = .type "list" /\ o.dict = none /\ o.data = .seq its n /\ its.size <= sizeLine /\ Vals xs its.toList
noncomputable def Dy (K : PySem.W.Frag) (H : Hp) (a : Addr) (xs : List V) : Prop :=
 Rd H a (.tup xs) ∨
   ∃ (o : Obj) (its : Array Value) (n : Nat), K.lookup a = some o /\ o.cls = .type "tuple" /\ o.data = .seq its n /\ its.size <= sizeLine /\ Vals xs its.toList
noncomputable def ag7 : Value -> Option V
 | .none => some .non
 | .bool b => some (.bl b)
 | .int i _ => some (.int i)
 | .str x _ => some (.str x)
 | .bytes b _ => some (.Qu b)
 | .float b _ => some (.flt b)
 | .ref a => some (.ref a)
 | .type n => some (.ty n)
 | _ => none
theorem RelV.abs {x : V} {u : Value} (r : RelV x u) : ag7 u = some x := by
 cases x with
 | non => cases r; rfl
 | bl _ => cases r; rfl
 | int _ => obtain ⟨t, rfl⟩ := r; rfl
 | str _ => obtain ⟨t, rfl⟩ := r; rfl
 | Qu _ => obtain ⟨t, rfl⟩ := r; rfl
 | flt _ => obtain ⟨t, rfl⟩ := r; rfl
 | ref _ => cases r; rfl
 | ty _ => cases r; rfl
theorem RelV.inj {x y : V} {u : Value} (r : RelV x u) (q : RelV y u) : x = y := am3 (r.abs.symm.trans q.abs)
theorem Vals.inj {xs ys : List V} {us : List Value} (h : Vals xs us) (q : Vals ys us) : xs = ys := by
 induction h generalizing ys with
 | nil => cases q; rfl
 | cons r _ i => cases q with
   | cons r' t' => rw [r.inj r', i t']
section
variable {X : Cx} {pins : List (Addr × Obj)} {σ : St} {H : Hp} {s : Shared} {a : Addr} {xs ys : List V}
theorem oi.of {K : PySem.W.Frag} (h : H a = some (.lst xs)) : oi K H a xs := .inl (.inl h)
theorem Dy.of {K : PySem.W.Frag} (h : H a = some (.tup xs)) : Dy K H a xs := .inl (.inl h)
theorem Inv.list (I : Inv X pins σ H s) (h : oi X.K H a xs) : ∃ its : List Value, Vals xs its /\ PlainL s.heap a its.toArray /\ xs.length <= sizeLine := by
 rcases h with h | ⟨o, its, n, hk, hc, hd, hs, hz, r⟩
 . obtain ⟨z, its, n, r, e⟩ := h.ok I.iP
   exact ⟨its, r, ⟨_, n, e, rfl, rfl, rfl⟩, z⟩
 . refine ⟨its.toList, r, ⟨o, n, I.G0 a o hk, hc, hd, by simpa using hs⟩, ?_⟩
   have e := r.length
   simp only [Array.length_toList] at e
   omega
theorem Inv.tuple (I : Inv X pins σ H s) (h : Dy X.K H a xs) : ∃ its : List Value, Vals xs its /\ IsTup s.heap a its.toArray /\ xs.length <= sizeLine := by
 rcases h with h | ⟨o, its, n, hk, hc, hs, hz, r⟩
 . obtain ⟨z, its, r, p⟩ := h.ok I.iP
   exact ⟨its, r, p, z⟩
 . refine ⟨its.toList, r, ⟨o, I.G0 a o hk, hc, n, by simpa using hs⟩, ?_⟩
   have e := r.length
   simp only [Array.length_toList] at e
   omega
theorem Inv.zL (I : Inv X pins σ H s) (h : oi X.K H a xs) (h' : oi X.K H a ys) : xs = ys := by
 obtain ⟨its, r, ⟨o, n, e, _, _, d⟩, _⟩ := I.list h
 obtain ⟨its', r', ⟨o', n', e', _, _, d'⟩, _⟩ := I.list h'
 rw [e] at e'; cases e'
 rw [d] at d'
 injection d' with d1 _
 have : its = its' := by simpa using congrArg Array.toList d1
 subst this
 exact r.inj r'
end
noncomputable abbrev Cx.wish (X : Cx) (E : Value -> Shared -> Prop) : Cx := { X with xe := E }
noncomputable abbrev Cx.nox (X : Cx) : Cx := X.wish fun _ _ => False
theorem Cx.Ok.wish {X : Cx} (ok : X.Ok) (E : Value -> Shared -> Prop) : (X.wish E).Ok :=
 ⟨ok.mod, ok.kind, ok.glob, ok.blt, ok.above, ok.inj, ok.has, ok.cab, ok.hd, ok.frames, ok.stk, ok.exf, ok.bs, ok.Vl, ok.QJ, ok.Vm, ok.yH, ok.ZI⟩
theorem Cx.Ok.qi {X : Cx} {E : Value -> Shared -> Prop} (ok : (X.wish E).Ok) : X.Ok :=
 ⟨ok.mod, ok.kind, ok.glob, ok.blt, ok.above, ok.inj, ok.has, ok.cab, ok.hd, ok.frames, ok.stk, ok.exf, ok.bs, ok.Vl, ok.QJ, ok.Vm, ok.yH, ok.ZI⟩
section
variable {X : Cx} {pins : List (Addr × Obj)} {σ : St} {H : Hp} {s : Shared} {E : Value -> Shared -> Prop}
theorem Inv.wish (I : Inv X pins σ H s) (E : Value -> Shared -> Prop) : Inv (X.wish E) pins σ H s := ⟨I.ok.wish E, I.os, I.bare, I.base, I.loc, I.cell, I.free, I.tH, I.pin, I.iP, I.len⟩
theorem Inv.qi (I : Inv (X.wish E) pins σ H s) : Inv X pins σ H s := ⟨I.ok.qi, I.os, I.bare, I.base, I.loc, I.cell, I.free, I.tH, I.pin, I.iP, I.len⟩
theorem SP.qi {D : Ends} {f : Flow} {s' : Shared} (h : SP (X.wish E) pins D f s') : SP X pins D f s' := by
 cases f with
 | next => obtain ⟨σ', H', I, q⟩ := h; exact ⟨σ', H', I.qi, q⟩
 | brk => obtain ⟨σ', H', I, q⟩ := h; exact ⟨σ', H', I.qi, q⟩
 | cont => obtain ⟨σ', H', I, q⟩ := h; exact ⟨σ', H', I.qi, q⟩
 | ret u => obtain ⟨v, σ', H', I, r, q⟩ := h; exact ⟨v, σ', H', I.qi, r, q⟩
theorem M3.nox {st : List Stmt} {t : TS} (h : M3 X.nox st t) : M3 X st t := fun pins s σ H D I hw =>
 anW (h pins s σ H D (I.wish _) hw) (fun _ _ q => q.qi) fun _ _ z => False.elim z
end
section
variable {X : Cx} {st : Stmt} {rest : List Stmt} {t u : TS} {e : Expr} {te : TE} {pos : Pos}
noncomputable def ad6 : TS := fun D σ H => D.nx σ H
noncomputable def ag8 (t u : TS) : TS := fun D σ H => t { D with nx := u D } σ H
theorem Vs : M3 X [] ad6 := fun _ _ σ H _ I h => wpAny_execs_nil ⟨σ, H, I, h⟩
theorem QN (h1 : PS X st t) (h2 : M3 X rest u) : M3 X (st :: rest) (ag8 t u) := by
 intro pins s σ H D I h
 refine wpAny_execs_cons (gH (h1 pins s σ H { D with nx := u D } I h) fun f s1 q => ?_)
 cases f with
 | next =>
   obtain ⟨σ', H', I', q⟩ := q
   exact h2 pins s1 σ' H' D I' q
 | ret v => exact q
 | brk => exact q
 | cont => exact q
noncomputable def ZU : TS := fun D σ H => D.bk σ H
theorem QO : PS X (.Break pos) ZU := fun _ _ σ H _ I h => wpAny_Break ⟨σ, H, I, h⟩
theorem Inv.quiet {pins : List (Addr × Obj)} {σ : St} {H : Hp} {s : Shared} (I : Inv X pins σ H s) : interactive X.env = false := by simp [interactive, I.ok.kind]
noncomputable def ad7 (te : TE) : TS := fun D σ H => te σ H fun _ H1 => D.nx σ H1
theorem yU (he : PE X e te) (hs : swapsWith e none pos.line X.env = pure false := by rfl) : PS X (.Expr e pos) (ad7 te) := by
 intro pins s σ H D I h
 exact wpAny_Expr_any (gH (he pins s σ H _ I h) fun v s1 ⟨x, H1, I1, r1, q1⟩ => ⟨σ, H1, I1, q1⟩) I.quiet hs
noncomputable def ag9 (te : TE) : TS := fun D σ H => te σ H D.rt
theorem ZV (he : PE X e te) : PS X (.Return (some e) pos) (ag9 te) := by
 intro pins s σ H D I h
 exact wpAny_Return_some (gH (he pins s σ H _ I h) fun v s1 ⟨x, H1, I1, r1, q1⟩ => ⟨x, σ, H1, I1, r1, q1⟩)
noncomputable def aha (c : TT) (t u : TS) : TS := fun D σ H => c σ H fun b H1 => if b = true then t D σ H1 else u D σ H1
theorem ad8 {c : Expr} {a b : List Stmt} {tc : TT} (hc : PT X c tc) (ha : M3 X a t) (hb : M3 X b u) : PS X (.If c a b pos) (aha tc t u) := by
 intro pins s σ H D I h
 refine wpAny_If (gH (hc pins s σ H _ I h) fun d s1 zz => ?_)
 obtain ⟨H1, I1, q1⟩ := zz
 cases d with
 | true => exact ha pins s1 σ H1 D I1 q1
 | false => exact hb pins s1 σ H1 D I1 q1
end
noncomputable abbrev TG := V -> St -> Hp -> (St -> Hp -> Prop) -> Prop
noncomputable abbrev ZW := List V -> St -> Hp -> (St -> Hp -> Prop) -> Prop
noncomputable def PG (X : Cx) (target : Expr) (t : TG) : Prop :=
 ∀ (pins : List (Addr × Obj)) (s : Shared) (σ : St) (H : Hp) (v : V) (u : Value) (Q : St -> Hp -> Prop), Inv X pins σ H s -> RelV v u -> t v σ H Q →
   wpAny (model X.prog X.w) X.A (assign target X.env u) (fun _ s' => ∃ σ' H', Inv X pins σ' H' s' /\ Q σ' H') X.xe s
noncomputable def PGs (X : Cx) (ts : List Expr) (t : ZW) : Prop :=
 ∀ (pins : List (Addr × Obj)) (s : Shared) (σ : St) (H : Hp) (vs : List V) (us : List Value) (Q : St -> Hp -> Prop), Inv X pins σ H s -> Vals vs us -> t vs σ H Q →
   wpAny (model X.prog X.w) X.A (assignInOrder ((assignEach ts X.env).map (·.2)) us) (fun _ s' => ∃ σ' H', Inv X pins σ' H' s' /\ Q σ' H') X.xe s
noncomputable abbrev ZX := V -> V -> V -> Hp -> (Hp -> Prop) -> Prop
noncomputable def ad9 (X : Cx) (t : ZX) : Prop :=
 ∀ (pins : List (Addr × Obj)) (s : Shared) (σ : St) (H : Hp) (o i v : V) (ov iv u : Value) (Q : Hp -> Prop), Inv X pins σ H s -> RelV o ov -> RelV i iv -> RelV v u -> t o i v H Q →
   wpAny (model X.prog X.w) X.A (setItem ov iv u) (fun _ s' => ∃ H', Inv X pins σ H' s' /\ Q H') X.xe s
section
variable {X : Cx} {pos : Pos}
noncomputable def yi (i : Nat) : TG := fun v σ H Q => Q (σ.set i (some v)) H
theorem uO {i : Nat} {x : Str} (hN : X.N.Nodup) (hi : X.N[i]? = some x) (hx : Loc X.env.scope x) (hf : X.fn x = true \/ X.env.scope.names.lookup x = some .local := by first | exact .inl rfl | exact .inr rfl | assumption) : PG X (.Name x pos) (yi i) := by
 intro pins s σ H v u Q I r h
 exact wpAny_assign_Name (G7 I hN hi hx r (fun s' I' => ⟨_, H, I', h⟩) hf)
noncomputable def ZY : ZW := fun vs σ H Q => vs = [] /\ Q σ H
noncomputable def G8 (t : TG) (u : ZW) : ZW := fun vs σ H Q => ∃ v r, vs = v :: r /\ t v σ H fun σ' H' => u r σ' H' Q
theorem Vt : PGs X [] ZY := by
 intro pins s σ H vs us Q I r h
 obtain ⟨e, h⟩ := h
 subst e
 cases r
 exact assignInOrder_nil ⟨σ, H, I, h⟩
theorem G9 {e : Expr} {es : List Expr} {t : TG} {u : ZW} (h1 : PG X e t) (h2 : PGs X es u)
   (hs : (assignEach (e :: es) X.env).map (·.2) = assign e X.env :: (assignEach es X.env).map (·.2) := by rfl) : PGs X (e :: es) (G8 t u) := by
 intro pins s σ H vs us Q I r h
 obtain ⟨v, vr, e1, h⟩ := h
 subst e1
 cases r with
 | cons r rr =>
   rw [hs]
   refine assignInOrder_cons (gH (h1 pins s σ H _ _ _ I r h) fun _ s1 zz => ?_)
   obtain ⟨σ1, H1, I1, q1⟩ := zz
   exact h2 pins s1 σ1 H1 _ _ Q I1 rr q1
noncomputable def ZZ (K : PySem.W.Frag) (n : Nat) (t : ZW) : TG := fun v σ H Q => ∃ a xs, v = .ref a /\ Dy K H a xs /\ xs.length = n /\ t xs σ H Q
theorem Z0 {es : List Expr} {k : Nat} {t : ZW} {n : Nat} (hc : X.calm = true) (h : PGs X es t)
   (hn : (assignEach es X.env).length = n := by rfl) (BG : (assignEach es X.env).findIdx? (·.1) = none := by rfl) : PG X (.Tuple es k pos) (ZZ X.K n t) := by
 intro pins s σ H v u Q I r hw
 obtain ⟨a, xs, e1, hq, hl, hw⟩ := hw
 subst e1
 cases r
 obtain ⟨its, rv, ht, hz⟩ := I.tuple hq
 refine assign_Tuple_tuple (I.ok.hd hc) ht (by simp [hn, ← hl, rv.length]) BG fun h' hx => ?_
 have I1 : Inv X pins σ H { s with heap := h' } := I.kept (t' := s.toks) fun b o e => hx b o (am7 (amy e)) e
 exact h pins _ σ H xs _ Q I1 (by simpa using rv) hw
noncomputable def ahb (to ti : TE) (t : ZX) : TG := fun v σ H Q => to σ H fun o H1 => ti σ H1 fun i H2 => t o i v H2 fun H3 => Q σ H3
theorem Z6 {o i : Expr} {to ti : TE} {t : ZX} (ho : PE X o to) (hi : PE X i ti) (hs : ad9 X t)
   (ha : ∀ v, assign (.Subscript o i pos) X.env v = (do
     let ov ← holding [v] (eval o X.env)
     let iv ← holding [v, ov] (eval i X.env)
     standAt pos
     holding [v, ov, iv] (setItem ov iv v)
     release [v, ov, iv] []) := by intro _; rfl) : PG X (.Subscript o i pos) (ahb to ti t) := by
 intro pins s σ H v u Q I r h
 rw [ha]
 refine amG (wpAny_holding (gH (ho pins s σ H _ I h) fun ov s1 zz => ?_))
 obtain ⟨x, H1, I1, r1, q1⟩ := zz
 refine amG (wpAny_holding (gH (hi pins s1 σ H1 _ I1 q1) fun iv s2 zz => ?_))
 obtain ⟨y, H2, I2, r2, q2⟩ := zz
 refine amG (wpAny_standAt (amG (wpAny_holding (gH (hs pins s2 σ H2 x y v ov iv u _ I2 r1 r2 r q2) fun _ s3 zz => ?_))))
 obtain ⟨H3, I3, q3⟩ := zz
 exact wpAny_release ⟨σ, H3, I3, q3⟩
noncomputable def aea (te : TE) (g : TG) : TS := fun D σ H => te σ H fun x H1 => g x σ H1 D.nx
theorem Z7 {tg e : Expr} {te : TE} {g : TG} (he : PE X e te) (hg : PG X tg g) (hs : swapsWithSole [tg] e pos.line X.env = pure false := by rfl) (hw : swappedStores [tg] e X.env = pure none := by rfl)
   (h1 : (assignEach [tg] X.env).map (·.2) = [assign tg X.env] := by rfl) : PS X (.Assign [tg] e pos) (aea te g) := by
 intro pins s σ H D I h
 refine wpAny_Assign_stores (gH (he pins s σ H _ I h) fun v s1 zz => ?_) hs hw
 obtain ⟨x, H1, I1, r1, q1⟩ := zz
 rw [h1]
 exact gH (hg pins s1 σ H1 x v _ I1 r1 q1) fun _ s2 q => q
theorem Z8 {i : Nat} {x : Str} {e : Expr} {te : TE} {pos' : Pos} (hN : X.N.Nodup) (hi : X.N[i]? = some x) (hx : Loc X.env.scope x) (he : PE X e te) (hs : swapsWith e (some (.Name x pos')) pos.line X.env = pure false := by rfl) (hf : X.fn x = true \/ X.env.scope.names.lookup x = some .local := by first | exact .inl rfl | exact .inr rfl | assumption) :
   PS X (.Assign [.Name x pos'] e pos) (aea te (yi i)) := by
 intro pins s σ H D I h
 refine wpAny_Assign_Name (gH (he pins s σ H _ I h) fun v s1 zz => ?_) hs
 obtain ⟨y, H1, I1, r1, q1⟩ := zz
 exact G7 I1 hN hi hx r1 (fun s2 I2 => ⟨_, H1, I2, q1⟩) hf
end
section
variable {X : Cx} {pos : Pos}
noncomputable def Z9 (c : TT) (tb : TS) : TS := fun D σ H => ∃ W : Nat -> St -> Hp -> Prop, (∃ m, W m σ H) /\ ∀ m σ H, W m σ H →
 c σ H fun b H1 => if b = true then ∃ N : St -> Hp -> Prop, (∀ σ' H', N σ' H' -> ∃ m', m' < m /\ W m' σ' H') /\ tb { D with nx := N, ct := N, bk := D.nx } σ H1 else D.nx σ H1
theorem QS {c : Expr} {body : List Stmt} {tc : TT} {tb : TS} (hp : PassesOwn (model X.prog X.w) X.A X.env X.xe) (hc : PT X c tc) (hb : M3 X body tb) : PS X (.While c body [] pos) (Z9 tc tb) := by
 intro pins s σ H D I h
 obtain ⟨W, ⟨m0, w0⟩, turn⟩ := h
 refine wpAny_While (codeAny_whileLoop (fun n s' => ∃ σ' H', Inv X pins σ' H' s' /\ W n σ' H') ?_ m0 ⟨σ, H, I, w0⟩)
 rintro n s1 ⟨σ1, H1, I1, w1⟩
 refine anT hp (gH (hc pins s1 σ1 H1 _ I1 (turn n σ1 H1 w1)) fun b s2 zz => ?_)
 obtain ⟨H2, I2, q2⟩ := zz
 cases b with
 | true =>
   obtain ⟨N, hN, q2⟩ := q2
   rw [amo rfl]
   refine anT hp (gH (hb pins s2 σ1 H2 _ I2 q2) fun f s3 q3 => ?_)
   cases f with
   | next =>
     obtain ⟨σ3, H3, I3, n3⟩ := q3
     obtain ⟨m', hm, w3⟩ := hN σ3 H3 n3
     exact ⟨m', hm, σ3, H3, I3, w3⟩
   | cont =>
     obtain ⟨σ3, H3, I3, n3⟩ := q3
     obtain ⟨m', hm, w3⟩ := hN σ3 H3 n3
     exact ⟨m', hm, σ3, H3, I3, w3⟩
   | brk => exact q3
   | ret v => exact q3
 | false =>
   rw [amk amv]
   exact wpAny_execs_nil ⟨σ1, H2, I2, q2⟩
end
structure It where
 go : Nat -> Hp -> Prop
 Y0 : Nat -> Hp -> V -> Hp -> Prop
 stop : Nat -> Hp -> Prop
noncomputable def yI (X : Cx) (pins : List (Addr × Obj)) (H : Hp) (b : Addr) : Prop :=
 H b = none /\ b ≠ X.env.locals /\ b ∉ X.fs /\ (b ∈ X.ex \/ X.s₀.heap.objs.size <= b) /\ (∀ x c, X.env.cells.lookup x = some c -> c ≠ b) /\ ∀ p ∈ X.pn ++ pins, p.1 ≠ b
theorem Inv.JS {X : Cx} {pins : List (Addr × Obj)} {σ : St} {H H' : Hp} {s : Shared} {b : Addr} (I : Inv X pins σ H s) (hb : s.heap.objs.size <= b) (hn : H' b = none) : yI X pins H' b := by
 refine ⟨hn, Nat.ne_of_gt (amZ I.lt hb), I.agY hb, .inr (am0 I.sz hb), fun x c e z => ?_, fun p hp z => ?_⟩
 . obtain ⟨v, q⟩ := I.cell x c e
   exact absurd (amZ q.lt (by rw [z]; exact hb)) (aoh _)
 . exact absurd (amZ (amy (I.pin p hp).1) (by rw [z]; exact hb)) (aoh _)
structure Turn (P : Program) (w : World) (K : PySem.W.Frag) (tg : Expr) (J : It) (fp : List Addr) (it : Addr) (tn : Nat -> Heap -> Prop) : Prop where
 mem : it ∈ fp
 obj : ∀ i h, tn i h -> ∀ b ∈ fp, ∃ o, h.get? b = some o /\ ∀ v, o.data ≠ .cell v
 keep : ∀ i h h', tn i h -> (∀ b ∈ fp, ∀ o, h.get? b = some o -> h'.get? b = some o) -> tn i h'
 item : ∀ (X : Cx), X.prog = P -> X.w = w -> X.K = K -> X.calm = true -> ∀ (i : Nat) (pins : List (Addr × Obj)) (s : Shared) (σ : St) (H : Hp) (E : Value -> Shared -> Prop), Inv X pins σ H s -> (∀ b ∈ fp, yI X pins H b) -> tn i s.heap -> J.go i H →
   wpAny (model P w) X.A (pyNext (.ref it)) (fun r s1 => ∃ u, r = some u ∧
     wpAny (model P w) X.A (letOwnedTupleGo tg (.ref it) u) (fun _ s2 => ∃ x H', Inv X pins σ H' s2 /\ RelV x u /\ J.Y0 i H x H' /\ tn (i + 1) s2.heap /\ ∀ b ∈ fp, H' b = none) E s1) E s
 done : ∀ (X : Cx), X.prog = P -> X.w = w -> X.K = K -> X.calm = true -> ∀ (i : Nat) (pins : List (Addr × Obj)) (s : Shared) (σ : St) (H : Hp) (E : Value -> Shared -> Prop), Inv X pins σ H s -> (∀ b ∈ fp, yI X pins H b) -> tn i s.heap -> J.stop i H →
   wpAny (model P w) X.A (pyNext (.ref it)) (fun r s1 => r = none /\ Inv X pins σ H s1) E s
 self : ∀ (A : Around) (i : Nat) (s : Shared) (Q : Value -> Shared -> Prop) (E : Value -> Shared -> Prop), tn i s.heap -> Q (.ref it) s -> wpAny (model P w) A (pyIter (.ref it)) Q E s
noncomputable abbrev TI := St -> Hp -> (It -> Hp -> Prop) -> Prop
noncomputable def PIE (X : Cx) (pins : List (Addr × Obj)) (σ : St) (tg : Expr) (R : It -> Hp -> Prop) (itv : Value) (s2 : Shared) : Prop :=
 ∃ (it : Addr) (fp : List Addr) (tn : Nat -> Heap -> Prop) (J : It) (H' : Hp), itv = .ref it /\ Inv X pins σ H' s2 /\ Turn X.prog X.w X.K tg J fp it tn /\ tn 0 s2.heap /\ (∀ b ∈ fp, yI X pins H' b) /\ R J H'
noncomputable def PI (X : Cx) (tg iter : Expr) (wi : TI) : Prop :=
 ∀ (pins : List (Addr × Obj)) (s : Shared) (σ : St) (H : Hp) (R : It -> Hp -> Prop), Inv X pins σ H s -> wi σ H R →
   wpAny (model X.prog X.w) X.A (eval iter X.env) (fun v s1 => wpAny (model X.prog X.w) X.A (pyIter v) (PIE X pins σ tg R) X.xe s1) X.xe s
theorem QT {M : Model} {A : Around} {E : Value -> Shared -> Prop} {s : Shared} {tg : Expr} {it : Addr} {u : Value} {o : Obj} {n : String} {vs : Array Value} {Q : Unit -> Shared -> Prop} (ho : s.heap.get? it = some o) (hc : o.cls = .type n) (hd : o.data = .fields vs)
   (hn : ["enumerate", "zip", "dict_itemiterator", "dict_reverseitemiterator", "odict_iterator", "itertools.zip_longest", "itertools.pairwise"].contains n = false) (hQ : Q () s) : wpAny M A (letOwnedTupleGo tg (.ref it) u) Q E s := by
 unfold letOwnedTupleGo
 cases tg <;> first
   | exact ang hQ
   | (cases u <;> first
       | exact ang hQ
       | (refine amG (wpAny_load ho ?_)
          rw [hc, hd]
          show wpAny M A (if (["enumerate", "zip", "dict_itemiterator", "dict_reverseitemiterator", "odict_iterator", "itertools.zip_longest", "itertools.pairwise"].contains n && vs[0]? == some (rawInt _)) = true then _ else _) Q E s
          rw [amk (by intro h; rw [hn, Bool.false_and] at h; cases h)]
          exact ang hQ))
noncomputable def Itl (K : PySem.W.Frag) (a : Addr) : It :=
 ⟨fun i H => ∃ xs x, oi K H a xs /\ xs[i]? = some x, fun i H x H' => H' = H /\ ∀ xs, oi K H a xs -> xs[i]? = some x, fun i H => ∃ xs, oi K H a xs /\ xs.length <= i⟩
noncomputable def Itr (lo : Int) (n : Nat) : It := ⟨fun i _ => i < n, fun i H x H' => H' = H /\ x = .int (lo + i), fun i _ => n <= i⟩
theorem Oq {P : Program} {w : World} {K : PySem.W.Frag} {tg : Expr} (a it : Addr) : Turn P w K tg (Itl K a) [it] it (fun i h => h.IsListIter it a i) where
 mem := by simp
 obj := fun i h st b hb => by
   have e : b = it := by simpa using hb
   subst e
   obtain ⟨o, e, c, d⟩ := st
   exact ⟨o, e, fun v z => by rw [d] at z; cases z⟩
 keep := fun i h h' st k => st.at fun o e => k it (by simp) o e
 item := by
   intro X hP hw hK hc i pins s σ H E I hf st hg
   subst hP hw hK
   obtain ⟨xs, x, hq, hx⟩ := hg
   obtain ⟨its, rv, p, hz⟩ := I.list hq
   obtain ⟨u, hu, ru⟩ := rv.get hx
   obtain ⟨f0, f1, f2, f3, f4, f5⟩ := hf it (by simp)
   refine wpAny_pyNext_list_item st p.isList (x := u) (by simpa using hu) fun h' Y3 sb => ?_
   have I1 : Inv X pins σ H { s with heap := h' } := I.turned (t' := s.toks) (fun b o hb e => (sb.2 b hb).trans e) f0 f1 f3 f4 f5
   obtain ⟨o, e, c, d⟩ := id Y3
   exact ⟨u, rfl, QT (s := { s with heap := h' }) e c d (by decide) ⟨x, H, I1, ru, ⟨rfl, fun ys hy => by rw [I.zL hy hq]; exact hx⟩, Y3, fun b hb => (hf b hb).1⟩⟩
 done := by
   intro X hP hw hK hc i pins s σ H E I hf st hg
   subst hP hw hK
   obtain ⟨xs, hq, hx⟩ := hg
   obtain ⟨its, rv, p, hz⟩ := I.list hq
   obtain ⟨f0, f1, f2, f3, f4, f5⟩ := hf it (by simp)
   have hl := rv.length
   exact wpAny_pyNext_list_end (I.ok.hd hc) st p.isList (by simp; omega) fun h' eb => ⟨rfl, I.turned (t' := s.toks) (fun b o hb e => eb b o hb e) f0 f1 f3 f4 f5⟩
 self := fun _ _ _ _ _ st h => wpAny_pyIter_listiter st h
theorem JT {P : Program} {w : World} {K : PySem.W.Frag} {tg : Expr} (it : Addr) (lo : Int) (n : Nat) : Turn P w K tg (Itr lo n) [it] it (fun i h => IsRangeIter h it (lo + (i : Nat) * 1) ((n : Int) - (i : Nat)) 1) where
 mem := by simp
 obj := fun i h st b hb => by
   have e : b = it := by simpa using hb
   subst e
   exact ⟨_, st, fun v z => by
     have z' : Data.fields _ = Data.cell v := z
     cases z'⟩
 keep := fun i h h' st k => k it (by simp) _ st
 item := by
   intro X hP hw hK hc i pins s σ H E I hf st hg
   subst hP hw hK
   obtain ⟨f0, f1, f2, f3, f4, f5⟩ := hf it (by simp)
   have W := Walks.range (prog := X.prog) (w := X.w) (I.ok.hd hc) it lo 1 n
   refine W.item i s _ _ hg st fun v h' tk hv Y3 kk => ?_
   obtain ⟨t, rfl⟩ := hv
   have I1 : Inv X pins σ H { s with heap := h', toks := tk } := I.turned (fun b o hb e => kk b o (by simpa using hb) e) f0 f1 f3 f4 f5
   refine ⟨_, rfl, QT (s := { s with heap := h', toks := tk }) (n := "range_iterator") Y3 rfl rfl (by decide) ⟨.int (lo + i), H, I1, ⟨t, ?_⟩, ⟨rfl, rfl⟩, Y3, fun b hb => (hf b hb).1⟩⟩
   rw [Int.mul_one]
 done := by
   intro X hP hw hK hc i pins s σ H E I hf st hg
   subst hP hw hK
   obtain ⟨f0, f1, f2, f3, f4, f5⟩ := hf it (by simp)
   exact wpAny_pyNext_range_end (I.ok.hd hc) st (by have : n <= i := hg; omega) fun h' eb => ⟨rfl, I.turned (t' := s.toks) (fun b o hb e => eb b o hb e) f0 f1 f3 f4 f5⟩
 self := fun _ _ _ _ _ st h => wpAny_pyIter_rangeiter st h
section
variable {X : Cx} {tg : Expr}
noncomputable def aeb (K : PySem.W.Frag) (tl : TE) : TI := fun σ H R => tl σ H fun x H1 => ∃ a, x = .ref a /\ (∃ xs, oi K H1 a xs) /\ R (Itl K a) H1
theorem Vu {l : Expr} {tl : TE} (hl : PE X l tl) : PI X tg l (aeb X.K tl) := by
 intro pins s σ H R I h
 refine gH (hl pins s σ H _ I h) fun v s1 zz => ?_
 obtain ⟨x, H1, I1, r1, q1⟩ := zz
 obtain ⟨a, e, ⟨xs, hq⟩, q⟩ := q1
 subst e
 cases r1
 obtain ⟨its, rv, p, hz⟩ := I1.list hq
 refine wpAny_pyIter_list p.isList ?_
 refine ⟨s1.heap.objs.size, [s1.heap.objs.size], _, _, H1, rfl, I1.kept (t' := s1.toks) fun b o e => amw _ e, Oq a _, ⟨_, anb _ rfl, rfl, rfl⟩, fun b hb => ?_, q⟩
 have e : b = s1.heap.objs.size := by simpa using hb
 subst e
 exact I1.JS (amu _) (I1.iP.fresh (amu _))
theorem Hf {pins : List (Addr × Obj)} {σ : St} {H : Hp} {s : Shared} {R : It -> Hp -> Prop} {E : Value -> Shared -> Prop} {lo hi : Int} {t u v : Tok} {tk : Nat} (I : Inv X pins σ H s) (h1 : -(2 ^ 62) <= lo) (h2 : lo < 2 ^ 62) (h3 : -(2 ^ 62) <= hi) (h4 : hi < 2 ^ 62)
   (q : R (Itr lo (hi - lo).toNat) H) : wpAny (model X.prog X.w) X.A (pyIter (.ref s.heap.objs.size)) (PIE X pins σ tg R) E { s with heap := s.heap.push { cls := .type "range", data := .fields #[.int lo t, .int hi u, .int 1 v] }, toks := tk } := by
 refine wpAny_pyIter_range (IsRange.new ..) (small_one h1 h2 h3 h4) ?_
 have I1 : Inv X pins σ H { s with heap := s.heap.push { cls := .type "range", data := .fields #[.int lo t, .int hi u, .int 1 v] }, toks := tk } := I.kept fun b o e => amw _ e
 refine ⟨(s.heap.push { cls := .type "range", data := .fields #[.int lo t, .int hi u, .int 1 v] }).objs.size, [(s.heap.push { cls := .type "range", data := .fields #[.int lo t, .int hi u, .int 1 v] }).objs.size], _, _, H, rfl,
   I1.kept (t' := tk) fun b o e => amw _ e, JT _ lo (hi - lo).toNat, ?_, fun b hb => ?_, q⟩
 . have e1 : lo + ((0 : Nat) : Int) * 1 = lo := by simp
   have e2 : (((hi - lo).toNat : Nat) : Int) - ((0 : Nat) : Int) = Builtin.Range.rangeSize lo hi 1 := by rw [rangeSize_one]; split <;> omega
   show IsRangeIter _ _ (lo + ((0 : Nat) : Int) * 1) ((((hi - lo).toNat : Nat) : Int) - ((0 : Nat) : Int)) 1
   rw [e1, e2]
   exact anb _ rfl
 . have e : b = (s.heap.push { cls := .type "range", data := .fields #[.int lo t, .int hi u, .int 1 v] }).objs.size := by simpa using hb
   subst e
   exact I1.JS (amu _) (I1.iP.fresh (amu _))
noncomputable def aec (ta : TA) : TI := fun σ H R => ta σ H fun vs H1 => ∃ j : Int, vs = [.int j] /\ -(2 ^ 62) <= j /\ j < 2 ^ 62 /\ R (Itr 0 j.toNat) H1
noncomputable def aed (ta : TA) : TI := fun σ H R => ta σ H fun vs H1 => ∃ i j : Int, vs = [.int i, .int j] /\ (-(2 ^ 62) <= i /\ i < 2 ^ 62 /\ -(2 ^ 62) <= j /\ j < 2 ^ 62) /\ R (Itr i (j - i).toNat) H1
theorem Ot {a : Expr} {ta : TA} {p pos : Pos} (hg : Gl X "range") (hm : X.mg "range" = none) (ha : PA X [a] ta) (hs : starEach [a] X.env = [(false, eval a X.env)] := by rfl) : PI X tg (.Call (.Name "range" p) [a] [] pos) (aec ta) := by
 intro pins s σ H R I h
 refine Call_ (mW I hg hm boot_range (anj (gH (ha pos pins s σ H _ I h) fun us s1 zz => ?_) hs rfl))
 obtain ⟨vs, H1, I1, r1, q1⟩ := zz
 obtain ⟨j, e, q1, q2, q⟩ := q1
 subst e
 cases r1 with
 | cons r rr =>
   cases rr
   obtain ⟨t, rfl⟩ := r
   exact call_range_1 (Hf I1 (by omega) (by omega) q1 q2 (by simpa using q))
theorem Ou {a b : Expr} {ta : TA} {p pos : Pos} (hg : Gl X "range") (hm : X.mg "range" = none) (ha : PA X [a, b] ta) (hs : starEach [a, b] X.env = [(false, eval a X.env), (false, eval b X.env)] := by rfl) (G3 : starEach [b] X.env = [(false, eval b X.env)] := by rfl) :
   PI X tg (.Call (.Name "range" p) [a, b] [] pos) (aed ta) := by
 intro pins s σ H R I h
 refine Call_ (mW I hg hm boot_range (anj (gH (ha pos pins s σ H _ I h) fun us s1 zz => ?_) (by rw [hs, G3]) (by rw [G3]; rfl)))
 obtain ⟨vs, H1, I1, r1, q1⟩ := zz
 obtain ⟨i, j, e, ⟨q1, q2, q3, q4⟩, q⟩ := q1
 subst e
 cases r1 with
 | cons r rr =>
   cases rr with
   | cons r' rr =>
     cases rr
     obtain ⟨t, rfl⟩ := r
     obtain ⟨t', rfl⟩ := r'
     exact call_range_2 (Hf I1 q1 q2 q3 q4 q)
noncomputable def ahc (wi : TI) (g : TG) (tb : TS) : TS := fun D σ H => wi σ H fun J H1 => ∃ W : Nat -> Nat -> St -> Hp -> Prop, (∃ m, W 0 m σ H1) /\ ∀ i m σ H, W i m σ H →
 (J.stop i H /\ D.nx σ H) \/ (J.go i H /\ ∃ N : St -> Hp -> Prop, (∀ σ' H', N σ' H' -> ∃ m', m' < m /\ W (i + 1) m' σ' H') /\ ∀ x H', J.Y0 i H x H' -> g x σ H' fun σ2 H2 => tb { D with nx := N, ct := N, bk := D.nx } σ2 H2)
noncomputable def zM (fp : List Addr) (h : Heap) : List (Addr × Obj) := fp.filterMap fun b => (h.get? b).map fun o => (b, o)
theorem oj {fp : List Addr} {h : Heap} {b : Addr} {o : Obj} (hb : b ∈ fp) (e : h.get? b = some o) : (b, o) ∈ zM fp h := List.mem_filterMap.mpr ⟨b, hb, by rw [e]; rfl⟩
theorem Ov {fp : List Addr} {h : Heap} {p : Addr × Obj} (hp : p ∈ zM fp h) : p.1 ∈ fp /\ h.get? p.1 = some p.2 := by
 obtain ⟨b, hb, e⟩ := List.mem_filterMap.mp hp
 cases q : h.get? b with
 | none => rw [q] at e; cases e
 | some o =>
   rw [q] at e
   have e' : (b, o) = p := am3 e
   subst e'
   exact ⟨hb, q⟩
theorem Inv.pinned {pins : List (Addr × Obj)} {σ : St} {H : Hp} {s : Shared} {fp : List Addr} (I : Inv X pins σ H s) (hf : ∀ b ∈ fp, yI X pins H b) (ho : ∀ b ∈ fp, ∃ o, s.heap.get? b = some o /\ ∀ v, o.data ≠ .cell v) : Inv X (pins ++ zM fp s.heap) σ H s :=
 I.yS fun p hp => (amn.mp hp).elim (fun z => I.pin p (amh _ z)) fun z => by
   obtain ⟨hb, e⟩ := Ov z
   obtain ⟨f0, f1, f2, _⟩ := hf p.1 hb
   obtain ⟨o, e', d⟩ := ho p.1 hb
   rw [e] at e'; cases e'
   exact ⟨e, f0, f1, f2, d⟩
theorem Inv.uP {pins pl : List (Addr × Obj)} {σ : St} {H : Hp} {s : Shared} (I : Inv X (pins ++ pl) σ H s) : Inv X pins σ H s := I.yS fun p hp => I.pin p (amh _ (ams _ hp))
theorem aac {iter : Expr} {body : List Stmt} {wi : TI} {g : TG} {tb : TS} {pos : Pos} (hp : PassesOwn (model X.prog X.w) X.A X.env X.xe) (hc : X.calm = true) (hi : PI X tg iter wi) (hg : PG X tg g) (hb : M3 X body tb)
   (hs : ∀ x, foldedSetIterable iter X.env x = pure x := by intro _; rfl) : PS X (.For tg iter body [] pos) (ahc wi g tb) := by
 intro pins s σ H D I h
 refine wpAny_For (gH (hi pins s σ H _ I h) fun v s1 h1 => gH h1 fun itv s2 h2 => ?_) hs
 obtain ⟨it, fp, tn, J, H2, e, I2, T, st2, f2, W, ⟨m0, w0⟩, turn⟩ := h2
 subst e
 have stat : ∀ {H' : Hp}, (∀ b ∈ fp, H' b = none) -> ∀ b ∈ fp, yI X pins H' b := fun hn b hb => ⟨hn b hb, (f2 b hb).2⟩
 refine codeAny_forLoop_any (fun n s' => ∃ i σ' H', Inv X pins σ' H' s' /\ tn i s'.heap /\ (∀ b ∈ fp, H' b = none) /\ W i n σ' H') ?_ m0 ⟨0, σ, H2, I2, st2, fun b hb => (f2 b hb).1, w0⟩
 rintro n s3 ⟨i, σ3, H3, I3, st3, fr3, w3⟩
 rcases turn i n σ3 H3 w3 with ⟨stop, qn⟩ | ⟨go, N, hN, step⟩
 . refine anT hp (gH (T.done X rfl rfl rfl hc i pins s3 σ3 H3 X.xe I3 (stat fr3) st3 stop) fun r s4 zz => ?_)
   obtain ⟨hr, I4⟩ := zz
   subst hr
   exact wpAny_execs_nil ⟨σ3, H3, I4, qn⟩
 . refine anT hp (gH (T.item X rfl rfl rfl hc i pins s3 σ3 H3 X.xe I3 (stat fr3) st3 go) fun r s4 zz => ?_)
   obtain ⟨u, hr, h4⟩ := zz
   subst hr
   refine anT hp (gH h4 fun _ s5 zz => ?_)
   obtain ⟨x, H5, I5, r5, y5, st5, fr5⟩ := zz
   have I5' := I5.pinned (stat fr5) (T.obj _ _ st5)
   refine anT hp (gH (hg _ s5 σ3 H5 x u _ I5' r5 (step x H5 y5)) fun _ s6 zz => ?_)
   obtain ⟨σ6, H6, I6, q6⟩ := zz
   refine anT hp (gH (hb _ s6 σ6 H6 _ I6 q6) fun f s7 q7 => ?_)
   have again : ∀ {σ7 : St} {H7 : Hp}, Inv X (pins ++ zM fp s5.heap) σ7 H7 s7 -> N σ7 H7 -> ∃ m, m < n /\ ∃ i σ' H', Inv X pins σ' H' s7 /\ tn i s7.heap /\ (∀ b ∈ fp, H' b = none) /\ W i m σ' H' := fun {σ7 H7} I7 n7 => by
     obtain ⟨m', hm, w7⟩ := hN σ7 H7 n7
     refine ⟨m', hm, i + 1, σ7, H7, I7.uP, T.keep _ _ _ st5 fun b hb o e => (I7.pin (b, o) (amh _ (amh _ (oj hb e)))).1, fun b hb => ?_, w7⟩
     obtain ⟨o, e, d⟩ := T.obj _ _ st5 b hb
     exact (I7.pin (b, o) (amh _ (amh _ (oj hb e)))).2.1
   cases f with
   | next => obtain ⟨σ7, H7, I7, n7⟩ := q7; exact again I7 n7
   | cont => obtain ⟨σ7, H7, I7, n7⟩ := q7; exact again I7 n7
   | brk => obtain ⟨σ7, H7, I7, q7⟩ := q7; exact ⟨σ7, H7, I7.uP, q7⟩
   | ret v => obtain ⟨x7, σ7, H7, I7, r7, q7⟩ := q7; exact ⟨x7, σ7, H7, I7.uP, r7, q7⟩
end
noncomputable abbrev R2 := V -> V -> Hp -> VK -> Prop
noncomputable def zN (X : Cx) (f : Value -> Value -> Sem Value) (r : R2) : Prop :=
 ∀ (pins : List (Addr × Obj)) (s : Shared) (σ : St) (H : Hp) (x y : V) (v u : Value) (Q : VK), Inv X pins σ H s -> RelV x v -> RelV y u -> r x y H Q →
   wpAny (model X.prog X.w) X.A (f v u) (EP X pins σ Q) X.xe s
noncomputable def UnR (X : Cx) (f : Value -> Sem Value) (r : V -> Hp -> VK -> Prop) : Prop :=
 ∀ (pins : List (Addr × Obj)) (s : Shared) (σ : St) (H : Hp) (x : V) (v : Value) (Q : VK), Inv X pins σ H s -> RelV x v -> r x H Q →
   wpAny (model X.prog X.w) X.A (f v) (EP X pins σ Q) X.xe s
noncomputable def qj (X : Cx) (f : Value) (r : List V -> Hp -> VK -> Prop) : Prop :=
 ∀ (pins : List (Addr × Obj)) (s : Shared) (σ : St) (H : Hp) (xs : List V) (us : List Value) (Q : VK), Inv X pins σ H s -> Vals xs us -> r xs H Q →
   wpAny (model X.prog X.w) X.A (call f us) (EP X pins σ Q) X.xe s
noncomputable def tOp (r : R2) (ta tb : TE) : TE := fun σ H Q => ta σ H fun x H1 => tb σ H1 fun y H2 => r x y H2 Q
noncomputable def tUn (r : V -> Hp -> VK -> Prop) (ta : TE) : TE := fun σ H Q => ta σ H fun x H1 => r x H1 Q
noncomputable def rI (C : Int -> Int -> Prop) (g : Int -> Int -> V) : R2 := fun x y H Q => ∃ i j, x = .int i /\ y = .int j /\ C i j /\ Q (g i j) H
noncomputable def rI0 (g : Int -> Int -> V) : R2 := fun x y H Q => ∃ i j, x = .int i /\ y = .int j /\ Q (g i j) H
noncomputable def rU (g : Int -> V) : V -> Hp -> VK -> Prop := fun x H Q => ∃ i, x = .int i /\ Q (g i) H
section
variable {X : Cx} {a b c : Expr} {ta tb tc : TE} {pos : Pos}
theorem aad (ha : PE X a ta) (hb : PE X b tb) {pins : List (Addr × Obj)} {s : Shared} {σ : St} {H : Hp} {R : V -> V -> Hp -> Prop} (I : Inv X pins σ H s)
   (h : ta σ H fun x H1 => tb σ H1 fun y H2 => R x y H2) {Q : Value -> Shared -> Prop} {f : Value -> Value -> Sem Value}
   (hf : ∀ v u s2 x y H2, Inv X pins σ H2 s2 -> RelV x v -> RelV y u -> R x y H2 -> wpAny (model X.prog X.w) X.A (f v u) Q X.xe s2) :
   wpAny (model X.prog X.w) X.A (eval a X.env) (fun v s₁ => wpAny (model X.prog X.w) X.A (eval b X.env) (fun u s₂ => wpAny (model X.prog X.w) X.A (f v u) Q X.xe s₂) X.xe s₁) X.xe s := by
 refine gH (ha pins s σ H _ I h) fun v s1 zz => ?_
 obtain ⟨x, H1, I1, r1, q1⟩ := zz
 refine gH (hb pins s1 σ H1 _ I1 q1) fun u s2 zz => ?_
 obtain ⟨y, H2, I2, r2, q2⟩ := zz
 exact hf v u s2 x y H2 I2 r1 r2 q2
theorem QV {op : Operator} {r : R2} (ho : zN X (binaryOp op) r) (ha : PE X a ta) (hb : PE X b tb) : PE X (.BinOp a op b pos) (tOp r ta tb) := by
 intro pins s σ H Q I h
 exact wpAny_BinOp (aad ha hb I h fun v u s2 x y H2 I2 rx ry q => ho pins s2 σ H2 x y v u Q I2 rx ry q)
theorem aef {op : UnaryOp} {r : V -> Hp -> VK -> Prop} (ho : UnR X (unaryOp op) r) (ha : PE X a ta) : PE X (.UnaryOp op a pos) (tUn r ta) := by
 intro pins s σ H Q I h
 exact UnaryOp_ (gH (ha pins s σ H _ I h) fun v s1 ⟨x, H1, I1, r1, q1⟩ => ho pins s1 σ H1 x v Q I1 r1 q1)
theorem opI {f : Value -> Value -> Sem Value} {C : Int -> Int -> Prop} {g : Int -> Int -> Int}
   (rule : ∀ (i j : Int) (t u : Tok) (s : Shared) (Q : Value -> Shared -> Prop) (E : Value -> Shared -> Prop), C i j -> Q (.int (g i j) s.toks) { s with toks := s.toks + 1 } -> wpAny (model X.prog X.w) X.A (f (.int i t) (.int j u)) Q E s) :
   zN X f (rI C fun i j => .int (g i j)) := by
 intro pins s σ H x y v u Q I rx ry h
 obtain ⟨i, j, rfl, rfl, hc, q⟩ := h
 obtain ⟨t, rfl⟩ := rx
 obtain ⟨t', rfl⟩ := ry
 exact rule i j t t' s _ _ hc ⟨.int (g i j), H, I.tok _, ⟨_, rfl⟩, q⟩
theorem aeg {f : Value -> Value -> Sem Value} {g : Int -> Int -> Int}
   (rule : ∀ (i j : Int) (t u : Tok) (s : Shared) (Q : Value -> Shared -> Prop) (E : Value -> Shared -> Prop), Q (.int (g i j) s.toks) { s with toks := s.toks + 1 } -> wpAny (model X.prog X.w) X.A (f (.int i t) (.int j u)) Q E s) :
   zN X f (rI0 fun i j => .int (g i j)) := by
 intro pins s σ H x y v u Q I rx ry h
 obtain ⟨i, j, rfl, rfl, q⟩ := h
 obtain ⟨t, rfl⟩ := rx
 obtain ⟨t', rfl⟩ := ry
 exact rule i j t t' s _ _ ⟨.int (g i j), H, I.tok _, ⟨_, rfl⟩, q⟩
theorem aeh {f : Value -> Value -> Sem Value} {g : Int -> Int -> Bool}
   (rule : ∀ (i j : Int) (t u : Tok) (s : Shared) (Q : Value -> Shared -> Prop) (E : Value -> Shared -> Prop), Q (.bool (g i j)) s -> wpAny (model X.prog X.w) X.A (f (.int i t) (.int j u)) Q E s) :
   zN X f (rI0 fun i j => .bl (g i j)) := by
 intro pins s σ H x y v u Q I rx ry h
 obtain ⟨i, j, rfl, rfl, q⟩ := h
 obtain ⟨t, rfl⟩ := rx
 obtain ⟨t', rfl⟩ := ry
 exact rule i j t t' s _ _ ⟨.bl (g i j), H, I, rfl, q⟩
noncomputable def aei (i j : Int) : Prop := 0 < j /\ j < 1073741824
noncomputable def aej (i j : Int) : Prop := 0 <= j /\ j <= 1000000 /\ i.natAbs < 2 ^ 64
noncomputable def Vv (i j : Int) : Prop := (-(2 ^ 64) < i /\ i < 2 ^ 64) \/ (-(2 ^ 64) < j /\ j < 2 ^ 64)
theorem Vv.ok {i j : Int} (h : Vv i j) : IntMulOk i j := by
 rcases h with ⟨h1, h2⟩ | ⟨h1, h2⟩
 . exact .of_left (intBits_le_64 h1 h2)
 . exact .of_right (intBits_le_64 h1 h2)
theorem aae : zN X (binaryOp .Add) (rI0 fun i j => .int (i + j)) := aeg fun _ _ _ _ _ _ _ q => add_int q
theorem aaf : zN X (binaryOp .Sub) (rI0 fun i j => .int (i - j)) := aeg fun _ _ _ _ _ _ _ q => sub_int q
theorem aag : zN X (binaryOp .Mult) (rI Vv fun i j => .int (i * j)) := opI fun _ _ _ _ _ _ _ hc q => mul_int q hc.ok
theorem Vw : zN X (binaryOp .FloorDiv) (rI aei fun i j => .int (i / j)) := opI fun i j _ _ _ _ _ hc q => by
 have h1 : (0 : Int) < j := hc.1
 have h2 : j < 1073741824 := hc.2
 exact floordiv_int (by omega) (by rw [Int.fdiv_eq_ediv_of_nonneg i (by omega)]; exact q) (.inl (PyProof.noPylong_small (by omega)))
theorem aah : zN X (binaryOp .Mod) (rI (fun _ j => 0 < j) fun i j => .int (i % j)) := opI fun i j _ _ _ _ _ hc q => by
 have h1 : (0 : Int) < j := hc
 exact mod_int' (by omega) (by rw [Int.fmod_eq_emod_of_nonneg i (by omega)]; exact q)
theorem aai : zN X (binaryOp .Pow) (rI aej fun i j => .int (i ^ j.toNat)) := opI fun _ _ _ _ _ _ _ hc q => pow_int_small hc.1 hc.2.1 hc.2.2 q
theorem unI {f : Value -> Sem Value} {g : Int -> Int}
   (rule : ∀ (i : Int) (t : Tok) (s : Shared) (Q : Value -> Shared -> Prop) (E : Value -> Shared -> Prop), Q (.int (g i) s.toks) { s with toks := s.toks + 1 } -> wpAny (model X.prog X.w) X.A (f (.int i t)) Q E s) :
   UnR X f (rU fun i => .int (g i)) := by
 intro pins s σ H x v Q I rx h
 obtain ⟨i, rfl, q⟩ := h
 obtain ⟨t, rfl⟩ := rx
 exact rule i t s _ _ ⟨.int (g i), H, I.tok _, ⟨_, rfl⟩, q⟩
theorem aaj : UnR X (unaryOp .USub) (rU fun i => .int (-i)) := unI fun _ _ _ _ _ q => neg_int q
end
noncomputable def aek : V -> V -> Bool
 | .non, .non => true | .non, .int _ => true | .int _, .non => true | .non, .bl _ => true | .bl _, .non => true | .non, .str _ => true | .str _, .non => true
 | .int _, .int _ => true | .bl _, .bl _ => true | .str _, .str _ => true | .Qu _, .Qu _ => true
 | .int _, .str _ => true | .str _, .int _ => true | .bl _, .str _ => true | .str _, .bl _ => true
 | _, _ => false
noncomputable def rEq : R2 := fun x y H Q => aek x y = true /\ Q (.bl (decide (x = y))) H
noncomputable def rNe : R2 := fun x y H Q => aek x y = true /\ Q (.bl (!decide (x = y))) H
theorem M4 {i j : Int} : decide (V.int i = V.int j) = (i == j) := by
 rw [aok]
 simp
theorem QW {i j : Bool} : decide (V.bl i = V.bl j) = (i == j) := by
 rw [aok]
 simp
theorem M5 {i j : Str} : decide (V.str i = V.str j) = (i == j) := by
 rw [aok]
 simp
theorem M6 {i j : Array UInt8} : decide (V.Qu i = V.Qu j) = (i.toList == j.toList) := by
 rw [aok]
 cases i
 cases j
 simp
section
variable {X : Cx} {a b c : Expr} {ta tb tc : TE} {pos : Pos}
theorem dh {pins : List (Addr × Obj)} {σ : St} {H : Hp} {s : Shared} {Q : VK} {k k' : Bool} (I : Inv X pins σ H s) (q : Q (.bl k) H) (e : k = k') : EP X pins σ Q (.bool k') s := by
 subst e
 exact ⟨.bl k, H, I, rfl, q⟩
theorem Y4 : zN X (compareOp .Eq) rEq := by
 intro pins s σ H x y v u Q I rx ry h
 obtain ⟨hs, q⟩ := h
 cases x with
 | non =>
   cases rx
   cases y with
   | non => cases ry; exact PySem.EqNone.eq_none_none (dh I q (by simp))
   | bl j => cases ry; exact PySem.EqNone.eq_none_bool (dh I q (by simp))
   | int j => obtain ⟨t', rfl⟩ := ry; exact PySem.EqNone.eq_none_int (dh I q (by simp))
   | str j => obtain ⟨t', rfl⟩ := ry; exact PySem.EqNone.eq_none_str (dh I q (by simp))
   | _ => exact absurd (show false = true from hs) amv
 | bl i =>
   cases rx
   cases y with
   | non => cases ry; exact PySem.EqNone.eq_bool_none (dh I q (by simp))
   | bl j => cases ry; exact eq_bool (dh I q QW)
   | str j => obtain ⟨t', rfl⟩ := ry; exact PySem.EqMixed.eq_bool_str (dh I q (by simp))
   | _ => exact absurd (show false = true from hs) amv
 | int i =>
   obtain ⟨t, rfl⟩ := rx
   cases y with
   | non => cases ry; exact PySem.EqNone.eq_int_none (dh I q (by simp))
   | int j => obtain ⟨t', rfl⟩ := ry; exact eq_int (dh I q M4)
   | str j => obtain ⟨t', rfl⟩ := ry; exact PySem.EqMixed.eq_int_str (dh I q (by simp))
   | _ => exact absurd (show false = true from hs) amv
 | str i =>
   obtain ⟨t, rfl⟩ := rx
   cases y with
   | non => cases ry; exact PySem.EqNone.eq_str_none (dh I q (by simp))
   | bl j => cases ry; exact PySem.EqMixed.eq_str_bool (dh I q (by simp))
   | int j => obtain ⟨t', rfl⟩ := ry; exact PySem.EqMixed.eq_str_int (dh I q (by simp))
   | str j => obtain ⟨t', rfl⟩ := ry; exact eq_str (dh I q M5)
   | _ => exact absurd (show false = true from hs) amv
 | Qu i =>
   obtain ⟨t, rfl⟩ := rx
   cases y with
   | Qu j => obtain ⟨t', rfl⟩ := ry; exact PySem.W.eq_bytes (dh I q M6)
   | _ => exact absurd (show false = true from hs) amv
 | _ => cases y <;> exact absurd (show false = true from hs) amv
theorem QX : zN X (compareOp .NotEq) rNe := by
 intro pins s σ H x y v u Q I rx ry h
 obtain ⟨hs, q⟩ := h
 cases x with
 | non =>
   cases rx
   cases y with
   | non => cases ry; exact PySem.EqNone.ne_none_none (dh I q (by simp))
   | bl j => cases ry; exact PySem.EqNone.ne_none_bool (dh I q (by simp))
   | int j => obtain ⟨t', rfl⟩ := ry; exact PySem.EqNone.ne_none_int (dh I q (by simp))
   | str j => obtain ⟨t', rfl⟩ := ry; exact PySem.EqNone.ne_none_str (dh I q (by simp))
   | _ => exact absurd (show false = true from hs) amv
 | bl i =>
   cases rx
   cases y with
   | non => cases ry; exact PySem.EqNone.ne_bool_none (dh I q (by simp))
   | bl j => cases ry; exact ne_bool (dh I q (congrArg not QW))
   | str j => obtain ⟨t', rfl⟩ := ry; exact PySem.EqMixed.ne_bool_str (dh I q (by simp))
   | _ => exact absurd (show false = true from hs) amv
 | int i =>
   obtain ⟨t, rfl⟩ := rx
   cases y with
   | non => cases ry; exact PySem.EqNone.ne_int_none (dh I q (by simp))
   | int j => obtain ⟨t', rfl⟩ := ry; exact ne_int (dh I q (congrArg not M4))
   | str j => obtain ⟨t', rfl⟩ := ry; exact PySem.EqMixed.ne_int_str (dh I q (by simp))
   | _ => exact absurd (show false = true from hs) amv
 | str i =>
   obtain ⟨t, rfl⟩ := rx
   cases y with
   | non => cases ry; exact PySem.EqNone.ne_str_none (dh I q (by simp))
   | bl j => cases ry; exact PySem.EqMixed.ne_str_bool (dh I q (by simp))
   | int j => obtain ⟨t', rfl⟩ := ry; exact PySem.EqMixed.ne_str_int (dh I q (by simp))
   | str j => obtain ⟨t', rfl⟩ := ry; exact ne_str (dh I q (congrArg not M5))
   | _ => exact absurd (show false = true from hs) amv
 | Qu i =>
   obtain ⟨t, rfl⟩ := rx
   cases y with
   | Qu j => obtain ⟨t', rfl⟩ := ry; exact PySem.W.ne_bytes (dh I q (congrArg not M6))
   | _ => exact absurd (show false = true from hs) amv
 | _ => cases y <;> exact absurd (show false = true from hs) amv
theorem ael : zN X (compareOp .Lt) (rI0 fun i j => .bl (decide (i < j))) := aeh fun _ _ _ _ _ _ _ q => lt_int q
theorem aem : zN X (compareOp .Gt) (rI0 fun i j => .bl (decide (j < i))) := aeh fun _ _ _ _ _ _ _ q => gt_int q
theorem tX (b : Expr) {op : CmpOp} (h : op ≠ .In := by decide) (h2 : op ≠ .NotIn := by decide) : behindInMarks op b = false := by
 have e1 : (op == CmpOp.In) = false := by cases op <;> first | rfl | exact absurd rfl h
 have e2 : (op == CmpOp.NotIn) = false := by cases op <;> first | rfl | exact absurd rfl h2
 cases b <;> simp [behindInMarks, e1, e2]
theorem Dz {op : CmpOp} {r : R2} (ho : zN X (compareOp op) r) (ha : PE X a ta) (hb : PE X b tb) (hm : behindInMarks op b = false) : PE X (.Compare a [op] [b] pos) (tOp r ta tb) := by
 intro pins s σ H Q I h
 exact wpAny_Compare1 (aad ha hb I h fun v u s2 x y H2 I2 rx ry q => ho pins s2 σ H2 x y v u Q I2 rx ry q) hm
noncomputable def aen (t : TE) : TT := fun σ H Q => t σ H fun x H' => ∃ k, x = .bl k /\ Q k H'
theorem DB {op : CmpOp} {r : R2} (ho : zN X (compareOp op) r) (ha : PE X a ta) (hb : PE X b tb) (hm : behindInMarks op b = false) : PT X (.Compare a [op] [b] pos) (aen (tOp r ta tb)) := by
 intro pins s σ H Q I h
 refine wpAny_isTrue_Compare1 (gH (ha pins s σ H _ I h) fun v s1 ⟨x, H1, I1, r1, q1⟩ => gH (hb pins s1 σ H1 _ I1 q1) fun u s2 ⟨y, H2, I2, r2, q2⟩ =>
   gH (ho pins s2 σ H2 x y v u _ I2 r1 r2 q2) fun c s3 ⟨z, H3, I3, r3, k, e, q3⟩ => ?_) hm
 subst e
 cases r3
 exact an7 ⟨H3, I3, q3⟩
theorem zO : (sizeLine : Nat) < 2 ^ 63 := by rw [anq]; decide
theorem JV : zN X (binaryOp .Add) (fun x y H Q => ∃ i j, x = .str i /\ y = .str j /\ i.length + j.length <= sizeLine /\ Q (.str (i ++ j)) H) := by
 intro pins s σ H x y v u Q I rx ry h
 obtain ⟨i, j, rfl, rfl, hz, q⟩ := h
 obtain ⟨t, rfl⟩ := rx
 obtain ⟨t', rfl⟩ := ry
 exact add_str (fun t' tk => ⟨.str (i ++ j), H, I.tok _, ⟨_, rfl⟩, q⟩) hz
theorem vals1 {x : V} {us : List Value} (r : Vals [x] us) : ∃ u, us = [u] /\ RelV x u := by
 cases r with
 | cons r1 r2 => cases r2; exact ⟨_, rfl, r1⟩
theorem vals2 {x y : V} {us : List Value} (r : Vals [x, y] us) : ∃ u w', us = [u, w'] /\ RelV x u /\ RelV y w' := by
 cases r with
 | cons r1 r2 =>
   cases r2 with
   | cons r3 r4 => cases r4; exact ⟨_, _, rfl, r1, r3⟩
theorem Ow (hc : X.calm = true) : qj X (.builtin "max") (fun xs H Q => ∃ i j, xs = [.int i, .int j] /\ Q (.int (if j > i then j else i)) H) := by
 intro pins s σ H xs us Q I r h
 obtain ⟨i, j, rfl, q⟩ := h
 obtain ⟨u, w', rfl, ⟨t, rfl⟩, ⟨t', rfl⟩⟩ := vals2 r
 refine max_two_ints (I.ok.hd hc) fun h' tk k => ⟨_, H, I.kept k, ?_, q⟩
 by_cases hj : j > i
 . rw [amo hj, amo hj]; exact ⟨_, rfl⟩
 . rw [amk hj, amk hj]; exact ⟨_, rfl⟩
theorem Ox (hc : X.calm = true) : qj X (.builtin "min") (fun xs H Q => ∃ i j, xs = [.int i, .int j] /\ Q (.int (if j < i then j else i)) H) := by
 intro pins s σ H xs us Q I r h
 obtain ⟨i, j, rfl, q⟩ := h
 obtain ⟨u, w', rfl, ⟨t, rfl⟩, ⟨t', rfl⟩⟩ := vals2 r
 refine min_two_ints (I.ok.hd hc) fun h' tk k => ⟨_, H, I.kept k, ?_, q⟩
 by_cases hj : j < i
 . rw [amo hj, amo hj]; exact ⟨_, rfl⟩
 . rw [amk hj, amk hj]; exact ⟨_, rfl⟩
theorem Oz : qj X (.type "int") (fun xs H Q => (∃ i, xs = [.int i] /\ Q (.int i) H) \/ ∃ k, xs = [.bl k] /\ Q (.int (if k then 1 else 0)) H) := by
 intro pins s σ H xs us Q I r h
 rcases h with ⟨i, rfl, q⟩ | ⟨k, rfl, q⟩
 . obtain ⟨u, rfl, t, rfl⟩ := vals1 r
   exact call_int_int ⟨.int i, H, I, ⟨_, rfl⟩, q⟩
 . obtain ⟨u, rfl, r1⟩ := vals1 r
   cases r1
   exact call_int_bool ⟨.int (if k then 1 else 0), H, I.tok _, ⟨_, rfl⟩, q⟩
theorem DC : qj X (.type "str") (fun xs H Q => ∃ i, xs = [.int i] /\ i.natAbs.log2 < 1920 /\ Q (.str (toString i)) H) := by
 intro pins s σ H xs us Q I r h
 obtain ⟨i, rfl, hz, q⟩ := h
 obtain ⟨u, rfl, t, rfl⟩ := vals1 r
 exact PySem.P.str_of_int hz ⟨.str _, H, I.tok _, ⟨_, rfl⟩, q⟩
end
structure OB (h : Heap) (x dx C : Addr) (mA : Str -> Option Value) : Prop where
 obj : h.get? x = some (PySem.W.instObj C dx)
 ns : h.Ns1 dx mA
 ne : dx ≠ x
theorem OD {h : Heap} {dx : Addr} {mA : Str -> Option Value} (n : h.Ns1 dx mA) : ∃ od, h.get? dx = some od /\ ∀ name, PySem.W.lookIn name od = some (mA name) := by
 obtain ⟨o, es, ep, ho, hd, hk, _, hm⟩ := n
 refine ⟨o, ho, fun name => ?_⟩
 have e := hm name
 unfold nsFind findBy at e
 rw [← Array.find?_toList] at e
 unfold PySem.W.lookIn
 rw [hd]
 dsimp only
 split
 . rename_i y q
   rw [q] at e
   exact congrArg some e
 . rename_i q
   rw [q] at e
   have a : es.toList.any (·.refKey) = false := by
     rw [List.any_eq_false]
     intro y hy
     obtain ⟨z, t, ahf⟩ := hk y (Array.mem_toList_iff.mp hy)
     simp [DictEntry.refKey, ahf]
   have a' : ¬ es.toList.any (·.refKey) = true := by rw [a]; exact amv
   rw [amk a']
   exact congrArg some e
theorem OB.look {h : Heap} {x dx C : Addr} {mA : Str -> Option Value} (I : OB h x dx C mA) : ∃ od, PySem.W.InstAt h x (PySem.W.instObj C dx) C (some od) /\ ∀ name, PySem.W.lookIn name od = some (mA name) :=
 let ⟨od, ho, hl⟩ := OD I.ns
 ⟨od, ⟨I.obj, rfl, rfl, ho⟩, hl⟩
section
variable {prog : Program} {w : World} {A : Around} {E : Value -> Shared -> Prop} {s : Shared} {K : PySem.W.Frag} {x dx C f : Addr} {mA : Str -> Option Value} {name : Str} {v : Value}
theorem get_map {expr : Bool} {Q : Value -> Shared -> Prop} (X : K.In s.heap) (I : OB s.heap x dx C mA) (hg : PySem.W.plainGet K C name = true) (hh : PySem.W.hasDictIn K C = true)
   (ha : PySem.W.findIn K (.ref C) name = some none) (hv : mA name = some v) (hv' : PySem.W.handedIn v = true) (h : Q v { s with toks := s.toks + 1 }) :
   wpAny (model prog w) A (getAttr (.ref x) name expr) Q E s := by
 obtain ⟨od, J, hl⟩ := I.look
 exact PySem.W.get_value X J (PySem.W.plainGet_of hg).1 (PySem.W.findObj_own hh ha rfl (by rw [hl, hv])) hv' h
theorem Vx {ns : List Str} {Q : Unit -> Shared -> Prop} (X : K.In s.heap) (I : OB s.heap x dx C mA)
   (hs : PySem.W.findIn K (.ref C) "__setattr__" = some (some (.builtin "object.__setattr__"))) (hp : PySem.W.plainOver K C = true) (ht : PySem.W.takerIn K C name = some none) (hh : PySem.W.hasDictIn K C = true)
   (hw : PySem.Within mA ns) (Vy : ns.length <= sizeLine)
   (h : ∀ h', OB h' x dx C (fun y => if y = name then some v else mA y) -> Heap.SameBut dx s.heap h' -> Q () { s with heap := h', toks := s.toks + 2 }) :
   wpAny (model prog w) A (setAttr (.ref x) name v) Q E s := by
 obtain ⟨od, J, hl⟩ := I.look
 refine PySem.W.set_plain X J hs (PySem.W.osa_open (s := { s with toks := s.toks + 1 }) (r := none) X J hp ht fun b => ?_)
 obtain ⟨cd, hc, hd'⟩ := PySem.W.any_some hh
 have hx : s.heap.get? x = some ⟨.ref C, some dx, .plain, #[]⟩ := I.obj
 refine amG (ang (amG (amG (wpAny_loadPart hx (amG (PySem.W.Looks.here (s := { s with toks := s.toks + 1 }) (PySem.W.looks_clsIn X hc) ?_))))))
 rw [hd']
 refine ang (a := some dx) (amG (ang (amG ?_)))
 refine wpAny_nsSet1 (s := { s with toks := s.toks + 1 }) I.ns fun h' hn2 G3 => ?_
 obtain ⟨oD, esD, epD, hoD, hdD, hcD⟩ := hn2.count (PySem.Within.cons name v hw)
 refine amG (wpAny_lookBehind hoD (by rw [hdD]; exact pastItsLine_dict (am0 hcD (by rw [amA]; omega))) ?_)
 exact ang (h _ ⟨(G3.2 _ (anQ I.ne)).trans I.obj, hn2, I.ne⟩ G3)
theorem QY {R : Result -> Shared -> Prop} {vs : List Value} {kw : List (Str × Value)} (X : K.In s.heap) (hm : PySem.W.makesIn K C = true)
   (hi : PySem.W.findIn K (.ref C) "__init__" = some (some (.ref f))) (hf : PySem.W.typeIn K (.ref f) = some (.type "function"))
   (h : codeAny (model prog w) (A.under (.builtin "type.__call__" ⟨.ref C :: vs, kw⟩)) (.call (.ref f) ⟨.ref (s.heap.objs.size + 1) :: vs, kw⟩) (PySem.W.InitBack (s.heap.objs.size + 1) R)
     { s with heap := (s.heap.push PySem.W.emptyDict).push (PySem.W.instObj C s.heap.objs.size) }) :
   codeAny (model prog w) A (.call (.ref C) ⟨vs, kw⟩) R s := by
 obtain ⟨hh, g, d, t, os⟩ := s
 exact PySem.W.make_core (PySem.W.makes_of X hm) (PySem.W.looks_findIn X hi) (fun self => PySem.W.bind_fn X self hf) (.inl rfl) h
end
noncomputable def lz (f : Str) (v : V) : List (Str × V) -> List (Str × V)
 | [] => [(f, v)]
 | (g, x) :: r => if g = f then (g, v) :: r else (g, x) :: lz f v r
theorem yj (f g : Str) (v : V) : ∀ fs : List (Str × V), (lz f v fs).lookup g = if g = f then some v else fs.lookup g
 | [] => by
   show List.lookup g [(f, v)] = _
   by_cases h : g = f
   . have hb : (g == f) = true := aop.mpr h
     simp only [List.lookup, hb, amo h]
   . have hb : (g == f) = false := aoj.mpr h
     simp only [List.lookup, hb, amk h]
 | (k, x) :: r => by
   have ih := yj f g v r
   rw [show lz f v ((k, x) :: r) = (if k = f then (k, v) :: r else (k, x) :: lz f v r) from rfl]
   by_cases hk : k = f
   . rw [amo hk]
     by_cases h : g = k
     . have hb : (g == k) = true := aop.mpr h
       simp only [List.lookup, hb, amo (h.trans hk)]
     . have hb : (g == k) = false := aoj.mpr h
       simp only [List.lookup, hb, amk (fun e : g = f => h (e.trans hk.symm))]
   . rw [amk hk]
     by_cases h : g = k
     . have hb : (g == k) = true := aop.mpr h
       simp only [List.lookup, hb, amk (fun e : g = f => hk (h.symm.trans e))]
     . have hb : (g == k) = false := aoj.mpr h
       simp only [List.lookup, hb]
       exact ih
theorem w9 (f : Str) (v : V) : ∀ fs : List (Str × V), f ∈ (lz f v fs).map (·.1) /\ ∀ g, g ∈ fs.map (·.1) -> g ∈ (lz f v fs).map (·.1)
 | [] => ⟨by simp [lz], fun g h => by simp at h⟩
 | (k, x) :: r => by
   obtain ⟨i1, i2⟩ := w9 f v r
   rw [show lz f v ((k, x) :: r) = (if k = f then (k, v) :: r else (k, x) :: lz f v r) from rfl]
   by_cases hk : k = f
   . rw [amo hk]
     subst hk
     exact ⟨by simp, fun g h => by simpa using h⟩
   . rw [amk hk]
     refine ⟨?_, fun g h => ?_⟩
     . rw [am6]
       exact ami _ i1
     . rw [am6] at h ⊢
       rcases amf.mp h with e | e
       . exact amf.mpr (.inl e)
       . exact ami _ (i2 g e)
theorem yk (f : Str) (v : V) : ∀ fs : List (Str × V), (lz f v fs).length <= fs.length + 1
 | [] => by simp [lz]
 | (k, x) :: r => by
   have ih := yk f v r
   rw [show lz f v ((k, x) :: r) = (if k = f then (k, v) :: r else (k, x) :: lz f v r) from rfl]
   by_cases hk : k = f
   . rw [amo hk, amA, amA]; omega
   . rw [amk hk, amA, amA]; omega
theorem JR.some_of {v : V} {o : Option Value} (r : JR (some v) o) : ∃ u, o = some u /\ RelV v u := by
 cases o with
 | none => exact (show False from r).elim
 | some u => exact ⟨u, rfl, r⟩
theorem OG {v : V} {u : Value} (r : RelV v u) : PySem.W.handedIn u = true := by
 cases v with
 | non => cases (show u = Value.none from r); rfl
 | bl b => cases (show u = Value.bool b from r); rfl
 | int i => obtain ⟨t, e⟩ := (show ∃ t, u = Value.int i t from r); cases e; rfl
 | str x => obtain ⟨t, e⟩ := (show ∃ t, u = Value.str x t from r); cases e; rfl
 | Qu b => obtain ⟨t, e⟩ := (show ∃ t, u = Value.bytes b t from r); cases e; rfl
 | flt b => obtain ⟨t, e⟩ := (show ∃ t, u = Value.float b t from r); cases e; rfl
 | ref a => cases (show u = Value.ref a from r); rfl
 | ty n => cases (show u = Value.type n from r); rfl
section
variable {P : Program} {w : World} {H H' : Hp} {h h' : Heap} {a C dx : Addr} {fs fs' : List (Str × V)}
theorem M7 (iP : yR P w H h) (e : H a = some (.ins C dx fs)) : ∃ mA, OB h a dx C mA /\ (∀ f, JR (fs.lookup f) (mA f)) /\ PySem.Within mA (fs.map (·.1)) /\ fs.length <= 1000 /\ H dx = some (.own a) := by
 obtain ⟨d, z, ne, ob, mA, n, r, q⟩ := (show ju P w H h a (.ins C dx fs) from iP a _ e)
 exact ⟨mA, ⟨ob, n, ne⟩, r, q, z, d⟩
end
structure tY (K : PySem.W.Frag) (C : Addr) : Prop where
 pg : PySem.W.plainGet K C Str.empty = true
 hd : PySem.W.hasDictIn K C = true
 po : PySem.W.plainOver K C = true
 sa : PySem.W.findIn K (.ref C) "__setattr__" = some (some (.builtin "object.__setattr__"))
theorem tY.get {K : PySem.W.Frag} {C : Addr} (c : tY K C) (f : Str) : PySem.W.plainGet K C f = true := c.pg
noncomputable def bE (K : PySem.W.Frag) (C : Addr) (f : Str) : Prop := PySem.W.findIn K (.ref C) f = some none
theorem bE.aeo {K : PySem.W.Frag} {C : Addr} {f : Str} (n : bE K C f) : PySem.W.takerIn K C f = some none := by
 unfold PySem.W.takerIn
 rw [show PySem.W.findIn K (.ref C) f = some none from n]
 rfl
section
variable {X : Cx} {pins : List (Addr × Obj)} {σ : St} {H : Hp} {s : Shared} {a C dx : Addr} {fs : List (Str × V)} {f : Str} {v : V} {A : Around} {E : Value -> Shared -> Prop}
theorem JW {b : Bool} {Q : Value -> Shared -> Prop} (I : Inv X pins σ H s) (e : H a = some (.ins C dx fs)) (c : tY X.K C) (n : bE X.K C f) (l : fs.lookup f = some v)
   (h : ∀ u s', Inv X pins σ H s' -> RelV v u -> Q u s') : wpAny (model X.prog X.w) A (getAttr (.ref a) f b) Q E s := by
 obtain ⟨mA, O, r, _, _, _⟩ := M7 I.iP e
 obtain ⟨u, hu, ru⟩ := JR.some_of (v := v) (o := mA f) (by rw [← l]; exact r f)
 exact get_map I.G0 O (c.get f) c.hd n hu (OG ru) (h u _ (I.tok _) ru)
theorem JX {y : V} {u : Value} {Q : Unit -> Shared -> Prop} (I : Inv X pins σ H s) (e : H a = some (.ins C dx fs)) (c : tY X.K C) (n : bE X.K C f) (hl : fs.length < 1000) (ry : RelV y u)
   (h : ∀ s', Inv X pins σ (upd H a (.ins C dx (lz f y fs))) s' -> Q () s') : wpAny (model X.prog X.w) A (setAttr (.ref a) f u) Q E s := by
 obtain ⟨mA, O, r, wi, _, ho⟩ := M7 I.iP e
 have hz : (fs.map (·.1)).length <= sizeLine := by rw [amc, anq]; omega
 refine Vx I.G0 O c.sa c.po n.aeo c.hd wi hz fun h' O' sb => h _ ?_
 have hd : ∃ o, h'.get? dx = some o := let ⟨o, _, _, e', _⟩ := O'.ns; ⟨o, e'⟩
 refine I.write (x := a) (e := dx) (by rw [e]; exact True.intro) (.inr ho) (fun b q hb z => (sb.2 b hb).trans z) hd ?_
 refine ⟨by rw [aH O.ne]; exact ho, ?_, O.ne, O'.obj, _, O'.ns, fun g => ?_, fun g hg => ?_⟩
 . have := yk f y fs; omega
 . show JR ((lz f y fs).lookup g) (if g = f then some u else mA g)
   rw [yj]
   by_cases q : g = f
   . rw [amo q, amo q]; exact ry
   . rw [amk q, amk q]; exact r g
 . by_cases q : g = f
   . rw [q]; exact (w9 f y fs).1
   . refine (w9 f y fs).2 g (wi g fun z => hg ?_)
     show (if g = f then some u else mA g) = none
     rw [amk q]; exact z
theorem Inv.made (I : Inv X pins σ H s) : Inv X pins σ (upd (upd H s.heap.objs.size (.own (s.heap.objs.size + 1))) (s.heap.objs.size + 1) (.ins C s.heap.objs.size []))
   { s with heap := (s.heap.push PySem.W.emptyDict).push (PySem.W.instObj C s.heap.objs.size) } := by
 have e1 : (s.heap.push PySem.W.emptyDict).get? s.heap.objs.size = some PySem.W.emptyDict := anb s.heap rfl
 have e2 : ((s.heap.push PySem.W.emptyDict).push (PySem.W.instObj C s.heap.objs.size)).get? (s.heap.objs.size + 1) = some (PySem.W.instObj C s.heap.objs.size) := by
   have := anb (s.heap.push PySem.W.emptyDict) (o := PySem.W.instObj C s.heap.objs.size) rfl
   rwa [Heap.size_push] at this
 have e3 : (s.heap.push PySem.W.emptyDict).Ns s.heap.objs.size (fun _ => none) := ⟨PySem.W.emptyDict, #[], _, e1, rfl, (fun e he => absurd he (by simp)), fun _ => rfl⟩
 have I1 := I.laid (a := s.heap.objs.size) (o := .own (s.heap.objs.size + 1)) (h' := s.heap.push PySem.W.emptyDict) (t' := s.toks) (fun b u q => amw _ q) (amu _) ⟨_, e1⟩
 refine I1.laid (a := s.heap.objs.size + 1) (o := .ins C s.heap.objs.size []) (t' := s.toks) (fun b u q => amw _ q) (Nat.le_of_eq (Heap.size_push _ _)) ?_
 have ne : s.heap.objs.size ≠ s.heap.objs.size + 1 := am7 (aoc _)
 refine ⟨by rw [aH ne, bW], amO _, ne, e2, fun _ => none, (Heap.Ns1.of_empty e3).at fun o q => amw _ q, fun _ => True.intro, fun y hy => absurd rfl hy⟩
theorem Vz {prog : Program} {w : World} {env : Env} {e : Expr} {f : Str} {pos : Pos} {s : Shared} {Q : Value -> Shared -> Prop} (hb : attributeBase e f env (eval e env) = eval e env)
   (h : wpAny (model prog w) A (eval e env) (fun o s₁ => wpAny (model prog w) A (getAttr o f true) Q E s₁) E s) : wpAny (model prog w) A (eval (.Attribute e f pos) env) Q E s :=
 Attribute_any_ h (by rw [arm_eval_Attribute, hb])
end
noncomputable def ahg (K : PySem.W.Frag) (ta : TE) (f : Str) : TE := fun σ H Q => ta σ H fun x H1 => ∃ a C dx fs v, x = .ref a /\ H1 a = some (.ins C dx fs) /\ tY K C /\ bE K C f /\ fs.lookup f = some v /\ Q v H1
noncomputable def ahh (K : PySem.W.Frag) (ta tv : TE) (f : Str) : TS := fun D σ H => tv σ H fun y H1 => ta σ H1 fun x H2 => ∃ a C dx fs, x = .ref a /\ H2 a = some (.ins C dx fs) /\ tY K C /\ bE K C f /\ fs.length < 1000 ∧
 D.nx σ (upd H2 a (.ins C dx (lz f y fs)))
section
variable {X : Cx} {o e value : Expr} {f : Str} {pos pos' ahi : Pos} {ta tv : TE}
theorem QZ (he : PE X e ta) (hb : attributeBase e f X.env (eval e X.env) = eval e X.env) : PE X (.Attribute e f pos) (ahg X.K ta f) := by
 intro pins s σ H Q I h
 refine Vz hb (gH (he pins s σ H _ I h) fun u s1 zz => ?_)
 obtain ⟨x, H1, I1, rx, a, C, dx, fs, v, ex, ea, c, n, l, q⟩ := zz
 subst ex
 obtain rfl : u = Value.ref a := rx
 exact JW I1 ea c n l fun u' s2 I2 ru => ⟨v, H1, I2, ru, q⟩
theorem aak (ha : PE X o ta) (hv : PE X value tv) (hs : swapsWith value (some (.Attribute o f pos')) pos.line X.env = pure false) : PS X (.Assign [.Attribute o f pos'] value pos) (ahh X.K ta tv f) := by
 intro pins s σ H D I h
 refine plainObj_wpAny_Assign_Attribute (gH (hv pins s σ H _ I h) fun u s1 ⟨y, H1, I1, ry, q⟩ => gH (ha pins s1 σ H1 _ I1 q) fun ov s2 zz => ?_) hs
 obtain ⟨x, H2, I2, rx, a, C, dx, fs, ex, ea, c, n, l, q2⟩ := zz
 subst ex
 obtain rfl : ov = Value.ref a := rx
 exact JX I2 ea c n l ry fun s3 I3 => ⟨σ, _, I3, q2⟩
end
section
variable {X : Cx} {pins : List (Addr × Obj)} {σ : St} {H : Hp} {s : Shared} {A : Around} {E : Value -> Shared -> Prop} {Q : Value -> Shared -> Prop} {c : Value} {b : Bool}
end
structure iQ (k : Nat) (A : Around) : Prop where
 hd : A.handled = none
 dp : A.depth + 3 * k + 5 < recursionLimit
 un : A.units + 16 * k + 200 < cLine
theorem iQ.mono {j k : Nat} {A : Around} (r : iQ k A) (h : j <= k) : iQ j A := ⟨r.hd, by have := r.dp; omega, by have := r.un; omega⟩
theorem iQ.deeper {k : Nat} {A : Around} (r : iQ (k + 1) A) (env : Env) : iQ k (A.deeper env) :=
 ⟨r.hd, by have := r.dp; show A.depth + 1 + 3 * k + 5 < _; omega, by have := r.un; show A.units + 3 + 16 * k + 200 < _; omega⟩
theorem JY {A : Around} {C : Addr} {us : List Value} {kw : List (Str × Value)} : (A.under (.builtin "type.__call__" ⟨.ref C :: us, kw⟩)).depth = A.depth + 1 := by
 first | rfl | simp [Around.under, Code.weight, Code.isCreation, Code.isGuard, Code.isCaller, Code.frames, Code.isFrame, guardIds]
theorem JZ {A : Around} {C : Addr} {us : List Value} {kw : List (Str × Value)} : (A.under (.builtin "type.__call__" ⟨.ref C :: us, kw⟩)).units = A.units + 1 := by
 first | rfl | simp [Around.under, Code.cUnits, Code.frames, Code.isFrame]
theorem iQ.make {k : Nat} {A : Around} (r : iQ (k + 1) A) (C : Addr) (us : List Value) (kw : List (Str × Value)) : iQ k (A.under (.builtin "type.__call__" ⟨.ref C :: us, kw⟩)) :=
 ⟨r.hd, by have := r.dp; rw [JY]; omega, by have := r.un; rw [JZ]; omega⟩
theorem iQ.depth {k : Nat} {A : Around} (r : iQ k A) : A.depth < recursionLimit := by have := r.dp; omega
theorem iQ.units {k : Nat} {A : Around} (r : iQ k A) : A.units + 64 < cLine := by have := r.un; omega
noncomputable def VA : TA := fun _ H Q => Q [] H
noncomputable def Q0 (ta : TE) (tr : TA) : TA := fun σ H Q => ta σ H fun x H1 => tr σ H1 fun xs H2 => Q (x :: xs) H2
section
variable {X : Cx} {e : Expr} {es : List Expr} {te : TE} {t : TA} {pos : Pos}
theorem fU : PA X [] VA := fun _ _ _ _ H Q I h => Calls.spliced_nil ⟨[], H, I, .nil, h⟩
theorem dc (ha : PE X e te) (hr : PA X es t) (hs : starEach (e :: es) X.env = (false, eval e X.env) :: starEach es X.env := by rfl) : PA X (e :: es) (Q0 te t) := by
 intro pos pins s σ H Q I h
 rw [hs]
 show wpAny _ _ (spliced ((false, eval e X.env) :: backTo pos (starEach es X.env))) _ _ s
 refine Calls.spliced_cons (gH (ha pins s σ H _ I h) fun u s1 zz => ?_)
 obtain ⟨x, H1, I1, r1, q1⟩ := zz
 exact gH (hr pos pins s1 σ H1 _ I1 q1) fun us s2 ⟨xs, H2, I2, r2, q2⟩ => ⟨x :: xs, H2, I2, .cons r1 r2, q2⟩
noncomputable def ahj (t : TA) : TE := fun σ H Q => t σ H fun xs H1 => xs.length <= sizeLine /\ ∀ p, H1 p = none -> Q (.ref p) (upd H1 p (.tup xs))
noncomputable def ahk (t : TA) : TE := fun σ H Q => t σ H fun xs H1 => xs.length <= sizeLine /\ ∀ p, H1 p = none -> Q (.ref p) (upd H1 p (.lst xs))
theorem aal {x1} (h : PA X es t) : PE X (.Tuple es x1 pos) (ahj t) := by
 intro pins s σ H Q I hq
 refine wpAny_Tuple_spliced (gH (h pos pins s σ H _ I hq) fun us s1 ⟨xs, H1, I1, r, z, q⟩ => ⟨by rw [← r.length]; exact z, ?_⟩)
 have hf : H1 s1.heap.objs.size = none := I1.iP.fresh (amu _)
 refine ⟨.ref s1.heap.objs.size, upd H1 s1.heap.objs.size (.tup xs), I1.laid (t' := s1.toks) (fun b u e => amw _ e) (amu _) ?_, rfl, q _ hf⟩
 exact ⟨z, us, r, ⟨_, anb _ rfl, rfl, _, rfl⟩⟩
theorem aam (h : PA X es t) : PE X (.List es pos) (ahk t) := by
 intro pins s σ H Q I hq
 refine wpAny_List_spliced (gH (h pos pins s σ H _ I hq) fun us s1 ⟨xs, H1, I1, r, z, q⟩ => ⟨by rw [← r.length]; exact z, ?_⟩)
 have hf : H1 s1.heap.objs.size = none := I1.iP.fresh (amu _)
 refine ⟨.ref s1.heap.objs.size, upd H1 s1.heap.objs.size (.lst xs), I1.laid (t' := s1.toks) (fun b u e => amw _ e) (amu _) ?_, rfl, q _ hf⟩
 exact ⟨z, us, 0, r, anb _ rfl⟩
end
noncomputable abbrev Sp := List V -> Hp -> VK -> XK -> Prop
noncomputable abbrev Qw := List Env -> Hp -> Shared -> XK -> Value -> Shared -> Prop
structure J1 (P : Program) (w : World) (K : PySem.W.Frag) (mg : Str -> Option Value) (base : Heap) (A : Around) (outer : List Env) (s : Shared) (H : Hp) : Prop where
 frames : A.frames = some outer
 mod : Mod K mg base
 bs : ∀ b o, base.get? b = some o -> s.heap.get? b = some o /\ H b = none
 Vl : base.objs.size <= s.heap.objs.size
 yH : s.heap.FunFrames base outer
 ZI : ∀ b ∈ Qv outer, H b = none
 iP : yR P w H s.heap
 bare : AllBare s.gens
noncomputable def CE (outer : List Env) (P : Program) (w : World) (H : Hp) (s : Shared) (Q : VK) (u : Value) (s' : Shared) : Prop :=
 ∃ v H', s'.os = s.os /\ AllBare s'.gens /\ Un (Qv outer) [] H H' s.heap s'.heap /\ yR P w H' s'.heap /\ RelV v u /\ Q v H'
noncomputable def CR (CX : Qw) (outer : List Env) (P : Program) (w : World) (H : Hp) (s : Shared) (Q : VK) (E : XK) (r : Result) (s' : Shared) : Prop :=
 match r with
 | .ok (.ret u) => CE outer P w H s Q u s'
 | .ok _ => False
 | .error e => CX outer H s E e s'
structure cC (P : Program) (w : World) (K : PySem.W.Frag) (mg : Str -> Option Value) (base : Heap) (CX : Qw) (k : Nat) (f : Addr) (fd : FuncData) (ps : List Str) (sp : Sp) : Prop where
 len : ∀ vs H Q E, sp vs H Q E -> vs.length = ps.length
 run : ∀ (A : Around) (outer : List Env) (s : Shared) (H : Hp) (args : Args) (us : List Value) (vs : List V) (Q : VK) (E : XK), iQ k A -> J1 P w K mg base A outer s H -> BindsTo s fd args (ps.zip us) -> Vals vs us -> sp vs H Q E →
   codeAny (model P w) A (.call (.ref f) args) (CR CX outer P w H s Q E) s
theorem cC.imp {P : Program} {w : World} {K : PySem.W.Frag} {mg : Str -> Option Value} {base : Heap} {CX : Qw} {k : Nat} {f : Addr} {fd : FuncData} {ps : List Str} {sp sp' : Sp} (F : cC P w K mg base CX k f fd ps sp)
   (h : ∀ vs H Q E, sp' vs H Q E -> sp vs H Q E) : cC P w K mg base CX k f fd ps sp' :=
 ⟨fun vs H Q E q => F.len vs H Q E (h _ _ _ _ q), fun A outer s H args us vs Q E hr he hb hv hs => F.run A outer s H args us vs Q E hr he hb hv (h _ _ _ _ hs)⟩
theorem J1.make {P : Program} {w : World} {K : PySem.W.Frag} {mg : Str -> Option Value} {base : Heap} {A : Around} {outer : List Env} {s : Shared} {H : Hp} (e : J1 P w K mg base A outer s H) (C : Addr) (us : List Value) (kw : List (Str × Value)) :
   J1 P w K mg base (A.under (.builtin "type.__call__" ⟨.ref C :: us, kw⟩)) outer s H := ⟨by first | exact e.frames | (simpa [Around.under, Code.envs, Code.isFrame, pushEnvs] using e.frames), e.mod, e.bs, e.Vl, e.yH, e.ZI, e.iP, e.bare⟩
section
variable {X : Cx} {pins : List (Addr × Obj)} {σ : St} {H : Hp} {s s' : Shared}
theorem Inv.aep (I : Inv X pins σ H s) : J1 X.prog X.w X.K X.mg X.base X.A X.stack s H :=
 ⟨I.ok.frames, I.ok.mod, I.bs, am0 I.ok.Vl I.sz, I.stack, I.MZ, I.iP, I.bare⟩
theorem Inv.after {Q : VK} {u : Value} (I : Inv X pins σ H s) (h : CE X.stack X.prog X.w H s Q u s') : EP X pins σ Q u s' := by
 obtain ⟨v, H', os, bare, un, iP, r, q⟩ := h
 obtain ⟨hh, g, d, t, os'⟩ := s'
 obtain rfl : os' = s.os := os
 exact ⟨v, H', I.call (h' := hh) (g' := g) (d' := d) (t' := t) (ch := []) un iP bare (fun b z => absurd z (by simp)), r, q⟩
end
noncomputable def Y5 (sp : Sp) (Hg : List V) (E : XK) (t : TA) : TE := fun σ H Q => t σ H fun vs H1 => sp (vs ++ Hg) H1 Q E
noncomputable def aeq (C : Addr) (sp : Sp) (Hg : List V) (E : XK) (t : TA) : TE := fun σ H Q => t σ H fun vs H1 => ∀ x dx, H1 x = none -> H1 dx = none -> dx ≠ x →
 sp (.ref x :: (vs ++ Hg)) (upd (upd H1 dx (.own x)) x (.ins C dx [])) (fun v H2 => v = .non /\ Q (.ref x) H2) E
noncomputable def Binds (K : PySem.W.Frag) (fd : FuncData) (ps : List Str) (ds : List Value) : Prop :=
 ∀ (s : Shared) (us : List Value), K.In s.heap -> (us ++ ds).length = ps.length -> BindsTo s fd ⟨us, []⟩ (ps.zip (us ++ ds))
theorem Binds.all {K : PySem.W.Frag} {fd : FuncData} {ps : List Str} (h : ∀ us : List Value, us.length = ps.length -> bindArgs fd ⟨us, []⟩ = pure (ps.zip us)) : Binds K fd ps [] := fun s us _ hl => by
 rw [amF] at hl ⊢
 exact .of_eq (h us hl)
noncomputable def Passes (CX : Qw) (X : Cx) (E : XK) : Prop := ∀ (pins : List (Addr × Obj)) (σ : St) (H : Hp) (s : Shared) (e : Value) (s' : Shared), Inv X pins σ H s -> CX X.stack H s E e s' -> X.xe e s'
section
variable {X : Cx} {CX : Qw} {k : Nat} {f C : Addr} {fd : FuncData} {ps : List Str} {sp : Sp} {Hg : List V} {ds : List Value} {E : XK} {x m : Str} {p pos apos : Pos} {e o : Expr} {es : List Expr} {ta : TE} {t : TA}
theorem Q5 {pins : List (Addr × Obj)} {σ : St} {H : Hp} {s : Shared} {Q : VK} {us : List Value} {vs : List V} (F : cC X.prog X.w X.K X.mg X.base CX k f fd ps sp) (hr : iQ k X.A) (hb : Binds X.K fd ps ds) (hd : Vals Hg ds) (hx : Passes CX X E)
   (I : Inv X pins σ H s) (r : Vals vs us) (h : sp (vs ++ Hg) H Q E) : wpAny (model X.prog X.w) X.A (call (.ref f) us) (EP X pins σ Q) X.xe s := by
 have r2 : Vals (vs ++ Hg) (us ++ ds) := r.append hd
 have hl : (us ++ ds).length = ps.length := by rw [← r2.length]; exact F.len _ _ _ _ h
 refine wpAny_call (codeAny_mono (F.run X.A X.stack s H ⟨us, []⟩ (us ++ ds) (vs ++ Hg) Q E hr I.aep (hb s us I.G0 hl) r2 h) fun r s' hq => ?_)
 cases r with
 | error e => exact hx pins σ H s e s' I hq
 | ok fl =>
   cases fl with
   | ret u => exact I.after hq
   | next => exact False.elim hq
   | brk => exact False.elim hq
   | cont => exact False.elim hq
theorem M8 (F : cC X.prog X.w X.K X.mg X.base CX k f fd ps sp) (hr : iQ k X.A) (hg : Gl X x) (hm : X.mg x = some (.ref f)) (hk : PySem.W.keepIn X.K (.ref f) = true) (hb : Binds X.K fd ps ds) (hd : Vals Hg ds) (hx : Passes CX X E)
   (ha : PA X (e :: es) t) (yJ : (x == ("__debug__" : Str)) = false := by decide) (he : starEach (e :: es) X.env = (false, eval e X.env) :: starEach es X.env := by rfl) (hpl : (backTo pos (starEach es X.env)).any (·.1) = false := by rfl) :
   PE X (.Call (.Name x p) (e :: es) [] pos) (Y5 sp Hg E t) := by
 intro pins s σ H Q I h
 refine anL (yT I hg hm ?_ yJ)
 refine PySem.W.callWith_K (h₀ := X.base) I.ok.mod.kin hk (gH (ha pos pins s σ H _ I h) fun us s1 ⟨vs, H1, I1, r, q⟩ => ⟨I1.G0, ?_⟩) he hpl
 exact Q5 F hr hb hd hx I1 r q
theorem Q6 (F : cC X.prog X.w X.K X.mg X.base CX k f fd ps sp) (hr : iQ k X.A) (hg : Gl X x) (hm : X.mg x = some (.ref f)) (hk : PySem.W.keepIn X.K (.ref f) = true) (hb : Binds X.K fd ps ds) (hd : Vals Hg ds) (hx : Passes CX X E)
   (yJ : (x == ("__debug__" : Str)) = false := by decide) : PE X (.Call (.Name x p) [] [] pos) (Y5 sp Hg E VA) := by
 intro pins s σ H Q I h
 refine anL (yT I hg hm ?_ yJ)
 exact PySem.W.callWith_K0 I.G0 hk (Q5 (us := []) F hr hb hd hx I .nil h)
structure Mk (K : PySem.W.Frag) (C f : Addr) : Prop where
 makes : PySem.W.makesIn K C = true
 init : PySem.W.findIn K (.ref C) "__init__" = some (some (.ref f))
 fn : PySem.W.isFn K (.ref f) = true
 kp : PySem.W.keepIn K (.ref C) = true
theorem Q7 {pins : List (Addr × Obj)} {σ : St} {H : Hp} {s : Shared} {Q : VK} {us : List Value} {vs : List V} (M : Mk X.K C f) (F : cC X.prog X.w X.K X.mg X.base CX k f fd ps sp) (hr : iQ (k + 1) X.A) (hb : Binds X.K fd ps ds) (hd : Vals Hg ds)
   (hx : Passes CX X E) (I : Inv X pins σ H s) (r : Vals vs us)
   (h : ∀ x dx, H x = none -> H dx = none -> dx ≠ x -> sp (.ref x :: (vs ++ Hg)) (upd (upd H dx (.own x)) x (.ins C dx [])) (fun v H2 => v = .non /\ Q (.ref x) H2) E) :
   wpAny (model X.prog X.w) X.A (call (.ref C) us) (EP X pins σ Q) X.xe s := by
 have hq := h (s.heap.objs.size + 1) s.heap.objs.size (I.iP.fresh (anZ _)) (I.iP.fresh (amu _)) (am7 (aoc _))
 have I2 := Inv.made (C := C) I
 have r2 : Vals (V.ref (s.heap.objs.size + 1) :: (vs ++ Hg)) (Value.ref (s.heap.objs.size + 1) :: (us ++ ds)) := .cons rfl (r.append hd)
 have hl : (Value.ref (s.heap.objs.size + 1) :: us ++ ds).length = ps.length := by
   have e := r2.length
   rw [F.len _ _ _ _ hq] at e
   exact e.symm
 refine wpAny_call (QY (f := f) I.G0 M.makes M.init (aop.mp M.fn) (codeAny_mono (F.run _ X.stack _ _ ⟨Value.ref (s.heap.objs.size + 1) :: us, []⟩ (Value.ref (s.heap.objs.size + 1) :: (us ++ ds)) _ _ E (hr.make C us [])
   (I2.aep.make C us []) (hb _ (Value.ref (s.heap.objs.size + 1) :: us) I2.G0 hl) r2 hq) fun r s' Qx => ?_))
 cases r with
 | error e => exact hx pins σ _ _ e s' I2 Qx
 | ok fl =>
   cases fl with
   | ret u =>
     obtain ⟨v, H', I3, rv, ev, q3⟩ := I2.after Qx
     subst ev
     exact ⟨rv, ⟨V.ref (s.heap.objs.size + 1), H', I3, rfl, q3⟩⟩
   | next => exact False.elim Qx
   | brk => exact False.elim Qx
   | cont => exact False.elim Qx
theorem M9 (M : Mk X.K C f) (F : cC X.prog X.w X.K X.mg X.base CX k f fd ps sp) (hr : iQ (k + 1) X.A) (hg : Gl X x) (hm : X.mg x = some (.ref C)) (hb : Binds X.K fd ps ds) (hd : Vals Hg ds) (hx : Passes CX X E)
   (ha : PA X (e :: es) t) (yJ : (x == ("__debug__" : Str)) = false := by decide) (he : starEach (e :: es) X.env = (false, eval e X.env) :: starEach es X.env := by rfl) (hpl : (backTo pos (starEach es X.env)).any (·.1) = false := by rfl) :
   PE X (.Call (.Name x p) (e :: es) [] pos) (aeq C sp Hg E t) := by
 intro pins s σ H Q I h
 refine anL (yT I hg hm ?_ yJ)
 refine PySem.W.callWith_K (h₀ := X.base) I.ok.mod.kin M.kp (gH (ha pos pins s σ H _ I h) fun us s1 ⟨vs, H1, I1, r, q⟩ => ⟨I1.G0, ?_⟩) he hpl
 exact Q7 M F hr hb hd hx I1 r q
end
noncomputable def PK (X : Cx) (kws : List Keyword) (t : TA) : Prop :=
 ∀ (pos : Pos) (pins : List (Addr × Obj)) (s : Shared) (σ : St) (H : Hp) (Q : List V -> Hp -> Prop), Inv X pins σ H s -> t σ H Q -> wpAny (model X.prog X.w) X.A (evalAll ((backToKw pos (keywordEach kws X.env)).map (·.2))) (AP X pins σ Q) X.xe s
section
variable {X : Cx} {CX : Qw} {k : Nat} {f C : Addr} {fd : FuncData} {ps ks : List Str} {sp : Sp} {E : XK} {x m : Str} {p pos apos ahl : Pos} {e o : Expr} {es : List Expr} {kws : List Keyword} {te ta : TE} {t tk : TA} {nm : Option Str}
theorem aan : PK X [] VA := fun _ _ _ _ H Q I h => wpAny_evalAll_nil ⟨[], H, I, .nil, h⟩
theorem VB (ha : PE X e te) (hr : PK X kws t) : PK X (⟨nm, e, ahl⟩ :: kws) (Q0 te t) := by
 intro pos pins s σ H Q I h
 show wpAny _ _ (evalAll ((do let v ← eval e X.env; standAt pos; pure v) :: (backToKw pos (keywordEach kws X.env)).map (·.2))) _ _ s
 refine wpAny_evalAll_cons (amG (gH (ha pins s σ H _ I h) fun u s1 ⟨x, H1, I1, r1, q1⟩ => amG (wpAny_standAt (ang ?_))))
 exact gH (hr pos pins s1 σ H1 _ I1 q1) fun us s2 ⟨xs, H2, I2, r2, q2⟩ => ⟨x :: xs, H2, I2, .cons r1 r2, q2⟩
variable {g : List Value -> List Value -> List Value} {gV : List V -> List V -> List V}
end
structure aP (N P : List Str) (sc : Scope) : Prop where
 kind : sc.kind = .function
 co : sc.isCoroutine = false
 gen : sc.isGenerator = false
 nd : N.Nodup
 pre : N.take P.length = P
 par : ∀ x ∈ P, sc.names.lookup x = some .local \/ sc.names.lookup x = some .cell
 aao : ∀ y ∈ sc.names, y.2 ≠ .free
theorem Cr {kindOf : Str -> Option NameKind} {x : Str} : ∀ {binds : List (Str × Value)} {m : Str -> Option Value}, (∀ v, (x, v) ∉ binds) -> bindL kindOf binds m x = m x
 | [], _, _ => rfl
 | (n, v) :: r, m, h => by
   unfold bindL
   rw [Cr fun w hw => h w (ami _ hw)]
   split
   . have : x ≠ n := by rintro rfl; exact h v ame
     simp [this]
   . rfl
theorem Ct {kindOf : Str -> Option NameKind} {x : Str} : ∀ {binds : List (Str × Value)} {m : Str -> Option Value}, (∀ v, (x, v) ∉ binds) -> bindC kindOf binds m x = m x
 | [], _, _ => rfl
 | (n, v) :: r, m, h => by
   unfold bindC
   rw [Ct fun w hw => h w (ami _ hw)]
   split
   . rfl
   . have : x ≠ n := by rintro rfl; exact h v ame
     simp [this]
theorem Cu {kindOf : Str -> Option NameKind} {x : Str} {v : Value} : ∀ {P : List Str} {vs : List Value} {i : Nat} {m : Str -> Option Value}, P.Nodup -> P[i]? = some x -> vs[i]? = some v -> kindOf x = some .local →
   bindL kindOf (P.zip vs) m x = some v
 | [], _, _, _, _, h, _, _ => by simp at h
 | _ :: _, [], _, _, _, _, h, _ => by simp at h
 | p :: P, w :: vs, 0, m, nd, h1, h2, hk => by
   simp at h1 h2; subst h1; subst h2
   show bindL kindOf ((p, w) :: P.zip vs) m p = _
   unfold bindL
   rw [Cr fun v hv => (anr.mp nd).1 (List.of_mem_zip hv).1, amo hk]
   simp
 | p :: P, w :: vs, i + 1, m, nd, h1, h2, hk => by
   show bindL kindOf ((p, w) :: P.zip vs) m x = _
   unfold bindL
   exact Cu (i := i) (List.nodup_cons.mp nd).2 (by simpa using h1) (by simpa using h2) hk
theorem Cv {kindOf : Str -> Option NameKind} {x : Str} {v : Value} : ∀ {P : List Str} {vs : List Value} {i : Nat} {m : Str -> Option Value}, P.Nodup -> P[i]? = some x -> vs[i]? = some v -> kindOf x ≠ some .local →
   bindC kindOf (P.zip vs) m x = some v
 | [], _, _, _, _, h, _, _ => by simp at h
 | _ :: _, [], _, _, _, _, h, _ => by simp at h
 | p :: P, w :: vs, 0, m, nd, h1, h2, hk => by
   simp at h1 h2; subst h1; subst h2
   show bindC kindOf ((p, w) :: P.zip vs) m p = _
   unfold bindC
   rw [Ct fun v hv => (anr.mp nd).1 (List.of_mem_zip hv).1, amk hk]
   simp
 | p :: P, w :: vs, i + 1, m, nd, h1, h2, hk => by
   show bindC kindOf ((p, w) :: P.zip vs) m x = _
   unfold bindC
   exact Cv (i := i) (List.nodup_cons.mp nd).2 (by simpa using h1) (by simpa using h2) hk
noncomputable def start (N : List Str) (vs : List V) : St := vs.map some ++ List.replicate (N.length - vs.length) none
noncomputable def Hh (CX : Qw) (P : Program) (w : World) (K : PySem.W.Frag) (mg : Str -> Option Value) (base : Heap) (N : List Str) (qual : Str) (scope : Scope) (f : Addr) (cd : Value) (A : Around) (outer : List Env) (s : Shared) (H : Hp) (E : XK) : Cx where
 prog := P
 w := w
 K := K
 mg := mg
 base := base
 A := A.deeper (envOfC qual scope s.heap.objs.size f cd)
 N := N
 s₀ := s
 H₀ := H
 env := envOfC qual scope s.heap.objs.size f cd
 outer := outer
 stack := envOfC qual scope s.heap.objs.size f cd :: outer
 ex := []
 calm := true
 fn := fun _ => true
 pn := []
 xe := fun e s' => wpAny (model P w) (A.deeper (envOfC qual scope s.heap.objs.size f cd)) (leaving (envOfC qual scope s.heap.objs.size f cd) e) (fun _ s'' => CX outer H s E e s'') (fun e' s'' => CX outer H s E e' s'') s'
theorem Hi {sc : Scope} {n : Nat} {x : Str} (h : sc.names.lookup x = some .cell) : ∃ c, (cellsFrom n sc.names []).lookup x = some c := by
 have q := PySem.W.cellsFrom_some sc.names n [] (.inl h)
 exact Option.isSome_iff_exists.mp q
theorem OI {CX : Qw} {P : Program} {w : World} {K : PySem.W.Frag} {mg : Str -> Option Value} {base : Heap} {N ps : List Str} {qual : Str} {scope : Scope} {f : Addr} {cd : Value} {A : Around} {outer : List Env} {s s1 : Shared} {H : Hp} {E : XK} {us : List Value} {vs : List V}
   (S : aP N ps scope) (hd : A.handled = none) (e0 : J1 P w K mg base A outer s H) (hl : vs.length = ps.length) (r : Vals vs us)
   (x : InCallC s s.heap.objs.size (bindL (envOfC qual scope s.heap.objs.size f cd).kindOf (ps.zip us) fun _ => none) (cellsFrom (s.heap.objs.size + 1) scope.names []) (bindC (envOfC qual scope s.heap.objs.size f cd).kindOf (ps.zip us) fun _ => none) s1) :
   Inv (Hh CX P w K mg base N qual scope f cd A outer s H E) [] (start N vs) H s1 := by
 have hpl : ps.length <= N.length := by have := congrArg List.length S.pre; rw [aod] at this; omega
 obtain ⟨h1, tk, rfl, hk⟩ := x.done
 have noA : ∀ b : Addr, b ∉ (Hh CX P w K mg base N qual scope f cd A outer s H E).ex := fun b z => absurd (show b ∈ ([] : List Addr) from z) (by simp)
 refine ⟨⟨e0.mod, S.kind, rfl, rfl, amu _, fun y z c h1 h2 => ?_, fun y hy => ?_, fun y c _ h => ?_, fun _ => hd, Around.frames_deeper e0.frames, .inr ⟨rfl, rfl⟩, fun b z => absurd z (noA b), e0.bs, e0.Vl, fun b _ _ => noA b, fun b z => absurd z (noA b), e0.yH, e0.ZI⟩,
   rfl, e0.bare, Un.kept hk, ⟨_, x.toInCall.ns, fun i y v h1 h2 h3 => ?_⟩, fun y c h => ⟨_, x.cell y c h⟩, e0.iP.fresh (amu _), fun y c h => ?_, fun p hp => absurd (show p ∈ ([] : List (Addr × Obj)) from hp) (by simp), e0.iP.kept hk, ?_⟩
 . exact name_of_addr x.apart (anG h1) (anG h2)
 . have hy : scope.names.lookup y = some .cell \/ scope.names.lookup y = some .free := hy
   rcases hy with hy | hy
   . exact Hi hy
   . exact absurd rfl (S.aao _ (anG hy))
 . exact amQ (x.above y c (anG h))
 . have hi : i < vs.length := by
     unfold start at h2
     by_cases hi : i < vs.length
     . exact hi
     . rw [List.getElem?_append_right (by simpa using hi)] at h2
       rw [aos] at h2
       split at h2 <;> cases h2
   have ha : vs[i]? = some v := by
     unfold start at h2
     rw [List.getElem?_append_left (by simpa using hi), List.getElem?_map] at h2
     cases e : vs[i]? with
     | none => rw [e] at h2; cases h2
     | some a => rw [e] at h2; cases h2; rfl
   obtain ⟨u, hu, rv⟩ := r.get ha
   have hp : ps[i]? = some y := by
     rw [← S.pre, List.getElem?_take_of_lt (by omega)]; exact h1
   have ndP : ps.Nodup := by rw [← S.pre]; exact S.nd.sublist (List.take_sublist _ _)
   refine ⟨u, rv, ?_⟩
   rcases S.par y (anv hp) with k | k
   . exact .inl ⟨k, Cu ndP hp hu k⟩
   . obtain ⟨c, e⟩ := Hi (n := s.heap.objs.size + 1) k
     refine .inr ⟨.inl k, c, e, ?_⟩
     have q := x.cell y c e
     rw [Cv ndP hp hu (by show scope.names.lookup y ≠ _; rw [k]; decide)] at q
     exact q
 . exact e0.iP.fresh (amQ (x.above y c (anG h)))
 . unfold start
   show _ = N.length
   rw [amj, amc, anA]
   omega
theorem aes {CX : Qw} {P : Program} {w : World} {K : PySem.W.Frag} {mg : Str -> Option Value} {base : Heap} {k : Nat} {f : Addr} {name qual : Str} {params : Arguments} {body : List Stmt} {scope : Scope} {dV kV doc pm fV ct oc : Value} {an od : Option Addr}
   {VC : Array (Option Value)} {N ps : List Str} {sp : Sp} (lk : K.lookup f = some ⟨oc, od, .func (PySem.W.fnOf name qual params body scope dV kV doc pm an fV ct), VC⟩) (oh : PySem.W.codeIn K fV qual = true) (S : aP N ps scope)
   (len : ∀ vs H Q E, sp vs H Q E -> vs.length = ps.length)
   (Q8 : ∀ (A : Around) (outer : List Env) (s : Shared) (H : Hp) (vs : List V) (Q : VK) (E : XK), iQ k (A.deeper (envOfC qual scope s.heap.objs.size f fV)) -> sp vs H Q E →
     ∃ t, M3 (Hh CX P w K mg base N qual scope f fV A outer s H E) body t /\ t { nx := fun _ H' => Q .non H', rt := Q } (start N vs) H) :
   cC P w K mg base CX (k + 1) f (PySem.W.fnOf name qual params body scope dV kV doc pm an fV ct) ps sp := by
 refine ⟨len, fun A outer s H args us vs Q E hr e0 hb r Qy => ?_⟩
 have hl := len _ _ _ _ Qy
 have KX : K.In s.heap := e0.mod.kin.keeps fun b o e => (e0.bs b o e).1
 have lim : s.heap.NoLimit := e0.mod.nolimit.keeps fun b o e => (e0.bs b o e).1
 have ym : ∀ y ∈ ps.zip us, scope.names.lookup y.1 = some .local \/ (scope.names.lookup y.1 = some .cell /\ ((cellsFrom (s.heap.objs.size + 1) scope.names []).lookup y.1).isSome = true) := fun ⟨n, v⟩ hy => by
   rcases S.par n (List.of_mem_zip hy).1 with q | q
   . exact .inl q
   . exact .inr ⟨q, PySem.W.cellsFrom_some _ _ _ (.inl q)⟩
 refine codeAny_call_function hr.depth (KX _ _ lk) rfl S.co S.gen rfl (PySem.W.codeRec_of KX oh) (hb _ _ _ _ ?_)
 refine wpAny_newFunctionEnv_cells S.kind ym fun env he s1 x => ?_
 subst he
 refine ⟨lim.keeps x.toInCall.keep, codeAny_func ?_⟩
 obtain ⟨t, ht, hq⟩ := Q8 A outer s H vs Q E (hr.deeper _) Qy
 have I : Inv (Hh CX P w K mg base N qual scope f fV A outer s H E) [] (start N vs) H s1 := OI S hr.hd e0 hl r x
 refine anW (ht [] s1 (start N vs) H _ I hq) (fun fl s' hs => ?_) fun e s' hs => hs
 have fin : ∀ {σ' : St} {H' : Hp} {v : V} {u : Value}, Inv (Hh CX P w K mg base N qual scope f fV A outer s H E) [] σ' H' s' -> RelV v u -> Q v H' -> CE outer P w H s Q u s' :=
   fun {σ' H' v u} J rv q => ⟨v, H', J.os, J.bare, J.base, J.iP, rv, q⟩
 cases fl with
 | ret u =>
   obtain ⟨v, σ', H', J, rv, q⟩ := hs
   exact fin J rv q
 | next =>
   obtain ⟨σ', H', J, q⟩ := hs
   exact fin (v := V.non) (u := Value.none) J rfl q
 | brk =>
   obtain ⟨_, _, _, q⟩ := hs
   exact False.elim q
 | cont =>
   obtain ⟨_, _, _, q⟩ := hs
   exact False.elim q
section
variable {X : Cx} {x : Str} {p pos : Pos} {e : Expr} {es : List Expr} {t : TA} {id T : String} {r : List V -> Hp -> VK -> Prop}
noncomputable def tCB (r : List V -> Hp -> VK -> Prop) (t : TA) : TE := fun σ H Q => t σ H fun vs H1 => r vs H1 Q
theorem nI (hc : qj X (.builtin id) r) (hg : Gl X x) (hm : X.mg x = none) (hv : bootBuiltins x = some (.builtin id)) (ha : PA X (e :: es) t) (hn : x ≠ "__name__" := by decide) (yJ : (x == ("__debug__" : Str)) = false := by decide)
   (he : starEach (e :: es) X.env = (false, eval e X.env) :: starEach es X.env := by rfl) (hpl : (backTo pos (starEach es X.env)).any (·.1) = false := by rfl) : PE X (.Call (.Name x p) (e :: es) [] pos) (tCB r t) := by
 intro pins s σ H Q I h
 refine anL (mW I hg hm hv ?_ hn yJ)
 exact PyProof.Rows.callWith_builtin1 (gH (ha pos pins s σ H _ I h) fun us s1 ⟨vs, H1, I1, r1, q1⟩ => hc pins s1 σ H1 vs us Q I1 r1 q1) he hpl
theorem rS (hc : qj X (.type T) r) (hg : Gl X x) (hm : X.mg x = none) (hv : bootBuiltins x = some (.type T)) (ha : PA X (e :: es) t) (hn : x ≠ "__name__" := by decide) (yJ : (x == ("__debug__" : Str)) = false := by decide)
   (he : starEach (e :: es) X.env = (false, eval e X.env) :: starEach es X.env := by rfl) (hpl : (backTo pos (starEach es X.env)).any (·.1) = false := by rfl) : PE X (.Call (.Name x p) (e :: es) [] pos) (tCB r t) := by
 intro pins s σ H Q I h
 refine anL (mW I hg hm hv ?_ hn yJ)
 exact anj (gH (ha pos pins s σ H _ I h) fun us s1 ⟨vs, H1, I1, r1, q1⟩ => hc pins s1 σ H1 vs us Q I1 r1 q1) he hpl
end
end L2
namespace HT
open PySem PyProof.Rows
section
open PySem.SeqAt
open PySem.AutoSeq1 (wpAny_loadPart')
open PySem.MeetsSeq PySem.MeetsSeq2 PySem.MeetsSeq3
end
section
variable {prog : Program} {w : World} {A : Around} {E : Value -> Shared -> Prop} {s : Shared}
noncomputable def xg (n d : Nat) : Option Int -> Nat
 | none => d
 | some v => if v < 0 then (v + (n : Int)).toNat else min v.toNat n
end
end HT
namespace L2
open PySem PySem.Spec PyProof.Rows
noncomputable abbrev TO := St -> Hp -> (Option Int -> Hp -> Prop) -> Prop
noncomputable def PO (X : Cx) (e : Option Expr) (t : TO) : Prop :=
 ∀ (pins : List (Addr × Obj)) (s : Shared) (σ : St) (H : Hp) (Q : Option Int -> Hp -> Prop), Inv X pins σ H s -> t σ H Q →
   wpAny (model X.prog X.w) X.A (evalPart e X.env) (fun u s' => ∃ o H', Inv X pins σ H' s' /\ IsPart u o /\ Q o H') X.xe s
noncomputable def VD : TO := fun _ H Q => Q none H
noncomputable def aeu (t : TE) : TO := fun σ H Q => t σ H fun x H1 => ∃ i, x = .int i /\ Q (some i) H1
theorem intsAre_of {ns : List Int} : ∀ {us : List Value}, Vals (ns.map V.int) us -> IntsAre us ns := by
 induction ns with
 | nil => intro us r; rw [List.map_nil] at r; cases r; exact .nil
 | cons n ns ih =>
   intro us r
   rw [am6] at r
   cases r with
   | cons r1 r2 =>
     obtain ⟨t, e⟩ := r1
     subst e
     exact .cons n t (ih r2)
section
variable {X : Cx} {e : Expr} {te : TE} {lo hi : Option Expr} {tl th : TO} {pos p2 : Pos}
theorem VF : PO X none VD := by
 intro pins s σ H Q I h
 rw [evalPart_none]
 exact ang ⟨none, H, I, .none, h⟩
theorem VG (h : PE X e te) : PO X (some e) (aeu te) := by
 intro pins s σ H Q I hw
 rw [evalPart_some]
 refine gH (h pins s σ H _ I hw) fun u s1 zz => ?_
 obtain ⟨x, H1, I1, r1, q1⟩ := zz
 obtain ⟨i, rfl, q⟩ := q1
 obtain ⟨t, rfl⟩ := r1
 exact ⟨some i, H1, I1, .int i t, q⟩
noncomputable def SlR (X : Cx) (r : V -> Option Int -> Option Int -> Hp -> VK -> Prop) : Prop :=
 ∀ (pins : List (Addr × Obj)) (s : Shared) (σ : St) (H : Hp) (x : V) (v vl vu : Value) (lo hi : Option Int) (sl : Addr) (Q : VK), Inv X pins σ H s -> RelV x v -> s.heap.IsSliceOf sl vl vu .none -> IsPart vl lo -> IsPart vu hi -> r x lo hi H Q →
   ∃ T id, typeLookup (.type T) "__getitem__" = pure (some (.builtin id)) /\ s.TypeIs v T /\ wpAny (model X.prog X.w) X.A (getItem v (.ref sl)) (EP X pins σ Q) X.xe s
noncomputable def tSl (r : V -> Option Int -> Option Int -> Hp -> VK -> Prop) (te : TE) (tl th : TO) : TE := fun σ H Q => te σ H fun x H1 => tl σ H1 fun l H2 => th σ H2 fun u H3 => r x l u H3 Q
theorem Q9 {r : V -> Option Int -> Option Int -> Hp -> VK -> Prop} (hr : SlR X r) (he : PE X e te) (hl : PO X lo tl) (hu : PO X hi th) : PE X (.Subscript e (.Slice lo hi none p2) pos) (tSl r te tl th) := by
 intro pins s σ H Q I h
 refine Subscript_ (gH (he pins s σ H _ I h) fun v s1 zz => ?_)
 obtain ⟨x, H1, I1, r1, q1⟩ := zz
 refine wpAny_Slice (gH (hl pins s1 σ H1 _ I1 q1) fun vl s2 ⟨l, H2, I2, pl, q2⟩ => gH (hu pins s2 σ H2 _ I2 q2) fun vu s3 zz => ?_)
 obtain ⟨u, H3, I3, pu, q3⟩ := zz
 rw [evalPart_none]
 refine ang ?_
 have I4 : Inv X pins σ H3 { s3 with heap := s3.heap.push { cls := .type "slice", data := .fields #[vl, vu, .none] } } := I3.kept (t' := s3.toks) fun b ob q => amw _ q
 obtain ⟨T, id, hT, ht, hg⟩ := hr pins { s3 with heap := s3.heap.push { cls := .type "slice", data := .fields #[vl, vu, .none] } } σ H3 x v vl vu l u s3.heap.objs.size Q I4 r1 (Heap.IsSliceOf.new ..) pl pu q3
 show wpAny (model X.prog X.w) X.A (subscriptTail e (.Slice lo hi none p2) v (.ref s3.heap.objs.size)) (EP X pins σ Q) X.xe { s3 with heap := s3.heap.push { cls := .type "slice", data := .fields #[vl, vu, .none] } }
 exact tail_any (ops := [.ref s3.heap.objs.size, v]) ht hT hg (by with_unfolding_all rfl)
noncomputable def OJ (xs : List V) (lo hi : Option Int) : List V := (xs.drop (HT.xg xs.length 0 lo)).take (HT.xg xs.length xs.length hi - HT.xg xs.length 0 lo)
theorem Hj (xs : List V) (lo hi : Option Int) : (OJ xs lo hi).length <= xs.length := by
 unfold OJ
 rw [aod, List.length_drop]
 omega
end
noncomputable def OL (n : Nat) (i : Int) : Option Nat := if 0 <= i then (if i < n then some i.toNat else none) else if -(n : Int) <= i then some (i + n).toNat else none
noncomputable def zP {α : Type} (xs : List α) (i : Int) : Option α := (OL xs.length i).bind fun j => xs[j]?
theorem DE {n : Nat} {i : Int} {j : Nat} (h : OL n i = some j) : seqIndex? i n = some j /\ j < n /\ -(n : Int) <= i /\ i < n := by
 unfold OL at h
 by_cases h0 : 0 <= i
 . rw [amo h0] at h
   by_cases h1 : i < n
   . rw [amo h1] at h
     have e : i.toNat = j := am3 h
     exact ⟨by rw [seqIndex_of h0 h1, e], by omega, by omega, h1⟩
   . rw [amk h1] at h; cases h
 . rw [amk h0] at h
   by_cases h1 : -(n : Int) <= i
   . rw [amo h1] at h
     have e : (i + n).toNat = j := am3 h
     exact ⟨by rw [seqIndex_neg (by omega) h1, e], by omega, h1, by omega⟩
   . rw [amk h1] at h; cases h
theorem DF {α : Type} {xs : List α} {i : Int} {v : α} (h : zP xs i = some v) : ∃ j, seqIndex? i xs.length = some j /\ xs[j]? = some v /\ j < xs.length /\ -(xs.length : Int) <= i /\ i < xs.length := by
 unfold zP at h
 cases e : OL xs.length i with
 | none => rw [e] at h; cases h
 | some j =>
   rw [e] at h
   obtain ⟨h1, h2, h3, h4⟩ := DE e
   exact ⟨j, h1, h, h2, h3, h4⟩
theorem cy {α : Type} {xs : List α} {j : Nat} {v : α} (h : xs[j]? = some v) : zP xs (j : Int) = some v := by
 have hj : j < xs.length := (amH.mp h).1
 have e : OL xs.length (j : Int) = some j := by
   unfold OL
   rw [amo (by omega), amo (by omega)]; simp
 unfold zP; rw [e]; exact h
noncomputable def rT (b : Expr) : Prop := ∀ o i, subscripted b false o i = operate [o, i] (getItem o i)
noncomputable def IxR (X : Cx) (r : R2) : Prop :=
 ∀ (value slice : Expr) (pins : List (Addr × Obj)) (s : Shared) (σ : St) (H : Hp) (x y : V) (v u : Value) (Q : VK), Inv X pins σ H s -> RelV x v -> RelV y u -> r x y H Q →
   subscripted slice false v u = operate [v, u] (getItem v u) -> wpAny (model X.prog X.w) X.A (subscriptTail value slice v u) (EP X pins σ Q) X.xe s
noncomputable def MtR (X : Cx) (id : String) (r : V -> List V -> Hp -> VK -> Prop) : Prop :=
 ∀ (pins : List (Addr × Obj)) (s : Shared) (σ : St) (H : Hp) (x : V) (xs : List V) (v : Value) (us : List Value) (Q : VK), Inv X pins σ H s -> RelV x v -> Vals xs us -> r x xs H Q →
   wpAny (model X.prog X.w) X.A (call (.builtin id) (v :: us)) (EP X pins σ Q) X.xe s
section
variable {X : Cx} {a b : Expr} {ta tb : TE} {pos : Pos}
theorem Cw {r : R2} (hr : IxR X r) (ha : PE X a ta) (hb : PE X b tb) (hs : rT b) : PE X (.Subscript a b pos) (tOp r ta tb) := by
 intro pins s σ H Q I h
 exact Subscript_ (aad ha hb I h fun v u s2 x y H2 I2 rx ry q => hr a b pins s2 σ H2 x y v u Q I2 rx ry q (hs _ _))
noncomputable def ahn (K : PySem.W.Frag) : R2 := fun x y H Q => ∃ p xs i v, x = .ref p /\ y = .int i /\ oi K H p xs /\ zP xs i = some v /\ Q v H
noncomputable def aho (K : PySem.W.Frag) : R2 := fun x y H Q => ∃ p xs i v, x = .ref p /\ y = .int i /\ Dy K H p xs /\ zP xs i = some v /\ Q v H
noncomputable def ahp : R2 := fun x y H Q => ∃ z i c, x = .str z /\ y = .int i /\ z.length <= sizeLine /\ zP z.cps.toList i = some c /\ Q (.str ⟨#[c]⟩) H
theorem Nb : IxR X (ahn X.K) := by
 intro value slice pins s σ H x y v u Q I rx ry h hs
 obtain ⟨p, xs, i, z, rfl, rfl, hq, he, q⟩ := h
 cases rx
 obtain ⟨t, rfl⟩ := ry
 obtain ⟨its, r, pl, hz⟩ := I.list hq
 obtain ⟨j, h1, h2, h3, h4, h5⟩ := DF he
 obtain ⟨w, ew, rw'⟩ := r.get h2
 have hl := r.length
 have hn := zO
 have fin : EP X pins σ Q w s := ⟨z, H, I, rw', q⟩
 by_cases h0 : 0 <= i
 . have hj : i.toNat = j := by
     rw [seqIndex_of h0 h5] at h1
     exact am3 h1
   exact item_listR pl.isList h0 (by omega) (by rw [hj]; simpa using ew) fin hs
 . have hj : (i + (its.toArray.size : Int)).toNat = j := by
     rw [seqIndex_neg (by omega) h4] at h1
     rw [amC, ← hl]
     exact am3 h1
   exact subscriptTail_builtinR (x := w) pl.isList.typeIs slot_list_getitem.lookup
     (wpAny_getItem_list_neg (Q := fun r s' => r = w /\ EP X pins σ Q r s') pl.isList (by omega) (by rw [List.size_toArray] <;> omega) (by omega) (by rw [hj]; simpa using ew) ⟨rfl, fin⟩) hs
theorem J2 : IxR X (aho X.K) := by
 intro value slice pins s σ H x y v u Q I rx ry h hs
 obtain ⟨p, xs, i, z, rfl, rfl, hq, he, q⟩ := h
 cases rx
 obtain ⟨t, rfl⟩ := ry
 obtain ⟨its, r, pl, hz⟩ := I.tuple hq
 obtain ⟨j, h1, h2, h3, h4, h5⟩ := DF he
 obtain ⟨w, ew, rw'⟩ := r.get h2
 have hl := r.length
 have hn := zO
 have fin : EP X pins σ Q w s := ⟨z, H, I, rw', q⟩
 exact subscriptTail_builtinR (x := w) pl.typeIs slot_tuple_getitem.lookup
   (getItem_tuple (j := j) (Q := fun r s' => r = w /\ EP X pins σ Q r s') pl (by omega) (by omega) (by rw [List.size_toArray, ← hl]; exact h1) (by simpa using ew) ⟨rfl, fin⟩) hs
theorem aaq : IxR X ahp := by
 intro value slice pins s σ H x y v u Q I rx ry h hs
 obtain ⟨z, i, c, rfl, rfl, hz, he, q⟩ := h
 obtain ⟨t, rfl⟩ := rx
 obtain ⟨t', rfl⟩ := ry
 obtain ⟨j, h1, h2, h3, h4, h5⟩ := DF he
 have hl : z.cps.toList.length = z.length := by simp [Str.length]
 rw [hl] at h1 h4 h5
 have hn := zO
 exact tail_any (typeIs_str s z t) slot_str_getitem.lookup (getItem_str (c := c) (by
   have e1 : decide (i < -(2 ^ 63 : Int)) = false := amN (by omega)
   have e2 : decide (i ≥ 2 ^ 63) = false := amN (by omega)
   rw [e1, e2, Bool.or_false]) (by rw [h1]; simpa using h2) ⟨.str ⟨#[c]⟩, H, I.tok _, ⟨_, rfl⟩, q⟩) hs
theorem J3 (its : List Value) (n j : Nat) (u : Value) : Obj.mapSeq (·.setIfInBounds j u) { cls := .type "list", data := .seq its.toArray n } = { cls := .type "list", data := .seq (its.set j u).toArray n } := by
 simp [Obj.mapSeq]
theorem Inv.lst {pins : List (Addr × Obj)} {σ : St} {H : Hp} {s : Shared} {p : Addr} {xs : List V} (I : Inv X pins σ H s) (h : H p = some (.lst xs)) :
   ∃ (its : List Value) (n : Nat), Vals xs its /\ s.heap.get? p = some { cls := .type "list", data := .seq its.toArray n } /\ xs.length <= sizeLine := by
 obtain ⟨z, its, n, r, e⟩ := I.iP p _ h
 exact ⟨its, n, r, e, z⟩
theorem Inv.aar {pins : List (Addr × Obj)} {σ : St} {H : Hp} {s : Shared} {p : Addr} {xs ys : List V} {its its' : List Value} {n n' : Nat} {f : Obj -> Obj} (I : Inv X pins σ H s) (h : H p = some (.lst xs))
   (ho : s.heap.get? p = some { cls := .type "list", data := .seq its.toArray n }) (hf : f { cls := .type "list", data := .seq its.toArray n } = { cls := .type "list", data := .seq its'.toArray n' }) (r : Vals ys its') (hz : ys.length <= sizeLine) (t : Nat) :
   Inv X pins σ (upd H p (.lst ys)) { s with heap := s.heap.update p f, toks := t } := by
 have e : (s.heap.update p f).get? p = some { cls := .type "list", data := .seq its'.toArray n' } := by
   rw [an9 f ho (by rw [hf] <;> rfl), hf]
 refine I.write (x := p) (e := p) (by rw [h]; trivial) (.inl rfl) (fun b u hb q => (anS _ _ (anQ hb)).trans q) ⟨_, e⟩ ?_
 exact ⟨hz, its', n', r, e⟩
noncomputable def aev : V -> V -> V -> Hp -> (Hp -> Prop) -> Prop := fun o i v H Q => ∃ p xs k j, o = .ref p /\ i = .int k /\ H p = some (.lst xs) /\ OL xs.length k = some j /\ Q (upd H p (.lst (xs.set j v)))
theorem set_list : ad9 X aev := by
 intro pins s σ H o i v ov iv u Q I ro ri rv h
 obtain ⟨p, xs, k, j, rfl, rfl, hp, hj, q⟩ := h
 cases ro
 obtain ⟨t, rfl⟩ := ri
 obtain ⟨its, n, r, ho, hz⟩ := I.lst hp
 obtain ⟨h1, h2, h3, h4⟩ := DE hj
 have hl := r.length
 have hn := zO
 have I' : Inv X pins σ (upd H p (.lst (xs.set j v))) { s with heap := s.heap.update p (Obj.mapSeq (·.setIfInBounds j u)) } :=
   I.aar hp ho (J3 its n j u) (r.set rv j) (by rw [anU]; exact hz) s.toks
 by_cases h0 : 0 <= k
 . have hk : k.toNat = j := by
     rw [seqIndex_of h0 h4] at h1
     exact am3 h1
   exact PySem.W.ki_setAt ho h0 (by omega) (by rw [amC, ← hl]; exact h4) (by rw [hk]; exact ⟨_, I', q⟩)
 . have hk : (k + (its.toArray.size : Int)).toNat = j := by
     rw [seqIndex_neg (by omega) h3] at h1
     rw [amC, ← hl]
     exact am3 h1
   exact PySem.W.ki_setBack ho (by omega) (by rw [amC, ← hl]; exact h3) (by omega) (by rw [hk]; exact ⟨_, I', q⟩)
theorem DG (lo hi : Option Int) (n : Nat) : (sliceBounds lo hi none n).1 = ((HT.xg n 0 lo : Nat) : Int) /\ (sliceBounds lo hi none n).2.1 = ((HT.xg n n hi : Nat) : Int) /\ (sliceBounds lo hi none n).2.2 = 1 := by
 refine ⟨?_, ?_, rfl⟩
 . cases lo with
   | none => simp [sliceBounds, HT.xg]
   | some i =>
     simp only [sliceBounds, HT.xg, Option.getD_none, show (1 : Int) > 0 by decide, if_true]
     by_cases h : i < 0
     . simp only [h, if_true] <;> omega
     . simp only [h, if_false] <;> omega
 . cases hi with
   | none => simp [sliceBounds, HT.xg]
   | some i =>
     simp only [sliceBounds, HT.xg, Option.getD_none, show (1 : Int) > 0 by decide, if_true]
     by_cases h : i < 0
     . simp only [h, if_true] <;> omega
     . simp only [h, if_false] <;> omega
theorem BI (its : List Value) (lo hi : Option Int) : slicePick its.toArray lo hi none = ((its.drop (HT.xg its.length 0 lo)).take (HT.xg its.length its.length hi - HT.xg its.length 0 lo)).toArray := by
 obtain ⟨h1, h2, h3⟩ := DG lo hi its.toArray.size
 unfold slicePick
 rw [h1, h2, h3]
 simp only [sliceRange_one, pick_run, amC] <;> rfl
noncomputable def ahq (K : PySem.W.Frag) : V -> Option Int -> Option Int -> Hp -> VK -> Prop := fun x lo hi H Q => ∃ a xs, x = .ref a /\ oi K H a xs /\ ∀ p, H p = none -> Q (.ref p) (upd H p (.lst (OJ xs lo hi)))
theorem VH : SlR X (ahq X.K) := by
 intro pins s σ H x v vl vu lo hi sl Q I rx hs pl pu h
 obtain ⟨a, xs, rfl, hx, q⟩ := h
 cases rx
 obtain ⟨its, r, ht, hz⟩ := I.list hx
 have hlen := r.length
 refine ⟨"list", _, slot_list_getitem.lookup, ht.isList.typeIs, ?_⟩
 refine wpAny_getItem_list_slice ht.isList hs pl pu .none (by simp) ?_ (by rw [amC] <;> omega)
 rw [BI, ← hlen]
 refine ⟨.ref s.heap.objs.size, _, I.laid (t' := s.toks) (o := .lst (OJ xs lo hi)) (fun b ob q => amw _ q) (amu _) ?_, rfl, q _ (I.iP.fresh (amu _))⟩
 exact ⟨am0 (Hj xs lo hi) hz, _, 0, (r.drop (HT.xg xs.length 0 lo)).take (HT.xg xs.length xs.length hi - HT.xg xs.length 0 lo), anb _ rfl⟩
noncomputable def uQ : V -> Bool
 | .non => true
 | .bl _ => true
 | .int _ => true
 | .str _ => true
 | _ => false
noncomputable def Vf : V -> V -> Bool
 | .non, .non => true
 | .bl a, .bl b => a == b
 | .bl a, .int b => (if a then 1 else 0) == b
 | .int a, .bl b => a == (if b then 1 else 0)
 | .int a, .int b => a == b
 | .str a, .str b => a == b
 | _, _ => false
theorem aas {A : Around} {s : Shared} {y x : V} {u v : Value} (ry : RelV y u) (rx : RelV x v) (fy : uQ y = true) (fx : uQ x = true) : SeqAt.EqAt A s u v (Vf y x) := by
 cases y with
 | non =>
   cases ry
   cases x with
   | non => cases rx; exact SeqAt.EqAt.same _
   | bl b => cases rx; exact SeqAt.EqAt.none_bool b
   | int b => obtain ⟨t, rfl⟩ := rx; exact SeqAt.EqAt.none_int b t
   | str b => obtain ⟨t, rfl⟩ := rx; exact SeqAt.EqAt.none_str b t
   | _ => exact absurd (show false = true from fx) amv
 | bl a =>
   cases ry
   cases x with
   | non => cases rx; exact SeqAt.EqAt.bool_none a
   | bl b => cases rx; exact SeqAt.EqAt.bool_bool a b
   | int b => obtain ⟨t, rfl⟩ := rx; exact SeqAt.EqAt.bool_int a b t
   | str b => obtain ⟨t, rfl⟩ := rx; exact SeqAt.EqAt.bool_str a b t
   | _ => exact absurd (show false = true from fx) amv
 | int a =>
   obtain ⟨t', rfl⟩ := ry
   cases x with
   | non => cases rx; exact SeqAt.EqAt.int_none a t'
   | bl b => cases rx; exact SeqAt.EqAt.int_bool a t' b
   | int b => obtain ⟨t, rfl⟩ := rx; exact SeqAt.EqAt.int_int a t' b t
   | str b => obtain ⟨t, rfl⟩ := rx; exact SeqAt.EqAt.int_str a t' b t
   | _ => exact absurd (show false = true from fx) amv
 | str a =>
   obtain ⟨t', rfl⟩ := ry
   cases x with
   | non => cases rx; exact SeqAt.EqAt.str_none a t'
   | bl b => cases rx; exact SeqAt.EqAt.str_bool a t' b
   | int b => obtain ⟨t, rfl⟩ := rx; exact SeqAt.EqAt.str_int a t' b t
   | str b => obtain ⟨t, rfl⟩ := rx; exact SeqAt.EqAt.str_str a t' b t
   | _ => exact absurd (show false = true from fx) amv
 | _ => exact absurd (show false = true from fy) amv
noncomputable def J4 (x : V) (u : Value) : Bool := match u with
 | .none => Vf .non x
 | .bool b => Vf (.bl b) x
 | .int i _ => Vf (.int i) x
 | .str z _ => Vf (.str z) x
 | _ => false
theorem Ra {x y : V} {u : Value} (r : RelV y u) (f : uQ y = true) : J4 x u = Vf y x := by
 cases y with
 | non => cases r; rfl
 | bl b => cases r; rfl
 | int i => obtain ⟨t, rfl⟩ := r; rfl
 | str z => obtain ⟨t, rfl⟩ := r; rfl
 | _ => exact absurd (show false = true from f) amv
theorem uR {x : V} : ∀ {xs : List V} {us : List Value}, Vals xs us -> xs.all uQ = true -> us.any (J4 x) = xs.any fun y => Vf y x
 | _, _, .nil, _ => rfl
 | y :: xs, u :: us, .cons r t, f => by
   rw [List.all_cons, amD] at f
   rw [List.any_cons, List.any_cons, Ra r f.1, uR t f.2]
theorem qk {A : Around} {s : Shared} {x : V} {v : Value} (rx : RelV x v) (fx : uQ x = true) : ∀ {xs : List V} {us : List Value}, Vals xs us -> xs.all uQ = true -> ∀ u ∈ us, SeqAt.EqAt A s u v (J4 x u)
 | _, _, .nil, _ => fun u hu => by cases hu
 | y :: xs, u :: us, .cons r t, f => fun u' hu => by
   rw [List.all_cons, amD] at f
   rcases amf.mp hu with rfl | hu
   . rw [Ra r f.1]; exact aas r rx f.1 fx
   . exact qk rx fx t f.2 u' hu
noncomputable def inV (x : V) (xs : List V) : Bool := xs.any fun y => Vf y x
noncomputable def rIn (K : PySem.W.Frag) (neg : Bool) : R2 := fun x y H Q => ∃ p xs, y = .ref p /\ (oi K H p xs \/ Dy K H p xs) /\ uQ x = true /\ xs.all uQ = true /\ Q (.bl (if neg then !inV x xs else inV x xs)) H
theorem Cy : zN X (compareOp .In) (rIn X.K false) := by
 intro pins s σ H x y v u Q I rx ry h
 obtain ⟨p, xs, rfl, hq, fx, fs, q⟩ := h
 cases ry
 rcases hq with hq | hq
 . obtain ⟨its, r, pl, hz⟩ := I.list hq
   refine SeqAt.in_listAt (J4 x) pl.isList (fun w hw => qk rx fx r fs w (by simpa using hw)) ⟨.bl _, H, I, rfl, ?_⟩
   rw [show its.toArray.any (J4 x) = its.any (J4 x) by simp, uR r fs]
   exact q
 . obtain ⟨its, r, pl, hz⟩ := I.tuple hq
   refine SeqAt.in_tupleAt (J4 x) pl (fun w hw => qk rx fx r fs w (by simpa using hw)) ⟨.bl _, H, I, rfl, ?_⟩
   rw [show its.toArray.any (J4 x) = its.any (J4 x) by simp, uR r fs]
   exact q
theorem uS : zN X (compareOp .NotIn) (rIn X.K true) := by
 intro pins s σ H x y v u Q I rx ry h
 obtain ⟨p, xs, rfl, hq, fx, fs, q⟩ := h
 cases ry
 rcases hq with hq | hq
 . obtain ⟨its, r, pl, hz⟩ := I.list hq
   refine SeqAt.notIn_listAt (J4 x) pl.isList (fun w hw => qk rx fx r fs w (by simpa using hw)) ⟨.bl _, H, I, rfl, ?_⟩
   rw [show its.toArray.any (J4 x) = its.any (J4 x) by simp, uR r fs]
   exact q
 . obtain ⟨its, r, pl, hz⟩ := I.tuple hq
   refine SeqAt.notIn_tupleAt (J4 x) pl (fun w hw => qk rx fx r fs w (by simpa using hw)) ⟨.bl _, H, I, rfl, ?_⟩
   rw [show its.toArray.any (J4 x) = its.any (J4 x) by simp, uR r fs]
   exact q
theorem uT : qj X (.builtin "len") (fun xs H Q => ∃ p ys, xs = [.ref p] /\ (oi X.K H p ys \/ Dy X.K H p ys) /\ Q (.int ys.length) H) := by
 intro pins s σ H xs us Q I r h
 obtain ⟨p, ys, rfl, hq, q⟩ := h
 obtain ⟨u, rfl, rx⟩ := vals1 r
 cases rx
 have hn := zO
 rcases hq with hq | hq
 . obtain ⟨its, r', pl, hz⟩ := I.list hq
   have hlen := r'.length
   exact Calls.call_len_list pl.isList (by simp only [amC] <;> omega) ⟨.int ys.length, H, I.tok _, ⟨s.toks + 1, by rw [amC, hlen]⟩, q⟩
 . obtain ⟨its, r', pl, hz⟩ := I.tuple hq
   have hlen := r'.length
   exact len_tuple pl (by simp only [amC] <;> omega) ⟨.int ys.length, H, I.tok _, ⟨s.toks + 1, by rw [amC, hlen]⟩, q⟩
theorem DH : qj X (.type "list") (fun xs H Q => ∃ p ys, xs = [.ref p] /\ (oi X.K H p ys \/ Dy X.K H p ys) /\ ∀ l, H l = none -> Q (.ref l) (upd H l (.lst ys))) := by
 intro pins s σ H xs us Q I r h
 obtain ⟨p, ys, rfl, hq, q⟩ := h
 obtain ⟨u, rfl, rx⟩ := vals1 r
 cases rx
 have fin : ∀ (its : List Value), Vals ys its -> ys.length <= sizeLine -> ∀ (h' : Heap) (c' : Nat), (∀ b o', s.heap.get? b = some o' -> h'.get? b = some o') →
     h'.get? s.heap.objs.size = some { cls := .type "list", dict := none, data := .seq its.toArray c', slots := #[] } -> EP X pins σ Q (.ref s.heap.objs.size) { s with heap := h' } := fun its r' hz h' c' kp e =>
   ⟨.ref s.heap.objs.size, _, I.laid (t' := s.toks) kp (amu _) (show ju X.prog X.w _ h' _ (.lst ys) from ⟨hz, its, c', r', e⟩), rfl, q _ (I.iP.fresh (amu _))⟩
 rcases hq with hq | hq
 . obtain ⟨its, r', pl, hz⟩ := I.list hq
   have hlen := r'.length
   obtain ⟨o, ho, hc, n, hd⟩ := pl.isList
   exact call_list_seq p (.inl rfl) ho hc hd (fun h' c' kp e => fin its r' hz h' c' kp e) (by simp only [amC] <;> omega)
 . obtain ⟨its, r', pl, hz⟩ := I.tuple hq
   have hlen := r'.length
   obtain ⟨o, ho, hc, n, hd⟩ := pl
   exact call_list_seq p (.inr rfl) ho hc hd (fun h' c' kp e => fin its r' hz h' c' kp e) (by simp only [amC] <;> omega)
theorem BJ : qj X (.type "tuple") (fun xs H Q => ∃ p ys, xs = [.ref p] /\ ((oi X.K H p ys /\ ∀ l, H l = none -> Q (.ref l) (upd H l (.tup ys))) \/ (Dy X.K H p ys /\ Q (.ref p) H))) := by
 intro pins s σ H xs us Q I r h
 obtain ⟨p, ys, rfl, h⟩ := h
 obtain ⟨u, rfl, rx⟩ := vals1 r
 cases rx
 rcases h with ⟨hq, q⟩ | ⟨hq, q⟩
 . obtain ⟨its, r', pl, hz⟩ := I.list hq
   have hlen := r'.length
   refine call_tuple_list pl.isList (fun h' kp => ?_) (by simp only [amC] <;> omega)
   have I1 : Inv X pins σ H { s with heap := h' } := I.kept (t' := s.toks) kp
   have I2 : Inv X pins σ (upd H h'.objs.size (.tup ys)) { s with heap := h'.push { cls := .type "tuple", data := .seq its.toArray } } :=
     I1.laid (t' := s.toks) (fun b o e => amw _ e) (amu _) (show ju X.prog X.w _ _ _ (.tup ys) from ⟨hz, its, r', IsTup.new _ _⟩)
   exact ⟨.ref h'.objs.size, _, I2, rfl, q _ (I1.iP.fresh (amu _))⟩
 . obtain ⟨its, r', pl, hz⟩ := I.tuple hq
   exact call_tuple_same pl ⟨.ref p, H, I, rfl, q⟩
noncomputable def tyV (K : PySem.W.Frag) (T : String) (x : V) (H : Hp) : Prop := match x with
 | .str _ => T = "str"
 | .int _ => T = "int"
 | .ref p => (T = "list" /\ ∃ xs, oi K H p xs) \/ (T = "tuple" /\ ∃ o, K.lookup p = some o /\ o.cls = .type "tuple" /\ o.dict = none) ∨
     (T = "dict" /\ ((∃ ly, H p = some (.dK ly)) \/ ∃ ly, H p = some (.dT ly))) \/ (T = "set" /\ ∃ S n, H p = some (.set S n))
 | _ => False
theorem aat {pins : List (Addr × Obj)} {σ : St} {H : Hp} {s : Shared} {T : String} {x : V} {v : Value} (I : Inv X pins σ H s) (r : RelV x v) (ty : tyV X.K T x H) :
   s.TypeIs v T /\ ∀ a, v = .ref a -> ∃ ob, s.heap.get? a = some ob /\ ob.dict = none := by
 cases x with
 | str z =>
   obtain ⟨t, rfl⟩ := r
   cases (show T = "str" from ty)
   exact ⟨typeIs_str s z t, fun _ e => nomatch e⟩
 | int i =>
   obtain ⟨t, rfl⟩ := r
   cases (show T = "int" from ty)
   exact ⟨typeIs_int s i t, fun _ e => nomatch e⟩
 | ref p =>
   cases r
   rcases ty with ⟨rfl, xs, hq⟩ | ⟨rfl, o, hk, hc, hd⟩ | ⟨rfl, hk⟩ | ⟨rfl, S, n, hk⟩
   . obtain ⟨its, _, pl, _⟩ := I.list hq
     refine ⟨pl.isList.typeIs, fun a e => ?_⟩
     cases e
     obtain ⟨o, n, e, c, hd, _⟩ := pl
     exact ⟨o, e, hd⟩
   . refine ⟨⟨o, I.G0 p o hk, hc⟩, fun a e => ?_⟩
     cases e
     exact ⟨o, I.G0 _ o hk, hd⟩
   . have z : ∃ o, s.heap.get? p = some o /\ o.ExactDict := by
       rcases hk with ⟨ly, hk⟩ | ⟨ly, hk⟩
       . obtain ⟨_, _, _, _, o, _, _, e, ex, _⟩ := I.iP p _ hk
         exact ⟨o, e, ex⟩
       . obtain ⟨_, _, _, _, o, _, _, e, ex, _⟩ := I.iP p _ hk
         exact ⟨o, e, ex⟩
     obtain ⟨o, e, ex⟩ := z
     refine ⟨⟨o, e, ex.1⟩, fun a e2 => ?_⟩
     cases e2
     exact ⟨o, e, ex.2.1⟩
   . obtain ⟨o, _, _, _, e, ex, _⟩ := I.iP p _ hk
     refine ⟨⟨o, e, ex.1⟩, fun a e2 => ?_⟩
     cases e2
     exact ⟨o, e, ex.2.1⟩
 | _ => exact False.elim ty
noncomputable def tBM (K : PySem.W.Frag) (T : String) (r : V -> List V -> Hp -> VK -> Prop) (to : TE) (t : TA) : TE := fun σ H Q => to σ H fun x H1 => tyV K T x H1 /\ t σ H1 fun xs H2 => r x xs H2 Q
variable {o e : Expr} {es : List Expr} {to : TE} {t : TA} {name : Str} {apos Hl : Pos} {T id : String} {r : V -> List V -> Hp -> VK -> Prop}
theorem Nf (pa : PlainAttrs T) (slot : Slot T name id) (hty : typeOf (.builtin id) = pure (.type "method_descriptor")) (hm : MtR X id r) (ho : PE X o to) (ha : PA X (e :: es) t)
   (lA : attributeBase o name X.env (eval o X.env) = eval o X.env := by rfl)
   (xh : ((backTo Hl (starEach (e :: es) X.env)).all (fun x => !x.1) && (backToKw Hl (keywordEach [] X.env)).all (fun x => x.1.isSome)
     && decide ((e :: es).length + ([] : List Keyword).length + (if ([] : List Keyword).isEmpty then 0 else 1) < 30)) = true := by rfl)
   (hline : (apos.endLine == Hl.line) = true := by rfl) (hs : starEach (e :: es) X.env = (false, eval e X.env) :: starEach es X.env := by rfl) (aau : (backTo Hl (starEach es X.env)).any (·.1) = false := by rfl) :
   PE X (.Call (.Attribute o name apos) (e :: es) [] Hl) (tBM X.K T r to t) := by
 intro pins s σ H Q I h
 refine wpAny_Call_method_late lA xh hline rfl (gH (ho pins s σ H _ I h) fun v s1 zz => ?_)
 obtain ⟨x, H1, I1, r1, ty, q1⟩ := zz
 obtain ⟨h1, h2⟩ := aat I1 r1 ty
 refine ⟨T, id, pa, slot, hty, h1, h2, ?_⟩
 have hA := ha Hl pins s1 σ H1 _ I1 q1
 rw [hs] at hA ⊢
 refine Calls.callWith_builtin (by show (false || (backTo Hl (starEach es X.env)).any (·.1)) = false; rw [aau] <;> rfl) (Calls.evalArgs_plain ?_)
 exact gH hA fun us s2 ⟨vs, H2, I2, r2, q2⟩ => hm pins s2 σ H2 x vs v us Q I2 r1 r2 q2
end
noncomputable def MtM (X : Cx) (id : String) (r : V -> List V -> Hp -> VK -> Prop) : Prop :=
 ∀ (pins : List (Addr × Obj)) (s : Shared) (σ : St) (H : Hp) (x : V) (xs : List V) (v : Value) (us : List Value) (Q : VK), Inv X pins σ H s -> RelV x v -> Vals xs us -> r x xs H Q →
   wpAny (model X.prog X.w) X.A (call (.builtin id) (v :: us)) (EP X pins σ Q) X.xe s
theorem Vals.one {x : V} {us : List Value} (h : Vals [x] us) : ∃ u, us = [u] /\ RelV x u := by
 cases h with
 | cons r h => cases h; exact ⟨_, rfl, r⟩
theorem Vals.two {x y : V} {us : List Value} (h : Vals [x, y] us) : ∃ u v, us = [u, v] /\ RelV x u /\ RelV y v := by
 cases h with
 | cons r h => cases h with
   | cons q h => cases h; exact ⟨_, _, rfl, r, q⟩
theorem Vals.rep {xs : List V} {us : List Value} (h : Vals xs us) : ∀ k : Nat, Vals (List.replicate k xs).flatten (List.replicate k us).flatten
 | 0 => .nil
 | k + 1 => by
   rw [ano, ano, anN, anN]
   exact Vals.append h (Vals.rep h k)
theorem foldl_rep (its : List Value) : ∀ (k : Nat) (acc : List Value),
   List.foldl (fun x1 x2 => x1 ++ x2) acc.toArray (List.replicate k its.toArray) = (acc ++ (List.replicate k its).flatten).toArray
 | 0, acc => by simp
 | k + 1, acc => by
   have e : acc.toArray ++ its.toArray = (acc ++ its).toArray := by simp
   have e2 : (acc ++ its) ++ (List.replicate k its).flatten = acc ++ (List.replicate (k + 1) its).flatten := by
     rw [ano, anN, aml]
   rw [← e2, ← foldl_rep its k (acc ++ its), ← e, ano, List.foldl_cons]
section
variable {X : Cx} {pins : List (Addr × Obj)} {σ : St} {H : Hp} {s : Shared} {l b : Addr} {xs ys zs : List V}
theorem Inv.aav {its its' : List Value} {n : Nat} {f : Array Value -> Array Value} {t' : Nat} (I : Inv X pins σ H s) (hH : H l = some (.lst xs))
   (e : s.heap.get? l = some { cls := .type "list", data := .seq its.toArray n }) (hf : f its.toArray = its'.toArray) (hv : Vals ys its') (hz : ys.length <= sizeLine) :
   Inv X pins σ (upd H l (.lst ys)) { s with heap := s.heap.update l (Obj.mapSeq f), toks := t' } := by
 have q := PySem.IsL.update e f
 rw [hf] at q
 refine I.write (x := l) (e := l) (by rw [hH]; exact trivial) (.inl rfl) (fun b' u hb hu => (anS s.heap (Obj.mapSeq f) (anQ hb)).trans hu) ⟨_, q⟩ ?_
 exact ⟨hz, its', _, hv, q⟩
theorem Inv.aex {its : List Value} {t' : Nat} (I : Inv X pins σ H s) (hv : Vals ys its) (hz : ys.length <= sizeLine) :
   Inv X pins σ (upd H s.heap.objs.size (.lst ys)) { s with heap := s.heap.push { cls := .type "list", data := .seq its.toArray }, toks := t' } :=
 I.laid (fun _ _ q => amw _ q) (amu _) ⟨hz, its, 0, hv, anb _ rfl⟩
theorem Inv.fresh (I : Inv X pins σ H s) : H s.heap.objs.size = none := I.iP.fresh (amu _)
theorem Inv.VJ (I : Inv X pins σ H s) (hH : H l = some (.lst xs)) : xs.length <= sizeLine /\ ∃ (its : List Value) (n : Nat), Vals xs its /\ xs.length = its.length /\ s.heap.get? l = some { cls := .type "list", data := .seq its.toArray n } := by
 obtain ⟨z, its, n, r, e⟩ := I.iP l _ hH
 exact ⟨z, its, n, r, r.length, e⟩
theorem zQ {n : Nat} (h : n <= sizeLine) : Builtin.List.listTooLong n = false := by
 unfold Builtin.List.listTooLong
 exact amN (by omega)
end
section
variable {X : Cx}
noncomputable def VL : V -> List V -> Hp -> VK -> Prop := fun x vs H Q => ∃ l xs y, x = .ref l /\ vs = [y] /\ H l = some (.lst xs) /\ xs.length < sizeLine /\ Q .non (upd H l (.lst (xs ++ [y])))
theorem xj : MtM X "list.append" VL := by
 intro pins s σ H x vs v us Q I rx rv h
 obtain ⟨l, xs, y, rfl, rfl, hH, hz, q⟩ := h
 cases rx
 obtain ⟨u, rfl, ru⟩ := rv.one
 obtain ⟨z, its, n, r, hl, e⟩ := I.VJ hH
 refine call_meets F.slot_list_append ⟨_, e, rfl⟩ F.entry_list_append (F.args_list_append_2 _ _) (PySem.list_append l its.toArray n u (by rw [amC]; omega)) ⟨e, ?_⟩
 refine ⟨.non, _, I.aav (its' := its ++ [u]) hH e (by simp) (r.append (.cons ru .nil)) ?_, rfl, q⟩
 rw [amj, anf]
 omega
noncomputable def VM : V -> List V -> Hp -> VK -> Prop := fun x vs H Q => ∃ l b xs zs, x = .ref l /\ vs = [.ref b] /\ H l = some (.lst xs) /\ H b = some (.lst zs) /\ xs.length + zs.length <= sizeLine /\ Q .non (upd H l (.lst (xs ++ zs)))
theorem OO : MtM X "list.extend" VM := by
 intro pins s σ H x vs v us Q I rx rv h
 obtain ⟨l, b, xs, zs, rfl, rfl, hH, hB, hz, q⟩ := h
 cases rx
 obtain ⟨u, rfl, ru⟩ := rv.one
 cases ru
 obtain ⟨z, its, n, r, hl, e⟩ := I.VJ hH
 obtain ⟨z2, xo, n2, r2, hl2, e2⟩ := I.VJ hB
 have Vy : its.toArray.size + xo.toArray.size <= sizeLine := by rw [amC, amC]; omega
 have Ho : ¬ (!its.toArray.isEmpty && Builtin.List.listTooLong (its.toArray.size + xo.toArray.size)) = true := by
   rw [zQ Vy, aoq]
   exact amv
 refine call_meets F.slot_list_extend ⟨_, e, rfl⟩ F.entry_list_extend (F.args_list_extend_2 _ _)
   (AutoSeq1.list_extend_list_list_0 l its.toArray n b xo.toArray n2 Ho (by rw [amC]; omega) (by omega)) ⟨e, e2, ?_⟩
 refine ⟨.non, _, I.aav (its' := its ++ xo) hH e (by simp) (r.append r2) ?_, rfl, q⟩
 rw [amj]
 omega
theorem len_rep {α : Type} (xs : List α) (k : Nat) : (List.replicate k xs).flatten.length = k * xs.length := by
 induction k with
 | zero => simp
 | succ k ih => rw [ano, anN, amj, ih, Nat.succ_mul, Nat.add_comm]
end
section
variable {prog : Program} {w : World} {A : Around} {E : Value -> Shared -> Prop} {s : Shared}
set_option maxRecDepth 100000 in
end
section
variable {X : Cx}
end
end L2
namespace Att
open PySem PySem.W PySem.Calls PyProof.Rows
theorem yK {P : Params} {h : Heap} : ∀ (ns : List Int) (vs : List Value), WellAll P h vs (ns.map WData.int) -> IntsAre vs ns := by
 intro ns
 induction ns with
 | nil =>
   intro vs w
   rw [List.map_nil] at w
   cases w
   exact .nil
 | cons n ns ih =>
   intro vs w
   rw [List.map_cons] at w
   cases w with
   | cons a b =>
     cases a
     exact .cons _ _ (ih _ b)
theorem OQ {l : OpenLaw} {n : Nat} (hn : l.most = some n) {P : Params} {h : Heap} {args : List WData} {vals : List Value}
   (yL : l.row.toRowW.claim.pre args = true) (OS : WellAll P h vals args) :
   ∃ a vs ns, vals = [Value.ref a] /\ args = [WData.list (ns.map WData.int)] /\ h.get? a = some { cls := .type "list", data := .seq vs.toArray } /\ IntsAre vs ns /\ ns.length <= n := by
 have hsh : WShape.hasAll [] args [.list .int] = true := (pre_splitW yL).1
 have hc : l.pre.holds [] { args := args } = true := (pre_splitW yL).2
 obtain ⟨d, r, rfl, h1, h2⟩ := hasAllW_cons hsh
 obtain rfl := hasAllW_nil h2
 obtain ⟨xs, rfl, h3⟩ := hasW_list h1
 obtain ⟨ns, rfl⟩ := items_int h3
 have hlen : ns.length <= n := by
   unfold OpenLaw.pre at hc
   have h4 : (WTm.not (.lt (.lit (.int (n : Int))) (.len (.arg 0)))).holds [] { args := [.list (ns.map .int)] } = true := by
     have h4 := (holds_andW hc).1
     rw [hn] at h4
     exact h4
   have h5 := condW_of h4 (w_not (w_lt w_lit (w_len_list (w_arg rfl))))
   rw [List.length_map] at h5
   refine Nat.le_of_not_lt fun q => ?_
   have q' : (n : Int) < ((ns.length : Nat) : Int) := by omega
   first
     | (rw [decide_eq_true q'] at h5; exact absurd h5 (by decide))
     | (simp at h5; omega)
 cases OS with
 | cons w1 w2 =>
   cases w2
   cases w1 with
   | list ho OU => exact ⟨_, _, ns, rfl, rfl, ho, yK ns _ OU, hlen⟩
theorem OV (l : OpenLaw) (args : List WData) : l.row.toRowW.claim.post args (.bool true) args = true :=
 postW_of (r := l.row.toRowW) (X := (true == true))
   (show WShape.has [] (.bool true) .bool = true by first | rfl | decide | simp [WShape.has, WShape.arms, WShape.armsAll])
   (show (WTm.eq .res (.lit (.bool true))).value [] { args := args, res := some (.bool true), after := args } = some (.bool (true == true)) from w_eq_bool (w_res rfl) w_lit) rfl
theorem Hq {l : OpenLaw} {n : Nat} {q : Program} {loose : List Str} {XP : (Str -> Option Value) -> Heap -> Prop} {YP : World -> Heap -> Prop} {d : DefRec}
   (hn : l.most = some n) (hdf : d.params.defaults = [])
   (call : ∀ (w : World) (s₀ s₁ : Shared) (mg mb : Str -> Option Value) (fa : Addr) (o : Obj) (pm cd doc : Value) (a : Addr) (vs : List Value) (ns : List Int),
     Ground q loose [] XP w s₀ mg mb s₁.heap -> YP w s₁.heap →
     s₁.heap.get? fa = some o -> o.data = .func (docDef d.name d.params d.body d.scope pm cd doc) -> s₁.heap.CodeRec cd d.name -> mg d.name = some (.ref fa) →
     s₁.heap.get? a = some { cls := .type "list", data := .seq vs.toArray } -> IntsAre vs ns -> ns.length <= n -> s₁.gens = #[] →
     codeAny (model l.prog w) callerA (.call (.ref fa) ⟨[.ref a], []⟩) (fun r s' => r = .ok (.ret (.bool true)) /\ OldK s₁.heap s'.heap /\ s'.os = s₁.os /\ AllBare s'.gens) s₁) :
   WalkO q loose XP YP l.row.toRowW d [] (fun f vs => PySem.call f vs) := by
 intro w s₀ s₁ mg mb G Y fa o pm cd doc dV kV ho hd oh hD hmg hg args vals as yL hlay hrd OS hlo
 obtain rfl : dV = .none := Dflts.none hD hdf
 obtain rfl : kV = .none := Dflts.noKw hD
 obtain ⟨a, vs, ns, rfl, rfl, aaw, hints, hlen⟩ := OQ hn yL OS
 refine enter_call (codeAny_mono (call w s₀ s₁ mg mb fa o pm cd doc a vs ns G Y ho (fd_plain hd) oh hmg aaw hints hlen hg) fun r s' hq => ?_)
 obtain ⟨rfl, h2, h3, h4⟩ := hq
 exact ⟨.inl ⟨.bool true, .bool true, [], rfl, fun _ => rfl, .bool true, OV l _, fun _ => ⟨List.Pairwise.nil, fun _ hm => (nomatch hm)⟩⟩, h2, h3, h4⟩
section
variable {prog : Program} {w : World} {A : Around} {E : Value -> Shared -> Prop} {s : Shared} {K : Frag}
noncomputable def ledger (h : Heap) (L d : Addr) : List (Addr × Obj) := (List.range h.objs.size).filterMap fun a => if a = L \/ a = d then none else (h.get? a).map fun o => (a, o)
end
end Att
namespace L2
open PySem PySem.Spec PyProof.Rows
theorem Cz : ∀ {vs : List Value} {ns : List Int}, IntsAre vs ns -> Vals (ns.map V.int) vs
 | _, _, .nil => .nil
 | _, _, .cons n t h => .cons ⟨t, rfl⟩ (Cz h)
noncomputable def Only (H : Hp) : Prop := ∀ b, H b = none \/ ∃ o xs, H b = some (.fS o (.lst xs))
theorem Rb {P : Program} {w : World} {K : PySem.W.Frag} {mg mb : Str -> Option Value} {CX : Qw} {k : Nat} {fa a : Addr} {fd : FuncData} {x : Str} {sp : Sp} {s₁ : Shared} {vs : List Value} {ns : List Int}
   (KX : K.In s₁.heap) (hns : s₁.heap.Ns mainGlobals mg) (hb : s₁.heap.Ns builtinsNs mb) (hbb : ∀ x : Str, x ≠ "__name__" -> mb x = bootBuiltins x) (ahs : s₁.heap.NoLimit) (hg : s₁.gens = #[])
   (ha : s₁.heap.get? a = some { cls := .type "list", data := .seq vs.toArray }) (hi : IntsAre vs ns) (hl : ns.length <= sizeLine) (hr : iQ k callerA)
   (F : ∀ base : Heap, K.In base -> base.Ns mainGlobals mg -> cC P w K mg base CX k fa fd [x] sp) (aeA : ∀ (s : Shared) (u : Value), BindsTo s fd ⟨[u], []⟩ [(x, u)])
   (Qy : ∀ H : Hp, Only H -> oi K H a (ns.map V.int) -> sp [.ref a] H (fun v _ => v = .bl true) fun _ _ _ => False)
   (hCX : ∀ H e s', CX [] H s₁ (fun _ _ _ => False) e s' -> False) :
   codeAny (model P w) callerA (.call (.ref fa) ⟨[.ref a], []⟩) (fun r s' => r = .ok (.ret (.bool true)) /\ OldK s₁.heap s'.heap /\ s'.os = s₁.os /\ AllBare s'.gens) s₁ := by
 have rv := Cz hi
 have ahu := hi.length
 have core : ∀ H : Hp, Only H -> oi K H a (ns.map V.int) -> yR P w H s₁.heap -> (∀ b, H b ≠ none -> b = a) -> (H a ≠ none -> K.lookup a = none) →
     codeAny (model P w) callerA (.call (.ref fa) ⟨[.ref a], []⟩) (fun r s' => r = .ok (.ret (.bool true)) /\ OldK s₁.heap s'.heap /\ s'.os = s₁.os /\ AllBare s'.gens) s₁ := by
   intro H hO hS iP hA hK
   have Ng : ∀ {b : Addr} {o : Obj}, s₁.heap.get? b = some o -> H b = none -> (Dv s₁.heap H).get? b = some o := fun e n => QI e n
   have noA : ∀ {b : Addr} {o : Obj} {es : Array DictEntry} {ep : Nat}, s₁.heap.get? b = some o -> o.data = .dict es ep -> H b = none := fun {b o es ep} e d => by
     cases q : H b with
     | none => rfl
     | some u =>
       have e' : b = a := hA b (by rw [q]; simp)
       subst e'
       rw [ha] at e; cases e
       have d' : Data.seq vs.toArray _ = Data.dict es ep := d
       cases d'
   have nsK : ∀ {b : Addr} {m : Str -> Option Value}, s₁.heap.Ns b m -> (Dv s₁.heap H).Ns b m := fun {b m} ⟨o, es, ep, e, d, r⟩ => ⟨o, es, ep, Ng e (noA e d), d, r⟩
   have hKb : K.In (Dv s₁.heap H) := fun b o e => Ng (KX b o e) (by
     cases q : H b with
     | none => rfl
     | some u =>
       have e' : b = a := hA b (by rw [q]; simp)
       subst e'
       rw [hK (by rw [q]; simp)] at e; cases e)
   have hM : Mod K mg (Dv s₁.heap H) := ⟨hKb, nsK hns, ⟨mb, nsK hb, hbb⟩, let ⟨mc, h1, h2⟩ := ahs; ⟨mc, nsK h1, h2⟩⟩
   have e0 : J1 P w K mg (Dv s₁.heap H) callerA [] s₁ H := ⟨rfl, hM, fun b o e => Vj e, Nat.le_of_eq (Om _ _), trivial, fun b hb => absurd (show b ∈ ([] : List Addr) from hb) (by simp), iP, .of_eq hg⟩
   refine codeAny_mono ((F _ hKb (nsK hns)).run callerA [] s₁ H ⟨[.ref a], []⟩ [.ref a] [.ref a] _ _ hr e0 (aeA s₁ (.ref a)) (.cons rfl .nil) (Qy H hO hS)) fun r s' h => ?_
   cases r with
   | error e => exact (hCX H e s' h).elim
   | ok fl =>
     cases fl with
     | next => exact False.elim h
     | brk => exact False.elim h
     | cont => exact False.elim h
     | ret u =>
       obtain ⟨v, H', os, bare, un, ahv, r', q⟩ := h
       have q' : v = .bl true := q
       subst q'
       obtain rfl : u = Value.bool true := r'
       refine ⟨rfl, OldK.of_keep fun b o e => ?_, os, bare⟩
       cases q : H b with
       | none => exact un.keep b o e q (by intro z; exact absurd (show b ∈ ([] : List Addr) from z) (by simp)) (by simp)
       | some u =>
         rcases hO b with z | ⟨ob, xs, z⟩
         . rw [q] at z; cases z
         . have z2 := un.fL b ob _ z
           obtain ⟨e1, _⟩ := iP b _ z
           obtain ⟨e2, _⟩ := ahv b _ z2
           rw [e] at e1; cases e1
           exact e2
 cases hk : K.lookup a with
 | some o =>
   have e := KX a o hk
   rw [ha] at e
   cases e
   refine core (fun _ => none) (fun _ => .inl rfl) (.inr ⟨_, vs.toArray, _, hk, rfl, rfl, rfl, by rw [List.size_toArray, ahu]; exact hl, by simpa using rv⟩) (fun b u z => by have z' : (none : Option HO) = some u := z; cases z') (fun b z => absurd rfl z) fun z => absurd rfl z
 | none =>
   refine core (fun b => if b = a then some (.fS { cls := .type "list", data := .seq vs.toArray } (.lst (ns.map V.int))) else none) (fun b => ?_) (.inl (.inr ⟨{ cls := .type "list", data := .seq vs.toArray }, amo rfl⟩)) (fun b u z => ?_) (fun b z => ?_) fun _ => hk
   . by_cases hb : b = a
     . exact .inr ⟨_, _, amo hb⟩
     . exact .inl (amk hb)
   . by_cases hb : b = a
     . have z' := (amo hb).symm.trans z
       cases z'
       subst hb
       exact ⟨ha, by rw [amc]; exact hl, vs, _, rv, ha⟩
     . have z' := (amk hb).symm.trans z
       cases z'
   . by_cases hb : b = a
     . exact hb
     . exact absurd (amk hb) z
theorem VN {l : PySem.W.OpenLaw} {n k : Nat} {q : Program} {loose : List Str} {XP : (Str -> Option Value) -> Heap -> Prop} {YP : World -> Heap -> Prop} {d : DefRec} {K : Params -> PySem.W.Frag} {CX : World -> Qw} {sp : World -> Sp} {x : Str}
   (hn : l.most = some n) (hn2 : n <= sizeLine) (hdf : d.params.defaults = []) (hr : iQ k callerA)
   (hY : ∀ (w : World) (h : Heap), YP w h -> (K w.params).In h)
   (F : ∀ (w : World) (mg : Str -> Option Value) (fa : Addr) (h : Heap), (K w.params).In h -> h.Ns mainGlobals mg -> mg d.name = some (.ref fa) →
     ∃ fd : FuncData, (∀ (s : Shared) (u : Value), BindsTo s fd ⟨[u], []⟩ [(x, u)]) ∧
       ∀ base : Heap, (K w.params).In base -> base.Ns mainGlobals mg -> cC l.prog w (K w.params) mg base (CX w) k fa fd [x] (sp w))
   (Qy : ∀ (w : World) (H : Hp) (a : Addr) (ns : List Int), ns.length <= n -> Only H -> oi (K w.params) H a (ns.map V.int) -> sp w [.ref a] H (fun v _ => v = .bl true) fun _ _ _ => False)
   (hCX : ∀ (w : World) (H : Hp) (s : Shared) (e : Value) (s' : Shared), CX w [] H s (fun _ _ _ => False) e s' -> False) :
   PySem.W.WalkO q loose XP YP l.row.toRowW d [] (fun f vs => PySem.call f vs) := by
 refine Att.Hq hn hdf fun w s₀ s₁ mg mb fa o pm cd doc a vs ns G Y ho hd oh hmg aaw hints hlen hg => ?_
 have KX := hY w _ Y
 obtain ⟨fd, hb, hF⟩ := F w mg fa _ KX G.T.g hmg
 exact Rb KX G.T.g G.T.b G.T.builtins G.T.nolimit hg aaw hints (am0 hlen hn2) hr hF hb (fun H hO hS => Qy w H a ns hlen hO hS) fun H e s' => hCX w H s₁ e s'
noncomputable def inClass (s : Stmt) (j : Nat) : Stmt := match s with
 | .ClassDef _ _ _ body _ _ _ _ _ _ _ => body.getD j (.Pass ⟨0, 0, 0, 0⟩)
 | _ => .Pass ⟨0, 0, 0, 0⟩
noncomputable def yV (s : Stmt) : Arguments := match s with
 | .FunctionDef _ a _ _ _ _ _ _ _ _ => a
 | _ => { posonlyargs := [], args := [], vararg := none, kwonlyargs := [], kw_defaults := [], kwarg := none, defaults := [] }
noncomputable def jH (s : Stmt) : List Stmt := match s with
 | .FunctionDef _ _ b _ _ _ _ _ _ _ => b
 | _ => []
noncomputable def av (s : Stmt) : Scope := match s with
 | .FunctionDef _ _ _ _ _ _ sc _ _ _ => sc
 | _ => { kind := .function, names := [], isGenerator := false, isCoroutine := false }
noncomputable abbrev iE : Qw := fun _ _ _ _ _ _ => False
noncomputable abbrev E0 : XK := fun _ _ _ => False
theorem Hr {X : Cx} : Passes iE X E0 := fun _ _ _ _ _ _ _ h => h.elim
structure jv (K : PySem.W.Frag) (x qual : Str) (st : Stmt) (f : Addr) (fd : FuncData) : Prop where
 ex : ∃ (oc : Value) (od : Option Addr) (kV doc pm : Value) (an : Option Addr) (fV ct : Value) (VC : Array (Option Value)),
   fd = PySem.W.fnOf x qual (yV st) (jH st) (av st) .none kV doc pm an fV ct /\ K.lookup f = some ⟨oc, od, .func fd, VC⟩ /\ PySem.W.codeIn K fV qual = true
 kp : PySem.W.keepIn K (.ref f) = true
section
variable {P : Program} {w : World} {K : PySem.W.Frag} {mg : Str -> Option Value} {base : Heap}
theorem jv.ok {x qual : Str} {st : Stmt} {f : Addr} {fd : FuncData} {N ps : List Str} {k : Nat} {sp : Sp} (F : jv K x qual st f fd) (S : aP N ps (av st)) (len : ∀ vs H Q E, sp vs H Q E -> vs.length = ps.length)
   (Q8 : ∀ (fV : Value) (A : Around) (outer : List Env) (s : Shared) (H : Hp) (vs : List V) (Q : VK) (E : XK), iQ k (A.deeper (envOfC qual (av st) s.heap.objs.size f fV)) -> sp vs H Q E →
     ∃ t, M3 (Hh iE P w K mg base N qual (av st) f fV A outer s H E).nox (jH st) t /\ t { nx := fun _ H' => Q .non H', rt := Q } (start N vs) H) : cC P w K mg base iE (k + 1) f fd ps sp := by
 obtain ⟨oc, od, kV, doc, pm, an, fV, ct, VC, rfl, lk, oh⟩ := F.ex
 refine aes lk oh S len fun A outer s H vs Q E hr Qy => ?_
 obtain ⟨t, h, q⟩ := Q8 fV A outer s H vs Q E hr Qy
 exact ⟨t, h.nox, q⟩
theorem jv.binds {x qual : Str} {st : Stmt} {f : Addr} {fd : FuncData} {ps : List Str} (F : jv K x qual st f fd)
   (h : ∀ (kV doc pm : Value) (an : Option Addr) (fV ct : Value) (us : List Value), us.length = ps.length -> bindArgs (PySem.W.fnOf x qual (yV st) (jH st) (av st) .none kV doc pm an fV ct) ⟨us, []⟩ = pure (ps.zip us)) : Binds K fd ps [] := by
 obtain ⟨oc, od, kV, doc, pm, an, fV, ct, VC, rfl, lk, oh⟩ := F.ex
 exact .all (h kV doc pm an fV ct)
theorem bF {x qual : Str} {st : Stmt} {f : Addr} {oc : Value} {od an : Option Addr} {VC : Array (Option Value)} {kV doc pm fV ct : Value} (l : K.lookup f = some ⟨oc, od, .func (PySem.W.fnOf x qual (yV st) (jH st) (av st) .none kV doc pm an fV ct), VC⟩)
   (c : PySem.W.codeIn K fV qual = true) (k : PySem.W.keepIn K (.ref f) = true) : jv K x qual st f (PySem.W.fnOf x qual (yV st) (jH st) (av st) .none kV doc pm an fV ct) := ⟨⟨oc, od, kV, doc, pm, an, fV, ct, VC, rfl, l, c⟩, k⟩
end
theorem bQ {n : Nat} (h : n <= 1000) : n < sizeLine := ant h (by decide)
section
variable {X : Cx}
end
theorem J5 {A B : Prop} (h : B) : if false = true then A else B := by
 rw [amk amv]
 exact h
theorem J6 {A B : Prop} (h : A) : if true = true then A else B := by
 rw [amo rfl]
 exact h
noncomputable def aV (H H' : Hp) : Prop := ∀ b o, H b = some o -> H' b = some o
theorem aV.refl (H : Hp) : aV H H := fun _ _ h => h
theorem aV.trans {H H1 H2 : Hp} (a : aV H H1) (b : aV H1 H2) : aV H H2 := fun c o h => b c o (a c o h)
theorem aV.free {H H' : Hp} (e : aV H H') {l : Addr} (h : H' l = Option.none) : H l = Option.none := by
 cases q : H l with
 | none => rfl
 | some o =>
   rw [e l o q] at h
   cases h
theorem aV.seq {K : PySem.W.Frag} {H H' : Hp} {a : Addr} {xs : List V} (e : aV H H') (h : oi K H a xs) : oi K H' a xs := by
 rcases h with (h | ⟨o, h⟩) | h
 . exact .inl (.inl (e _ _ h))
 . exact .inl (.inr ⟨o, e _ _ h⟩)
 . exact .inr h
section
variable {κ : Type} [DecidableEq κ]
end
section
variable {P : Program} {w : World} {H : Hp} {h : Heap} {a : Addr}
end
section
variable {X : Cx} {pins : List (Addr × Obj)} {σ : St} {H : Hp} {s : Shared} {a : Addr} {y v : V} {u r : Value} {o : Option V} {A : Around} {E : Value -> Shared -> Prop}
end
section
variable {X : Cx} {pins : List (Addr × Obj)} {σ : St} {H : Hp} {s : Shared} {a : Addr} {ly : List (Key × V)} {k : Key} {u : Value} {A : Around} {E : Value -> Shared -> Prop}
end
section
variable {X : Cx} {o i e value : Expr} {pos pos' ahi : Pos} {td ty tv : TE}
end
section
variable {X : Cx} {pos : Pos}
end
section
variable {X : Cx} {pins : List (Addr × Obj)} {σ : St} {H : Hp} {s : Shared} {a : Addr} {y d : V} {u r : Value} {o : Option V} {A : Around} {E : Value -> Shared -> Prop}
end
section
variable {X : Cx} {o e f : Expr} {apos Hl : Pos} {td ty tx : TE}
end
section
variable {X : Cx} {pins : List (Addr × Obj)} {σ : St} {H : Hp} {s : Shared} {a : Addr} {ly : List (Key × V)} {A : Around} {E : Value -> Shared -> Prop}
end
section
variable {X : Cx} {pins : List (Addr × Obj)} {σ : St} {H : Hp} {s : Shared} {a : Addr} {y : V} {u : Value} {A : Around} {E : Value -> Shared -> Prop}
end
end L2
namespace L3
open PySem PySem.Spec PyProof.Rows L2
inductive D where
 | non | bl (b : Bool) | int (i : Int) | str (x : Str)
 | tup (ds : List D) | lst (ds : List D) | ins (c : Str) (fs : List (Str × D)) | BH (ly : List (Key × D))
 | dct (ly : List (List Key × D))
 | any
 | val (v : V)
inductive T where
 | sh (d : D) | tup (ts : List T) | lst (ts : List T) | ins (c : Str) (fs : List (Str × T)) | BH (ly : List (Key × D)) | dct (ly : List (List Key × T))
 | pin (x : Addr) (t : T)
mutual
noncomputable def T.fS : T -> D
 | .sh d => d
 | .tup ts => .tup (fL ts)
 | .lst ts => .lst (fL ts)
 | .ins c fs => .ins c (tE fs)
 | .BH ly => .BH ly
 | .dct ly => .dct (Rc ly)
 | .pin _ t => t.fS
noncomputable def T.fL : List T -> List D
 | [] => []
 | t :: ts => t.fS :: T.fL ts
noncomputable def T.tE : List (Str × T) -> List (Str × D)
 | [] => []
 | (x, t) :: fs => (x, t.fS) :: T.tE fs
noncomputable def T.Rc : List (List Key × T) -> List (List Key × D)
 | [] => []
 | (x, t) :: fs => (x, t.fS) :: T.Rc fs
end
variable (K : PySem.W.Frag) (CL : Str -> Addr)
mutual
inductive c9 (Z : Hp) : D -> V -> Prop where
 | non : c9 Z .non .non
 | bl (b : Bool) : c9 Z (.bl b) (.bl b)
 | int (i : Int) : c9 Z (.int i) (.int i)
 | str (x : Str) : c9 Z (.str x) (.str x)
 | any (v : V) : c9 Z .any v
 | val (v : V) : c9 Z (.val v) v
 | tup {a : Addr} {vs : List V} {ds : List D} : Dy K Z a vs -> aJ Z ds vs -> c9 Z (.tup ds) (.ref a)
 | lst {a : Addr} {vs : List V} {ds : List D} : oi K Z a vs -> aJ Z ds vs -> c9 Z (.lst ds) (.ref a)
 | ins {a dx : Addr} {c : Str} {gs : List (Str × V)} {fs : List (Str × D)} : Z a = some (.ins (CL c) dx gs) -> tK Z fs gs -> c9 Z (.ins c fs) (.ref a)
 | BH {a : Addr} {gs : List (Key × V)} {fs : List (Key × D)} : Z a = some (.dK gs) -> gA Z fs gs -> c9 Z (.BH fs) (.ref a)
 | dct {a : Addr} {gs : List (List Key × V)} {fs : List (List Key × D)} : Z a = some (.dT gs) -> zR Z fs gs -> c9 Z (.dct fs) (.ref a)
inductive aJ (Z : Hp) : List D -> List V -> Prop where
 | nil : aJ Z [] []
 | cons {d : D} {v : V} {ds : List D} {vs : List V} : c9 Z d v -> aJ Z ds vs -> aJ Z (d :: ds) (v :: vs)
inductive tK (Z : Hp) : List (Str × D) -> List (Str × V) -> Prop where
 | nil : tK Z [] []
 | cons {x : Str} {d : D} {v : V} {ds : List (Str × D)} {vs : List (Str × V)} : c9 Z d v -> tK Z ds vs -> tK Z ((x, d) :: ds) ((x, v) :: vs)
inductive gA (Z : Hp) : List (Key × D) -> List (Key × V) -> Prop where
 | nil : gA Z [] []
 | cons {x : Key} {d : D} {v : V} {ds : List (Key × D)} {vs : List (Key × V)} : c9 Z d v -> gA Z ds vs -> gA Z ((x, d) :: ds) ((x, v) :: vs)
inductive zR (Z : Hp) : List (List Key × D) -> List (List Key × V) -> Prop where
 | nil : zR Z [] []
 | cons {x : List Key} {d : D} {v : V} {ds : List (List Key × D)} {vs : List (List Key × V)} : c9 Z d v -> zR Z ds vs -> zR Z ((x, d) :: ds) ((x, v) :: vs)
end
mutual
inductive d8 (H Z : Hp) : T -> V -> List Addr -> Prop where
 | sh {d : D} {v : V} : c9 K CL Z d v -> d8 H Z (.sh d) v []
 | tup {a : Addr} {vs : List V} {ts : List T} {fp : List Addr} : Z a = some (.tup vs) -> bz H Z ts vs fp -> d8 H Z (.tup ts) (.ref a) fp
 | lst {a : Addr} {vs : List V} {ts : List T} {fp : List Addr} : H a = some (.lst vs) -> bz H Z ts vs fp -> d8 H Z (.lst ts) (.ref a) (a :: fp)
 | ins {a dx : Addr} {c : Str} {gs : List (Str × V)} {fs : List (Str × T)} {fp : List Addr} : H a = some (.ins (CL c) dx gs) -> fz H Z fs gs fp -> d8 H Z (.ins c fs) (.ref a) (a :: fp)
 | BH {a : Addr} {gs : List (Key × V)} {ly : List (Key × D)} : H a = some (.dK gs) -> gA K CL Z ly gs -> d8 H Z (.BH ly) (.ref a) [a]
 | dct {a : Addr} {gs : List (List Key × V)} {ly : List (List Key × T)} {fp : List Addr} : H a = some (.dT gs) -> yo H Z ly gs fp -> d8 H Z (.dct ly) (.ref a) (a :: fp)
 | pin {x : Addr} {t : T} {fp : List Addr} : d8 H Z t (.ref x) fp -> d8 H Z (.pin x t) (.ref x) fp
inductive bz (H Z : Hp) : List T -> List V -> List Addr -> Prop where
 | nil : bz H Z [] [] []
 | cons {t : T} {v : V} {ts : List T} {vs : List V} {fp gp : List Addr} : d8 H Z t v fp -> bz H Z ts vs gp -> bz H Z (t :: ts) (v :: vs) (fp ++ gp)
inductive fz (H Z : Hp) : List (Str × T) -> List (Str × V) -> List Addr -> Prop where
 | nil : fz H Z [] [] []
 | cons {x : Str} {t : T} {v : V} {ts : List (Str × T)} {vs : List (Str × V)} {fp gp : List Addr} : d8 H Z t v fp -> fz H Z ts vs gp -> fz H Z ((x, t) :: ts) ((x, v) :: vs) (fp ++ gp)
inductive yo (H Z : Hp) : List (List Key × T) -> List (List Key × V) -> List Addr -> Prop where
 | nil : yo H Z [] [] []
 | cons {x : List Key} {t : T} {v : V} {ts : List (List Key × T)} {vs : List (List Key × V)} {fp gp : List Addr} : d8 H Z t v fp -> yo H Z ts vs gp -> yo H Z ((x, t) :: ts) ((x, v) :: vs) (fp ++ gp)
end
inductive iz (H Z : Hp) : List (Option T) -> L2.St -> List Addr -> Prop where
 | nil : iz H Z [] [] []
 | skip {o : Option V} {δ : List (Option T)} {σ : L2.St} {fp : List Addr} : iz H Z δ σ fp -> iz H Z (none :: δ) (o :: σ) fp
 | cons {t : T} {v : V} {δ : List (Option T)} {σ : L2.St} {fp gp : List Addr} : d8 K CL H Z t v fp -> iz H Z δ σ gp -> iz H Z (some t :: δ) (some v :: σ) (fp ++ gp)
section
variable {K : PySem.W.Frag} {CL : Str -> Addr}
theorem aV.sqT {H H' : Hp} {a : Addr} {xs : List V} (e : aV H H') (h : Dy K H a xs) : Dy K H' a xs := by
 rcases h with (h | ⟨o, h⟩) | h
 . exact .inl (.inl (e _ _ h))
 . exact .inl (.inr ⟨o, e _ _ h⟩)
 . exact .inr h
theorem c9.mono {Z Z' : Hp} (e : aV Z Z') {d : D} {v : V} (h : c9 K CL Z d v) : c9 K CL Z' d v :=
 c9.rec (motive_1 := fun d v _ => c9 K CL Z' d v) (motive_2 := fun d v _ => aJ K CL Z' d v) (motive_3 := fun d v _ => tK K CL Z' d v) (motive_4 := fun d v _ => gA K CL Z' d v) (motive_5 := fun d v _ => zR K CL Z' d v)
   .non .bl .int .str .any .val (fun h _ r => .tup (aV.sqT e h) r) (fun h _ r => .lst (e.seq h) r) (fun h _ r => .ins (e _ _ h) r) (fun h _ r => .BH (e _ _ h) r) (fun h _ r => .dct (e _ _ h) r) .nil (fun _ _ h r => .cons h r) .nil (fun _ _ h r => .cons h r) .nil (fun _ _ h r => .cons h r) .nil (fun _ _ h r => .cons h r) h
theorem gA.mono {Z Z' : Hp} (e : aV Z Z') {d : List (Key × D)} {v : List (Key × V)} (h : gA K CL Z d v) : gA K CL Z' d v :=
 gA.rec (motive_1 := fun d v _ => c9 K CL Z' d v) (motive_2 := fun d v _ => aJ K CL Z' d v) (motive_3 := fun d v _ => tK K CL Z' d v) (motive_4 := fun d v _ => gA K CL Z' d v) (motive_5 := fun d v _ => zR K CL Z' d v)
   .non .bl .int .str .any .val (fun h _ r => .tup (aV.sqT e h) r) (fun h _ r => .lst (e.seq h) r) (fun h _ r => .ins (e _ _ h) r) (fun h _ r => .BH (e _ _ h) r) (fun h _ r => .dct (e _ _ h) r) .nil (fun _ _ h r => .cons h r) .nil (fun _ _ h r => .cons h r) .nil (fun _ _ h r => .cons h r) .nil (fun _ _ h r => .cons h r) h
theorem d8.mono {H H' Z Z' : Hp} (e : aV Z Z') {t : T} {v : V} {fp : List Addr} (k : ∀ a ∈ fp, H' a = H a) (h : d8 K CL H Z t v fp) : d8 K CL H' Z' t v fp :=
 d8.rec (motive_1 := fun t v fp _ => (∀ a ∈ fp, H' a = H a) -> d8 K CL H' Z' t v fp) (motive_2 := fun t v fp _ => (∀ a ∈ fp, H' a = H a) -> bz K CL H' Z' t v fp) (motive_3 := fun t v fp _ => (∀ a ∈ fp, H' a = H a) -> fz K CL H' Z' t v fp) (motive_4 := fun t v fp _ => (∀ a ∈ fp, H' a = H a) -> yo K CL H' Z' t v fp)
   (fun h _ => .sh (h.mono e)) (fun h _ r k => .tup (e _ _ h) (r k)) (fun h _ r k => .lst ((k _ ame).trans h) (r fun a ha => k a (ami _ ha))) (fun h _ r k => .ins ((k _ ame).trans h) (r fun a ha => k a (ami _ ha))) (fun h f k => .BH ((k _ ame).trans h) (gA.mono e f)) (fun h _ r k => .dct ((k _ ame).trans h) (r fun a ha => k a (ami _ ha))) (fun _ r k => .pin (r k)) (fun _ => .nil) (fun _ _ h r k => .cons (h fun a ha => k a (ams _ ha)) (r fun a ha => k a (amh _ ha))) (fun _ => .nil) (fun _ _ h r k => .cons (h fun a ha => k a (ams _ ha)) (r fun a ha => k a (amh _ ha))) (fun _ => .nil) (fun _ _ h r k => .cons (h fun a ha => k a (ams _ ha)) (r fun a ha => k a (amh _ ha))) h k
theorem bz.mono {H H' Z Z' : Hp} (e : aV Z Z') {t : List T} {v : List V} {fp : List Addr} (k : ∀ a ∈ fp, H' a = H a) (h : bz K CL H Z t v fp) : bz K CL H' Z' t v fp :=
 bz.rec (motive_1 := fun t v fp _ => (∀ a ∈ fp, H' a = H a) -> d8 K CL H' Z' t v fp) (motive_2 := fun t v fp _ => (∀ a ∈ fp, H' a = H a) -> bz K CL H' Z' t v fp) (motive_3 := fun t v fp _ => (∀ a ∈ fp, H' a = H a) -> fz K CL H' Z' t v fp) (motive_4 := fun t v fp _ => (∀ a ∈ fp, H' a = H a) -> yo K CL H' Z' t v fp)
   (fun h _ => .sh (h.mono e)) (fun h _ r k => .tup (e _ _ h) (r k)) (fun h _ r k => .lst ((k _ ame).trans h) (r fun a ha => k a (ami _ ha))) (fun h _ r k => .ins ((k _ ame).trans h) (r fun a ha => k a (ami _ ha))) (fun h f k => .BH ((k _ ame).trans h) (gA.mono e f)) (fun h _ r k => .dct ((k _ ame).trans h) (r fun a ha => k a (ami _ ha))) (fun _ r k => .pin (r k)) (fun _ => .nil) (fun _ _ h r k => .cons (h fun a ha => k a (ams _ ha)) (r fun a ha => k a (amh _ ha))) (fun _ => .nil) (fun _ _ h r k => .cons (h fun a ha => k a (ams _ ha)) (r fun a ha => k a (amh _ ha))) (fun _ => .nil) (fun _ _ h r k => .cons (h fun a ha => k a (ams _ ha)) (r fun a ha => k a (amh _ ha))) h k
theorem fz.mono {H H' Z Z' : Hp} (e : aV Z Z') {t : List (Str × T)} {v : List (Str × V)} {fp : List Addr} (k : ∀ a ∈ fp, H' a = H a) (h : fz K CL H Z t v fp) : fz K CL H' Z' t v fp :=
 fz.rec (motive_1 := fun t v fp _ => (∀ a ∈ fp, H' a = H a) -> d8 K CL H' Z' t v fp) (motive_2 := fun t v fp _ => (∀ a ∈ fp, H' a = H a) -> bz K CL H' Z' t v fp) (motive_3 := fun t v fp _ => (∀ a ∈ fp, H' a = H a) -> fz K CL H' Z' t v fp) (motive_4 := fun t v fp _ => (∀ a ∈ fp, H' a = H a) -> yo K CL H' Z' t v fp)
   (fun h _ => .sh (h.mono e)) (fun h _ r k => .tup (e _ _ h) (r k)) (fun h _ r k => .lst ((k _ ame).trans h) (r fun a ha => k a (ami _ ha))) (fun h _ r k => .ins ((k _ ame).trans h) (r fun a ha => k a (ami _ ha))) (fun h f k => .BH ((k _ ame).trans h) (gA.mono e f)) (fun h _ r k => .dct ((k _ ame).trans h) (r fun a ha => k a (ami _ ha))) (fun _ r k => .pin (r k)) (fun _ => .nil) (fun _ _ h r k => .cons (h fun a ha => k a (ams _ ha)) (r fun a ha => k a (amh _ ha))) (fun _ => .nil) (fun _ _ h r k => .cons (h fun a ha => k a (ams _ ha)) (r fun a ha => k a (amh _ ha))) (fun _ => .nil) (fun _ _ h r k => .cons (h fun a ha => k a (ams _ ha)) (r fun a ha => k a (amh _ ha))) h k
theorem d8.there {H Z : Hp} {t : T} {v : V} {fp : List Addr} (h : d8 K CL H Z t v fp) : ∀ a ∈ fp, ∃ o, H a = some o :=
 d8.rec (motive_1 := fun t v fp _ => ∀ a ∈ fp, ∃ o, H a = some o) (motive_2 := fun t v fp _ => ∀ a ∈ fp, ∃ o, H a = some o) (motive_3 := fun t v fp _ => ∀ a ∈ fp, ∃ o, H a = some o) (motive_4 := fun t v fp _ => ∀ a ∈ fp, ∃ o, H a = some o)
   (fun _ a ha => absurd ha amL) (fun _ _ r => r) (fun h _ r a ha => (amf.mp ha).elim (fun q => ⟨_, q ▸ h⟩) (r a)) (fun h _ r a ha => (amf.mp ha).elim (fun q => ⟨_, q ▸ h⟩) (r a)) (fun h _ a ha => (amf.mp ha).elim (fun q => ⟨_, q ▸ h⟩) (fun q => absurd q amL)) (fun h _ r a ha => (amf.mp ha).elim (fun q => ⟨_, q ▸ h⟩) (r a)) (fun _ r => r) (fun a ha => absurd ha amL) (fun _ _ h r a ha => (amn.mp ha).elim (h a) (r a)) (fun a ha => absurd ha amL) (fun _ _ h r a ha => (amn.mp ha).elim (h a) (r a)) (fun a ha => absurd ha amL) (fun _ _ h r a ha => (amn.mp ha).elim (h a) (r a)) h
theorem bz.there {H Z : Hp} {t : List T} {v : List V} {fp : List Addr} (h : bz K CL H Z t v fp) : ∀ a ∈ fp, ∃ o, H a = some o :=
 bz.rec (motive_1 := fun t v fp _ => ∀ a ∈ fp, ∃ o, H a = some o) (motive_2 := fun t v fp _ => ∀ a ∈ fp, ∃ o, H a = some o) (motive_3 := fun t v fp _ => ∀ a ∈ fp, ∃ o, H a = some o) (motive_4 := fun t v fp _ => ∀ a ∈ fp, ∃ o, H a = some o)
   (fun _ a ha => absurd ha amL) (fun _ _ r => r) (fun h _ r a ha => (amf.mp ha).elim (fun q => ⟨_, q ▸ h⟩) (r a)) (fun h _ r a ha => (amf.mp ha).elim (fun q => ⟨_, q ▸ h⟩) (r a)) (fun h _ a ha => (amf.mp ha).elim (fun q => ⟨_, q ▸ h⟩) (fun q => absurd q amL)) (fun h _ r a ha => (amf.mp ha).elim (fun q => ⟨_, q ▸ h⟩) (r a)) (fun _ r => r) (fun a ha => absurd ha amL) (fun _ _ h r a ha => (amn.mp ha).elim (h a) (r a)) (fun a ha => absurd ha amL) (fun _ _ h r a ha => (amn.mp ha).elim (h a) (r a)) (fun a ha => absurd ha amL) (fun _ _ h r a ha => (amn.mp ha).elim (h a) (r a)) h
theorem d8.fS {H Z Z' : Hp} (e : aV Z Z') {t : T} {v : V} {fp : List Addr} (k : ∀ a ∈ fp, Z' a = H a) (h : d8 K CL H Z t v fp) : c9 K CL Z' t.fS v :=
 d8.rec (motive_1 := fun t v fp _ => (∀ a ∈ fp, Z' a = H a) -> c9 K CL Z' t.fS v) (motive_2 := fun t v fp _ => (∀ a ∈ fp, Z' a = H a) -> aJ K CL Z' (T.fL t) v) (motive_3 := fun t v fp _ => (∀ a ∈ fp, Z' a = H a) -> tK K CL Z' (T.tE t) v) (motive_4 := fun t v fp _ => (∀ a ∈ fp, Z' a = H a) -> zR K CL Z' (T.Rc t) v)
   (fun h _ => by rw [T.fS]; exact h.mono e) (fun h _ r k => by rw [T.fS]; exact .tup (Dy.of (e _ _ h)) (r k)) (fun h _ r k => by rw [T.fS]; exact .lst (oi.of ((k _ ame).trans h)) (r fun a ha => k a (ami _ ha))) (fun h _ r k => by rw [T.fS]; exact .ins ((k _ ame).trans h) (r fun a ha => k a (ami _ ha))) (fun h f k => by rw [T.fS]; exact .BH ((k _ ame).trans h) (gA.mono e f)) (fun h _ r k => by rw [T.fS]; exact .dct ((k _ ame).trans h) (r fun a ha => k a (ami _ ha))) (fun _ r k => by rw [T.fS]; exact r k) (fun _ => by rw [T.fL]; exact .nil) (fun _ _ h r k => by rw [T.fL]; exact .cons (h fun a ha => k a (ams _ ha)) (r fun a ha => k a (amh _ ha))) (fun _ => by rw [T.tE]; exact .nil) (fun _ _ h r k => by rw [T.tE]; exact .cons (h fun a ha => k a (ams _ ha)) (r fun a ha => k a (amh _ ha))) (fun _ => by rw [T.Rc]; exact .nil) (fun _ _ h r k => by rw [T.Rc]; exact .cons (h fun a ha => k a (ams _ ha)) (r fun a ha => k a (amh _ ha))) h k
theorem aJ.ind {Z : Hp} {P : List D -> List V -> Prop} (n : P [] []) (c : ∀ {d : D} {v : V} {ds : List D} {vs : List V}, c9 K CL Z d v -> aJ K CL Z ds vs -> P ds vs -> P (d :: ds) (v :: vs)) {ds : List D} {vs : List V} (h : aJ K CL Z ds vs) : P ds vs :=
 aJ.rec (motive_1 := fun _ _ _ => True) (motive_2 := fun d v _ => P d v) (motive_3 := fun _ _ _ => True) (motive_4 := fun _ _ _ => True) (motive_5 := fun _ _ _ => True)
   trivial (fun _ => trivial) (fun _ => trivial) (fun _ => trivial) (fun _ => trivial) (fun _ => trivial) (fun _ _ _ => trivial) (fun _ _ _ => trivial) (fun _ _ _ => trivial) (fun _ _ _ => trivial) (fun _ _ _ => trivial) n (fun a b _ i => c a b i) trivial (fun _ _ _ _ => trivial) trivial (fun _ _ _ _ => trivial) trivial (fun _ _ _ _ => trivial) h
theorem gA.ind {Z : Hp} {P : List (Key × D) -> List (Key × V) -> Prop} (n : P [] []) (c : ∀ {x : Key} {d : D} {v : V} {ds : List (Key × D)} {vs : List (Key × V)}, c9 K CL Z d v -> gA K CL Z ds vs -> P ds vs -> P ((x, d) :: ds) ((x, v) :: vs)) {ds : List (Key × D)} {vs : List (Key × V)} (h : gA K CL Z ds vs) : P ds vs :=
 gA.rec (motive_1 := fun _ _ _ => True) (motive_2 := fun _ _ _ => True) (motive_3 := fun _ _ _ => True) (motive_4 := fun d v _ => P d v) (motive_5 := fun _ _ _ => True)
   trivial (fun _ => trivial) (fun _ => trivial) (fun _ => trivial) (fun _ => trivial) (fun _ => trivial) (fun _ _ _ => trivial) (fun _ _ _ => trivial) (fun _ _ _ => trivial) (fun _ _ _ => trivial) (fun _ _ _ => trivial) trivial (fun _ _ _ _ => trivial) trivial (fun _ _ _ _ => trivial) n (fun a b _ i => c a b i) trivial (fun _ _ _ _ => trivial) h
theorem bz.ind {H Z : Hp} {P : List T -> List V -> List Addr -> Prop} (n : P [] [] []) (c : ∀ {t : T} {v : V} {ts : List T} {vs : List V} {fp gp : List Addr}, d8 K CL H Z t v fp -> bz K CL H Z ts vs gp -> P ts vs gp -> P (t :: ts) (v :: vs) (fp ++ gp)) {ts : List T} {vs : List V} {fp : List Addr} (h : bz K CL H Z ts vs fp) : P ts vs fp :=
 bz.rec (motive_1 := fun _ _ _ _ => True) (motive_2 := fun d v f _ => P d v f) (motive_3 := fun _ _ _ _ => True) (motive_4 := fun _ _ _ _ => True)
   (fun _ => trivial) (fun _ _ _ => trivial) (fun _ _ _ => trivial) (fun _ _ _ => trivial) (fun _ _ => trivial) (fun _ _ _ => trivial) (fun _ _ => trivial) n (fun a b _ i => c a b i) trivial (fun _ _ _ _ => trivial) trivial (fun _ _ _ _ => trivial) h
theorem fz.ind {H Z : Hp} {P : List (Str × T) -> List (Str × V) -> List Addr -> Prop} (n : P [] [] []) (c : ∀ {x : Str} {t : T} {v : V} {ts : List (Str × T)} {vs : List (Str × V)} {fp gp : List Addr}, d8 K CL H Z t v fp -> fz K CL H Z ts vs gp -> P ts vs gp -> P ((x, t) :: ts) ((x, v) :: vs) (fp ++ gp)) {ts : List (Str × T)} {vs : List (Str × V)} {fp : List Addr} (h : fz K CL H Z ts vs fp) : P ts vs fp :=
 fz.rec (motive_1 := fun _ _ _ _ => True) (motive_2 := fun _ _ _ _ => True) (motive_3 := fun d v f _ => P d v f) (motive_4 := fun _ _ _ _ => True)
   (fun _ => trivial) (fun _ _ _ => trivial) (fun _ _ _ => trivial) (fun _ _ _ => trivial) (fun _ _ => trivial) (fun _ _ _ => trivial) (fun _ _ => trivial) trivial (fun _ _ _ _ => trivial) n (fun a b _ i => c a b i) trivial (fun _ _ _ _ => trivial) h
theorem aJ.length {Z : Hp} {d : List D} {v : List V} (h : aJ K CL Z d v) : d.length = v.length :=
 aJ.ind (P := fun d v => d.length = v.length) rfl (fun _ _ i => congrArg (· + 1) i) h
theorem bz.length {H Z : Hp} {d : List T} {v : List V} {fp : List Addr} (h : bz K CL H Z d v fp) : d.length = v.length :=
 bz.ind (P := fun d v _ => d.length = v.length) rfl (fun _ _ i => congrArg (· + 1) i) h
theorem aJ.get {Z : Hp} : ∀ {ds : List D} {vs : List V} {i : Nat} {d : D}, aJ K CL Z ds vs -> ds[i]? = some d -> ∃ v, vs[i]? = some v /\ c9 K CL Z d v
 | _, _, _, _, .nil, e => by simp at e
 | _, _, 0, _, .cons r _, e => by simp at e; subst e; exact ⟨_, rfl, r⟩
 | _, _, i + 1, d, .cons _ t, e => by
   obtain ⟨u, h1, h2⟩ := aJ.get (i := i) (d := d) t (by simpa using e)
   exact ⟨u, by simpa using h1, h2⟩
theorem aJ.VP {Z : Hp} : ∀ {ds : List D} {vs : List V} {i : Nat} {v : V}, aJ K CL Z ds vs -> vs[i]? = some v -> ∃ d, ds[i]? = some d /\ c9 K CL Z d v
 | _, _, _, _, .nil, e => by simp at e
 | _, _, 0, _, .cons r _, e => by simp at e; subst e; exact ⟨_, rfl, r⟩
 | _, _, i + 1, d, .cons _ t, e => by
   obtain ⟨u, h1, h2⟩ := aJ.VP (i := i) (v := d) t (by simpa using e)
   exact ⟨u, by simpa using h1, h2⟩
theorem bz.get {H Z : Hp} : ∀ {ds : List T} {vs : List V} {fp : List Addr} {i : Nat} {d : T}, bz K CL H Z ds vs fp -> ds[i]? = some d -> ∃ v gp, vs[i]? = some v /\ d8 K CL H Z d v gp /\ gp.Sublist fp
 | _, _, _, _, _, .nil, e => by simp at e
 | _, _, _, 0, _, .cons r _, e => by simp at e; subst e; exact ⟨_, _, rfl, r, List.sublist_append_left _ _⟩
 | _, _, _, i + 1, d, .cons _ t, e => by
   obtain ⟨u, gp, h1, h2, h3⟩ := bz.get (i := i) (d := d) t (by simpa using e)
   exact ⟨u, gp, by simpa using h1, h2, h3.trans (List.sublist_append_right _ _)⟩
theorem iz.get {H Z : Hp} : ∀ {δ : List (Option T)} {σ : L2.St} {fp : List Addr} {i : Nat} {t : T}, iz K CL H Z δ σ fp -> δ[i]? = some (some t) →
   ∃ v f1 f2 f3, σ[i]? = some (some v) /\ fp = f1 ++ (f2 ++ f3) /\ d8 K CL H Z t v f2 ∧
     (∀ {H' Z' : Hp} {t' : T} {v' : V} {g : List Addr}, aV Z Z' -> (∀ a ∈ f1 ++ f3, H' a = H a) -> d8 K CL H' Z' t' v' g -> iz K CL H' Z' (δ.set i (some t')) (σ.set i (some v')) (f1 ++ (g ++ f3))) ∧
     (∀ {o : Option V}, iz K CL H Z (δ.set i none) (σ.set i o) (f1 ++ f3)) := by
 intro δ σ fp i t h
 have mono : ∀ {H H' Z Z' : Hp} {δ : List (Option T)} {σ : L2.St} {fp : List Addr}, aV Z Z' -> (∀ a ∈ fp, H' a = H a) -> iz K CL H Z δ σ fp -> iz K CL H' Z' δ σ fp := by
   intro H H' Z Z' δ σ fp e k r
   induction r with
   | nil => exact .nil
   | skip _ ih => exact .skip (ih k)
   | cons r _ ih => exact .cons (r.mono e fun a ha => k a (ams _ ha)) (ih fun a ha => k a (amh _ ha))
 induction h generalizing i with
 | nil => intro e; simp at e
 | @skip o δ σ fp r ih =>
   cases i with
   | zero => intro e; simp at e
   | succ i =>
     intro e
     obtain ⟨v, f1, f2, f3, h1, h2, h3, h4, h5⟩ := ih (i := i) (by simpa using e)
     exact ⟨v, f1, f2, f3, by simpa using h1, h2, h3, fun e k q => .skip (h4 e k q), .skip h5⟩
 | @cons t0 v0 δ σ fp gp r0 r ih =>
   cases i with
   | zero =>
     intro e
     simp at e
     subst e
     refine ⟨v0, [], fp, gp, rfl, rfl, r0, fun {H' Z' t' v' g} e k q => iz.cons (fp := g) (gp := gp) q (mono (fp := gp) e (fun a ha => k a (by simpa using ha)) r), .skip (by simpa using r)⟩
   | succ i =>
     intro e
     obtain ⟨v, f1, f2, f3, h1, h2, h3, h4, h5⟩ := ih (i := i) (by simpa using e)
     refine ⟨v, fp ++ f1, f2, f3, by simpa using h1, by rw [h2, List.append_assoc], h3, fun {H' Z' t' v' g} e k q => ?_, fun {o} => ?_⟩
     . rw [aml]
       exact .cons (r0.mono e fun a ha => k a (by simp [ha])) (h4 e (fun a ha => k a (by rw [aml]; exact amh _ ha)) q)
     . rw [aml]
       exact .cons r0 h5
theorem iz.mono {H H' Z Z' : Hp} {δ : List (Option T)} {σ : L2.St} {fp : List Addr} (e : aV Z Z') (k : ∀ a ∈ fp, H' a = H a) (r : iz K CL H Z δ σ fp) : iz K CL H' Z' δ σ fp := by
 induction r with
 | nil => exact .nil
 | skip _ ih => exact .skip (ih k)
 | cons r _ ih => exact .cons (r.mono e fun a ha => k a (ams _ ha)) (ih fun a ha => k a (amh _ ha))
theorem iz.there {H Z : Hp} {δ : List (Option T)} {σ : L2.St} {fp : List Addr} (r : iz K CL H Z δ σ fp) : ∀ a ∈ fp, ∃ o, H a = some o := by
 induction r with
 | nil => intro a ha; cases ha
 | skip _ ih => exact ih
 | cons r _ ih => exact fun a ha => (amn.mp ha).elim (r.there a) (ih a)
theorem iz.put {H Z : Hp} {δ : List (Option T)} {σ : L2.St} {fp : List Addr} (r : iz K CL H Z δ σ fp) {t : T} {v : V} {g : List Addr} (q : d8 K CL H Z t v g) :
   ∀ {i : Nat}, i < δ.length -> ∃ f, iz K CL H Z (δ.set i (some t)) (σ.set i (some v)) f /\ ∃ f', f'.Sublist fp /\ f.Perm (g ++ f') := by
 induction r with
 | nil => intro i hi; simp at hi
 | @skip o δ σ fp r ih =>
   intro i hi
   cases i with
   | zero => exact ⟨g ++ fp, .cons q r, fp, amS _, aor _⟩
   | succ i =>
     obtain ⟨f, h1, f', h2, h3⟩ := ih (i := i) (by simpa using hi)
     exact ⟨f, .skip h1, f', h2, h3⟩
 | @cons t0 v0 δ σ fp gp r0 r ih =>
   intro i hi
   cases i with
   | zero => exact ⟨g ++ gp, .cons q r, gp, anz _ _, aor _⟩
   | succ i =>
     obtain ⟨f, h1, f', h2, h3⟩ := ih (i := i) (by simpa using hi)
     refine ⟨fp ++ f, .cons r0 h1, fp ++ f', amV (amS _) h2, ?_⟩
     refine (amM fp h3).trans ?_
     rw [← aml, ← aml]
     exact List.Perm.append_right f' amX
end
noncomputable def Rf (X : Cx) (e : Expr) : TE := fun σ H Q => ∀ (pins : List (Addr × Obj)) (s : Shared), Inv X pins σ H s -> wpAny (model X.prog X.w) X.A (eval e X.env) (EP X pins σ Q) X.xe s
noncomputable def VQ (X : Cx) (e : Expr) : TT := fun σ H Q => ∀ (pins : List (Addr × Obj)) (s : Shared), Inv X pins σ H s -> wpAny (model X.prog X.w) X.A (isTrue e X.env (eval e X.env)) (TP X pins σ Q) X.xe s
noncomputable def Rg (X : Cx) (es : List Expr) : TA := fun σ H Q => ∀ (pos : Pos) (pins : List (Addr × Obj)) (s : Shared), Inv X pins σ H s -> wpAny (model X.prog X.w) X.A (spliced (backTo pos (starEach es X.env))) (AP X pins σ Q) X.xe s
noncomputable def aax (X : Cx) (st : Stmt) : TS := fun D σ H => ∀ (pins : List (Addr × Obj)) (s : Shared), Inv X pins σ H s -> wpAny (model X.prog X.w) X.A (exec st X.env) (SP X pins D) X.xe s
noncomputable def aay (X : Cx) (st : List Stmt) : TS := fun D σ H => ∀ (pins : List (Addr × Obj)) (s : Shared), Inv X pins σ H s -> wpAny (model X.prog X.w) X.A (execs st X.env) (SP X pins D) X.xe s
section
variable {X : Cx}
theorem gQ {e : Expr} : PE X e (Rf X e) := fun pins s _ _ _ I h => h pins s I
theorem Y6 {e : Expr} : PT X e (VQ X e) := fun pins s _ _ _ I h => h pins s I
theorem Qz {e : List Expr} : PA X e (Rg X e) := fun pos pins s _ _ _ I h => h pos pins s I
theorem psS {e : Stmt} : PS X e (aax X e) := fun pins s _ _ _ I h => h pins s I
theorem pbS {e : List Stmt} : M3 X e (aay X e) := fun pins s _ _ _ I h => h pins s I
theorem eW {e : Expr} {t : TE} (h : PE X e t) {σ : L2.St} {H : Hp} {Q : VK} (q : t σ H Q) : Rf X e σ H Q := fun pins s I => h pins s σ H Q I q
theorem Rh {e : Expr} {t : TT} (h : PT X e t) {σ : L2.St} {H : Hp} {Q : Bool -> Hp -> Prop} (q : t σ H Q) : VQ X e σ H Q := fun pins s I => h pins s σ H Q I q
theorem OW {e : List Expr} {t : TA} (h : PA X e t) {σ : L2.St} {H : Hp} {Q : List V -> Hp -> Prop} (q : t σ H Q) : Rg X e σ H Q := fun pos pins s I => h pos pins s σ H Q I q
theorem yM {e : Stmt} {t : TS} (h : PS X e t) {σ : L2.St} {H : Hp} {D : Ends} (q : t D σ H) : aax X e D σ H := fun pins s I => h pins s σ H D I q
theorem aeB {e : List Stmt} {t : TS} (h : M3 X e t) {σ : L2.St} {H : Hp} {D : Ends} (q : t D σ H) : aay X e D σ H := fun pins s I => h pins s σ H D I q
end
noncomputable def notStar : Expr -> Bool
 | .Starred _ _ => false
 | _ => true
theorem bV {e : Expr} {es : List Expr} {env : Env} (h : notStar e = true) : starEach (e :: es) env = (false, eval e env) :: starEach es env := by
 cases e <;> first | rfl | (cases h)
structure Bx where
 B : Hp
 Z : Hp
noncomputable def qf : HO -> Bool
 | .tup _ => true
 | .fS _ _ => true
 | _ => false
noncomputable def Nh (x : Str) : Bool := x.cps[0]? == some 35
noncomputable def ahw (x : Str) : Str := ⟨x.cps.extract 1 x.cps.size⟩
noncomputable def ql (CL : Str -> Addr) (Z : Hp) : Prop := ∀ x, Nh x = true -> CL x ≠ 0 -> Z (CL x) = some (.tabs (ahw x))
structure dz (K : PySem.W.Frag) (CL : Str -> Addr) (b : Bx) (H Z : Hp) (δ : List (Option T)) (σ : L2.St) (ts : List T) (vs : List V) : Prop where
 rep : ∃ fp gp, iz K CL H Z δ σ fp /\ bz K CL H Z ts vs gp /\ (fp ++ gp).Nodup /\ ∀ a ∈ fp ++ gp, Z a = none /\ b.B a = none
 bh : aV b.B H
 zz : aV b.Z Z
 zh : aV Z H
 new : ∀ a o, Z a = some o -> b.Z a = none -> b.B a = none
 tp : ∀ a o, H a = some o -> qf o = true -> Z a = some o
 tab : ql CL b.Z
section
variable {K : PySem.W.Frag} {CL : Str -> Addr} {b : Bx} {H H' Z Z' : Hp} {δ δ' : List (Option T)} {σ σ' : L2.St} {ts ts' : List T} {vs vs' : List V} {t : T} {v : V}
theorem ql.mono {A B : Hp} (h : ql CL A) (e : aV A B) : ql CL B := fun x hx h0 => e _ _ (h x hx h0)
theorem dz.aaA (S : dz K CL b H Z δ σ ts vs) : ql CL Z := S.tab.mono S.zz
theorem dz.VR (S : dz K CL b H Z δ σ ts vs) : ql CL H := S.aaA.mono S.zh
theorem aaB {A B : Hp} (e : aV A B) {a : Addr} (h : B a = none) : A a = none := e.free h
theorem aV.upd {H : Hp} {p : Addr} {o : HO} (h : H p = none) : aV H (upd H p o) := fun b u e => by rw [aH (cG e h)]; exact e
theorem dz.view (S : dz K CL b H Z δ σ (t :: ts) (v :: vs)) : c9 K CL H t.fS v := by
 obtain ⟨fp, gp, _, r, _, _⟩ := S.rep
 cases r with
 | cons r _ => exact r.fS S.zh fun _ _ => rfl
theorem dz.pop (S : dz K CL b H Z δ σ (t :: ts) (v :: vs)) : dz K CL b H Z δ σ ts vs := by
 obtain ⟨fp, gp, e, r, nd, k⟩ := S.rep
 cases r with
 | @cons _ _ _ _ f1 f2 r1 r2 =>
   refine ⟨⟨fp, f2, e, r2, nd.sublist (amV (amS _) (anz _ _)), fun a ha => k a ?_⟩, S.bh, S.zz, S.zh, S.new, S.tp, S.tab⟩
   rcases amn.mp ha with h | h
   . exact ams _ h
   . exact amh _ (amh _ h)
theorem dz.push {d : D} (S : dz K CL b H Z δ σ ts vs) (r : c9 K CL Z d v) : dz K CL b H Z δ σ (.sh d :: ts) (v :: vs) := by
 obtain ⟨fp, gp, e, r2, nd, k⟩ := S.rep
 exact ⟨⟨fp, [] ++ gp, e, .cons (.sh r) r2, nd, k⟩, S.bh, S.zz, S.zh, S.new, S.tp, S.tab⟩
theorem dz.Ri (S : dz K CL b H Z δ σ (t :: ts) (v :: vs)) : ∃ Z', aV Z Z' /\ dz K CL b H Z' δ σ (.sh t.fS :: ts) (v :: vs) := by
 classical
 obtain ⟨fp, gp, e, r, nd, k⟩ := S.rep
 cases r with
 | @cons _ _ _ _ f1 f2 r1 r2 =>
   have nZ : ∀ a ∈ f1, Z a = none /\ b.B a = none := fun a ha => k a (amh _ (ams _ ha))
   have sz : aV Z (fun a => if a ∈ f1 then H a else Z a) := fun a o q => by
     by_cases ha : a ∈ f1
     . rw [(nZ a ha).1] at q; cases q
     . show (if a ∈ f1 then H a else Z a) = some o
       rw [amk ha]; exact q
   have Y7 := am4.mp nd
   have dj : ∀ a ∈ fp ++ f2, a ∉ f1 := fun a ha h1 => by
     rcases amn.mp ha with h | h
     . exact Y7.2.2 a h a (ams _ h1) rfl
     . exact (am4.mp Y7.2.1).2.2 a h1 a h rfl
   refine ⟨fun a => if a ∈ f1 then H a else Z a, sz, ⟨⟨fp, [] ++ f2, e.mono sz (fun _ _ => rfl), .cons (.sh (r1.fS sz fun a ha => amo ha)) (r2.mono sz fun _ _ => rfl), ?_, fun a ha => ?_⟩, S.bh, S.zz.trans sz, fun a o q => ?_, fun a o q z => ?_, fun a o q i => ?_, S.tab⟩⟩
   . exact nd.sublist (amV (amS _) (anz _ _))
   . have Rj : a ∈ fp ++ f2 := ha
     refine ⟨?_, (k a ?_).2⟩
     . show (if a ∈ f1 then H a else Z a) = none
       rw [amk (dj a Rj)]
       refine (k a ?_).1
       rcases amn.mp Rj with h | h
       . exact ams _ h
       . exact amh _ (amh _ h)
     . rcases amn.mp Rj with h | h
       . exact ams _ h
       . exact amh _ (amh _ h)
   . have q' : (if a ∈ f1 then H a else Z a) = some o := q
     by_cases ha : a ∈ f1
     . rw [amo ha] at q'; exact q'
     . rw [amk ha] at q'; exact S.zh a o q'
   . have q' : (if a ∈ f1 then H a else Z a) = some o := q
     by_cases ha : a ∈ f1
     . exact (nZ a ha).2
     . rw [amk ha] at q'; exact S.new a o q' z
   . exact sz a o (S.tp a o q i)
theorem dz.VW {i : Nat} (S : dz K CL b H Z δ σ ts vs) (hi : δ[i]? = some (some t)) : ∃ v Z', σ[i]? = some (some v) /\ aV Z Z' /\ dz K CL b H Z' (δ.set i (some (.sh t.fS))) σ (.sh t.fS :: ts) (v :: vs) := by
 classical
 obtain ⟨fp, gp, e, r, nd, k⟩ := S.rep
 obtain ⟨v, f1, f2, f3, hv, tZ, rt, put, _⟩ := e.get hi
 subst tZ
 have nZ : ∀ a ∈ f2, Z a = none /\ b.B a = none := fun a ha => k a (by simp [ha])
 have sz : aV Z (fun a => if a ∈ f2 then H a else Z a) := fun a o q => by
   by_cases ha : a ∈ f2
   . rw [(nZ a ha).1] at q; cases q
   . show (if a ∈ f2 then H a else Z a) = some o
     rw [amk ha]; exact q
 have dj : ∀ a ∈ (f1 ++ f3) ++ gp, a ∉ f2 := fun a ha h2 => by
   have hp : ((f1 ++ (f2 ++ f3)) ++ gp).Perm (f2 ++ ((f1 ++ f3) ++ gp)) := by
     rw [← aml, ← aml]
     refine (List.perm_append_right_iff gp).mpr ?_
     rw [← aml]
     exact (List.perm_append_right_iff f3).mpr amX
   exact (am4.mp (hp.nodup_iff.mp nd)).2.2 a h2 a ha rfl
 have rF : c9 K CL (fun a => if a ∈ f2 then H a else Z a) t.fS v := rt.fS sz fun a ha => amo ha
 have aaC : σ.set i (some v) = σ := by
   apply aov
   intro j
   rw [List.getElem?_set]
   split
   . rename_i h; subst h
     split
     . exact hv.symm
     . rename_i h2; rw [anB (by omega)]
   . rfl
 have e2 : iz K CL H (fun a => if a ∈ f2 then H a else Z a) (δ.set i (some (.sh t.fS))) σ (f1 ++ ([] ++ f3)) := by
   have := put (H' := H) (t' := .sh t.fS) (v' := v) (g := []) sz (fun _ _ => rfl) (.sh rF)
   rwa [aaC] at this
 refine ⟨v, fun a => if a ∈ f2 then H a else Z a, hv, sz, ⟨⟨f1 ++ ([] ++ f3), [] ++ gp, e2, .cons (.sh rF) (r.mono sz fun _ _ => rfl), ?_, fun a ha => ?_⟩, S.bh, S.zz.trans sz, fun a o q => ?_, fun a o q z => ?_, fun a o q i => sz a o (S.tp a o q i), S.tab⟩⟩
 . exact nd.sublist (amV (amV (amS _) (anz _ _)) (amS _))
 . have Rj : a ∈ (f1 ++ f3) ++ gp := ha
   have hm : a ∈ (f1 ++ (f2 ++ f3)) ++ gp := by
     simp only [amn] at Rj ⊢
     rcases Rj with (h | h) | h
     . exact .inl (.inl h)
     . exact .inl (.inr (.inr h))
     . exact .inr h
   refine ⟨?_, (k a hm).2⟩
   show (if a ∈ f2 then H a else Z a) = none
   rw [amk (dj a Rj)]
   exact (k a hm).1
 . have q' : (if a ∈ f2 then H a else Z a) = some o := q
   by_cases ha : a ∈ f2
   . rw [amo ha] at q'; exact q'
   . rw [amk ha] at q'; exact S.zh a o q'
 . have q' : (if a ∈ f2 then H a else Z a) = some o := q
   by_cases ha : a ∈ f2
   . exact (nZ a ha).2
   . rw [amk ha] at q'; exact S.new a o q' z
theorem dz.move {i : Nat} (S : dz K CL b H Z δ σ ts vs) (hi : δ[i]? = some (some t)) : ∃ v, σ[i]? = some (some v) /\ dz K CL b H Z (δ.set i none) σ (t :: ts) (v :: vs) := by
 obtain ⟨fp, gp, e, r, nd, k⟩ := S.rep
 obtain ⟨v, f1, f2, f3, hv, tZ, rt, _, del⟩ := e.get hi
 subst tZ
 have aaC : σ.set i (some v) = σ := by
   apply aov
   intro j
   rw [List.getElem?_set]
   split
   . rename_i h; subst h
     split
     . exact hv.symm
     . rename_i h2; rw [anB (by omega)]
   . rfl
 have hp : ((f1 ++ (f2 ++ f3)) ++ gp).Perm ((f1 ++ f3) ++ (f2 ++ gp)) := by
   have h1 : (f2 ++ f3).Perm (f3 ++ f2) := amX
   have h2 := (amM f1 h1).append_right gp
   simp only [aml] at h2 ⊢
   exact h2
 refine ⟨v, hv, ⟨⟨f1 ++ f3, f2 ++ gp, ?_, .cons rt r, hp.nodup_iff.mp nd, fun a ha => k a (hp.mem_iff.mpr ha)⟩, S.bh, S.zz, S.zh, S.new, S.tp, S.tab⟩⟩
 have := del (o := some v)
 rwa [aaC] at this
theorem dz.look {i : Nat} (S : dz K CL b H Z δ σ ts vs) (hi : δ[i]? = some (some t)) : ∃ v, σ[i]? = some (some v) /\ c9 K CL H t.fS v := by
 obtain ⟨fp, gp, e, r, nd, k⟩ := S.rep
 obtain ⟨v, f1, f2, f3, hv, tZ, rt, _, _⟩ := e.get hi
 exact ⟨v, hv, rt.fS S.zh fun _ _ => rfl⟩
theorem dz.Y8 {i : Nat} {d : D} (S : dz K CL b H Z δ σ ts vs) (hi : δ[i]? = some (some (.sh d))) : ∃ v, σ[i]? = some (some v) /\ c9 K CL Z d v := by
 obtain ⟨fp, gp, e, r, nd, k⟩ := S.rep
 obtain ⟨v, f1, f2, f3, hv, tZ, rt, _, _⟩ := e.get hi
 cases rt with
 | sh h => exact ⟨v, hv, h⟩
theorem dz.set {i : Nat} (S : dz K CL b H Z δ σ (t :: ts) (v :: vs)) (hi : i < δ.length) : dz K CL b H Z (δ.set i (some t)) (σ.set i (some v)) ts vs := by
 obtain ⟨fp, gp, e, r, nd, k⟩ := S.rep
 cases r with
 | @cons _ _ _ _ f1 f2 r1 r2 =>
   obtain ⟨f, h1, f', h2, h3⟩ := e.put r1 hi
   have hp : (f ++ f2).Perm (f' ++ (f1 ++ f2)) := by
     refine (h3.append_right f2).trans ?_
     rw [← aml]
     exact amX.append_right f2
   have aeC : (f' ++ (f1 ++ f2)).Sublist (fp ++ (f1 ++ f2)) := amV h2 (amS _)
   exact ⟨⟨f, f2, h1, r2, hp.nodup_iff.mpr (nd.sublist aeC), fun a ha => k a (aeC.subset (hp.mem_iff.mp ha))⟩, S.bh, S.zz, S.zh, S.new, S.tp, S.tab⟩
end
mutual
noncomputable def D.qc : D -> Bool
 | .tup ds => D.bZ ds
 | .lst _ => false
 | .ins _ _ => false
 | .BH _ => false
 | .dct _ => false
 | .any => false
 | _ => true
noncomputable def D.bZ : List D -> Bool
 | [] => true
 | d :: ds => d.qc && D.bZ ds
end
mutual
noncomputable def T.clean : T -> Bool
 | .sh d => d.qc
 | .tup ts => T.iA ts
 | .lst ts => T.iA ts
 | .ins _ fs => T.cj fs
 | .BH ly => D.bZ (ly.map (·.2))
 | .dct ly => T.DI ly
 | .pin _ t => t.clean
noncomputable def T.iA : List T -> Bool
 | [] => true
 | t :: ts => t.clean && T.iA ts
noncomputable def T.cj : List (Str × T) -> Bool
 | [] => true
 | (_, t) :: ts => t.clean && T.cj ts
noncomputable def T.DI : List (List Key × T) -> Bool
 | [] => true
 | (_, t) :: ts => t.clean && T.DI ts
end
noncomputable def dB (X : Cx) (CL : Str -> Addr) (b : Bx) (e : Expr) (δ : List (Option T)) (t : T) (δ' : List (Option T)) : Prop :=
 ∀ (H Z : Hp) (σ : L2.St) (ts : List T) (vs : List V) (Q : VK), dz X.K CL b H Z δ σ ts vs -> (∀ v H' Z', aV Z Z' -> aV H H' -> dz X.K CL b H' Z' δ' σ (t :: ts) (v :: vs) -> Q v H') -> Rf X e σ H Q
noncomputable def fB (X : Cx) (CL : Str -> Addr) (b : Bx) (e : Expr) (δ : List (Option T)) (d : D) (δ' : List (Option T)) : Prop :=
 ∀ (H Z : Hp) (σ : L2.St) (ts : List T) (vs : List V) (Q : VK), dz X.K CL b H Z δ σ ts vs -> (∀ v H' Z', aV Z Z' -> aV H H' -> dz X.K CL b H' Z' δ' σ ts vs -> c9 X.K CL H' d v -> Q v H') -> Rf X e σ H Q
noncomputable def yN (X : Cx) (CL : Str -> Addr) (b : Bx) (e : Expr) (δ : List (Option T)) (p : Bool) (δ' : List (Option T)) : Prop :=
 ∀ (H Z : Hp) (σ : L2.St) (ts : List T) (vs : List V) (Q : Bool -> Hp -> Prop), dz X.K CL b H Z δ σ ts vs -> (∀ H' Z', aV Z Z' -> aV H H' -> dz X.K CL b H' Z' δ' σ ts vs -> Q p H') -> VQ X e σ H Q
noncomputable def OX (X : Cx) (CL : Str -> Addr) (b : Bx) (es : List Expr) (δ : List (Option T)) (tl : List T) (δ' : List (Option T)) : Prop :=
 ∀ (H Z : Hp) (σ : L2.St) (ts : List T) (vs : List V) (Q : List V -> Hp -> Prop), dz X.K CL b H Z δ σ ts vs →
   (∀ us H' Z', us.length = tl.length -> aV Z Z' -> aV H H' -> dz X.K CL b H' Z' δ' σ (tl.reverse ++ ts) (us.reverse ++ vs) -> Q us H') -> Rg X es σ H Q
noncomputable def Vg (X : Cx) (CL : Str -> Addr) (b : Bx) (es : List Expr) (δ : List (Option T)) (ds : List D) (δ' : List (Option T)) : Prop :=
 ∀ (H Z : Hp) (σ : L2.St) (ts : List T) (vs : List V) (Q : List V -> Hp -> Prop), dz X.K CL b H Z δ σ ts vs →
   (∀ us H' Z', aV Z Z' -> aV H H' -> dz X.K CL b H' Z' δ' σ ts vs -> aJ X.K CL H' ds us -> Q us H') -> Rg X es σ H Q
structure fc where
 nx : List (Option T) -> Prop
 rt : T -> List (Option T) -> Prop
 bk : List (Option T) -> Prop := fun _ => False
 ct : List (Option T) -> Prop := fun _ => False
structure Meets (K : PySem.W.Frag) (CL : Str -> Addr) (b : Bx) (Z : Hp) (ts : List T) (vs : List V) (D : fc) (E : Ends) : Prop where
 nx : ∀ δ' σ' H' Z', aV Z Z' -> dz K CL b H' Z' δ' σ' ts vs -> D.nx δ' -> E.nx σ' H'
 rt : ∀ t v H' Z' δ' σ', aV Z Z' -> dz K CL b H' Z' δ' σ' (t :: ts) (v :: vs) -> D.rt t δ' -> E.rt v H'
 bk : ∀ δ' σ' H' Z', aV Z Z' -> dz K CL b H' Z' δ' σ' ts vs -> D.bk δ' -> E.bk σ' H'
 ct : ∀ δ' σ' H' Z', aV Z Z' -> dz K CL b H' Z' δ' σ' ts vs -> D.ct δ' -> E.ct σ' H'
noncomputable def VX (X : Cx) (CL : Str -> Addr) (b : Bx) (st : Stmt) (δ : List (Option T)) (D : fc) : Prop :=
 ∀ (H Z : Hp) (σ : L2.St) (ts : List T) (vs : List V) (E : Ends), dz X.K CL b H Z δ σ ts vs -> Meets X.K CL b Z ts vs D E -> aax X st E σ H
noncomputable def iI (X : Cx) (CL : Str -> Addr) (b : Bx) (st : List Stmt) (δ : List (Option T)) (D : fc) : Prop :=
 ∀ (H Z : Hp) (σ : L2.St) (ts : List T) (vs : List V) (E : Ends), dz X.K CL b H Z δ σ ts vs -> Meets X.K CL b Z ts vs D E -> aay X st E σ H
section
variable {K : PySem.W.Frag} {CL : Str -> Addr} {b : Bx} {H H' Z Z' : Hp} {δ δ' : List (Option T)} {σ σ' : L2.St} {ts ts' : List T} {vs vs' : List V} {t : T} {v : V}
theorem Meets.mono {D : fc} {E : Ends} (M : Meets K CL b Z ts vs D E) (e : aV Z Z') : Meets K CL b Z' ts vs D E :=
 ⟨fun _ _ _ _ s => M.nx _ _ _ _ (e.trans s), fun _ _ _ _ _ _ s => M.rt _ _ _ _ _ _ (e.trans s), fun _ _ _ _ s => M.bk _ _ _ _ (e.trans s), fun _ _ _ _ s => M.ct _ _ _ _ (e.trans s)⟩
theorem Ni {a : Addr} {xs : List V} (zh : ∀ a o, H a = some o -> qf o = true -> Z a = some o) (h : Dy K H a xs) : Dy K Z a xs := by
 rcases h with (h | ⟨o, h⟩) | h
 . exact .inl (.inl (zh _ _ h rfl))
 . exact .inl (.inr ⟨o, zh _ _ h rfl⟩)
 . exact .inr h
theorem c9.qc (zh : ∀ a o, H a = some o -> qf o = true -> Z a = some o) {d : D} {v : V} (k : d.qc = true) (h : c9 K CL H d v) : c9 K CL Z d v :=
 c9.rec (motive_1 := fun d v _ => d.qc = true -> c9 K CL Z d v) (motive_2 := fun d v _ => D.bZ d = true -> aJ K CL Z d v) (motive_3 := fun d v _ => True) (motive_4 := fun d v _ => True) (motive_5 := fun d v _ => True)
   (fun _ => .non) (fun b _ => .bl b) (fun b _ => .int b) (fun b _ => .str b) (fun _ k => by rw [D.qc] at k; cases k) (fun b _ => .val b) (fun h _ r k => .tup (Ni zh h) (r (by rw [D.qc] at k; exact k))) (fun _ _ _ k => by rw [D.qc] at k; cases k) (fun _ _ _ k => by rw [D.qc] at k; cases k) (fun _ _ _ k => by rw [D.qc] at k; cases k) (fun _ _ _ k => by rw [D.qc] at k; cases k) (fun _ => .nil) (fun _ _ h r k => by rw [D.bZ, amD] at k; exact .cons (h k.1) (r k.2)) trivial (fun _ _ _ _ => trivial) trivial (fun _ _ _ _ => trivial) trivial (fun _ _ _ _ => trivial) h k
theorem aJ.qc (zh : ∀ a o, H a = some o -> qf o = true -> Z a = some o) {d : List D} {v : List V} (k : D.bZ d = true) (h : aJ K CL H d v) : aJ K CL Z d v :=
 aJ.rec (motive_1 := fun d v _ => d.qc = true -> c9 K CL Z d v) (motive_2 := fun d v _ => D.bZ d = true -> aJ K CL Z d v) (motive_3 := fun d v _ => True) (motive_4 := fun d v _ => True) (motive_5 := fun d v _ => True)
   (fun _ => .non) (fun b _ => .bl b) (fun b _ => .int b) (fun b _ => .str b) (fun _ k => by rw [D.qc] at k; cases k) (fun b _ => .val b) (fun h _ r k => .tup (Ni zh h) (r (by rw [D.qc] at k; exact k))) (fun _ _ _ k => by rw [D.qc] at k; cases k) (fun _ _ _ k => by rw [D.qc] at k; cases k) (fun _ _ _ k => by rw [D.qc] at k; cases k) (fun _ _ _ k => by rw [D.qc] at k; cases k) (fun _ => .nil) (fun _ _ h r k => by rw [D.bZ, amD] at k; exact .cons (h k.1) (r k.2)) trivial (fun _ _ _ _ => trivial) trivial (fun _ _ _ _ => trivial) trivial (fun _ _ _ _ => trivial) h k
theorem gA.clean {Z1 : Hp} (zi : ∀ {d : D} {v : V}, d.qc = true -> c9 K CL Z1 d v -> c9 K CL Z d v) {ly : List (Key × D)} {gs : List (Key × V)} (k : D.bZ (ly.map (·.2)) = true) (h : gA K CL Z1 ly gs) : gA K CL Z ly gs :=
 gA.ind (P := fun ly gs => D.bZ (ly.map (·.2)) = true -> gA K CL Z ly gs) (fun _ => .nil) (fun h _ i k => by rw [am6, D.bZ, amD] at k; exact .cons (zi k.1 h) (i k.2)) h k
theorem d8.clean {Z1 : Hp} (zh : ∀ a xs, Z1 a = some (.tup xs) -> Z a = some (.tup xs)) (zi : ∀ {d : D} {v : V}, d.qc = true -> c9 K CL Z1 d v -> c9 K CL Z d v) {t : T} {v : V} {fp : List Addr} (k : t.clean = true) (h : d8 K CL H Z1 t v fp) : d8 K CL H Z t v fp :=
 d8.rec (motive_1 := fun t v fp _ => t.clean = true -> d8 K CL H Z t v fp) (motive_2 := fun t v fp _ => T.iA t = true -> bz K CL H Z t v fp) (motive_3 := fun t v fp _ => T.cj t = true -> fz K CL H Z t v fp) (motive_4 := fun t v fp _ => T.DI t = true -> yo K CL H Z t v fp)
   (fun h k => .sh (zi (by rw [T.clean] at k; exact k) h)) (fun h _ r k => .tup (zh _ _ h) (r (by rw [T.clean] at k; exact k))) (fun h _ r k => .lst h (r (by rw [T.clean] at k; exact k))) (fun h _ r k => .ins h (r (by rw [T.clean] at k; exact k))) (fun h f k => .BH h (gA.clean zi (by rw [T.clean] at k; exact k) f)) (fun h _ r k => .dct h (r (by rw [T.clean] at k; exact k))) (fun _ r k => .pin (r (by rw [T.clean] at k; exact k))) (fun _ => .nil) (fun _ _ h r k => by rw [T.iA, amD] at k; exact .cons (h k.1) (r k.2)) (fun _ => .nil) (fun _ _ h r k => by rw [T.cj, amD] at k; exact .cons (h k.1) (r k.2)) (fun _ => .nil) (fun _ _ h r k => by rw [T.DI, amD] at k; exact .cons (h k.1) (r k.2)) h k
theorem dz.back {W W' : Hp} {fp : List Addr} (S : dz K CL b H Z δ σ ts vs) (hh : aV H H') (zw : aV Z W) (ww : aV W W') (wh : aV W' H') (new : ∀ a o, W' a = some o -> W a = none -> H a = none)
   (tp : ∀ a o, H' a = some o -> qf o = true -> W' a = some o) (r : d8 K CL H' W' t v fp) (nd : fp.Nodup) (own : ∀ a ∈ fp, W' a = none /\ H a = none) (c : W = Z \/ t.clean = true) :
   ∃ Z', aV Z Z' /\ dz K CL b H' Z' δ σ (t :: ts) (v :: vs) := by
 classical
 let Z' : Hp := fun a => if (H a).isSome = true then Z a else W' a
 have zs : ∀ {a : Addr} {o : HO}, H a = some o -> Z' a = Z a := fun {a o} e => by
   show (if (H a).isSome = true then Z a else W' a) = Z a
   rw [amo (by rw [e]; rfl)]
 have zn : ∀ {a : Addr}, H a = none -> Z' a = W' a := fun {a} e => by
   show (if (H a).isSome = true then Z a else W' a) = W' a
   rw [amk (by rw [e]; simp)]
 have sz : aV Z Z' := fun a o q => by rw [zs (S.zh a o q)]; exact q
 have zw' : ∀ a o, Z' a = some o -> W' a = some o := fun a o q => by
   cases e : H a with
   | none => rw [zn e] at q; exact q
   | some u => rw [zs e] at q; exact ww a o (zw a o q)
 have ztp : ∀ a o, H' a = some o -> qf o = true -> Z' a = some o := fun a o q i => by
   cases e : H a with
   | none => rw [zn e]; exact tp a o q i
   | some u =>
     rw [zs e]
     have := hh a u e
     rw [q] at this; cases this
     exact S.tp a o e i
 have r' : d8 K CL H' Z' t v fp := by
   rcases c with c | c
   . have : Z' = W' := by
       funext a
       cases e : H a with
       | none => exact zn e
       | some u =>
         rw [zs e]
         cases q : W' a with
         | none =>
           cases q2 : Z a with
           | none => rfl
           | some o => rw [ww a o (zw a o q2)] at q; cases q
         | some o =>
           cases q2 : W a with
           | none => rw [new a o q q2] at e; cases e
           | some o2 =>
             have := ww a o2 q2
             rw [q] at this; cases this
             rw [← c]; exact q2
     rw [this]; exact r
   . refine d8.clean (fun a xs h => ?_) (fun {d v} k h => ?_) c r
     . exact ztp a _ (wh a _ h) rfl
     . exact c9.qc (H := H') ztp k (h.mono wh)
 obtain ⟨f0, g0, e0, r0, nd0, k0⟩ := S.rep
 have old : ∀ a ∈ f0 ++ g0, ∃ o, H a = some o := fun a ha => (amn.mp ha).elim (e0.there a) (r0.there a)
 have keep : ∀ a ∈ f0 ++ g0, H' a = H a := fun a ha => by
   obtain ⟨o, e⟩ := old a ha
   rw [e]; exact hh a o e
 refine ⟨Z', sz, ⟨⟨f0, fp ++ g0, e0.mono sz (fun a ha => keep a (ams _ ha)), .cons r' (r0.mono sz fun a ha => keep a (amh _ ha)), ?_, fun a ha => ?_⟩, S.bh.trans hh, S.zz.trans sz, fun a o q => wh a o (zw' a o q), fun a o q z => ?_, ztp, S.tab⟩⟩
 . have hp : (f0 ++ (fp ++ g0)).Perm (fp ++ (f0 ++ g0)) := by
     rw [← aml, ← aml]
     exact amX.append_right g0
   refine hp.nodup_iff.mpr (am4.mpr ⟨nd, nd0, fun a ha c hc e => ?_⟩)
   subst e
   obtain ⟨o, q⟩ := old a hc
   rw [(own a ha).2] at q; cases q
 . have : a ∈ f0 ++ g0 \/ a ∈ fp := by
     simp only [amn] at ha ⊢
     rcases ha with h | h | h
     . exact .inl (.inl h)
     . exact .inr h
     . exact .inl (.inr h)
   rcases this with h | h
   . obtain ⟨o, q⟩ := old a h
     exact ⟨by rw [zs q]; exact (k0 a h).1, (k0 a h).2⟩
   . exact ⟨by rw [zn (own a h).2]; exact (own a h).1, S.bh.free (own a h).2⟩
 . cases e : H a with
   | none => exact S.bh.free e
   | some u => rw [zs e] at q; exact S.new a o q z
end
section
variable {X : Cx} {CL : Str -> Addr} {b : Bx} {δ δ1 δ2 δ3 : List (Option T)} {e e1 e2 : Expr} {t t1 t2 : T} {d d1 d2 : D} {pos : Pos}
theorem Rk (h : dB X CL b e δ t δ1) : fB X CL b e δ t.fS δ1 := fun H Z σ ts vs Q S k => h H Z σ ts vs Q S fun v H' Z' z s S' => k v H' Z' z s S'.pop S'.view
theorem ah (h : dB X CL b e δ (.sh d) δ1) : fB X CL b e δ d δ1 := by have := Rk h; rwa [T.fS] at this
theorem cY (h : fB X CL b e δ d δ1) (i : d.qc = true) : dB X CL b e δ (.sh d) δ1 := fun H Z σ ts vs Q S k => h H Z σ ts vs Q S fun v H' Z' z s S' r => k v H' Z' z s (S'.push (c9.qc S'.tp i r))
theorem J7 (h : dB X CL b e δ t δ1) : dB X CL b e δ (.sh t.fS) δ1 := fun H Z σ ts vs Q S k => h H Z σ ts vs Q S fun v H' Z' z s S' => by
 obtain ⟨Z2, z2, S2⟩ := S'.Ri
 exact k v H' Z2 (z.trans z2) s S2
theorem aj {i : Int} {j : Nat} : dB X CL b (.Constant (.int i) j pos) δ (.sh (.int i)) δ := fun H Z σ ts vs Q S k => eW QL (k _ _ Z (.refl _) (.refl _) (S.push (.int i)))
theorem lB {i : Bool} {j : Nat} : dB X CL b (.Constant (.bool i) j pos) δ (.sh (.bl i)) δ := fun H Z σ ts vs Q S k => eW YZ (k _ _ Z (.refl _) (.refl _) (S.push (.bl i)))
theorem bC {x : Str} {j : Nat} : dB X CL b (.Constant (.str x) j pos) δ (.sh (.str x)) δ := fun H Z σ ts vs Q S k => eW ZM (k _ _ Z (.refl _) (.refl _) (S.push (.str x)))
section
variable (i : Nat) {x : Str} (hi : X.N[i]? = some x := by rfl) (hv : ZH X.env.scope x := by first | exact Or.inl rfl | exact Or.inr (Or.inl rfl) | exact Or.inr (Or.inr rfl)) (hd : (x == ("__debug__" : Str)) = false := by decide) (oh : (x == ("__classdict__" : Str)) = false := by decide)
include hi hv hd oh
theorem aaD (h : δ[i]? = some (some (.sh d)) := by rfl) : dB X CL b (.Name x pos) δ (.sh d) δ := fun H Z σ ts vs Q S k => by
 obtain ⟨v, e, r⟩ := S.Y8 h
 exact eW (mV hi hv hd oh) ⟨v, e, k v H Z (.refl _) (.refl _) (S.push r)⟩
theorem VY (h : δ[i]? = some (some t) := by rfl) : dB X CL b (.Name x pos) δ (.sh t.fS) (δ.set i (some (.sh t.fS))) := fun H Z σ ts vs Q S k => by
 obtain ⟨v, Z', e, z, S'⟩ := S.VW h
 exact eW (mV hi hv hd oh) ⟨v, e, k v H Z' z (.refl _) S'⟩
theorem VZ (h : δ[i]? = some (some t) := by rfl) : dB X CL b (.Name x pos) δ t (δ.set i none) := fun H Z σ ts vs Q S k => by
 obtain ⟨v, e, S'⟩ := S.move h
 exact eW (mV hi hv hd oh) ⟨v, e, k v H Z (.refl _) (.refl _) S'⟩
theorem aaE (h : δ[i]? = some (some t) := by rfl) : fB X CL b (.Name x pos) δ t.fS δ := fun H Z σ ts vs Q S k => by
 obtain ⟨v, e, r⟩ := S.look h
 exact eW (mV hi hv hd oh) ⟨v, e, k v H Z (.refl _) (.refl _) S r⟩
end
noncomputable def scV : D -> Option V
 | .non => some .non
 | .bl b => some (.bl b)
 | .int i => some (.int i)
 | .str x => some (.str x)
 | _ => none
theorem c9.sc {K : PySem.W.Frag} {Z : Hp} {d : D} {v w : V} (r : c9 K CL Z d v) (h : scV d = some w) : v = w := by
 cases r <;> first | (exact am3 h) | (cases h)
theorem V0 {K : PySem.W.Frag} {Z : Hp} {d : D} {w : V} (h : scV d = some w) : c9 K CL Z d w := by
 cases d <;> first | (cases h; constructor) | (cases h)
theorem t6 {op : Operator} {r : R2} {w1 w2 w : V} (ho : zN X (binaryOp op) r) (h1 : fB X CL b e1 δ d1 δ1) (h2 : fB X CL b e2 δ1 d2 δ2) (s1 : scV d1 = some w1) (s2 : scV d2 = some w2) (s3 : scV d = some w)
   (hr : ∀ (H : Hp) (Q : VK), Q w H -> r w1 w2 H Q) : dB X CL b (.BinOp e1 op e2 pos) δ (.sh d) δ2 := fun H Z σ ts vs Q S k => by
 refine eW (QV ho gQ gQ) (h1 H Z σ ts vs _ S fun v1 H1 Z1 z1 k1 S1 r1 => h2 H1 Z1 σ ts vs _ S1 fun v2 H2 Z2 z2 k2 S2 r2 => ?_)
 rw [r1.sc s1, r2.sc s2]
 exact hr H2 Q (k w H2 Z2 (z1.trans z2) (k1.trans k2) (S2.push (V0 s3)))
theorem dQ {i j : Int} (h1 : fB X CL b e1 δ (.int i) δ1) (h2 : fB X CL b e2 δ1 (.int j) δ2) : dB X CL b (.BinOp e1 .Add e2 pos) δ (.sh (.int (i + j))) δ2 := t6 aae h1 h2 rfl rfl rfl fun _ _ q => ⟨i, j, rfl, rfl, q⟩
theorem qm {i j : Int} (h1 : fB X CL b e1 δ (.int i) δ1) (h2 : fB X CL b e2 δ1 (.int j) δ2) : dB X CL b (.BinOp e1 .Sub e2 pos) δ (.sh (.int (i - j))) δ2 := t6 aaf h1 h2 rfl rfl rfl fun _ _ q => ⟨i, j, rfl, rfl, q⟩
theorem zS {i j : Int} (h1 : fB X CL b e1 δ (.int i) δ1) (h2 : fB X CL b e2 δ1 (.int j) δ2) (c : Vv i j) : dB X CL b (.BinOp e1 .Mult e2 pos) δ (.sh (.int (i * j))) δ2 := t6 aag h1 h2 rfl rfl rfl fun _ _ q => ⟨i, j, rfl, rfl, c, q⟩
theorem bN {i j : Int} (h1 : fB X CL b e1 δ (.int i) δ1) (h2 : fB X CL b e2 δ1 (.int j) δ2) (c : 0 < j) : dB X CL b (.BinOp e1 .Mod e2 pos) δ (.sh (.int (i % j))) δ2 := t6 aah h1 h2 rfl rfl rfl fun _ _ q => ⟨i, j, rfl, rfl, c, q⟩
theorem dg {i j : Int} (h1 : fB X CL b e1 δ (.int i) δ1) (h2 : fB X CL b e2 δ1 (.int j) δ2) (c : aei i j) : dB X CL b (.BinOp e1 .FloorDiv e2 pos) δ (.sh (.int (i / j))) δ2 := t6 Vw h1 h2 rfl rfl rfl fun _ _ q => ⟨i, j, rfl, rfl, c, q⟩
theorem J8 {i j : Int} (h1 : fB X CL b e1 δ (.int i) δ1) (h2 : fB X CL b e2 δ1 (.int j) δ2) (c : aej i j) : dB X CL b (.BinOp e1 .Pow e2 pos) δ (.sh (.int (i ^ j.toNat))) δ2 := t6 aai h1 h2 rfl rfl rfl fun _ _ q => ⟨i, j, rfl, rfl, c, q⟩
theorem t7 {x y : Str} (h1 : fB X CL b e1 δ (.str x) δ1) (h2 : fB X CL b e2 δ1 (.str y) δ2) (c : x.length + y.length <= sizeLine) : dB X CL b (.BinOp e1 .Add e2 pos) δ (.sh (.str (x ++ y))) δ2 := t6 JV h1 h2 rfl rfl rfl fun _ _ q => ⟨x, y, rfl, rfl, c, q⟩
theorem zT {op : CmpOp} {r : R2} {p : Bool} {w1 w2 : V} (ho : zN X (compareOp op) r) (h1 : fB X CL b e1 δ d1 δ1) (h2 : fB X CL b e2 δ1 d2 δ2) (s1 : scV d1 = some w1) (s2 : scV d2 = some w2)
   (hr : ∀ (H : Hp) (Q : VK), Q (.bl p) H -> r w1 w2 H Q) (hm : behindInMarks op e2 = false) : yN X CL b (.Compare e1 [op] [e2] pos) δ p δ2 /\ dB X CL b (.Compare e1 [op] [e2] pos) δ (.sh (.bl p)) δ2 := by
 constructor
 . intro H Z σ ts vs Q S k
   refine Rh (DB ho gQ gQ hm) (h1 H Z σ ts vs _ S fun v1 H1 Z1 z1 k1 S1 r1 => h2 H1 Z1 σ ts vs _ S1 fun v2 H2 Z2 z2 k2 S2 r2 => ?_)
   rw [r1.sc s1, r2.sc s2]
   exact hr H2 _ ⟨p, rfl, k H2 Z2 (z1.trans z2) (k1.trans k2) S2⟩
 . intro H Z σ ts vs Q S k
   refine eW (Dz ho gQ gQ hm) (h1 H Z σ ts vs _ S fun v1 H1 Z1 z1 k1 S1 r1 => h2 H1 Z1 σ ts vs _ S1 fun v2 H2 Z2 z2 k2 S2 r2 => ?_)
   rw [r1.sc s1, r2.sc s2]
   exact hr H2 _ (k _ H2 Z2 (z1.trans z2) (k1.trans k2) (S2.push (.bl p)))
theorem dD {i j : Int} (h1 : fB X CL b e1 δ (.int i) δ1) (h2 : fB X CL b e2 δ1 (.int j) δ2) : yN X CL b (.Compare e1 [.Eq] [e2] pos) δ (decide (i = j)) δ2 /\ dB X CL b (.Compare e1 [.Eq] [e2] pos) δ (.sh (.bl (decide (i = j)))) δ2 :=
 zT Y4 h1 h2 rfl rfl (fun _ _ q => ⟨rfl, by rw [show decide (V.int i = V.int j) = decide (i = j) by simp]; exact q⟩) (tX _)
theorem kC {i j : Int} (h1 : fB X CL b e1 δ (.int i) δ1) (h2 : fB X CL b e2 δ1 (.int j) δ2) : yN X CL b (.Compare e1 [.NotEq] [e2] pos) δ (!decide (i = j)) δ2 /\ dB X CL b (.Compare e1 [.NotEq] [e2] pos) δ (.sh (.bl (!decide (i = j)))) δ2 :=
 zT QX h1 h2 rfl rfl (fun _ _ q => ⟨rfl, by rw [show decide (V.int i = V.int j) = decide (i = j) by simp]; exact q⟩) (tX _)
theorem iB {i j : Str} (h1 : fB X CL b e1 δ (.str i) δ1) (h2 : fB X CL b e2 δ1 (.str j) δ2) : yN X CL b (.Compare e1 [.Eq] [e2] pos) δ (decide (i = j)) δ2 /\ dB X CL b (.Compare e1 [.Eq] [e2] pos) δ (.sh (.bl (decide (i = j)))) δ2 :=
 zT Y4 h1 h2 rfl rfl (fun _ _ q => ⟨rfl, by rw [show decide (V.str i = V.str j) = decide (i = j) by simp]; exact q⟩) (tX _)
theorem zU {i j : Str} (h1 : fB X CL b e1 δ (.str i) δ1) (h2 : fB X CL b e2 δ1 (.str j) δ2) : yN X CL b (.Compare e1 [.NotEq] [e2] pos) δ (!decide (i = j)) δ2 /\ dB X CL b (.Compare e1 [.NotEq] [e2] pos) δ (.sh (.bl (!decide (i = j)))) δ2 :=
 zT QX h1 h2 rfl rfl (fun _ _ q => ⟨rfl, by rw [show decide (V.str i = V.str j) = decide (i = j) by simp]; exact q⟩) (tX _)
theorem aeD {i j : Int} (h1 : fB X CL b e1 δ (.int i) δ1) (h2 : fB X CL b e2 δ1 (.int j) δ2) : yN X CL b (.Compare e1 [.Lt] [e2] pos) δ (decide (i < j)) δ2 /\ dB X CL b (.Compare e1 [.Lt] [e2] pos) δ (.sh (.bl (decide (i < j)))) δ2 := zT ael h1 h2 rfl rfl (fun _ _ q => ⟨i, j, rfl, rfl, q⟩) (tX _)
theorem Hs {i j : Int} (h1 : fB X CL b e1 δ (.int i) δ1) (h2 : fB X CL b e2 δ1 (.int j) δ2) : yN X CL b (.Compare e1 [.Gt] [e2] pos) δ (decide (j < i)) δ2 /\ dB X CL b (.Compare e1 [.Gt] [e2] pos) δ (.sh (.bl (decide (j < i)))) δ2 := zT aem h1 h2 rfl rfl (fun _ _ q => ⟨i, j, rfl, rfl, q⟩) (tX _)
end
section
variable {K : PySem.W.Frag} {CL : Str -> Addr} {H Z : Hp}
theorem bz.split : ∀ {as bs : List T} {us ws : List V} {gp : List Addr}, as.length = us.length -> bz K CL H Z (as ++ bs) (us ++ ws) gp -> ∃ g1 g2, gp = g1 ++ g2 /\ bz K CL H Z as us g1 /\ bz K CL H Z bs ws g2
 | [], _, [], _, gp, _, r => ⟨[], gp, rfl, .nil, r⟩
 | [], _, _ :: _, _, _, h, _ => by simp at h
 | _ :: _, _, [], _, _, h, _ => by simp at h
 | a :: as, bs, u :: us, ws, gp, h, r => by
   cases r with
   | @cons _ _ _ _ f1 f2 r1 r2 =>
     obtain ⟨g1, g2, e, h1, h2⟩ := bz.split (as := as) (us := us) (by simpa using h) r2
     exact ⟨f1 ++ g1, g2, by rw [e, aml], .cons r1 h1, h2⟩
theorem bz.app {as bs : List T} {us ws : List V} {g1 g2 : List Addr} (h : bz K CL H Z as us g1) (q : bz K CL H Z bs ws g2) : bz K CL H Z (as ++ bs) (us ++ ws) (g1 ++ g2) :=
 bz.ind (P := fun as us g1 => bz K CL H Z (as ++ bs) (us ++ ws) (g1 ++ g2)) q (fun r _ i => by rw [aml]; exact .cons r i) h
theorem bz.rev : ∀ {as : List T} {us : List V} {g : List Addr}, bz K CL H Z as.reverse us.reverse g -> ∃ g', bz K CL H Z as us g' /\ g'.Perm g
 | [], [], g, r => by
   have r' : bz K CL H Z [] [] g := r
   cases r'
   exact ⟨[], .nil, aor _⟩
 | [], u :: us, g, r => by have := r.length; simp at this
 | a :: as, [], g, r => by have := r.length; simp at this
 | a :: as, u :: us, g, r => by
   rw [anc, anc] at r
   have hl := r.length
   obtain ⟨g1, g2, e, r1, r2⟩ := bz.split (by simp at hl ⊢; omega) r
   subst e
   obtain ⟨g', r', p⟩ := bz.rev r1
   cases r2 with
   | @cons _ _ _ _ f1 f2 q1 q2 =>
     cases q2
     refine ⟨f1 ++ g', .cons q1 r', ?_⟩
     rw [amF]
     exact (amM f1 p).trans amX
theorem bz.ofF : ∀ {ds : List D} {us : List V}, aJ K CL Z ds us -> bz K CL H Z (ds.map T.sh) us []
 | _, _, .nil => .nil
 | _, _, .cons r t => .cons (fp := []) (gp := []) (.sh r) (bz.ofF t)
theorem bz.toF : ∀ {ds : List D} {us : List V} {g : List Addr}, bz K CL H Z (ds.map T.sh) us g -> aJ K CL Z ds us /\ g = []
 | [], _, _, r => by
   have r' : bz K CL H Z [] _ _ := r
   cases r'
   exact ⟨.nil, rfl⟩
 | d :: ds, _, _, r => by
   have r' : bz K CL H Z (T.sh d :: ds.map T.sh) _ _ := r
   cases r' with
   | cons r1 r2 =>
     cases r1 with
     | sh h =>
       obtain ⟨q, e⟩ := bz.toF r2
       exact ⟨.cons h q, by rw [e]; rfl⟩
theorem lW : ∀ (ds : List D), T.fL (ds.map T.sh) = ds
 | [] => rfl
 | d :: ds => by rw [am6, T.fL, lW ds, T.fS]
end
section
variable {K : PySem.W.Frag} {CL : Str -> Addr} {b : Bx} {H H' Z Z' : Hp} {δ δ' : List (Option T)} {σ σ' : L2.St} {ts tl : List T} {vs us : List V} {t : T} {v : V}
theorem dz.Rl {p : Addr} (S : dz K CL b H Z δ σ (tl.reverse ++ ts) (us.reverse ++ vs)) (hl : us.length = tl.length) (hp : H p = none) :
   aV Z (upd Z p (.tup us)) /\ aV H (upd H p (.tup us)) /\ dz K CL b (upd H p (.tup us)) (upd Z p (.tup us)) δ σ (.tup tl :: ts) (.ref p :: vs) := by
 obtain ⟨fp, gp, e, r, nd, k⟩ := S.rep
 obtain ⟨g1, g2, eg, r1, r2⟩ := bz.split (by simp [hl]) r
 subst eg
 obtain ⟨g', r', pm⟩ := r1.rev
 have zp : Z p = none := S.zh.free hp
 have sz : aV Z (upd Z p (.tup us)) := aV.upd zp
 have sh : aV H (upd H p (.tup us)) := aV.upd hp
 have keep : ∀ a ∈ fp ++ (g1 ++ g2), a ≠ p := fun a ha => by
   have : ∃ o, H a = some o := by
     rcases amn.mp ha with h | h
     . exact e.there a h
     . exact r.there a h
   obtain ⟨o, q⟩ := this
   exact cG q hp
 have Y9 : (fp ++ (g' ++ g2)).Perm (fp ++ (g1 ++ g2)) := (pm.append_right g2).append_left fp
 have kk : ∀ a ∈ fp ++ (g' ++ g2), a ≠ p := fun a ha => keep a (Y9.mem_iff.mp ha)
 refine ⟨sz, sh, ⟨⟨fp, g' ++ g2, e.mono sz (fun a ha => aH (keep a (ams _ ha))), .cons (.tup bW (r'.mono sz fun a ha => aH (kk a (by simp [ha])))) (r2.mono sz fun a ha => aH (keep a (by simp [ha]))), Y9.nodup_iff.mpr nd, fun a ha => ?_⟩, S.bh.trans sh, S.zz.trans sz, fun a o q => ?_, fun a o q z => ?_, fun a o q i => ?_, S.tab⟩⟩
 . exact ⟨by rw [aH (kk a ha)]; exact (k a (Y9.mem_iff.mp ha)).1, (k a (Y9.mem_iff.mp ha)).2⟩
 . by_cases ha : a = p
   . subst ha; rw [bW] at q ⊢; exact q
   . rw [aH ha] at q ⊢; exact S.zh a o q
 . by_cases ha : a = p
   . subst ha; exact S.bh.free hp
   . rw [aH ha] at q; exact S.new a o q z
 . by_cases ha : a = p
   . subst ha; rw [bW] at q ⊢; exact q
   . rw [aH ha] at q ⊢; exact S.tp a o q i
theorem dz.qo {p : Addr} {g0 : List Addr} (S : dz K CL b H Z δ σ (tl.reverse ++ ts) (us.reverse ++ vs)) (hl : us.length = tl.length) (hp : H p = none) :
   aV H (upd H p (.lst us)) /\ dz K CL b (upd H p (.lst us)) Z δ σ (.lst tl :: ts) (.ref p :: vs) := by
 obtain ⟨fp, gp, e, r, nd, k⟩ := S.rep
 obtain ⟨g1, g2, eg, r1, r2⟩ := bz.split (by simp [hl]) r
 subst eg
 obtain ⟨g', r', pm⟩ := r1.rev
 have zp : Z p = none := S.zh.free hp
 have sh : aV H (upd H p (.lst us)) := aV.upd hp
 have keep : ∀ a ∈ fp ++ (g1 ++ g2), a ≠ p := fun a ha => by
   have : ∃ o, H a = some o := by
     rcases amn.mp ha with h | h
     . exact e.there a h
     . exact r.there a h
   obtain ⟨o, q⟩ := this
   exact cG q hp
 have Y9 : (fp ++ (g' ++ g2)).Perm (fp ++ (g1 ++ g2)) := (pm.append_right g2).append_left fp
 have kk : ∀ a ∈ fp ++ (g' ++ g2), a ≠ p := fun a ha => keep a (Y9.mem_iff.mp ha)
 have pm3 : (fp ++ ((p :: g') ++ g2)).Perm (p :: (fp ++ (g' ++ g2))) := by
   rw [amE]; exact anJ
 refine ⟨sh, ⟨⟨fp, (p :: g') ++ g2, e.mono (.refl _) (fun a ha => aH (keep a (ams _ ha))), .cons (.lst bW (r'.mono (.refl _) fun a ha => aH (kk a (by simp [ha])))) (r2.mono (.refl _) fun a ha => aH (keep a (by simp [ha]))), ?_, fun a ha => ?_⟩, S.bh.trans sh, S.zz, S.zh.trans sh, S.new, fun a o q i => ?_, S.tab⟩⟩
 . refine pm3.nodup_iff.mpr (anr.mpr ⟨fun h => kk p h rfl, Y9.nodup_iff.mpr nd⟩)
 . rcases amf.mp (pm3.mem_iff.mp ha) with h | h
   . subst h; exact ⟨zp, S.bh.free hp⟩
   . exact k a (Y9.mem_iff.mp h)
 . by_cases ha : a = p
   . subst ha; rw [bW] at q; cases q; cases i
   . rw [aH ha] at q; exact S.tp a o q i
end
section
variable {X : Cx} {CL : Str -> Addr} {b : Bx} {δ δ1 δ2 δ3 : List (Option T)} {e e1 e2 e3 : Expr} {es : List Expr} {t t1 t2 : T} {d d1 d2 : D} {tl : List T} {ds : List D} {p q : Bool} {pos : Pos}
theorem cZ : OX X CL b [] δ [] δ := fun H Z σ ts vs Q S k => OW fU (k [] H Z rfl (.refl _) (.refl _) S)
theorem bY (h1 : dB X CL b e δ t δ1) (h2 : OX X CL b es δ1 tl δ2) (hs : starEach (e :: es) X.env = (false, eval e X.env) :: starEach es X.env := by exact bV rfl) : OX X CL b (e :: es) δ (t :: tl) δ2 := fun H Z σ ts vs Q S k =>
 OW (dc gQ Qz hs) (h1 H Z σ ts vs _ S fun v H1 Z1 z1 k1 S1 => h2 H1 Z1 σ _ _ _ S1 fun us H2 Z2 hl z2 k2 S2 => k (v :: us) H2 Z2 (by simp [hl]) (z1.trans z2) (k1.trans k2) (by
   rw [anc, anc, aml, aml]
   exact S2))
theorem aD : Vg X CL b [] δ [] δ := fun H Z σ ts vs Q S k => OW fU (k [] H Z (.refl _) (.refl _) S .nil)
theorem ai (h1 : fB X CL b e δ d δ1) (h2 : Vg X CL b es δ1 ds δ2) (hs : starEach (e :: es) X.env = (false, eval e X.env) :: starEach es X.env := by exact bV rfl) : Vg X CL b (e :: es) δ (d :: ds) δ2 := fun H Z σ ts vs Q S k =>
 OW (dc gQ Qz hs) (h1 H Z σ ts vs _ S fun v H1 Z1 z1 k1 S1 r1 => h2 H1 Z1 σ _ _ _ S1 fun us H2 Z2 z2 k2 S2 r2 => k (v :: us) H2 Z2 (z1.trans z2) (k1.trans k2) S2 (.cons (r1.mono k2) r2))
theorem DJ {j : Nat} (h : OX X CL b es δ tl δ1) (hl : tl.length <= sizeLine) : dB X CL b (.Tuple es j pos) δ (.tup tl) δ1 := fun H Z σ ts vs Q S k =>
 eW (aal Qz) (h H Z σ ts vs _ S fun us H1 Z1 hu z1 k1 S1 => ⟨by rw [hu]; exact hl, fun p hp => by
   obtain ⟨a, c, S2⟩ := S1.Rl hu hp
   exact k _ _ _ (z1.trans a) (k1.trans c) S2⟩)
theorem fQ {j : Nat} (h : OX X CL b es δ (ds.map T.sh) δ1) (hl : ds.length <= sizeLine) : dB X CL b (.Tuple es j pos) δ (.sh (.tup ds)) δ1 := by
 have := J7 (DJ (pos := pos) (j := j) h (by simpa using hl))
 rwa [T.fS, lW] at this
theorem dN (h : OX X CL b es δ tl δ1) (hl : tl.length <= sizeLine) : dB X CL b (.List es pos) δ (.lst tl) δ1 := fun H Z σ ts vs Q S k =>
 eW (aam Qz) (h H Z σ ts vs _ S fun us H1 Z1 hu z1 k1 S1 => ⟨by rw [hu]; exact hl, fun p hp => by
   obtain ⟨c, S2⟩ := S1.qo (g0 := []) hu hp
   exact k _ _ _ z1 (k1.trans c) S2⟩)
theorem fZ (h : dB X CL b e δ (.sh (.bl p)) δ1) (he : ∀ whole, isTrue e X.env whole = (do let v ← whole; standAt e.pos; holding [v] (truthy v)) := by intro _; rfl) : yN X CL b e δ p δ1 := fun H Z σ ts vs Q S k =>
 Rh (ZN gQ he) (h H Z σ ts vs _ S fun v H1 Z1 z1 k1 S1 => ⟨p, by have := S1.view; rw [T.fS] at this; exact this.sc rfl, k H1 Z1 z1 k1 S1.pop⟩)
theorem xq (h : yN X CL b e δ p δ1) : yN X CL b (.UnaryOp .Not e pos) δ (!p) δ1 := fun H Z σ ts vs Q S k => Rh (ZQ Y6) (h H Z σ ts vs _ S fun H1 Z1 z1 k1 S1 => k H1 Z1 z1 k1 S1)
noncomputable def aaG (X : Cx) (e : Expr) : TT := fun σ H Q => ∀ (whole : Sem Value) (pins : List (Addr × Obj)) (s : Shared), Inv X pins σ H s -> wpAny (model X.prog X.w) X.A (isTrue e X.env whole) (TP X pins σ Q) X.xe s
theorem pwS {e : Expr} : PW X e (aaG X e) := fun whole pins s _ _ _ I h => h whole pins s I
noncomputable def TWv (X : Cx) (CL : Str -> Addr) (b : Bx) (e : Expr) (δ : List (Option T)) (p : Bool) (δ' : List (Option T)) : Prop :=
 ∀ (H Z : Hp) (σ : L2.St) (ts : List T) (vs : List V) (Q : Bool -> Hp -> Prop), dz X.K CL b H Z δ σ ts vs -> (∀ H' Z', aV Z Z' -> aV H H' -> dz X.K CL b H' Z' δ' σ ts vs -> Q p H') -> aaG X e σ H Q
theorem V1 {t : TT} (h : PW X e t) {σ : L2.St} {H : Hp} {Q : Bool -> Hp -> Prop} (q : t σ H Q) : aaG X e σ H Q := fun whole pins s I => h whole pins s σ H Q I q
theorem kH (h : TWv X CL b e δ p δ1) : yN X CL b e δ p δ1 := fun H Z σ ts vs Q S k pins s I => h H Z σ ts vs Q S k _ pins s I
theorem g8 (h : yN X CL b e δ p δ1) : TWv X CL b (.BoolOp .And [e] pos) δ p δ1 := fun H Z σ ts vs Q S k => V1 (Vr Y6) (h H Z σ ts vs _ S k)
theorem mX (h : yN X CL b e δ p δ1) : TWv X CL b (.BoolOp .Or [e] pos) δ p δ1 := fun H Z σ ts vs Q S k => V1 (ZO Y6) (h H Z σ ts vs _ S k)
theorem ja (h : yN X CL b e δ p δ1) (h2 : p = true -> TWv X CL b (.BoolOp .And (e2 :: es) pos) δ1 q δ1) : TWv X CL b (.BoolOp .And (e :: e2 :: es) pos) δ (p && q) δ1 := fun H Z σ ts vs Q S k =>
 V1 (ZP Y6 pwS) (h H Z σ ts vs _ S fun H1 Z1 z1 k1 S1 => by
   cases p with
   | true => exact J6 (h2 rfl H1 Z1 σ ts vs _ S1 fun H2 Z2 z2 k2 S2 => k H2 Z2 (z1.trans z2) (k1.trans k2) S2)
   | false => exact J5 (k H1 Z1 z1 k1 S1))
theorem qp (h : yN X CL b e δ p δ1) (h2 : p = false -> TWv X CL b (.BoolOp .Or (e2 :: es) pos) δ1 q δ1) : TWv X CL b (.BoolOp .Or (e :: e2 :: es) pos) δ (p || q) δ1 := fun H Z σ ts vs Q S k =>
 V1 (ad2 Y6 pwS) (h H Z σ ts vs _ S fun H1 Z1 z1 k1 S1 => by
   cases p with
   | true => exact J6 (k H1 Z1 z1 k1 S1)
   | false => exact J5 (h2 rfl H1 Z1 σ ts vs _ S1 fun H2 Z2 z2 k2 S2 => k H2 Z2 (z1.trans z2) (k1.trans k2) S2))
theorem xr {op : BoolOp} (h : dB X CL b e δ t δ1) : dB X CL b (.BoolOp op [e] pos) δ t δ1 := fun H Z σ ts vs Q S k => eW (ZR gQ) (h H Z σ ts vs _ S k)
theorem DK (h : dB X CL b e δ (.sh (.bl p)) δ1) (h2 : p = true -> dB X CL b (.BoolOp .And (e2 :: es) pos) δ1 (.sh (.bl q)) δ1) : dB X CL b (.BoolOp .And (e :: e2 :: es) pos) δ (.sh (.bl (p && q))) δ1 := fun H Z σ ts vs Q S k =>
 eW (ZS gQ gQ) (h H Z σ ts vs _ S fun v H1 Z1 z1 k1 S1 => by
   have hv : v = .bl p := by have := S1.view; rw [T.fS] at this; exact this.sc rfl
   refine ⟨p, hv, ?_⟩
   cases p with
   | true => exact J6 (h2 rfl H1 Z1 σ ts vs _ S1.pop fun v H2 Z2 z2 k2 S2 => k v H2 Z2 (z1.trans z2) (k1.trans k2) S2)
   | false => exact J5 (k _ H1 Z1 z1 k1 (S1.pop.push (.bl false))))
theorem Rm (h : dB X CL b e δ (.sh (.bl p)) δ1) (h2 : p = false -> dB X CL b (.BoolOp .Or (e2 :: es) pos) δ1 (.sh (.bl q)) δ1) : dB X CL b (.BoolOp .Or (e :: e2 :: es) pos) δ (.sh (.bl (p || q))) δ1 := fun H Z σ ts vs Q S k =>
 eW (ad5 gQ gQ) (h H Z σ ts vs _ S fun v H1 Z1 z1 k1 S1 => by
   have hv : v = .bl p := by have := S1.view; rw [T.fS] at this; exact this.sc rfl
   refine ⟨p, hv, ?_⟩
   cases p with
   | true => exact J6 (k _ H1 Z1 z1 k1 (S1.pop.push (.bl true)))
   | false => exact J5 (h2 rfl H1 Z1 σ ts vs _ S1.pop fun v H2 Z2 z2 k2 S2 => k v H2 Z2 (z1.trans z2) (k1.trans k2) S2))
theorem aaI (h : dB X CL b e δ (.sh (.bl p)) δ1) : dB X CL b (.UnaryOp .Not e pos) δ (.sh (.bl (!p))) δ1 := fun H Z σ ts vs Q S k =>
 eW (L2.ZT gQ) (h H Z σ ts vs _ S fun v H1 Z1 z1 k1 S1 => ⟨p, by have := S1.view; rw [T.fS] at this; exact this.sc rfl, k _ H1 Z1 z1 k1 (S1.pop.push (.bl (!p)))⟩)
theorem aaJ (h : yN X CL b e δ p δ1) (h1 : p = true -> dB X CL b e1 δ1 t δ2) (h2 : p = false -> dB X CL b e2 δ1 t δ2) : dB X CL b (.IfExp e e1 e2 pos) δ t δ2 := fun H Z σ ts vs Q S k =>
 eW (QM Y6 gQ gQ) (h H Z σ ts vs _ S fun H1 Z1 z1 k1 S1 => by
   cases p with
   | true => exact J6 (h1 rfl H1 Z1 σ ts vs _ S1 fun v H2 Z2 z2 k2 S2 => k v H2 Z2 (z1.trans z2) (k1.trans k2) S2)
   | false => exact J5 (h2 rfl H1 Z1 σ ts vs _ S1 fun v H2 Z2 z2 k2 S2 => k v H2 Z2 (z1.trans z2) (k1.trans k2) S2))
theorem yW {K : PySem.W.Frag} {Z : Hp} {vs : List V} {k : Int} (r : aJ K CL Z ds vs) (h : zP ds k = some d) : ∃ v, zP vs k = some v /\ c9 K CL Z d v := by
 unfold zP at h ⊢
 rw [← r.length]
 cases e : OL ds.length k with
 | none => rw [e] at h; cases h
 | some j =>
   rw [e] at h
   exact r.get h
theorem aW {k : Int} (h1 : fB X CL b e1 δ (.tup ds) δ1) (h2 : fB X CL b e2 δ1 (.int k) δ2) (hk : zP ds k = some d) (hs : rT e2 := by exact fun _ _ => rfl) : fB X CL b (.Subscript e1 e2 pos) δ d δ2 := fun H Z σ ts vs Q S kk =>
 eW (Cw J2 gQ gQ hs) (h1 H Z σ ts vs _ S fun v1 H1 Z1 z1 k1 S1 r1 => h2 H1 Z1 σ ts vs _ S1 fun v2 H2 Z2 z2 k2 S2 r2 => by
   have r1' := r1.mono k2
   cases r1' with
   | tup hq rr =>
     obtain ⟨v, hv, rv⟩ := yW rr hk
     exact ⟨_, _, k, v, rfl, r2.sc rfl, hq, hv, kk v H2 Z2 (z1.trans z2) (k1.trans k2) S2 rv⟩)
theorem aO {k : Int} (h1 : fB X CL b e1 δ (.lst ds) δ1) (h2 : fB X CL b e2 δ1 (.int k) δ2) (hk : zP ds k = some d) (hs : rT e2 := by exact fun _ _ => rfl) : fB X CL b (.Subscript e1 e2 pos) δ d δ2 := fun H Z σ ts vs Q S kk =>
 eW (Cw Nb gQ gQ hs) (h1 H Z σ ts vs _ S fun v1 H1 Z1 z1 k1 S1 r1 => h2 H1 Z1 σ ts vs _ S1 fun v2 H2 Z2 z2 k2 S2 r2 => by
   have r1' := r1.mono k2
   cases r1' with
   | lst hq rr =>
     obtain ⟨v, hv, rv⟩ := yW rr hk
     exact ⟨_, _, k, v, rfl, r2.sc rfl, hq, hv, kk v H2 Z2 (z1.trans z2) (k1.trans k2) S2 rv⟩)
theorem Rn {k : Int} {x : Str} {c : Nat} (h1 : fB X CL b e1 δ (.str x) δ1) (h2 : fB X CL b e2 δ1 (.int k) δ2) (hl : x.length <= sizeLine) (hk : zP x.cps.toList k = some c) (hs : rT e2 := by exact fun _ _ => rfl) : dB X CL b (.Subscript e1 e2 pos) δ (.sh (.str ⟨#[c]⟩)) δ2 := fun H Z σ ts vs Q S kk =>
 eW (Cw aaq gQ gQ hs) (h1 H Z σ ts vs _ S fun v1 H1 Z1 z1 k1 S1 r1 => h2 H1 Z1 σ ts vs _ S1 fun v2 H2 Z2 z2 k2 S2 r2 =>
   ⟨x, k, c, r1.sc rfl, r2.sc rfl, hl, hk, kk _ H2 Z2 (z1.trans z2) (k1.trans k2) (S2.push (.str _))⟩)
theorem zV {k : Int} (h1 : dB X CL b e1 δ (.sh (.tup ds)) δ1) (h2 : fB X CL b e2 δ1 (.int k) δ2) (hk : zP ds k = some d) (hs : rT e2 := by exact fun _ _ => rfl) : dB X CL b (.Subscript e1 e2 pos) δ (.sh d) δ2 := fun H Z σ ts vs Q S kk =>
 eW (Cw J2 gQ gQ hs) (h1 H Z σ ts vs _ S fun v1 H1 Z1 z1 k1 S1 => h2 H1 Z1 σ _ _ _ S1 fun v2 H2 Z2 z2 k2 S2 r2 => by
   obtain ⟨fp, gp, _, r, _, _⟩ := S2.rep
   cases r with
   | cons r _ =>
     cases r with
     | sh r =>
       cases r with
       | tup hq rr =>
         obtain ⟨v, hv, rv⟩ := yW rr hk
         exact ⟨_, _, k, v, rfl, r2.sc rfl, aV.sqT S2.zh hq, hv, kk v H2 Z2 (z1.trans z2) (k1.trans k2) (S2.pop.push rv)⟩)
theorem DL {k : Int} (h1 : dB X CL b e1 δ (.sh (.lst ds)) δ1) (h2 : fB X CL b e2 δ1 (.int k) δ2) (hk : zP ds k = some d) (hs : rT e2 := by exact fun _ _ => rfl) : dB X CL b (.Subscript e1 e2 pos) δ (.sh d) δ2 := fun H Z σ ts vs Q S kk =>
 eW (Cw Nb gQ gQ hs) (h1 H Z σ ts vs _ S fun v1 H1 Z1 z1 k1 S1 => h2 H1 Z1 σ _ _ _ S1 fun v2 H2 Z2 z2 k2 S2 r2 => by
   obtain ⟨fp, gp, _, r, _, _⟩ := S2.rep
   cases r with
   | cons r _ =>
     cases r with
     | sh r =>
       cases r with
       | lst hq rr =>
         obtain ⟨v, hv, rv⟩ := yW rr hk
         exact ⟨_, _, k, v, rfl, r2.sc rfl, S2.zh.seq hq, hv, kk v H2 Z2 (z1.trans z2) (k1.trans k2) (S2.pop.push rv)⟩)
end
section
variable {K : PySem.W.Frag} {CL : Str -> Addr} {b : Bx} {H H' Z Z' : Hp} {δ δ' : List (Option T)} {σ σ' : L2.St} {ts tl : List T} {vs us : List V} {t : T} {v : V}
theorem dz.uU : ∀ {ds : List D} {us : List V} {ts : List T} {vs : List V}, aJ K CL Z ds us -> dz K CL b H Z δ σ ts vs -> dz K CL b H Z δ σ ((ds.map T.sh).reverse ++ ts) (us.reverse ++ vs)
 | _, _, _, _, .nil, S => S
 | _, _, ts, vs, .cons (d := d) (v := v) (ds := ds) (vs := us) r t, S => by
   rw [am6, anc, anc, aml, aml]
   exact dz.uU t (S.push r)
theorem dz.drops (S : dz K CL b H Z δ σ (tl ++ ts) (us ++ vs)) (hl : us.length = tl.length) : dz K CL b H Z δ σ ts vs := by
 induction tl generalizing us with
 | nil =>
   cases us with
   | nil => exact S
   | cons _ _ => simp at hl
 | cons t tl ih =>
   cases us with
   | nil => simp at hl
   | cons u us => exact ih S.pop (by simpa using hl)
theorem dz.V2 {ds : List D} (S : dz K CL b H Z δ σ ((ds.map T.sh).reverse ++ ts) (us.reverse ++ vs)) (hl : us.length = ds.length) : aJ K CL Z ds us := by
 obtain ⟨fp, gp, e, r, nd, k⟩ := S.rep
 obtain ⟨g1, g2, eg, r1, r2⟩ := bz.split (by simp [hl]) r
 obtain ⟨g', r', pm⟩ := r1.rev
 exact r'.toF.1
end
section
variable {X : Cx} {CL : Str -> Addr} {b : Bx} {δ δ1 δ2 δ3 : List (Option T)} {e e1 e2 e3 : Expr} {es : List Expr} {t t1 t2 : T} {d d1 d2 : D} {tl : List T} {ds : List D} {p q : Bool} {pos pp : Pos}
theorem yX (hm : X.mg "len" = none) (h : fB X CL b e δ (.lst ds) δ1) (hg : Gl X "len" := by rfl) (hs : starEach [e] X.env = (false, eval e X.env) :: starEach [] X.env := by exact bV rfl) (hpl : (backTo pos (starEach ([] : List Expr) X.env)).any (·.1) = false := by rfl) : dB X CL b (.Call (.Name "len" pp) [e] [] pos) δ (.sh (.int ds.length)) δ1 := fun H Z σ ts vs Q S k =>
 eW (nI uT hg hm PySem.boot_len (dc gQ fU hs) (he := hs)) (h H Z σ ts vs _ S fun v H1 Z1 z1 k1 S1 r => by
   cases r with
   | lst hq rr => exact ⟨_, _, rfl, .inl hq, by rw [← rr.length]; exact k _ H1 Z1 z1 k1 (S1.push (.int _))⟩)
theorem DM (hm : X.mg "len" = none) (h : fB X CL b e δ (.tup ds) δ1) (hg : Gl X "len" := by rfl) (hs : starEach [e] X.env = (false, eval e X.env) :: starEach [] X.env := by exact bV rfl) : dB X CL b (.Call (.Name "len" pp) [e] [] pos) δ (.sh (.int ds.length)) δ1 := fun H Z σ ts vs Q S k =>
 eW (nI uT hg hm PySem.boot_len (dc gQ fU hs) (he := hs)) (h H Z σ ts vs _ S fun v H1 Z1 z1 k1 S1 r => by
   cases r with
   | tup hq rr => exact ⟨_, _, rfl, .inr hq, by rw [← rr.length]; exact k _ H1 Z1 z1 k1 (S1.push (.int _))⟩)
theorem cV (hm : X.mg "list" = none) (h : fB X CL b e δ (.lst ds) δ1) (hi : D.bZ ds = true) (hg : Gl X "list" := by rfl) (hv : bootBuiltins "list" = some (.type "list") := by rfl) (hs : starEach [e] X.env = (false, eval e X.env) :: starEach [] X.env := by exact bV rfl) : dB X CL b (.Call (.Name "list" pp) [e] [] pos) δ (.lst (ds.map T.sh)) δ1 := fun H Z σ ts vs Q S k =>
 eW (rS DH hg hm hv (dc gQ fU hs) (he := hs)) (h H Z σ ts vs _ S fun v H1 Z1 z1 k1 S1 r => by
   cases r with
   | lst hq rr =>
     refine ⟨_, _, rfl, .inl hq, fun l hl => ?_⟩
     obtain ⟨c, S2⟩ := (dz.uU (aJ.qc S1.tp hi rr) S1).qo (g0 := []) (by simp [rr.length]) hl
     exact k _ _ _ z1 (k1.trans c) S2)
noncomputable def jt (K : PySem.W.Frag) (CL : Str -> Addr) {A : Type} (n : Nat) (arg : A -> List D) (Pre : A -> Prop) (res : A -> T) : Sp := fun vs H Q _ =>
 ∃ (W : Hp) (a : A), aV W H /\ (∀ c o, H c = some o -> qf o = true -> W c = some o) /\ aJ K CL W (arg a) vs /\ (arg a).length = n /\ Pre a /\ ql CL W ∧
   ∀ v H' W' fp, aV H H' -> aV W W' -> aV W' H' -> (∀ c o, W' c = some o -> W c = none -> H c = none) -> (∀ c o, H' c = some o -> qf o = true -> W' c = some o) →
     d8 K CL H' W' (res a) v fp -> fp.Nodup -> (∀ c ∈ fp, W' c = none /\ H c = none) -> Q v H'
section
variable {A : Type} {k n : Nat} {f : Addr} {fd : FuncData} {ps : List Str} {arg : A -> List D} {Pre : A -> Prop} {res : A -> T} {x : Str}
theorem V3 (a : A) (F : cC X.prog X.w X.K X.mg X.base iE k f fd ps (jt X.K CL n arg Pre res)) (hr : iQ k X.A) (hm : X.mg x = some (.ref f)) (hk : PySem.W.keepIn X.K (.ref f) = true) (hb : Binds X.K fd ps [])
   (h : Vg X CL b (e :: es) δ (arg a) δ1) (hn : (arg a).length = n) (hp : Pre a) (hc : (res a).clean = true) (hg : Gl X x)
   (yJ : (x == ("__debug__" : Str)) = false := by decide) (he : starEach (e :: es) X.env = (false, eval e X.env) :: starEach es X.env := by exact bV rfl) (hpl : (backTo pos (starEach es X.env)).any (·.1) = false := by rfl) :
   dB X CL b (.Call (.Name x pp) (e :: es) [] pos) δ (res a) δ1 := fun H Z σ ts vs Q S kk =>
 eW (M8 F hr hg hm hk hb .nil Hr Qz yJ he hpl) (h H Z σ ts vs _ S fun us H1 Z1 z1 k1 S1 r => by
   rw [amF]
   refine ⟨H1, a, .refl _, fun _ _ q _ => q, r, hn, hp, S1.VR, fun v H' W' fp hh ww wh nw tp rt nd own => ?_⟩
   obtain ⟨Z', z', S'⟩ := S1.back hh S1.zh ww wh nw tp rt nd own (.inr hc)
   exact kk v H' Z' (z1.trans z') (k1.trans hh) S')
theorem Ro (a : A) (F : cC X.prog X.w X.K X.mg X.base iE k f fd ps (jt X.K CL n arg Pre res)) (hr : iQ k X.A) (hm : X.mg x = some (.ref f)) (hk : PySem.W.keepIn X.K (.ref f) = true) (hb : Binds X.K fd ps [])
   (h : OX X CL b (e :: es) δ ((arg a).map T.sh) δ1) (hn : (arg a).length = n) (hp : Pre a) (hg : Gl X x)
   (yJ : (x == ("__debug__" : Str)) = false := by decide) (he : starEach (e :: es) X.env = (false, eval e X.env) :: starEach es X.env := by exact bV rfl) (hpl : (backTo pos (starEach es X.env)).any (·.1) = false := by rfl) :
   dB X CL b (.Call (.Name x pp) (e :: es) [] pos) δ (res a) δ1 := fun H Z σ ts vs Q S kk =>
 eW (M8 F hr hg hm hk hb .nil Hr Qz yJ he hpl) (h H Z σ ts vs _ S fun us H1 Z1 hl z1 k1 S1 => by
   rw [amF]
   have hl' : us.length = (arg a).length := by rw [hl, amc]
   have S2 := S1.drops (by simp [hl'])
   refine ⟨Z1, a, S1.zh, S1.tp, S1.V2 hl', hn, hp, S1.aaA, fun v H' W' fp hh ww wh nw tp rt nd own => ?_⟩
   obtain ⟨Z', z', S'⟩ := S2.back hh (.refl _) ww wh nw tp rt nd own (.inl rfl)
   exact kk v H' Z' (z1.trans z') (k1.trans hh) S')
end
variable {D D' : fc} {st : Stmt} {i9 aeE : List Stmt}
theorem Meets.to {K : PySem.W.Frag} {Z : Hp} {ts : List T} {vs : List V} {E : Ends} (M : Meets K CL b Z ts vs D E) (h1 : ∀ δ, D'.nx δ -> D.nx δ) (h2 : ∀ t δ, D'.rt t δ -> D.rt t δ) (h3 : ∀ δ, D'.bk δ -> D.bk δ) (h4 : ∀ δ, D'.ct δ -> D.ct δ) : Meets K CL b Z ts vs D' E :=
 ⟨fun _ _ _ _ s S k => M.nx _ _ _ _ s S (h1 _ k), fun _ _ _ _ _ _ s S k => M.rt _ _ _ _ _ _ s S (h2 _ _ k), fun _ _ _ _ s S k => M.bk _ _ _ _ s S (h3 _ k), fun _ _ _ _ s S k => M.ct _ _ _ _ s S (h4 _ k)⟩
theorem ao (h : D.nx δ) : iI X CL b [] δ D := fun H Z σ ts vs E S M => aeB Vs (M.nx δ σ H Z (.refl _) S h)
theorem fC (h : VX X CL b st δ { D with nx := fun δ1 => iI X CL b i9 δ1 D }) : iI X CL b (st :: i9) δ D := fun H Z σ ts vs E S M =>
 aeB (QN psS pbS) (h H Z σ ts vs _ S ⟨fun δ' σ' H' Z' s S' k => k H' Z' σ' ts vs E S' (M.mono s), M.rt, M.bk, M.ct⟩)
theorem Rp (h : D.bk δ) : VX X CL b (.Break pos) δ D := fun H Z σ ts vs E S M => yM QO (M.bk δ σ H Z (.refl _) S h)
theorem aaL (h : dB X CL b e δ t δ1) (k : D.rt t δ1) : VX X CL b (.Return (some e) pos) δ D := fun H Z σ ts vs E S M => yM (ZV gQ) (h H Z σ ts vs _ S fun v H1 Z1 z1 k1 S1 => M.rt t v H1 Z1 δ1 σ z1 S1 k)
theorem aeF (h : yN X CL b e δ p δ1) (h1 : p = true -> iI X CL b i9 δ1 D) (h2 : p = false -> iI X CL b aeE δ1 D) : VX X CL b (.If e i9 aeE pos) δ D := fun H Z σ ts vs E S M =>
 yM (ad8 Y6 pbS pbS) (h H Z σ ts vs _ S fun H1 Z1 z1 k1 S1 => by
   cases p with
   | true => exact J6 (h1 rfl H1 Z1 σ ts vs E S1 (M.mono z1))
   | false => exact J5 (h2 rfl H1 Z1 σ ts vs E S1 (M.mono z1)))
theorem Rq (i : Nat) {x : Str} {pos' : Pos} (h : dB X CL b e δ t δ1) (k : D.nx (δ1.set i (some t))) (hl : i < δ1.length := by decide) (hN : X.N.Nodup := by assumption) (hi : X.N[i]? = some x := by rfl) (hx : Loc X.env.scope x := by first | exact .inl rfl | exact .inr rfl)
   (hs : swapsWith e (some (.Name x pos')) pos.line X.env = pure false := by rfl) (hf : X.fn x = true \/ X.env.scope.names.lookup x = some .local := by first | exact .inl rfl | exact .inr rfl | assumption) : VX X CL b (.Assign [.Name x pos'] e pos) δ D := fun H Z σ ts vs E S M =>
 yM (Z8 hN hi hx gQ hs hf) (h H Z σ ts vs _ S fun v H1 Z1 z1 k1 S1 => M.nx _ _ H1 Z1 z1 (S1.set hl) k)
end
noncomputable def entry (N : List Str) (ds : List D) : List (Option T) := ds.map (fun d => some (T.sh d)) ++ List.replicate (N.length - ds.length) none
theorem om {K : PySem.W.Frag} {CL : Str -> Addr} {H Z : Hp} : ∀ {ds : List D} {vs : List V} (n : Nat), aJ K CL Z ds vs -> iz K CL H Z (ds.map (fun d => some (T.sh d)) ++ List.replicate n none) (vs.map some ++ List.replicate n none) []
 | _, _, 0, .nil => .nil
 | _, _, n + 1, .nil => .skip (om (ds := []) (vs := []) n .nil)
 | _, _, n, .cons r t => .cons (fp := []) (gp := []) (.sh r) (om n t)
theorem bq {P : Program} {w : World} {K : PySem.W.Frag} {mg : Str -> Option Value} {base : Heap} {CL : Str -> Addr} {x qual : Str} {st : Stmt} {f : Addr} {fd : FuncData} {N ps : List Str} {k : Nat} {A : Type} {arg : A -> List D} {Pre : A -> Prop} {res : A -> T} (F : jv K x qual st f fd) (S : aP N ps (av st))
   (hb : ∀ (fV : Value) (Ar : Around) (outer : List Env) (s : Shared) (H : Hp) (E : XK) (b : Bx) (a : A), iQ k (Ar.deeper (envOfC qual (av st) s.heap.objs.size f fV)) -> Pre a →
     iI (Hh iE P w K mg base N qual (av st) f fV Ar outer s H E).nox CL b (jH st) (entry N (arg a)) { nx := fun _ => res a = .sh .non, rt := fun t _ => t = res a }) :
   cC P w K mg base iE (k + 1) f fd ps (jt K CL ps.length arg Pre res) := by
 refine F.ok S (fun vs H Q E h => ?_) (fun fV Ar outer s H vs Q E hr h => ?_)
 . obtain ⟨W, a, _, _, r, hl, _⟩ := h
   rw [← r.length]; exact hl
 . obtain ⟨W, a, wh, tp, r, hl, hp, tb, kk⟩ := h
   refine ⟨_, pbS, hb fV Ar outer s H E ⟨H, W⟩ a hr hp H W _ [] [] _ ⟨⟨[], [], ?_, .nil, List.nodup_nil, fun a ha => by cases ha⟩, .refl _, .refl _, wh, fun a o q z => ?_, tp, tb⟩ ⟨fun δ' σ' H' Z' s' S' e => ?_, fun t v H' Z' δ' σ' s' S' e => ?_, fun _ _ _ _ _ _ e => e.elim, fun _ _ _ _ _ _ e => e.elim⟩⟩
   . unfold entry L2.start
     rw [← r.length]
     exact om _ r
   . have q' : W a = some o := q
     have z' : W a = none := z
     rw [q'] at z'; cases z'
   . exact kk .non H' Z' [] S'.bh S'.zz S'.zh S'.new S'.tp (by rw [show res a = .sh .non from e]; exact .sh .non) List.nodup_nil fun a ha => by cases ha
   . have e' : t = res a := e
     subst e'
     obtain ⟨fp, gp, _, r', nd, own⟩ := S'.rep
     cases r' with
     | @cons _ _ _ _ f1 f2 r1 r2 =>
       have h1 := (am4.mp nd).2.1
       exact kk v H' Z' f1 S'.bh S'.zz S'.zh S'.new S'.tp r1 (am4.mp h1).1 fun a ha => own a (amh _ (ams _ ha))
section
variable {prog : Program} {w : World} {A : Around} {R : Result -> Shared -> Prop} {s : Shared}
theorem DN {elt target iter : Expr} {ifs : List Expr} {scope : Scope} {pos : Pos} {it acc : Value} {env : Env} (I : Nat -> Shared -> Prop)
   (turn : ∀ n s, I n s -> wpAny (model prog w) A (pyNext it) (fun r s₁ => match r with
     | none => R (.ok .next) s₁
     | some v => wpAny (model prog w) A (letOwnedTupleGo target it v) (fun _ Za => wpAny (model prog w) A (assign target env v) (fun _ s₂ =>
         wpAny (model prog w) A (forIn ifs true fun c r => if r = true then do let ok ← isTrue c env (eval c env); pure (ForInStep.yield ok) else pure (ForInStep.yield r)) (fun ok s₃ =>
           if ok = true then wpAny (model prog w) A (eval elt env) (fun x s₄ =>
             wpAny (model prog w) A (call (.builtin "list.append") [acc, x]) (fun _ s₅ => ∃ m, m < n /\ I m s₅) (fun _ _ => False) s₄) (fun _ _ => False) s₃
           else ∃ m, m < n /\ I m s₃) (fun _ _ => False) s₂) (fun _ _ => False) Za) (fun _ _ => False) s₁) (fun _ _ => False) s)
   (n : Nat) (h : I n s) :
   codeAny (model prog w) A (.compLoop (.ListComp elt [⟨target, iter, ifs, 0⟩] scope pos) 0 it acc env) R s := by
 refine codeAny_loop rfl I (fun n s hI => ?_) n h
 show wpAny _ A ((compTurn (.ListComp elt [⟨target, iter, ifs, 0⟩] scope pos) 0 it acc env).onRaise (fun x => do noteFrame x env; theTreesLotGoes x)) _ _ s
 refine wpAny_noted ?_
 rw [compTurn_list]
 refine amG (wpAny_standAt (amG (anW (turn n s hI) (fun r s₁ h₁ => ?_) fun _ _ h' => h'.elim)))
 cases r with
 | none => exact ang h₁
 | some v =>
   refine amG (anW h₁ (fun _ Za h₁' => ?_) fun _ _ h' => h'.elim)
   refine amG (anW h₁' (fun _ s₂ h₂ => amG (anW h₂ (fun ok s₃ h₃ => ?_) fun _ _ h' => h'.elim)) fun _ _ h' => h'.elim)
   cases ok with
   | false => exact ang ⟨rfl, h₃⟩
   | true =>
     exact amG (amG (anW h₃ (fun x s₄ h₄ => amG (anW h₄ (fun _ s₅ h₅ => ang (ang ⟨rfl, h₅⟩)) fun _ _ h' => h'.elim)) fun _ _ h' => h'.elim))
end
noncomputable def jb (env : Env) : List (Str × NameKind) -> List (Str × Addr) -> List (Str × Addr)
 | [], cs => cs
 | (n, k) :: r, cs => jb env r (if k == .free then (n, (env.cells.lookup n).getD 0) :: cs else cs)
theorem BK {scope : Scope} {env : Env} (h : ∀ x ∈ scope.names, x.2 = .free -> ∃ c, env.cells.lookup x.1 = some c) : closureFor scope env = pure (jb env scope.names []) := by
 have go : ∀ (l : List (Str × NameKind)) (cs : List (Str × Addr)), (∀ x ∈ l, x.2 = .free -> ∃ c, env.cells.lookup x.1 = some c) →
     (forIn l cs fun x r => match x with | (name, kind) => if (kind == NameKind.free) = true then do let a ← cellOf env name; pure (ForInStep.yield ((name, a) :: r)) else pure (ForInStep.yield r) : Sem (List (Str × Addr))) = pure (jb env l cs) := by
   intro l
   induction l with
   | nil => intro cs _; rfl
   | cons x r ih =>
     intro cs hx
     obtain ⟨n, k⟩ := x
     rw [List.forIn_cons]
     by_cases hk : k = .free
     . subst hk
       obtain ⟨c, hc⟩ := hx (n, .free) ame rfl
       have e : cellOf env n = pure c := by unfold cellOf; rw [hc]
       simp only [beq_self_eq_true, if_true, e, pure_bind]
       rw [ih _ fun y hy => hx y (ami _ hy)]
       simp only [jb, beq_self_eq_true, if_true]
       rw [hc]; rfl
     . have hb : (k == NameKind.free) = false := by simpa using hk
       simp only [hb, Bool.false_eq_true, if_false, pure_bind]
       rw [ih _ fun y hy => hx y (ami _ hy)]
       simp only [jb, hb, Bool.false_eq_true, if_false]
 unfold closureFor
 have := go scope.names [] h
 simp only [bind_pure] at this ⊢
 exact this
theorem t8 {env : Env} : ∀ {l : List (Str × NameKind)} {cs : List (Str × Addr)} {y : Str} {c : Addr}, (∀ x ∈ l, x.2 = .free -> ∃ c, env.cells.lookup x.1 = some c) -> (∀ y c, cs.lookup y = some c -> env.cells.lookup y = some c) →
   (jb env l cs).lookup y = some c -> env.cells.lookup y = some c
 | [], cs, y, c, _, h, e => h y c e
 | (n, k) :: r, cs, y, c, hx, h, e => by
   refine t8 (l := r) (fun z hz => hx z (ami _ hz)) (fun z d hz => ?_) e
   by_cases hk : k = .free
   . subst hk
     obtain ⟨c', hc⟩ := hx (n, .free) ame rfl
     simp only [beq_self_eq_true, if_true, hc, Option.getD_some, am1] at hz
     by_cases hzn : (z == n) = true
     . rw [hzn] at hz
       have : z = n := by simpa using hzn
       subst this
       cases hz
       exact hc
     . have : (z == n) = false := by simpa using hzn
       rw [this] at hz
       exact h z d hz
   . have hb : (k == NameKind.free) = false := by simpa using hk
     rw [hb] at hz
     exact h z d hz
theorem yp {env : Env} {y : Str} : ∀ {l : List (Str × NameKind)} {cs : List (Str × Addr)}, (∃ c, cs.lookup y = some c) -> ∃ c, (jb env l cs).lookup y = some c
 | [], cs, h => h
 | (n, k) :: r, cs, h => by
   refine yp (l := r) ?_
   by_cases hk : (k == NameKind.free) = true
   . rw [amo hk, am1]
     by_cases hy : (y == n) = true
     . rw [hy]; exact ⟨_, rfl⟩
     . have : (y == n) = false := by simpa using hy
       rw [this]; exact h
   . rw [amk hk]; exact h
theorem t9 {env : Env} {y : Str} : ∀ {l : List (Str × NameKind)} {cs : List (Str × Addr)}, l.lookup y = some .free -> ∃ c, (jb env l cs).lookup y = some c
 | [], _, h => by simp at h
 | (n, k) :: r, cs, h => by
   rw [am1] at h
   by_cases hy : (y == n) = true
   . rw [hy] at h
     cases h
     refine yp (l := r) ?_
     rw [amo (by rfl), am1, hy]
     exact ⟨_, rfl⟩
   . have : (y == n) = false := by simpa using hy
     rw [this] at h
     exact t9 (l := r) h
noncomputable def fh (X : Cx) (scope : Scope) (Nc : List Str) (C : Addr) (s : Shared) (H : Hp) (fp : List Addr) : Cx where
 prog := X.prog
 w := X.w
 K := X.K
 mg := X.mg
 base := X.base
 A := X.A
 N := Nc
 s₀ := s
 H₀ := H
 env := compEnvC scope (jb X.env scope.names []) C X.env
 outer := X.stack
 stack := X.stack
 ex := fp
 fn := fun _ => false
 calm := X.calm
 pn := []
 xe := fun _ _ => False
structure nJ (X : Cx) (scope : Scope) (x : Str) (Nc : List Str) (ix : List Nat) : Prop where
 kind : scope.kind = .function
 DP : ∀ y ∈ scope.names, y.2 ≠ .cell
 nd : Nc.Nodup
 names : ∀ y ∈ scope.names, y.2 = .local -> scope.names.lookup y.1 = some .local
 own : scope.names.lookup x = some .local
 frees : ∀ y ∈ scope.names, y.2 = .free -> scope.names.lookup y.1 = some .free /\ (X.env.kindOf y.1 = some .cell \/ X.env.kindOf y.1 = some .free)
 hd : Nc = x :: ix.filterMap (X.N[·]?)
 ixs : ∀ i ∈ ix, ∃ y, X.N[i]? = some y /\ scope.names.lookup y = some .free
theorem gR {env : Env} : ∀ {names : List (Str × NameKind)} {x : Str} {k : NameKind}, names.lookup x = some k -> 
   (names.map fun (n, k) => if (k == NameKind.free && env.scope.kind == .function && env.kindOf n == some .cell) then (n, NameKind.cell) else (n, k)).lookup x = some (if (k == NameKind.free && env.scope.kind == .function && env.kindOf x == some .cell) then .cell else k)
 | [], _, _, h => by simp at h
 | (n, k') :: r, x, k, h => by
   have ih := @gR env r x k
   show List.lookup x ((if (k' == NameKind.free && env.scope.kind == .function && env.kindOf n == some .cell) = true then (n, NameKind.cell) else (n, k')) :: _) = _
   cases hx : x == n with
   | true =>
     simp only [am1, hx] at h
     cases h
     have e : x = n := by simpa using hx
     subst e
     split <;> simp [am1]
   | false =>
     simp only [am1, hx] at h
     split
     . simp only [am1, hx]; exact ih h
     . simp only [am1, hx]; exact ih h
theorem kG {env : Env} : ∀ {names : List (Str × NameKind)} {x : Str}, names.lookup x = none -> 
   (names.map fun (n, k) => if (k == NameKind.free && env.scope.kind == .function && env.kindOf n == some .cell) then (n, NameKind.cell) else (n, k)).lookup x = none
 | [], _, _ => rfl
 | (n, k') :: r, x, h => by
   have ih := @kG env r x
   show List.lookup x ((if (k' == NameKind.free && env.scope.kind == .function && env.kindOf n == some .cell) = true then (n, NameKind.cell) else (n, k')) :: _) = _
   cases hx : x == n with
   | true => simp only [am1, hx] at h; cases h
   | false =>
     simp only [am1, hx] at h
     split
     . simp only [am1, hx]; exact ih h
     . simp only [am1, hx]; exact ih h
section
variable {X : Cx} {scope : Scope} {x : Str} {Nc : List Str} {ix : List Nat} {pins : List (Addr × Obj)} {σ : L2.St} {H : Hp} {s : Shared}
theorem OY {fp : List Addr} {M0 : List (Addr × Obj)} {σ' : L2.St} {H' : Hp} {s' : Shared} {h'' : Heap} (I : Inv X pins σ H s) (tZ : ∀ b ∈ fp, yI X pins H b)
   (J : Inv (fh X scope Nc s.heap.objs.size s H fp) M0 σ' H' s') (hs : Heap.SameBut s.heap.objs.size s'.heap h'') : Inv X pins σ H' { s' with heap := h'' } := by
 have un : Un (Qv X.stack) fp H H' s.heap s'.heap := J.base
 have un2 : Un (Qv X.stack) fp H H' s.heap h'' := by
   have ne : ∀ b o, s.heap.get? b = some o -> b ≠ s.heap.objs.size := fun b o e => am7 (amy e)
   refine ⟨fun b o e n hb hx => (hs.2 b (ne b o e)).trans (un.keep b o e n hb hx), fun b o e n hb hx => ?_, un.free, fun b o e hx => ?_, un.Dt, un.fL, un.Du⟩
   . obtain ⟨sl, q⟩ := un.slot b o e n hb hx
     exact ⟨sl, (hs.2 b (ne b o e)).trans q⟩
   . obtain ⟨o', q⟩ := un.there b o e hx
     exact ⟨o', (hs.2 b (ne b o e)).trans q⟩
 have nC : H' s.heap.objs.size = none := J.free
 have iP : yR X.prog X.w H' h'' := fun b u e => by
   refine (J.iP b u e).Ds (fun c v hc q => (hs.2 c ?_).trans q) (fun _ q => q) fun _ _ q => q
   rintro rfl
   rcases hc with z | z
   . subst z; rw [nC] at e; cases e
   . rw [nC] at z; cases z
 obtain ⟨hh, g, d, t, os'⟩ := s'
 obtain rfl : os' = s.os := J.os
 show L2.Inv X pins σ H' { s with heap := h'', gens := g, drawn := d, toks := t }
 exact I.call (h' := h'') (g' := g) (d' := d) (t' := t) (ch := fp) un2 iP J.bare fun b hb => ⟨(tZ b hb).2.2.2.1, (tZ b hb).2.1, (tZ b hb).2.2.2.2.1, (tZ b hb).2.2.2.2.2⟩
noncomputable def aaM (X : Cx) : List Expr -> TT
 | [] => fun _ H Q => Q true H
 | [c] => VQ X c
 | _ => fun _ _ _ => False
theorem Rr {ifs : List Expr} {Q : Bool -> Hp -> Prop} (I : Inv X pins σ H s) (h : aaM X ifs σ H Q) (hx : X.xe = fun _ _ => False) :
   wpAny (model X.prog X.w) X.A (forIn ifs true fun c r => if r = true then do let ok ← isTrue c X.env (eval c X.env); pure (ForInStep.yield ok) else pure (ForInStep.yield r)) (TP X pins σ Q) (fun _ _ => False) s := by
 match ifs, h with
 | [], h => exact wpAny_tests_nil ⟨H, I, h⟩
 | [c], h =>
   have := h pins s I
   rw [hx] at this
   exact wpAny_tests_one this
end
noncomputable def TIv (X : Cx) (CL : Str -> Addr) (b : Bx) (ifs : List Expr) (δ : List (Option T)) (p : Bool) : Prop :=
 match ifs with
 | [] => p = true
 | [c] => yN X CL b c δ p δ
 | _ => False
theorem TIv.sem {X : Cx} {CL : Str -> Addr} {b : Bx} {ifs : List Expr} {δ : List (Option T)} {p : Bool} (h : TIv X CL b ifs δ p) {H Z : Hp} {σ : L2.St} {Q : Bool -> Hp -> Prop} (S : dz X.K CL b H Z δ σ [] [])
   (k : ∀ H' Z', aV Z Z' -> aV H H' -> dz X.K CL b H' Z' δ σ [] [] -> Q p H') : aaM X ifs σ H Q := by
 match ifs, h with
 | [], h =>
   have e : p = true := h
   subst e
   exact k H Z (.refl _) (.refl _) S
 | [c], h => exact (show yN X CL b c δ p δ from h) H Z σ [] [] Q S k
theorem rV {ts : List T} : (T.lst ts).clean = T.iA ts := by rw [T.clean]
theorem zW {g : D -> T} : ∀ {ds : List D}, (∀ d ∈ ds, (g d).clean = true) -> T.iA (ds.map g) = true
 | [], _ => by rw [List.map_nil, T.iA]
 | d :: ds, h => by
   rw [am6, T.iA, h d ame, zW fun e he => h e (ami _ he)]
   rfl
section
variable {X : Cx} {CL : Str -> Addr} {b : Bx} {H Z W1 : Hp} {δ δc : List (Option T)} {σ : L2.St} {ts : List T} {vs us : List V} {ds : List D} {scope : Scope} {Nc : List Str} {ix : List Nat} {elt : Expr} {ifs : List Expr} {p : D -> Bool} {g : D -> T} {J : It}
end
section
variable {K : PySem.W.Frag} {CL : Str -> Addr} {b : Bx} {H H' Z Z' : Hp} {δ δ' : List (Option T)} {σ σ' : L2.St} {ts tl : List T} {vs us : List V} {t : T} {v : V}
theorem bz.at : ∀ {tl : List T} {us : List V} {fp : List Addr} {j : Nat} {t : T}, bz K CL H Z tl us fp -> tl[j]? = some t -> ∃ v f1 f2 f3, us[j]? = some v /\ fp = f1 ++ (f2 ++ f3) /\ d8 K CL H Z t v f2 ∧
   ∀ {H' : Hp} {t' : T} {v' : V} {g : List Addr}, (∀ a ∈ f1 ++ f3, H' a = H a) -> d8 K CL H' Z t' v' g -> bz K CL H' Z (tl.set j t') (us.set j v') (f1 ++ (g ++ f3))
 | _, _, _, _, _, .nil, e => by simp at e
 | _, _, _, 0, _, .cons (fp := fp) (gp := gp) r q, e => by
   simp at e
   subst e
   exact ⟨_, [], fp, gp, rfl, rfl, r, fun {H' t' v' g} k r' => bz.cons (fp := g) (gp := gp) r' (bz.mono (fp := gp) (.refl _) (fun a ha => k a (by simpa using ha)) q)⟩
 | _, _, _, j + 1, t, .cons (fp := fp) (gp := gp) r q, e => by
   obtain ⟨v, f1, f2, f3, h1, h2, h3, h4⟩ := bz.at (j := j) (t := t) q (by simpa using e)
   refine ⟨v, fp ++ f1, f2, f3, by simpa using h1, by rw [h2, List.append_assoc], h3, fun k r' => ?_⟩
   rw [aml]
   exact .cons (r.mono (.refl _) fun a ha => k a (by simp [ha])) (h4 (fun a ha => k a (by rw [aml]; exact amh _ ha)) r')
theorem lC {α : Type} {l : List α} {i : Nat} {x : α} (h : l[i]? = some x) : l.set i x = l := by
 apply aov
 intro j
 rw [List.getElem?_set]
 split
 . rename_i e; subst e
   split
   . exact h.symm
   . rename_i h2; rw [anB (by omega)]
 . rfl
theorem dz.write {a : Addr} {xs : List V} {f1 f2 f3 g gp gp' : List Addr} {δ2 : List (Option T)} (S : dz K CL b H Z δ σ ts vs) (nd : ((f1 ++ (f2 ++ f3)) ++ gp).Nodup) (own : ∀ c ∈ (f1 ++ (f2 ++ f3)) ++ gp, Z c = none /\ b.B c = none) (ha : a ∈ f2)
   (hH : ∃ o, H a = some o) (e' : iz K CL (upd H a (.lst xs)) Z δ2 σ (f1 ++ (g ++ f3))) (r' : bz K CL (upd H a (.lst xs)) Z tl us gp') (pm : ((f1 ++ (g ++ f3)) ++ gp').Nodup) (sub : ∀ c ∈ (f1 ++ (g ++ f3)) ++ gp', c ∈ (f1 ++ (f2 ++ f3)) ++ gp) :
   dz K CL b (upd H a (.lst xs)) Z δ2 σ tl us := by
 have oa := own a (by simp [ha])
 refine ⟨⟨_, _, e', r', pm, fun c hc => own c (sub c hc)⟩, fun c o q => ?_, S.zz, fun c o q => ?_, S.new, fun c o q i => ?_, S.tab⟩
 . rw [aH (cG q oa.2)]; exact S.bh c o q
 . rw [aH (cG q oa.1)]; exact S.zh c o q
 . by_cases hc : c = a
   . subst hc; rw [bW] at q; cases q; cases i
   . rw [aH hc] at q; exact S.tp c o q i
theorem dz.append {i : Nat} (S : dz K CL b H Z δ σ (t :: ts) (v :: vs)) (hi : δ[i]? = some (some (.lst tl))) :
   ∃ a us, σ[i]? = some (some (.ref a)) /\ H a = some (.lst us) /\ us.length = tl.length /\ dz K CL b (upd H a (.lst (us ++ [v]))) Z (δ.set i (some (.lst (tl ++ [t])))) σ ts vs := by
 obtain ⟨fp, gp, e, r, nd, k⟩ := S.rep
 obtain ⟨v0, f1, f2, f3, hv, tZ, rt, put, _⟩ := e.get hi
 subst tZ
 cases rt with
 | @lst a us _ g ha rs =>
   cases r with
   | @cons _ _ _ _ ft gr q1 q2 =>
     have ne : ∀ c ∈ (f1 ++ (g ++ f3)) ++ (ft ++ gr), c ≠ a := fun c hc e => by
       subst e
       have hp : ((f1 ++ ((c :: g) ++ f3)) ++ (ft ++ gr)).Perm (c :: ((f1 ++ (g ++ f3)) ++ (ft ++ gr))) := by
         rw [amE, ← amE]
         exact (anJ.append_right _)
       exact (anr.mp (hp.nodup_iff.mp nd)).1 hc
     refine ⟨a, us, hv, ha, rs.length.symm, ?_⟩
     have r1 : d8 K CL (upd H a (.lst (us ++ [v]))) Z (.lst (tl ++ [t])) (.ref a) (a :: (g ++ (ft ++ []))) :=
       .lst bW (bz.app (rs.mono (.refl _) fun c hc => aH (ne c (by simp [hc]))) (.cons (q1.mono (.refl _) fun c hc => aH (ne c (by simp [hc]))) .nil))
     have e2 := put (H' := upd H a (.lst (us ++ [v]))) (.refl _) (fun c hc => aH (ne c (by
       rcases amn.mp hc with h | h
       . simp [h]
       . simp [h]))) r1
     rw [lC hv] at e2
     have hp : ((f1 ++ ((a :: (g ++ (ft ++ []))) ++ f3)) ++ gr).Perm ((f1 ++ ((a :: g) ++ f3)) ++ (ft ++ gr)) := by
       simp only [amF, amE, aml]
       refine amM f1 (List.Perm.cons a (amM g ?_))
       rw [← aml, ← aml]
       exact amX.append_right gr
     exact S.write nd k (ame) ⟨_, ha⟩ e2 (q2.mono (.refl _) fun c hc => aH (ne c (by simp [hc]))) (hp.nodup_iff.mpr nd) fun c hc => hp.mem_iff.mp hc
theorem dz.setAt {i j : Nat} (S : dz K CL b H Z δ σ (t :: ts) (v :: vs)) (hi : δ[i]? = some (some (.lst tl))) (hj : j < tl.length) :
   ∃ a us, σ[i]? = some (some (.ref a)) /\ H a = some (.lst us) /\ us.length = tl.length /\ dz K CL b (upd H a (.lst (us.set j v))) Z (δ.set i (some (.lst (tl.set j t)))) σ ts vs := by
 obtain ⟨fp, gp, e, r, nd, k⟩ := S.rep
 obtain ⟨v0, f1, f2, f3, hv, tZ, rt, put, _⟩ := e.get hi
 subst tZ
 cases rt with
 | @lst a us _ g ha rs =>
   cases r with
   | @cons _ _ _ _ ft gr q1 q2 =>
     have ne : ∀ c ∈ (f1 ++ (g ++ f3)) ++ (ft ++ gr), c ≠ a := fun c hc e => by
       subst e
       have hp : ((f1 ++ ((c :: g) ++ f3)) ++ (ft ++ gr)).Perm (c :: ((f1 ++ (g ++ f3)) ++ (ft ++ gr))) := by
         rw [amE, ← amE]
         exact (anJ.append_right _)
       exact (anr.mp (hp.nodup_iff.mp nd)).1 hc
     refine ⟨a, us, hv, ha, rs.length.symm, ?_⟩
     obtain ⟨vj, g1, g2, g3, _, hg, _, set⟩ := rs.at (amq hj)
     subst hg
     have r1 : d8 K CL (upd H a (.lst (us.set j v))) Z (.lst (tl.set j t)) (.ref a) (a :: (g1 ++ (ft ++ g3))) :=
       .lst bW (set (fun c hc => aH (ne c (by
         rcases amn.mp hc with h | h
         . simp [h]
         . simp [h]))) (q1.mono (.refl _) fun c hc => aH (ne c (by simp [hc]))))
     have e2 := put (H' := upd H a (.lst (us.set j v))) (.refl _) (fun c hc => aH (ne c (by
       rcases amn.mp hc with h | h
       . simp [h]
       . simp [h]))) r1
     rw [lC hv] at e2
     have hp : ((f1 ++ ((a :: (g1 ++ (ft ++ g3))) ++ f3)) ++ gr).Perm ((f1 ++ ((a :: (g1 ++ g3)) ++ f3)) ++ (ft ++ gr)) := by
       simp only [amE, aml]
       refine amM f1 (List.Perm.cons a (amM g1 ?_))
       have := (amX (l₁ := ft) (l₂ := g3 ++ f3)).append_right gr
       simp only [aml] at this
       exact this
     have sb : ((f1 ++ ((a :: (g1 ++ g3)) ++ f3)) ++ (ft ++ gr)).Sublist ((f1 ++ ((a :: (g1 ++ (g2 ++ g3))) ++ f3)) ++ (ft ++ gr)) := by
       refine amV (amV (amS _) (amV (List.Sublist.cons₂ a ?_) (amS _))) (amS _)
       exact amV (amS _) (anz _ _)
     exact S.write nd k (ame) ⟨_, ha⟩ e2 (q2.mono (.refl _) fun c hc => aH (ne c (by simp [hc]))) (hp.nodup_iff.mpr (nd.sublist sb)) fun c hc => sb.subset (hp.mem_iff.mp hc)
theorem dz.Rt {i j : Nat} {tt : List T} (S : dz K CL b H Z δ σ (t :: ts) (v :: vs)) (hi : δ[i]? = some (some (.tup tt))) (hj : tt[j]? = some (.lst tl)) :
   ∃ a0 Zb a us, σ[i]? = some (some (.ref a0)) /\ Z a0 = some (.tup Zb) /\ Zb[j]? = some (.ref a) /\ Zb.length = tt.length /\ H a = some (.lst us) /\ us.length = tl.length /\ dz K CL b (upd H a (.lst (us ++ [v]))) Z (δ.set i (some (.tup (tt.set j (.lst (tl ++ [t])))))) σ ts vs := by
 obtain ⟨fp, gp, e, r, nd, k⟩ := S.rep
 obtain ⟨v0, f1, f2, f3, hv, tZ, rt, put, _⟩ := e.get hi
 subst tZ
 cases rt with
 | @tup a0 Zb _ _ hq r0 =>
   obtain ⟨vj, g1, g2, g3, hvj, hg, rj, set⟩ := r0.at hj
   subst hg
   cases rj with
   | @lst a us _ g ha rs =>
     cases r with
     | @cons _ _ _ _ ft gr q1 q2 =>
       have ne : ∀ c ∈ (f1 ++ ((g1 ++ (g ++ g3)) ++ f3)) ++ (ft ++ gr), c ≠ a := fun c hc e => by
         subst e
         have hp : ((f1 ++ ((g1 ++ ((c :: g) ++ g3)) ++ f3)) ++ (ft ++ gr)).Perm (c :: ((f1 ++ ((g1 ++ (g ++ g3)) ++ f3)) ++ (ft ++ gr))) := by
           have h1 : (g1 ++ ((c :: g) ++ g3)).Perm (c :: (g1 ++ (g ++ g3))) := anJ
           have h2 := (((h1.append_right f3).append_left f1).append_right (ft ++ gr))
           refine h2.trans ?_
           rw [amE]
           exact anJ.append_right _
         exact (anr.mp (hp.nodup_iff.mp nd)).1 hc
       refine ⟨a0, Zb, a, us, hv, hq, hvj, r0.length.symm, ha, rs.length.symm, ?_⟩
       have r1 : d8 K CL (upd H a (.lst (us ++ [v]))) Z (.lst (tl ++ [t])) (.ref a) (a :: (g ++ (ft ++ []))) :=
         .lst bW (bz.app (rs.mono (.refl _) fun c hc => aH (ne c (by simp [hc]))) (.cons (q1.mono (.refl _) fun c hc => aH (ne c (by simp [hc]))) .nil))
       have r2 := set (H' := upd H a (.lst (us ++ [v]))) (fun c hc => aH (ne c (by
         rcases amn.mp hc with h | h
         . simp [h]
         . simp [h]))) r1
       rw [lC hvj] at r2
       have e2 := put (H' := upd H a (.lst (us ++ [v]))) (.refl _) (fun c hc => aH (ne c (by
         rcases amn.mp hc with h | h
         . simp [h]
         . simp [h]))) (.tup hq r2)
       rw [lC hv] at e2
       have hp : ((f1 ++ ((g1 ++ ((a :: (g ++ (ft ++ []))) ++ g3)) ++ f3)) ++ gr).Perm ((f1 ++ ((g1 ++ ((a :: g) ++ g3)) ++ f3)) ++ (ft ++ gr)) := by
         simp only [amF, amE, aml]
         refine amM f1 (amM g1 (List.Perm.cons a (amM g ?_)))
         have := (amX (l₁ := ft) (l₂ := g3 ++ f3)).append_right gr
         simp only [aml] at this
         exact this
       exact S.write nd k (by simp) ⟨_, ha⟩ e2 (q2.mono (.refl _) fun c hc => aH (ne c (by simp [hc]))) (hp.nodup_iff.mpr nd) fun c hc => hp.mem_iff.mp hc
end
section
variable {X : Cx} {CL : Str -> Addr} {b : Bx} {δ δ1 δ2 : List (Option T)} {e e2 : Expr} {t : T} {tl J9 tt Zc : List T} {D : fc} {pos pp pa pb : Pos}
theorem aaO (i : Nat) {x : Str} (h0 : δ[i]? = some (some (.lst J9))) (h : dB X CL b e δ t δ1) (h1 : δ1[i]? = some (some (.lst tl))) (hl : tl.length < sizeLine) (k : D.nx (δ1.set i (some (.lst (tl ++ [t])))))
   (hi : X.N[i]? = some x := by rfl) (hv : ZH X.env.scope x := by first | exact Or.inl rfl | exact Or.inr (Or.inl rfl) | exact Or.inr (Or.inr rfl)) (hd : (x == ("__debug__" : Str)) = false := by decide) (oh : (x == ("__classdict__" : Str)) = false := by decide)
   (lA : attributeBase (.Name x pp) "append" X.env (eval (.Name x pp) X.env) = eval (.Name x pp) X.env := by rfl)
   (xh : ((backTo pb (starEach [e] X.env)).all (fun x => !x.1) && (backToKw pb (keywordEach [] X.env)).all (fun x => x.1.isSome) && decide ([e].length + ([] : List Keyword).length + (if ([] : List Keyword).isEmpty then 0 else 1) < 30)) = true := by rfl)
   (hline : (pa.endLine == pb.line) = true := by rfl) (hs : starEach [e] X.env = (false, eval e X.env) :: starEach [] X.env := by exact bV rfl) (BL : swapsWith (.Call (.Attribute (.Name x pp) "append" pa) [e] [] pb) none pos.line X.env = pure false := by rfl) :
   VX X CL b (.Expr (.Call (.Attribute (.Name x pp) "append" pa) [e] [] pb) pos) δ D := fun H Z σ ts vs E S M =>
 yM (yU (Nf an0 PySem.F.slot_list_append PySem.F.type_list_append xj (mV hi hv hd oh) (dc gQ fU hs) lA xh hline hs rfl) BL) (by
   obtain ⟨v0, e0, r0⟩ := S.look h0
   refine ⟨v0, e0, ?_, ?_⟩
   . rw [T.fS] at r0
     cases r0 with
     | lst hq _ => exact .inl ⟨rfl, _, hq⟩
   . refine h H Z σ ts vs _ S fun v H1 Z1 z1 k1 S1 => ?_
     obtain ⟨a, us, ea, ha, hu, S2⟩ := S1.append h1
     rw [e0] at ea
     cases ea
     exact ⟨a, us, v, rfl, rfl, ha, by rw [hu]; exact hl, M.nx _ σ _ Z1 z1 S2 k⟩)
theorem Ru (i : Nat) (j : Nat) {x : Str} {kj : Nat} {pc ps : Pos} (h0 : δ[i]? = some (some (.tup Zc))) (h0j : Zc[j]? = some (.lst J9)) (h : dB X CL b e δ t δ1) (h1 : δ1[i]? = some (some (.tup tt))) (h1j : tt[j]? = some (.lst tl)) (hl : tl.length < sizeLine) (k : D.nx (δ1.set i (some (.tup (tt.set j (.lst (tl ++ [t])))))))
   (hi : X.N[i]? = some x := by rfl) (hv : ZH X.env.scope x := by first | exact Or.inl rfl | exact Or.inr (Or.inl rfl) | exact Or.inr (Or.inr rfl)) (hd : (x == ("__debug__" : Str)) = false := by decide) (oh : (x == ("__classdict__" : Str)) = false := by decide)
   (lA : attributeBase (.Subscript (.Name x pp) (.Constant (.int j) kj pc) ps) "append" X.env (eval (.Subscript (.Name x pp) (.Constant (.int j) kj pc) ps) X.env) = eval (.Subscript (.Name x pp) (.Constant (.int j) kj pc) ps) X.env := by rfl)
   (xh : ((backTo pb (starEach [e] X.env)).all (fun x => !x.1) && (backToKw pb (keywordEach [] X.env)).all (fun x => x.1.isSome) && decide ([e].length + ([] : List Keyword).length + (if ([] : List Keyword).isEmpty then 0 else 1) < 30)) = true := by rfl)
   (hline : (pa.endLine == pb.line) = true := by rfl) (hs : starEach [e] X.env = (false, eval e X.env) :: starEach [] X.env := by exact bV rfl) (BL : swapsWith (.Call (.Attribute (.Subscript (.Name x pp) (.Constant (.int j) kj pc) ps) "append" pa) [e] [] pb) none pos.line X.env = pure false := by rfl) :
   VX X CL b (.Expr (.Call (.Attribute (.Subscript (.Name x pp) (.Constant (.int j) kj pc) ps) "append" pa) [e] [] pb) pos) δ D := fun H Z σ ts vs E S M =>
 yM (yU (Nf an0 PySem.F.slot_list_append PySem.F.type_list_append xj (Cw J2 (mV hi hv hd oh) QL (fun _ _ => rfl)) (dc gQ fU hs) lA xh hline hs rfl) BL) (by
   obtain ⟨fp, gp, e0, r0, nd0, k0⟩ := S.rep
   obtain ⟨v0, f1, f2, f3, hv0, tZ, rt, _, _⟩ := e0.get h0
   cases rt with
   | @tup a0 Zb _ _ hq rs =>
     obtain ⟨vj, gj, hvj, rj, _⟩ := rs.get h0j
     refine ⟨_, hv0, a0, Zb, j, vj, rfl, rfl, Dy.of (S.zh _ _ hq), cy hvj, ?_, ?_⟩
     . cases rj with
       | lst ha _ => exact .inl ⟨rfl, _, oi.of ha⟩
     . refine h H Z σ ts vs _ S fun v H1 Z1 z1 k1 S1 => ?_
       obtain ⟨b0, ws0, a, us, eb, hq1, hw, OS, ha, hu, S2⟩ := S1.Rt h1 h1j
       rw [hv0] at eb
       cases eb
       have ahB : ws0[j]? = Zb[j]? := by
         have h2 := z1 _ _ hq
         rw [hq1] at h2
         injection h2 with h2
         injection h2 with h2
         rw [h2]
       rw [ahB, hvj] at hw
       cases hw
       exact ⟨a, us, v, rfl, rfl, ha, by rw [hu]; exact hl, M.nx _ σ _ Z1 z1 S2 k⟩)
end
noncomputable def aeK : Option (Option T) -> Option T
 | some (some t) => some (.sh t.fS)
 | _ => none
noncomputable def shO : Option (Option T) -> Option T
 | some (some (T.sh d)) => some (.sh d)
 | _ => none
noncomputable def Ht (δ : List (Option T)) (ix : List Nat) : List (Option T) := ix.map fun i => aeK δ[i]?
noncomputable def Hu (δ : List (Option T)) (ix : List Nat) : List (Option T) := ix.map fun i => shO δ[i]?
section
variable {K : PySem.W.Frag} {CL : Str -> Addr} {b : Bx} {H Z : Hp} {δ : List (Option T)} {σ : L2.St} {ts : List T} {vs : List V}
theorem Hv (S : dz K CL b H Z δ σ ts vs) : ∀ (ix : List Nat) (H' : Hp), iz K CL H' H (Ht δ ix) (ix.map fun i => (σ[i]?).getD none) []
 | [], _ => .nil
 | i :: r, H' => by
   have ih := Hv S r H'
   show iz K CL H' H (aeK δ[i]? :: Ht δ r) (((σ[i]?).getD none) :: r.map fun i => (σ[i]?).getD none) []
   cases e : δ[i]? with
   | none => exact .skip ih
   | some o =>
     cases o with
     | none => exact .skip ih
     | some t =>
       obtain ⟨v, hv, rv⟩ := S.look e
       rw [hv]
       exact .cons (fp := []) (gp := []) (.sh rv) ih
theorem Hw (S : dz K CL b H Z δ σ ts vs) : ∀ (ix : List Nat) (H' : Hp), iz K CL H' Z (Hu δ ix) (ix.map fun i => (σ[i]?).getD none) []
 | [], _ => .nil
 | i :: r, H' => by
   have ih := Hw S r H'
   show iz K CL H' Z (shO δ[i]? :: Hu δ r) (((σ[i]?).getD none) :: r.map fun i => (σ[i]?).getD none) []
   cases e : δ[i]? with
   | none => exact .skip ih
   | some o =>
     cases o with
     | none => exact .skip ih
     | some t =>
       cases t with
       | sh d =>
         obtain ⟨v, hv, rv⟩ := S.Y8 e
         rw [hv]
         exact .cons (fp := []) (gp := []) (.sh rv) ih
       | tup _ => exact .skip ih
       | lst _ => exact .skip ih
       | ins _ _ => exact .skip ih
       | BH _ => exact .skip ih
       | dct _ => exact .skip ih
       | pin _ _ => exact .skip ih
end
section
variable {X : Cx} {CL : Str -> Addr} {b : Bx} {δ δ1 : List (Option T)} {scope : Scope} {x : Str} {Nc : List Str} {ix : List Nat} {elt iter : Expr} {ifs : List Expr} {px pos : Pos} {ds : List D}
structure Comes (X : Cx) (CL : Str -> Addr) (b : Bx) (δ1 : List (Option T)) (σ : L2.St) (ts : List T) (vs : List V) (Z H : Hp) (ds : List D) (J : It) (H1 : Hp) : Prop where
 ex : ∃ Z1 us, aV Z Z1 /\ aV H H1 /\ dz X.K CL b H1 Z1 δ1 σ ts vs /\ aJ X.K CL Z1 ds us /\ (∀ i H2, aV Z1 H2 -> i < ds.length -> J.go i H2) ∧
   (∀ i H2 x H', aV Z1 H2 -> i < ds.length -> J.Y0 i H2 x H' -> H' = H2 /\ us[i]? = some x) /\ (∀ H2, aV Z1 H2 -> J.stop ds.length H2)
noncomputable def V4 (X : Cx) (CL : Str -> Addr) (b : Bx) (tg e : Expr) (δ : List (Option T)) (ds : List D) (δ1 : List (Option T)) : Prop :=
 ∃ wi, PI X tg e wi /\ ∀ (H Z : Hp) (σ : L2.St) (ts : List T) (vs : List V) (R : It -> Hp -> Prop), dz X.K CL b H Z δ σ ts vs -> (∀ J H1, Comes X CL b δ1 σ ts vs Z H ds J H1 -> R J H1) -> wi σ H R
theorem dR {tg : Expr} (h : dB X CL b iter δ (.sh (.lst ds)) δ1) : V4 X CL b tg iter δ ds δ1 := by
 refine ⟨_, Vu gQ, fun H Z σ ts vs R S k => h H Z σ ts vs _ S fun v H1 Z1 z1 k1 S1 => ?_⟩
 obtain ⟨fp, gp, _, r, _, _⟩ := S1.rep
 cases r with
 | cons r _ =>
   cases r with
   | sh r =>
     cases r with
     | @lst a us _ hq rr =>
       refine ⟨a, rfl, ⟨us, S1.zh.seq hq⟩, k _ _ ⟨Z1, us, z1, k1, S1.pop, rr, fun i H2 s hi => ?_, fun i H2 y H' s hi hy => ⟨hy.1, hy.2 us (s.seq hq)⟩, fun H2 s => ⟨us, s.seq hq, by rw [rr.length]; exact amu _⟩⟩⟩
       have Nj : i < us.length := by rw [← rr.length]; exact hi
       exact ⟨us, us[i], s.seq hq, by simp [Nj]⟩
noncomputable def bO (lo : Int) (n : Nat) : List D := (List.range n).map fun (i : Nat) => D.int (lo + i)
theorem Hx {K : PySem.W.Frag} {Z : Hp} (lo : Int) (n : Nat) : aJ K CL Z (bO lo n) ((List.range n).map fun (i : Nat) => V.int (lo + i)) := by
 unfold bO
 generalize List.range n = l
 induction l with
 | nil => exact .nil
 | cons i r ih => exact .cons (.int _) ih
theorem dO {tg : Expr} {pr pc : Pos} {n : Int} (hm : X.mg "range" = none) (h : fB X CL b iter δ (.int n) δ1) (hn : -(2 ^ 62) <= n /\ n < 2 ^ 62) (hg : Gl X "range") (BG : starEach [iter] X.env = [(false, eval iter X.env)] := by rfl) (aaP : starEach [iter] X.env = (false, eval iter X.env) :: starEach [] X.env := by exact bV rfl) :
   V4 X CL b tg (.Call (.Name "range" pr) [iter] [] pc) δ (bO 0 n.toNat) δ1 := by
 refine ⟨_, Ot hg hm (dc gQ fU aaP) BG, fun H Z σ ts vs R S k => h H Z σ ts vs _ S fun v H1 Z1 z1 k1 S1 r => ⟨n, by rw [r.sc rfl], hn.1, hn.2, k _ _ ⟨Z1, _, z1, k1, S1, Hx 0 n.toNat, fun i H2 s hi => ?_, fun i H2 y H' s hi hy => ?_, fun H2 s => ?_⟩⟩⟩
 . show i < n.toNat
   have : (bO 0 n.toNat).length = n.toNat := by simp [bO]
   omega
 . have Nj : i < n.toNat := by simpa [bO] using hi
   refine ⟨hy.1, ?_⟩
   rw [amT, anp Nj, hy.2]
   rfl
 . show n.toNat <= (bO 0 n.toNat).length
   simp [bO]
theorem CB {tg : Expr} {pr pc : Pos} {e1 e2 : Expr} {δ2 : List (Option T)} {m n : Int} (hm : X.mg "range" = none) (h1 : fB X CL b e1 δ (.int m) δ1) (h2 : fB X CL b e2 δ1 (.int n) δ2) (hn : -(2 ^ 62) <= m /\ m < 2 ^ 62 /\ -(2 ^ 62) <= n /\ n < 2 ^ 62) (hg : Gl X "range")
   (BG : starEach [e1, e2] X.env = [(false, eval e1 X.env), (false, eval e2 X.env)] := by rfl) (aaP : starEach [e2] X.env = [(false, eval e2 X.env)] := by rfl) (ahC : starEach [e1, e2] X.env = (false, eval e1 X.env) :: starEach [e2] X.env := by rfl) (ahD : starEach [e2] X.env = (false, eval e2 X.env) :: starEach [] X.env := by rfl) :
   V4 X CL b tg (.Call (.Name "range" pr) [e1, e2] [] pc) δ (bO m (n - m).toNat) δ2 := by
 refine ⟨_, Ou hg hm (dc gQ (dc gQ fU ahD) ahC) BG aaP, fun H Z σ ts vs R S k => h1 H Z σ ts vs _ S fun v H1 Z1 z1 k1 S1 r => h2 H1 Z1 σ ts vs _ S1 fun v2 H2 Z2 z2 k2 S2 r2 => ⟨m, n, by rw [r.sc rfl, r2.sc rfl], hn, k _ _ ⟨Z2, _, z1.trans z2, k1.trans k2, S2, Hx m (n - m).toNat, fun i H2 s hi => ?_, fun i H2 y H' s hi hy => ?_, fun H2 s => ?_⟩⟩⟩
 . show i < (n - m).toNat
   have : (bO m (n - m).toNat).length = (n - m).toNat := by simp [bO]
   omega
 . have Nj : i < (n - m).toNat := by simpa [bO] using hi
   refine ⟨hy.1, ?_⟩
   rw [amT, anp Nj, hy.2]
   rfl
 . show (n - m).toNat <= (bO m (n - m).toNat).length
   simp [bO]
theorem aaQ {D : fc} {i9 : List Stmt} (i : Nat) {pos' : Pos} (P : Nat -> List (Option T) -> Prop) (h : V4 X CL b (.Name x pos') iter δ ds δ1) (h0 : P 0 δ1) (hl : ∀ j δ, P j δ -> i < δ.length)
   (hs : ∀ j d δ, ds[j]? = some d -> P j δ -> iI X CL b i9 (δ.set i (some (.sh d))) { nx := P (j + 1), rt := D.rt, bk := D.nx, ct := P (j + 1) }) (hd : ∀ δ, P ds.length δ -> D.nx δ)
   (hp : PassesOwn (model X.prog X.w) X.A X.env X.xe) (hc : X.calm = true) (hN : X.N.Nodup) (hi : X.N[i]? = some x) (hx : Loc X.env.scope x) (hf : X.fn x = true \/ X.env.scope.names.lookup x = some .local) (hq : ∀ x, foldedSetIterable iter X.env x = pure x := by intro _; rfl) :
   VX X CL b (.For (.Name x pos') iter i9 [] pos) δ D := fun H Z σ ts vs E S M => by
 obtain ⟨wi, pi, hw⟩ := h
 refine yM (aac hp hc pi (uO hN hi hx hf) pbS hq) (hw H Z σ ts vs _ S fun J H1 zz => ?_)
 obtain ⟨Z1, us, z1, k1, S1, rr, go, yl, st⟩ := zz
 refine ⟨fun j m σ H2 => m = ds.length - j /\ j <= ds.length /\ ∃ Z2 δ2, aV Z1 Z2 /\ dz X.K CL b H2 Z2 δ2 σ ts vs /\ P j δ2, ⟨_, rfl, amO _, Z1, δ1, .refl _, S1, h0⟩, ?_⟩
 rintro j m σ H2 ⟨rfl, hj, Z2, δ2, s, S2, p2⟩
 by_cases qg : j < ds.length
 . refine .inr ⟨go j H2 (s.trans S2.zh) qg, fun σ' H' => ∃ Z2 δ2, aV Z1 Z2 /\ dz X.K CL b H' Z2 δ2 σ' ts vs /\ P (j + 1) δ2, fun σ' H' h => ⟨ds.length - (j + 1), by omega, rfl, qg, h⟩, fun y H' hy => ?_⟩
   obtain ⟨e, hu⟩ := yl j H2 y H' (s.trans S2.zh) qg hy
   subst e
   obtain ⟨d, hd', rd⟩ := rr.VP hu
   have S3 := (S2.push (rd.mono s)).set (hl j δ2 p2)
   exact hs j d δ2 hd' p2 _ Z2 _ ts vs _ S3 ⟨fun δ' σ' H' Z' s' S' k => ⟨Z', δ', s.trans s', S', k⟩, fun t v H' Z' δ' σ' s' S' k => M.rt t v H' Z' δ' σ' (z1.trans (s.trans s')) S' k, fun δ' σ' H' Z' s' S' k => M.nx δ' σ' H' Z' (z1.trans (s.trans s')) S' k, fun δ' σ' H' Z' s' S' k => ⟨Z', δ', s.trans s', S', k⟩⟩
 . have e : j = ds.length := by omega
   subst e
   exact .inl ⟨st H2 (s.trans S2.zh), M.nx δ2 σ H2 Z2 (z1.trans s) S2 (hd δ2 p2)⟩
noncomputable def Block (X : Cx) (CL : Str -> Addr) (scope : Scope) (Nc : List Str) (ifs : List Expr) (elt : Expr) (δc : List (Option T)) (ds : List D) (p : D -> Bool) (g : D -> T) : Prop :=
 ∀ C s0 H0 f0 b' d, d ∈ ds -> TIv (fh X scope Nc C s0 H0 f0) CL b' ifs (some (.sh d) :: δc) (p d) /\ (p d = true -> dB (fh X scope Nc C s0 H0 f0) CL b' elt (some (.sh d) :: δc) (g d) (some (.sh d) :: δc))
variable {p : D -> Bool} {g : D -> T} {δc : List (Option T)}
end
section
variable {X : Cx} {CL : Str -> Addr} {b : Bx} {δ δ1 : List (Option T)} {scope : Scope} {x : Str} {Nc : List Str} {ix : List Nat} {elt iter : Expr} {ifs : List Expr} {px pos : Pos} {ds : List D} {p : D -> Bool} {g : D -> T} {δc : List (Option T)}
noncomputable def isD : L3.D -> String -> Option Bool
 | .non, n => if n = "int" \/ n = "str" \/ n = "list" \/ n = "tuple" \/ n = "bool" \/ n = "dict" then some false else none
 | .bl _, n => if n = "int" \/ n = "bool" then some true else if n = "str" \/ n = "list" \/ n = "tuple" \/ n = "dict" then some false else none
 | .int _, n => if n = "int" then some true else if n = "str" \/ n = "list" \/ n = "tuple" \/ n = "bool" \/ n = "dict" then some false else none
 | .str _, n => if n = "str" then some true else if n = "int" \/ n = "list" \/ n = "tuple" \/ n = "bool" \/ n = "dict" then some false else none
 | .lst _, n => if n = "list" then some true else if n = "int" \/ n = "str" \/ n = "tuple" \/ n = "bool" \/ n = "dict" then some false else none
 | .tup _, n => if n = "tuple" then some true else if n = "int" \/ n = "str" \/ n = "list" \/ n = "bool" \/ n = "dict" then some false else none
 | _, _ => none
noncomputable def aaR (t n : String) : Option Bool := if (Value.type t == Value.type n) = true then some true else if PySem.W.kitMeta n = true then (fastBuiltinMro t).map (·.contains (.type n)) else none
theorem nK {K : PySem.W.Frag} {t n : String} : PySem.W.kitOne K (.type t) (.type n) = aaR t n := rfl
theorem Rw : (["NoneType", "bool", "int", "str", "list", "tuple"].all fun t => ["int", "str", "list", "tuple", "bool", "dict"].all fun n => aaR t n == some (t == n || (t == "bool" && n == "int"))) = true := by decide +kernel
theorem rW {t n : String} (ht : t ∈ ["NoneType", "bool", "int", "str", "list", "tuple"]) (hn : n ∈ ["int", "str", "list", "tuple", "bool", "dict"]) : aaR t n = some (t == n || (t == "bool" && n == "int")) := by
 have := Rw
 rw [anw] at this
 have h := this t ht
 rw [anw] at h
 simpa using h n hn
noncomputable def tyD : L3.D -> Option String
 | .non => some "NoneType"
 | .bl _ => some "bool"
 | .int _ => some "int"
 | .str _ => some "str"
 | .lst _ => some "list"
 | .tup _ => some "tuple"
 | _ => none
theorem OZ : qj X (.builtin "isinstance") (fun xs H Q => ∃ y n d t, xs = [y, .ty n] /\ c9 X.K CL H d y /\ tyD d = some t /\ n ∈ ["int", "str", "list", "tuple", "bool", "dict"] /\ Q (.bl (t == n || (t == "bool" && n == "int"))) H) := by
 intro pins s σ H xs us Q I r h
 obtain ⟨y, n, d, t, rfl, rd, ht, hn, q⟩ := h
 obtain ⟨u, u2, rfl, ru, ru2⟩ := r.two
 cases (show u2 = Value.type n from ru2)
 have fin : ∀ tk, EP X pins σ Q (.bool (t == n || (t == "bool" && n == "int"))) { s with toks := tk } := fun tk => ⟨.bl _, H, I.tok tk, rfl, q⟩
 cases rd with
 | non => cases ht; cases (show u = Value.none from ru); exact an1 PySem.W.kitx_none I.G0 True.intro (nK.trans (rW (by decide) hn)) (fun z => nomatch z) fin
 | bl c => cases ht; cases (show u = Value.bool c from ru); exact an1 PySem.W.kitx_bool I.G0 True.intro (nK.trans (rW (by decide) hn)) (fun z => nomatch z) fin
 | int c => cases ht; obtain ⟨tt, e⟩ := (show ∃ t, u = Value.int c t from ru); cases e; exact an1 PySem.W.kitx_int I.G0 True.intro (nK.trans (rW (by decide) hn)) (fun z => nomatch z) fin
 | str c => cases ht; obtain ⟨tt, e⟩ := (show ∃ t, u = Value.str c t from ru); cases e; exact an1 PySem.W.kitx_str I.G0 True.intro (nK.trans (rW (by decide) hn)) (fun z => nomatch z) fin
 | @lst a ws _ hq rr =>
   cases ht
   cases (show u = Value.ref a from ru)
   obtain ⟨its, _, pl, _⟩ := I.list hq
   obtain ⟨o, n', e, c, _⟩ := pl
   exact an1 PySem.W.kitx_list I.G0 ⟨o, e, c⟩ (nK.trans (rW (by decide) hn)) (fun z => nomatch z) fin
 | @tup a ws _ hq rr =>
   cases ht
   cases (show u = Value.ref a from ru)
   obtain ⟨its, _, pl, _⟩ := I.tuple hq
   obtain ⟨o, e, c, _⟩ := pl
   exact an1 PySem.W.kitx_tuple I.G0 ⟨o, e, c⟩ (nK.trans (rW (by decide) hn)) (fun z => nomatch z) fin
 | ins _ _ => cases ht
 | any _ => cases ht
 | val _ => cases ht
 | BH _ _ => cases ht
 | dct _ _ => cases ht
theorem uV {e : Expr} {d : L3.D} {t n : String} {nm : Str} {pp pq : Pos} (hm : X.mg "isinstance" = none) (Rx : X.mg nm = none) (hg : Gl X "isinstance") (Ry : Gl X nm) (hbn : bootBuiltins nm = some (.type n)) (hnm : nm ≠ "__name__") (hnd : (nm == ("__debug__" : Str)) = false) (h : fB X CL b e δ d δ1) (ht : tyD d = some t) (hn : n ∈ ["int", "str", "list", "tuple", "bool", "dict"])
   (hs : starEach [e, .Name nm pq] X.env = (false, eval e X.env) :: starEach [.Name nm pq] X.env := by exact bV rfl) :
   dB X CL b (.Call (.Name "isinstance" pp) [e, .Name nm pq] [] pos) δ (.sh (.bl (t == n || (t == "bool" && n == "int")))) δ1 := fun H Z σ ts vs Q S k =>
 eW (nI (OZ (CL := CL)) hg hm boot_isinstance (dc gQ (dc (Vq Ry Rx hbn (v := .ty n) rfl hnm hnd) fU) hs) (he := hs)) (h H Z σ ts vs _ S fun v H1 Z1 z1 k1 S1 r =>
   ⟨v, n, d, t, rfl, r, ht, hn, k _ H1 Z1 z1 k1 (S1.push (.bl _))⟩)
end
theorem aN {n : Nat} (h : Nat.ble n 1000 = true) : n <= sizeLine := amQ (bQ (amg h))
structure Vn (X : Cx) (i : Nat) (x : Str) : Prop where
 hi : X.N[i]? = some x
 hv : ZH X.env.scope x
 hd : (x == ("__debug__" : Str)) = false
 oh : (x == ("__classdict__" : Str)) = false
structure Ln (X : Cx) (i : Nat) (x : Str) : Prop extends Vn X i x where
 loc : Loc X.env.scope x
 hf : X.fn x = true \/ X.env.scope.names.lookup x = some .local
structure Gx (X : Cx) : Prop where
 nd : X.N.Nodup
 calm : X.calm = true
 xe : X.xe = fun _ _ => False
structure Fc (X : Cx) (CL : Str -> Addr) (x : Str) (k n : Nat) {A : Type} (arg : A -> List D) (Pre : A -> Prop) (res : A -> T) : Prop where
 ex : ∃ f fd ps, cC X.prog X.w X.K X.mg X.base iE k f fd ps (jt X.K CL n arg Pre res) /\ X.mg x = some (.ref f) /\ PySem.W.keepIn X.K (.ref f) = true /\ Binds X.K fd ps []
 room : iQ k X.A
section
variable {X : Cx} {CL : Str -> Addr} {b : Bx} {δ δ1 δ2 : List (Option T)} {e e1 e2 : Expr} {es : List Expr} {d : L3.D} {t : T} {i : Nat} {x : Str} {pos pp : Pos} {D : fc} {i9 : List Stmt} {ds : List L3.D}
theorem v_ (n : Vn X i x) (h : δ[i]? = some (some (.sh d)) := by rfl) : dB X CL b (.Name x pos) δ (.sh d) δ := aaD i n.hi n.hv n.hd n.oh h
theorem vF (n : Vn X i x) (h : δ[i]? = some (some t) := by rfl) : dB X CL b (.Name x pos) δ (.sh t.fS) (δ.set i (some (.sh t.fS))) := VY i n.hi n.hv n.hd n.oh h
theorem vM (n : Vn X i x) (h : δ[i]? = some (some t) := by rfl) : dB X CL b (.Name x pos) δ t (δ.set i none) := VZ i n.hi n.hv n.hd n.oh h
theorem vB (n : Vn X i x) (h : δ[i]? = some (some t) := by rfl) : fB X CL b (.Name x pos) δ t.fS δ := aaE i n.hi n.hv n.hd n.oh h
theorem eH {k : Int} (h : fB X CL b e δ (.int k) δ1) : dB X CL b (.UnaryOp .USub e pos) δ (.sh (.int (-k))) δ1 := fun H Z σ ts vs Q S kk =>
 eW (aef aaj gQ) (h H Z σ ts vs _ S fun v H1 Z1 z1 k1 S1 r => ⟨k, r.sc rfl, kk _ H1 Z1 z1 k1 (S1.push (.int _))⟩)
theorem vL (n : Vn X i x) (h : δ[i]? = some (some (.lst (ds.map T.sh))) := by rfl) : fB X CL b (.Name x pos) δ (.lst ds) δ := by
 have := vB (CL := CL) (b := b) (pos := pos) n h
 rwa [T.fS, lW] at this
theorem c_ {k n : Nat} {A : Type} {arg : A -> List L3.D} {Pre : A -> Prop} {res : A -> T} (a : A) (F : Fc X CL x k n arg Pre res) (hg : Gl X x) (h : Vg X CL b (e :: es) δ (arg a) δ1) (hp : Pre a) (hc : (res a).clean = true) (hn : (arg a).length = n := by rfl)
   (yJ : (x == ("__debug__" : Str)) = false := by decide) (he : starEach (e :: es) X.env = (false, eval e X.env) :: starEach es X.env := by exact bV rfl) (hpl : (backTo pos (starEach es X.env)).any (·.1) = false := by rfl) :
   dB X CL b (.Call (.Name x pp) (e :: es) [] pos) δ (res a) δ1 := by
 obtain ⟨f, fd, ps, F1, m, k, b⟩ := F.ex
 exact V3 a F1 F.room m k b h hn hp hc hg yJ he hpl
theorem cF {k n : Nat} {A : Type} {arg : A -> List L3.D} {Pre : A -> Prop} {res : A -> T} (a : A) (F : Fc X CL x k n arg Pre res) (hg : Gl X x) (h : OX X CL b (e :: es) δ ((arg a).map T.sh) δ1) (hp : Pre a) (hn : (arg a).length = n := by rfl)
   (yJ : (x == ("__debug__" : Str)) = false := by decide) (he : starEach (e :: es) X.env = (false, eval e X.env) :: starEach es X.env := by exact bV rfl) (hpl : (backTo pos (starEach es X.env)).any (·.1) = false := by rfl) :
   dB X CL b (.Call (.Name x pp) (e :: es) [] pos) δ (res a) δ1 := by
 obtain ⟨f, fd, ps, F1, m, k, b⟩ := F.ex
 exact Ro a F1 F.room m k b h hn hp hg yJ he hpl
theorem aI {pos' : Pos} (g : Gx X) (n : Ln X i x) (h : dB X CL b e δ t δ1) (k : iI X CL b i9 (δ1.set i (some t)) D) (hl : i < δ1.length := by exact amg rfl) (hs : swapsWith e (some (.Name x pos')) pos.line X.env = pure false := by rfl) :
   iI X CL b (.Assign [.Name x pos'] e pos :: i9) δ D := fC (Rq i h k hl g.nd n.hi n.loc hs n.hf)
theorem bD (h : dB X CL b e δ t δ1) (k : D.rt t δ1) : iI X CL b (.Return (some e) pos :: i9) δ D := fC (aaL h k)
theorem d9 {p : Bool} {a c : List Stmt} (h : yN X CL b e δ p δ1) (h1 : p = true -> iI X CL b a δ1 { D with nx := fun δ2 => iI X CL b i9 δ2 D }) (h2 : p = false -> iI X CL b c δ1 { D with nx := fun δ2 => iI X CL b i9 δ2 D }) : iI X CL b (.If e a c pos :: i9) δ D := fC (aeF h h1 h2)
theorem iI.to {D' : fc} (h : iI X CL b i9 δ D') (h1 : ∀ δ, D'.nx δ -> D.nx δ) (h2 : ∀ t δ, D'.rt t δ -> D.rt t δ) (h3 : ∀ δ, D'.bk δ -> D.bk δ) (h4 : ∀ δ, D'.ct δ -> D.ct δ) : iI X CL b i9 δ D := fun H Z σ ts vs E S M => h H Z σ ts vs E S (M.to h1 h2 h3 h4)
theorem qq {p : Bool} {a c : List Stmt} (J : List (Option T) -> Prop) (h : yN X CL b e δ p δ1) (h1 : p = true -> iI X CL b a δ1 { D with nx := J }) (h2 : p = false -> iI X CL b c δ1 { D with nx := J }) (k : ∀ δ2, J δ2 -> iI X CL b i9 δ2 D) : iI X CL b (.If e a c pos :: i9) δ D :=
 d9 h (fun hp => iI.to (h1 hp) k (fun _ _ q => q) (fun _ q => q) (fun _ q => q)) (fun hp => iI.to (h2 hp) k (fun _ _ q => q) (fun _ q => q) (fun _ q => q))
theorem d7 {body : List Stmt} {pos' : Pos} (g : Gx X) (n : Ln X i x) (P : Nat -> List (Option T) -> Prop) (h : V4 X CL b (.Name x pos') e δ ds δ1) (h0 : P 0 δ1) (hl : ∀ j δ, P j δ -> i < δ.length)
   (hs : ∀ j d δ, ds[j]? = some d -> P j δ -> iI X CL b body (δ.set i (some (.sh d))) { nx := P (j + 1), rt := D.rt, bk := fun δ2 => iI X CL b i9 δ2 D, ct := P (j + 1) }) (hd : ∀ δ, P ds.length δ -> iI X CL b i9 δ D) (hq : ∀ x, foldedSetIterable e X.env x = pure x := by intro _; rfl) :
   iI X CL b (.For (.Name x pos') e body [] pos :: i9) δ D :=
 fC (aaQ (D := { D with nx := fun δ1 => iI X CL b i9 δ1 D }) i P h h0 hl hs hd (by rw [g.xe]; exact PassesOwn.never) g.calm g.nd n.hi n.loc n.hf hq)
theorem nL {e : Expr} {o : Option Expr} {l : Nat} {env : Env} (h : ∃ c, swapsWith e o l env = pure c) : swapsWith e o l env = pure true \/ swapsWith e o l env = pure false := by
 obtain ⟨c, h⟩ := h
 cases c
 . exact .inr h
 . exact .inl h
theorem ef {scope : Scope} {Nc : List Str} {C : Addr} {s : Shared} {H : Hp} {fp : List Addr} (h1 : Nc[i]? = some x) (h2 : scope.names.lookup x = some .local) (hd : (x == ("__debug__" : Str)) = false := by decide) (oh : (x == ("__classdict__" : Str)) = false := by decide) : Vn (fh X scope Nc C s H fp) i x :=
 ⟨h1, .inl (lookup_relabel_local h2), hd, oh⟩
theorem f9 {scope : Scope} {Nc : List Str} {C : Addr} {s : Shared} {H : Hp} {fp : List Addr} (h1 : Nc[i]? = some x) (h2 : scope.names.lookup x = some .free) (hd : (x == ("__debug__" : Str)) = false := by decide) (oh : (x == ("__classdict__" : Str)) = false := by decide) : Vn (fh X scope Nc C s H fp) i x := by
 refine ⟨h1, ?_, hd, oh⟩
 have q := gR (env := X.env) h2
 show (relabel scope X.env).names.lookup x = some .local \/ (relabel scope X.env).names.lookup x = some .cell \/ (relabel scope X.env).names.lookup x = some .free
 rw [show (relabel scope X.env).names.lookup x = _ from q]
 split
 . exact .inr (.inl rfl)
 . exact .inr (.inr rfl)
theorem jc {scope : Scope} {Nc : List Str} {C : Addr} {s : Shared} {H : Hp} {fp : List Addr} (h2 : scope.names.lookup x = some .globalImplicit) : Gl (fh X scope Nc C s H fp) x := by
 have q := gR (env := X.env) h2
 show (relabel scope X.env).names.lookup x = some .globalImplicit
 rw [show (relabel scope X.env).names.lookup x = _ from q]
 rfl
theorem kI {scope : Scope} {Nc : List Str} {C : Addr} {s : Shared} {H : Hp} {fp : List Addr} {k n : Nat} {A : Type} {arg : A -> List L3.D} {Pre : A -> Prop} {res : A -> T} (F : Fc X CL x k n arg Pre res) : Fc (fh X scope Nc C s H fp) CL x k n arg Pre res := ⟨F.ex, F.room⟩
end
section
variable {X : Cx} {CL : Str -> Addr} {b : Bx} {δ δ1 δ2 : List (Option T)} {e e1 e2 : Expr} {es : List Expr} {ds : List L3.D} {pos : Pos}
theorem DQ {i j : Bool} (h1 : fB X CL b e1 δ (.bl i) δ1) (h2 : fB X CL b e2 δ1 (.bl j) δ2) : yN X CL b (.Compare e1 [.NotEq] [e2] pos) δ (!decide (i = j)) δ2 /\ dB X CL b (.Compare e1 [.NotEq] [e2] pos) δ (.sh (.bl (!decide (i = j)))) δ2 :=
 zT QX h1 h2 rfl rfl (fun _ _ q => ⟨rfl, by rw [show decide (V.bl i = V.bl j) = decide (i = j) by simp]; exact q⟩) (tX _)
end
section
variable {X : Cx} {CL : Str -> Addr} {b : Bx} {δ δ1 : List (Option T)} {e : Expr} {d : L3.D} {t : String} {pos pp pq : Pos}
theorem CD : bootBuiltins "int" = some (.type "int") := by decide +kernel
theorem isI (hm : X.mg "isinstance" = none) (Rx : X.mg "int" = none) (hg : Gl X "isinstance") (Ry : Gl X "int") (h : fB X CL b e δ d δ1) (ht : tyD d = some t := by rfl) (hs : starEach [e, .Name "int" pq] X.env = (false, eval e X.env) :: starEach [.Name "int" pq] X.env := by exact bV rfl) :
   dB X CL b (.Call (.Name "isinstance" pp) [e, .Name "int" pq] [] pos) δ (.sh (.bl (t == "int" || (t == "bool" && "int" == "int")))) δ1 := uV hm Rx hg Ry CD (by decide) (by decide) h ht (by decide) hs
theorem Ka : bootBuiltins "bool" = some (.type "bool") := by decide +kernel
theorem isB (hm : X.mg "isinstance" = none) (Rx : X.mg "bool" = none) (hg : Gl X "isinstance") (Ry : Gl X "bool") (h : fB X CL b e δ d δ1) (ht : tyD d = some t := by rfl) (hs : starEach [e, .Name "bool" pq] X.env = (false, eval e X.env) :: starEach [.Name "bool" pq] X.env := by exact bV rfl) :
   dB X CL b (.Call (.Name "isinstance" pp) [e, .Name "bool" pq] [] pos) δ (.sh (.bl (t == "bool" || (t == "bool" && "bool" == "int")))) δ1 := uV hm Rx hg Ry Ka (by decide) (by decide) h ht (by decide) hs
theorem O1 : bootBuiltins "str" = some (.type "str") := by decide +kernel
theorem isS (hm : X.mg "isinstance" = none) (Rx : X.mg "str" = none) (hg : Gl X "isinstance") (Ry : Gl X "str") (h : fB X CL b e δ d δ1) (ht : tyD d = some t := by rfl) (hs : starEach [e, .Name "str" pq] X.env = (false, eval e X.env) :: starEach [.Name "str" pq] X.env := by exact bV rfl) :
   dB X CL b (.Call (.Name "isinstance" pp) [e, .Name "str" pq] [] pos) δ (.sh (.bl (t == "str" || (t == "bool" && "str" == "int")))) δ1 := uV hm Rx hg Ry O1 (by decide) (by decide) h ht (by decide) hs
theorem bH : bootBuiltins "list" = some (.type "list") := by decide +kernel
theorem isL (hm : X.mg "isinstance" = none) (Rx : X.mg "list" = none) (hg : Gl X "isinstance") (Ry : Gl X "list") (h : fB X CL b e δ d δ1) (ht : tyD d = some t := by rfl) (hs : starEach [e, .Name "list" pq] X.env = (false, eval e X.env) :: starEach [.Name "list" pq] X.env := by exact bV rfl) :
   dB X CL b (.Call (.Name "isinstance" pp) [e, .Name "list" pq] [] pos) δ (.sh (.bl (t == "list" || (t == "bool" && "list" == "int")))) δ1 := uV hm Rx hg Ry bH (by decide) (by decide) h ht (by decide) hs
theorem yq : bootBuiltins "tuple" = some (.type "tuple") := by decide +kernel
theorem isT (hm : X.mg "isinstance" = none) (Rx : X.mg "tuple" = none) (hg : Gl X "isinstance") (Ry : Gl X "tuple") (h : fB X CL b e δ d δ1) (ht : tyD d = some t := by rfl) (hs : starEach [e, .Name "tuple" pq] X.env = (false, eval e X.env) :: starEach [.Name "tuple" pq] X.env := by exact bV rfl) :
   dB X CL b (.Call (.Name "isinstance" pp) [e, .Name "tuple" pq] [] pos) δ (.sh (.bl (t == "tuple" || (t == "bool" && "tuple" == "int")))) δ1 := uV hm Rx hg Ry yq (by decide) (by decide) h ht (by decide) hs
end
noncomputable def jU (sc : Scope) (l : List (Str × NameKind)) : Bool := l.all fun p => sc.names.lookup p.1 == some p.2
theorem e9 {sc : Scope} {l : List (Str × NameKind)} (h : jU sc l = true) (i : Nat) {x : Str} {k : NameKind} (hi : l[i]? = some (x, k)) : sc.names.lookup x = some k := by
 unfold jU at h
 rw [anw] at h
 exact aop.mp (h _ (anv hi))
inductive Rz (X : Cx) : List Nat -> List Str -> Prop where
 | nil : Rz X [] []
 | cons {i : Nat} {y : Str} {ix : List Nat} {ys : List Str} (n : Vn X i y) (k : X.env.kindOf y = some .cell \/ X.env.kindOf y = some .free) (r : Rz X ix ys) : Rz X (i :: ix) (y :: ys)
noncomputable def RA (scope : Scope) (x : Str) (qs : List Str) : Bool :=
 scope.kind == .function && scope.names.lookup x == some .local && qs.all (fun y => scope.names.lookup y == some .free) && decide ((x :: qs).Nodup) &&
   scope.names.all fun y => y.2 != .cell && (y.2 != .local || scope.names.lookup y.1 == some .local) && (y.2 != .free || (qs.contains y.1 && scope.names.lookup y.1 == some .free))
theorem dF {X : Cx} {scope : Scope} {x : Str} {ix : List Nat} {qs : List Str} (c : Rz X ix qs) (ok : RA scope x qs = true) : nJ X scope x (x :: qs) ix := by
 unfold RA at ok
 simp only [amD, anw, amY, aop] at ok
 obtain ⟨⟨⟨⟨h1, h2⟩, h3⟩, h4⟩, h5⟩ := ok
 have kc : ∀ y ∈ qs, X.env.kindOf y = some .cell \/ X.env.kindOf y = some .free := by
   clear h3 h4 h5
   induction c with
   | nil => intro y hy; cases hy
   | cons n k r ih =>
     intro y hy
     rcases amf.mp hy with e | hy
     . subst e; exact k
     . exact ih y hy
 refine ⟨h1, fun y hy e => ?_, h4, fun y hy e => ?_, h2, fun y hy e => ?_, ?_, fun i hi => ?_⟩
 . have := (h5 y hy).1.1
   rw [e] at this
   simp at this
 . have := (h5 y hy).1.2
   rw [e] at this
   simpa using this
 . have := (h5 y hy).2
   rw [e] at this
   simp at this
   exact ⟨this.2, kc _ this.1⟩
 . congr 1
   clear h3 h4 h5 kc
   induction c with
   | nil => rfl
   | cons n k r ih => rw [anF, n.hi, ← ih]
 . clear h4 h5 kc
   induction c with
   | nil => cases hi
   | @cons i' y ix ys n k r ih =>
     rcases amf.mp hi with e | hi
     . subst e; exact ⟨y, n.hi, h3 y ame⟩
     . exact ih (fun z hz => h3 z (ami _ hz)) hi
noncomputable def D.uW : D -> Int
 | .int i => i
 | _ => 0
theorem ck {bs : List Int} {k : Int} (h0 : 0 <= k) (h1 : k < bs.length) : zP (bs.map D.int) k = some (.int (bs.getD k.toNat 0)) := by
 obtain ⟨j, rfl⟩ : ∃ j : Nat, k = j := ⟨k.toNat, by omega⟩
 refine cy ?_
 have hl : j < bs.length := by omega
 rw [amT, amq hl]
 simp [List.getD, hl]
theorem b9 : ∀ (bs : List Int), D.bZ (bs.map D.int) = true
 | [] => rfl
 | i :: r => by rw [am6, D.bZ, b9 r]; rfl
theorem fW {lo : Int} {n j : Nat} {d : D} (h : (bO lo n)[j]? = some d) : d = .int (lo + j) /\ j < n := by
 have hl : j < n := by
   have := (amH.mp h).1
   simpa [bO] using this
 refine ⟨?_, hl⟩
 unfold bO at h
 rw [amT, anp hl] at h
 exact (am3 h).symm
theorem iU {α : Type} (l : List α) : l.filter (fun _ => true) = l := by simp
theorem Hy {K : PySem.W.Frag} {CL : Str -> Addr} {Z : Hp} : ∀ (ns : List Int), aJ K CL Z (ns.map D.int) (ns.map V.int)
 | [] => .nil
 | n :: r => .cons (.int n) (Hy r)
theorem aaT {K : PySem.W.Frag} {CL : Str -> Addr} {H : Hp} {a : Addr} {arg : List Int -> List D} {pre : List Int -> Prop} {res : List Int -> T} {ns : List Int} (ha : arg ns = [.lst (ns.map D.int)]) (hp : pre ns) (hr : res ns = .sh (.bl true)) (hS : oi K H a (ns.map V.int)) (h0 : ∀ x, Nh x = true -> CL x = 0 := by intros; rfl) :
   jt K CL 1 arg pre res [.ref a] H (fun v _ => v = .bl true) fun _ _ _ => False :=
 ⟨H, ns, .refl _, fun _ _ q _ => q, by rw [ha]; exact .cons (.lst hS (Hy ns)) .nil, by rw [ha]; rfl, hp, fun x hx e => absurd (h0 x hx) e, fun v H' W' fp _ _ _ _ _ r _ _ => by
   rw [hr] at r
   cases r with
   | sh r => exact r.sc rfl⟩
section
variable {X : Cx} {CL : Str -> Addr} {pins : List (Addr × Obj)} {σ : L2.St} {H : Hp} {s : Shared}
end
section
variable {X : Cx} {CL : Str -> Addr} {b : Bx} {δ δ1 δ2 δ3 : List (Option T)} {e e1 e2 e3 : Expr} {d1 d2 : D} {ds : List D} {pos p2 pp : Pos} {n m : Nat} {i : Nat} {x : Str} {t : T} {i9 : List Stmt} {DD : fc}
noncomputable def cutD {α : Type} (xs : List α) (lo hi : Option Int) : List α := (xs.drop (HT.xg xs.length 0 lo)).take (HT.xg xs.length xs.length hi - HT.xg xs.length 0 lo)
theorem aJ.drop {K : PySem.W.Frag} {Z : Hp} : ∀ {ds : List L3.D} {vs : List V} (n : Nat), aJ K CL Z ds vs -> aJ K CL Z (ds.drop n) (vs.drop n)
 | _, _, 0, r => r
 | _, _, _ + 1, .nil => .nil
 | _, _, n + 1, .cons _ t => aJ.drop n t
theorem aJ.take {K : PySem.W.Frag} {Z : Hp} : ∀ {ds : List L3.D} {vs : List V} (n : Nat), aJ K CL Z ds vs -> aJ K CL Z (ds.take n) (vs.take n)
 | _, _, 0, _ => .nil
 | _, _, _ + 1, .nil => .nil
 | _, _, n + 1, .cons r t => .cons r (aJ.take n t)
theorem aJ.cut {K : PySem.W.Frag} {Z : Hp} {ds : List L3.D} {vs : List V} (r : aJ K CL Z ds vs) (lo hi : Option Int) : aJ K CL Z (cutD ds lo hi) (OJ vs lo hi) := by
 unfold cutD OJ
 rw [r.length]
 exact (r.drop _).take _
theorem qt : ∀ {ds : List L3.D}, D.bZ ds = true -> ∀ d ∈ ds, d.qc = true
 | [], _, _, h => by cases h
 | d :: ds, k, e, h => by
   rw [D.bZ, amD] at k
   rcases amf.mp h with h | h
   . subst h; exact k.1
   . exact qt k.2 e h
theorem lX : ∀ {ds : List L3.D}, (∀ d ∈ ds, d.qc = true) -> D.bZ ds = true
 | [], _ => rfl
 | d :: ds, h => by rw [D.bZ, h d ame, lX fun e he => h e (ami _ he)]; rfl
theorem V5 {α : Type} {xs : List α} {lo hi : Option Int} {x : α} (h : x ∈ cutD xs lo hi) : x ∈ xs := List.mem_of_mem_drop (aoe h)
noncomputable def TOv (X : Cx) (CL : Str -> Addr) (b : Bx) (e : Option Expr) (δ : List (Option T)) (k : Option Int) (δ' : List (Option T)) : Prop :=
 ∃ t, PO X e t /\ ∀ (H Z : Hp) (σ : L2.St) (ts : List T) (vs : List V) (Q : Option Int -> Hp -> Prop), dz X.K CL b H Z δ σ ts vs -> (∀ H' Z', aV Z Z' -> aV H H' -> dz X.K CL b H' Z' δ' σ ts vs -> Q k H') -> t σ H Q
theorem yZ : TOv X CL b none δ none δ := ⟨_, VF, fun H Z σ ts vs Q S k => k H Z (.refl _) (.refl _) S⟩
theorem y9 {k : Int} (h : fB X CL b e δ (.int k) δ1) : TOv X CL b (some e) δ (some k) δ1 := ⟨_, VG gQ, fun H Z σ ts vs Q S kk => h H Z σ ts vs _ S fun v H1 Z1 z1 k1 S1 r => ⟨k, r.sc rfl, kk H1 Z1 z1 k1 S1⟩⟩
theorem uX {lo hi : Option Expr} {l h : Option Int} (h1 : fB X CL b e δ (.lst ds) δ1) (hi1 : D.bZ ds = true) (h2 : TOv X CL b lo δ1 l δ2) (h3 : TOv X CL b hi δ2 h δ3) : dB X CL b (.Subscript e (.Slice lo hi none p2) pos) δ (.lst ((cutD ds l h).map T.sh)) δ3 := fun H Z σ ts vs Q S k => by
 obtain ⟨t2, po2, w2⟩ := h2
 obtain ⟨t3, po3, w3⟩ := h3
 refine eW (Q9 VH gQ po2 po3) (h1 H Z σ ts vs _ S fun v H1 Z1 z1 k1 S1 r => w2 H1 Z1 σ ts vs _ S1 fun H2 Z2 z2 k2 S2 => w3 H2 Z2 σ ts vs _ S2 fun H3 Z3 z3 k3 S3 => ?_)
 have r' := r.mono (k2.trans k3)
 cases r' with
 | lst hq rr =>
   refine ⟨_, _, rfl, hq, fun p hp => ?_⟩
   have rc := aJ.qc S3.tp (lX fun d hd => qt hi1 d (V5 hd)) (rr.cut l h)
   obtain ⟨c, S4⟩ := (dz.uU rc S3).qo (g0 := []) (by simp [rc.length]) hp
   exact k _ _ _ (z1.trans (z2.trans z3)) (k1.trans (k2.trans (k3.trans c))) S4
theorem CF (hm : X.mg "tuple" = none) (h : fB X CL b e δ (.lst ds) δ1) (hi : D.bZ ds = true) (hg : Gl X "tuple") (hs : starEach [e] X.env = (false, eval e X.env) :: starEach [] X.env := by exact bV rfl) : dB X CL b (.Call (.Name "tuple" pp) [e] [] pos) δ (.sh (.tup ds)) δ1 := fun H Z σ ts vs Q S k =>
 eW (rS BJ hg hm yq (dc gQ fU hs) (he := hs)) (h H Z σ ts vs _ S fun v H1 Z1 z1 k1 S1 r => by
   cases r with
   | lst hq rr =>
     refine ⟨_, _, rfl, .inl ⟨hq, fun l hl => ?_⟩⟩
     obtain ⟨a, c, S2⟩ := (dz.uU (aJ.qc S1.tp hi rr) S1).Rl (by simp [rr.length]) hl
     obtain ⟨Z3, z3, S3⟩ := S2.Ri
     rw [T.fS, lW] at S3
     exact k _ _ Z3 (z1.trans (a.trans z3)) (k1.trans c) S3)
theorem fD {tl J9 : List T} {pa pb : Pos} (n : Vn X i x) (h0 : δ[i]? = some (some (.lst J9))) (h : dB X CL b e δ t δ1) (h1 : δ1[i]? = some (some (.lst tl))) (hl : tl.length <= 1000000) (k : iI X CL b i9 (δ1.set i (some (.lst (tl ++ [t])))) DD)
   (lA : attributeBase (.Name x pp) "append" X.env (eval (.Name x pp) X.env) = eval (.Name x pp) X.env := by rfl)
   (xh : ((backTo pb (starEach [e] X.env)).all (fun x => !x.1) && (backToKw pb (keywordEach [] X.env)).all (fun x => x.1.isSome) && decide ([e].length + ([] : List Keyword).length + (if ([] : List Keyword).isEmpty then 0 else 1) < 30)) = true := by rfl)
   (hline : (pa.endLine == pb.line) = true := by rfl) (hs : starEach [e] X.env = (false, eval e X.env) :: starEach [] X.env := by exact bV rfl) (BL : swapsWith (.Call (.Attribute (.Name x pp) "append" pa) [e] [] pb) none pos.line X.env = pure false := by rfl) :
   iI X CL b (.Expr (.Call (.Attribute (.Name x pp) "append" pa) [e] [] pb) pos :: i9) δ DD :=
 fC (aaO i h0 h h1 (ant hl (by rw [anq]; decide)) k n.hi n.hv n.hd n.oh lA xh hline hs BL)
theorem Nk {tl J9 tt Zc : List T} {pa pb pc ps : Pos} {kj : Nat} (j : Nat) (n : Vn X i x) (h0 : δ[i]? = some (some (.tup Zc))) (h0j : Zc[j]? = some (.lst J9)) (h : dB X CL b e δ t δ1) (h1 : δ1[i]? = some (some (.tup tt))) (h1j : tt[j]? = some (.lst tl)) (hl : tl.length <= 1000000) (k : iI X CL b i9 (δ1.set i (some (.tup (tt.set j (.lst (tl ++ [t])))))) DD)
   (lA : attributeBase (.Subscript (.Name x pp) (.Constant (.int j) kj pc) ps) "append" X.env (eval (.Subscript (.Name x pp) (.Constant (.int j) kj pc) ps) X.env) = eval (.Subscript (.Name x pp) (.Constant (.int j) kj pc) ps) X.env := by rfl)
   (xh : ((backTo pb (starEach [e] X.env)).all (fun x => !x.1) && (backToKw pb (keywordEach [] X.env)).all (fun x => x.1.isSome) && decide ([e].length + ([] : List Keyword).length + (if ([] : List Keyword).isEmpty then 0 else 1) < 30)) = true := by rfl)
   (hline : (pa.endLine == pb.line) = true := by rfl) (hs : starEach [e] X.env = (false, eval e X.env) :: starEach [] X.env := by exact bV rfl) (BL : swapsWith (.Call (.Attribute (.Subscript (.Name x pp) (.Constant (.int j) kj pc) ps) "append" pa) [e] [] pb) none pos.line X.env = pure false := by rfl) :
   iI X CL b (.Expr (.Call (.Attribute (.Subscript (.Name x pp) (.Constant (.int j) kj pc) ps) "append" pa) [e] [] pb) pos :: i9) δ DD :=
 fC (Ru i j h0 h0j h h1 h1j (ant hl (by rw [anq]; decide)) k n.hi n.hv n.hd n.oh lA xh hline hs BL)
theorem RB {tl : List T} {k : Int} {j : Nat} {ps : Pos} (n : Vn X i x) (h : dB X CL b e δ t δ1) (h2 : fB X CL b e2 δ1 (.int k) δ1) (h1 : δ1[i]? = some (some (.lst tl))) (hk : OL tl.length k = some j) (kk : iI X CL b i9 (δ1.set i (some (.lst (tl.set j t)))) DD)
   (ha : ∀ v, assign (.Subscript (.Name x pp) e2 ps) X.env v = (do
     let ov ← holding [v] (eval (.Name x pp) X.env)
     let iv ← holding [v, ov] (eval e2 X.env)
     standAt ps
     holding [v, ov, iv] (setItem ov iv v)
     release [v, ov, iv] []) := by intro _; rfl)
   (hs : swapsWithSole [.Subscript (.Name x pp) e2 ps] e pos.line X.env = pure false := by rfl) (hw : swappedStores [.Subscript (.Name x pp) e2 ps] e X.env = pure none := by rfl) (ha1 : (assignEach [.Subscript (.Name x pp) e2 ps] X.env).map (·.2) = [assign (.Subscript (.Name x pp) e2 ps) X.env] := by rfl) :
   iI X CL b (.Assign [.Subscript (.Name x pp) e2 ps] e pos :: i9) δ DD := by
 refine fC fun H Z σ ts vs E S M => yM (Z7 gQ (Z6 (mV n.hi n.hv n.hd n.oh) gQ set_list ha) hs hw ha1) (h H Z σ ts vs _ S fun v H1 Z1 z1 k1 S1 => ?_)
 have hj : j < tl.length := (DE hk).2.1
 obtain ⟨v0, e0, _⟩ := S1.look h1
 refine ⟨v0, e0, ?_⟩
 refine h2 H1 Z1 σ _ _ _ S1 fun v2 H2 Z2 z2 k2 S2 r2 => ?_
 obtain ⟨a, us, ea, Rj, hu, S3⟩ := S2.setAt h1 hj
 rw [e0] at ea
 cases ea
 exact ⟨a, us, k, j, rfl, r2.sc rfl, Rj, by rw [hu]; exact hk, M.nx _ σ _ Z2 (z1.trans z2) S3 kk⟩
theorem dW {n : Nat} (hn : ds.length = n) (hm : X.mg "len" = none) (h : fB X CL b e δ (.lst ds) δ1) (hg : Gl X "len") (hs : starEach [e] X.env = (false, eval e X.env) :: starEach [] X.env := by exact bV rfl) : dB X CL b (.Call (.Name "len" pp) [e] [] pos) δ (.sh (.int n)) δ1 := by
 subst hn
 exact yX hm h hg hs
theorem cQ (h : dB X CL b e δ (.lst (ds.map T.sh)) δ1) : fB X CL b e δ (.lst ds) δ1 := by
 have := Rk h
 rwa [T.fS, lW] at this
end
theorem c5 {α : Type} {f : α -> D} {l : List α} {k : Int} (z : α) (h0 : 0 <= k) (h1 : k < l.length) : zP (l.map f) k = some (f (l.getD k.toNat z)) := by
 obtain ⟨j, rfl⟩ : ∃ j : Nat, k = j := ⟨k.toNat, by omega⟩
 refine cy ?_
 have hl : j < l.length := by omega
 rw [amT, amq hl]
 simp [List.getD, hl]
theorem RC {α β : Type} {f : α -> β} {l : List α} {lo hi : Option Int} : cutD (l.map f) lo hi = (cutD l lo hi).map f := by
 unfold cutD
 rw [amc, aox, List.map_drop]
theorem jV {α : Type} {f : α -> D} (h : ∀ a, (f a).qc = true) : ∀ (l : List α), D.bZ (l.map f) = true
 | [] => rfl
 | a :: l => by rw [am6, D.bZ, h a, jV h l]; rfl
section
variable {X : Cx} {CL : Str -> Addr} {b : Bx} {δ δ1 δ2 δ3 : List (Option T)} {e e1 e2 e3 : Expr} {es : List Expr} {d d1 d2 : D} {ds : List D} {pos p2 pp : Pos} {n m : Nat} {i : Nat} {x : Str} {t : T} {i9 : List Stmt} {DD : fc}
theorem V6 {k : Int} {u : Tok} (hm : X.mg x = some (.int k u)) (hg : Gl X x) (hd : (x == ("__debug__" : Str)) = false := by decide) : dB X CL b (.Name x pos) δ (.sh (.int k)) δ := fun H Z σ ts vs Q S kk =>
 eW (Vp (v := .int k) hg hm ⟨u, rfl⟩ hd) (kk _ H Z (.refl _) (.refl _) (S.push (.int k)))
theorem iF {k : Int} (hm : ∃ u, X.mg x = some (.int k u)) (hg : Gl X x) (hd : (x == ("__debug__" : Str)) = false := by decide) : dB X CL b (.Name x pos) δ (.sh (.int k)) δ := by
 obtain ⟨u, hm⟩ := hm
 exact V6 hm hg hd
theorem vE (n : Vn X i x) (h : δ[i]? = some (some t)) (e : t.fS = d) : fB X CL b (.Name x pos) δ d δ := e ▸ vB n h
theorem V7 {p : Bool} (hm : X.mg "int" = none) (h : fB X CL b e δ (.bl p) δ1) (hg : Gl X "int") (hs : starEach [e] X.env = (false, eval e X.env) :: starEach [] X.env := by exact bV rfl) : dB X CL b (.Call (.Name "int" pp) [e] [] pos) δ (.sh (.int (if p then 1 else 0))) δ1 := fun H Z σ ts vs Q S k =>
 eW (rS Oz hg hm CD (dc gQ fU hs) (he := hs)) (h H Z σ ts vs _ S fun v H1 Z1 z1 k1 S1 r => .inr ⟨p, by rw [r.sc rfl], k _ H1 Z1 z1 k1 (S1.push (.int _))⟩)
end
theorem RD {α : Type} {l : List α} {k : Int} (z : α) (h0 : 0 <= k) (h1 : k < l.length) : zP l k = some (l.getD k.toNat z) := by
 obtain ⟨j, rfl⟩ : ∃ j : Nat, k = j := ⟨k.toNat, by omega⟩
 refine cy ?_
 have hl : j < l.length := by omega
 rw [amq hl]
 simp [List.getD, hl]
theorem Kc {n : Nat} {k : Int} (h0 : 0 <= k) (h1 : k < n) : OL n k = some k.toNat := by
 unfold OL
 rw [amo h0, amo h1]
theorem str_len (x y : Str) : (x ++ y).length = x.length + y.length := by
 show (x.cps ++ y.cps).size = _
 rw [Array.size_append]; rfl
theorem Hz (l : List Int) : T.iA ((l.map D.int).map T.sh) = true := by
 rw [amI]
 induction l with
 | nil => rfl
 | cons i r ih => rw [am6, T.iA, ih]; rfl
noncomputable def Itv (K : PySem.W.Frag) (a : Addr) (n : Nat) : It :=
 ⟨fun i H => i < n /\ ∃ xs, oi K H a xs /\ xs.length = n, fun i H x H' => H' = H /\ ∀ xs, oi K H a xs -> xs[n - 1 - i]? = some x, fun i _ => i = n⟩
theorem RG {P : Program} {w : World} {K : PySem.W.Frag} {tg : Expr} (a it : Addr) (n : Nat) : Turn P w K tg (Itv K a n) [it] it (fun i h => PySem.Heap.IsRevIter h it a ((n : Int) - 1 - (i : Int))) where
 mem := by simp
 obj := fun i h st b hb => by
   have e : b = it := by simpa using hb
   subst e
   obtain ⟨o, e, c, d⟩ := st
   exact ⟨o, e, fun v z => by rw [d] at z; cases z⟩
 keep := fun i h h' st k => st.at fun o e => k it (by simp) o e
 item := by
   intro X hP hw hK hc i pins s σ H E I hf st hg
   subst hP hw hK
   obtain ⟨hi, xs, hq, hl⟩ := hg
   obtain ⟨its, rv, p, hz⟩ := I.list hq
   have qg : n - 1 - i < xs.length := by omega
   obtain ⟨u, hu, ru⟩ := rv.get (amq qg)
   obtain ⟨f0, f1, f2, f3, f4, f5⟩ := hf it (by simp)
   have e1 : (n : Int) - 1 - (i : Int) = ((n - 1 - i : Nat) : Int) := by omega
   have st1 : PySem.Heap.IsRevIter s.heap it a ((n - 1 - i : Nat) : Int) := e1 ▸ st
   refine PySem.wpAny_pyNext_rev_item st1 p.isList (x := u) (by simpa using hu) fun h' Y3 sb => ?_
   have I1 : L2.Inv X pins σ H { s with heap := h' } := I.turned (t' := s.toks) (fun b o hb e => (sb.2 b hb).trans e) f0 f1 f3 f4 f5
   have e2 : ((n - 1 - i : Nat) : Int) - 1 = (n : Int) - 1 - ((i + 1 : Nat) : Int) := by omega
   have st2 : PySem.Heap.IsRevIter h' it a ((n : Int) - 1 - ((i + 1 : Nat) : Int)) := e2 ▸ Y3
   obtain ⟨o, e, c, d⟩ := id Y3
   exact ⟨u, rfl, QT (s := { s with heap := h' }) e c d (by decide) ⟨_, H, I1, ru, ⟨rfl, fun ys hy => by rw [I.zL hy hq]; exact amq qg⟩, st2, fun b hb => (hf b hb).1⟩⟩
 done := by
   intro X hP hw hK hc i pins s σ H E I hf st hg
   subst hP hw hK
   obtain ⟨f0, f1, f2, f3, f4, f5⟩ := hf it (by simp)
   have e1 : (n : Int) - 1 - (i : Int) = -1 := by have : i = n := hg; omega
   have st1 : PySem.Heap.IsRevIter s.heap it a (-1) := e1 ▸ st
   exact PySem.wpAny_pyNext_rev_end (I.ok.hd hc) st1 fun h' eb => ⟨rfl, I.turned (t' := s.toks) (fun b o hb e => eb b o hb e) f0 f1 f3 f4 f5⟩
 self := fun _ _ _ _ _ st h => PySem.wpAny_pyIter_revIter st h
section
variable {X : Cx} {tg : Expr}
noncomputable def ahG (K : PySem.W.Frag) (ta : TA) : TI := fun σ H R => ta σ H fun vs H1 => ∃ a xs, vs = [.ref a] /\ oi K H1 a xs /\ R (Itv K a xs.length) H1
theorem aaU {a : Expr} {ta : TA} {p pos : Pos} (hg : Gl X "reversed") (hm : X.mg "reversed" = none) (ha : PA X [a] ta) (hs : starEach [a] X.env = (false, eval a X.env) :: starEach [] X.env) : PI X tg (.Call (.Name "reversed" p) [a] [] pos) (ahG X.K ta) := by
 intro pins s σ H R I h
 refine Call_ (mW I hg hm boot_reversed (anj (gH (ha pos pins s σ H _ I h) fun us s1 zz => ?_) hs rfl))
 obtain ⟨vs, H1, I1, r1, q1⟩ := zz
 obtain ⟨l, xs, e, hq, q⟩ := q1
 subst e
 cases r1 with
 | cons r rr =>
   cases rr
   cases r
   obtain ⟨its, rv, p, hz⟩ := I1.list hq
   refine PySem.call_reversed_list p.isList ?_
   have hl := rv.length
   have e0 : ((its.toArray.size : Int) - 1) = (xs.length : Int) - 1 - ((0 : Nat) : Int) := by rw [amC, ← hl]; omega
   have I2 : L2.Inv X pins σ H1 { s1 with heap := s1.heap.push (PySem.revObj l ((its.toArray.size : Int) - 1)) } := I1.kept (t' := s1.toks) fun b o e => amw _ e
   have st : PySem.Heap.IsRevIter (s1.heap.push (PySem.revObj l ((its.toArray.size : Int) - 1))) s1.heap.objs.size l ((xs.length : Int) - 1 - ((0 : Nat) : Int)) := e0 ▸ ⟨_, anb _ rfl, rfl, rfl⟩
   refine PySem.wpAny_pyIter_revIter st ?_
   refine ⟨s1.heap.objs.size, [s1.heap.objs.size], _, _, H1, rfl, I2, RG l _ xs.length, st, fun b hb => ?_, q⟩
   have e : b = s1.heap.objs.size := by simpa using hb
   subst e
   exact I1.JS (amu _) (I1.iP.fresh (amu _))
end
section
variable {X : Cx} {CL : Str -> Addr} {b : Bx} {δ δ1 : List (Option T)} {e : Expr} {ds : List D} {tg : Expr} {pr pc : Pos}
theorem aaV (hm : X.mg "reversed" = none) (h : dB X CL b e δ (.sh (.lst ds)) δ1) (hg : Gl X "reversed") (hs : starEach [e] X.env = (false, eval e X.env) :: starEach [] X.env := by exact bV rfl) : V4 X CL b tg (.Call (.Name "reversed" pr) [e] [] pc) δ ds.reverse δ1 := by
 refine ⟨_, aaU hg hm (dc gQ fU hs) hs, fun H Z σ ts vs R S k => h H Z σ ts vs _ S fun v H1 Z1 z1 k1 S1 => ?_⟩
 obtain ⟨fp, gp, _, r, _, _⟩ := S1.rep
 cases r with
 | cons r _ =>
   cases r with
   | sh r =>
     cases r with
     | @lst a us _ hq rr =>
       have hlen := rr.length
       have ahH : aJ X.K CL Z1 ds.reverse us.reverse := by
         have go : ∀ {ds : List L3.D} {us : List V} {es : List L3.D} {ws : List V}, aJ X.K CL Z1 ds us -> aJ X.K CL Z1 es ws -> aJ X.K CL Z1 (ds.reverse ++ es) (us.reverse ++ ws) := by
           intro ds us es ws r
           induction ds generalizing us es ws with
           | nil => cases r; exact fun q => q
           | cons d ds ih =>
             cases r with
             | cons r1 r2 =>
               intro q
               rw [anc, anc, aml, aml]
               exact ih r2 (.cons r1 q)
         simpa using go rr .nil
       refine ⟨a, us, rfl, S1.zh.seq hq, k _ _ ⟨Z1, us.reverse, z1, k1, S1.pop, ahH, fun i H2 s hi => ?_, fun i H2 y H' s hi hy => ?_, fun H2 s => ?_⟩⟩
       . rw [anx] at hi
         exact ⟨by omega, us, s.seq hq, rfl⟩
       . rw [anx] at hi
         refine ⟨hy.1, ?_⟩
         rw [List.getElem?_reverse (by omega)]
         exact hy.2 us (s.seq hq)
       . show ds.reverse.length = us.length
         rw [anx]; exact hlen
end
section
variable {K : PySem.W.Frag} {CL : Str -> Addr} {b : Bx} {H Z : Hp} {δ : List (Option T)} {σ : L2.St} {ts tt : List T} {vs : List V} {t : T}
end
section
variable {X : Cx} {CL : Str -> Addr} {b : Bx} {δ : List (Option T)} {tt : List T} {t : T} {i : Nat} {x : Str} {pp pc ps : Pos} {kj : Nat}
end
section
variable {X : Cx} {CL : Str -> Addr} {b : Bx} {δ δ1 : List (Option T)} {e : Expr} {ds : List D} {t : T} {i : Nat} {x : Str} {pos pp p2 : Pos} {kj : Nat}
theorem vFL (n : Vn X i x) (h : δ[i]? = some (some (.lst (ds.map T.sh)))) : dB X CL b (.Name x pos) δ (.sh (.lst ds)) (δ.set i (some (.sh (.lst ds)))) := by
 have := vF (CL := CL) (b := b) (pos := pos) n h
 rwa [T.fS, lW] at this
end
section
variable {K : PySem.W.Frag} {CL : Str -> Addr} {b : Bx} {H H' Z Z' : Hp} {δ δ' : List (Option T)} {σ σ' : L2.St} {ts tl : List T} {vs us : List V} {t : T} {v : V}
theorem tK.get : ∀ {fs : List (Str × D)} {gs : List (Str × V)} {f : Str} {d : D}, tK K CL Z fs gs -> fs.lookup f = some d -> ∃ v, gs.lookup f = some v /\ c9 K CL Z d v
 | _, _, _, _, .nil, e => by simp at e
 | _, _, f, d, .cons (x := x) r t, e => by
   rw [am1] at e ⊢
   cases h : f == x with
   | true => rw [h] at e; cases e; exact ⟨_, rfl, r⟩
   | false => rw [h] at e; exact tK.get t e
noncomputable def BO (f : Str) (t : T) : List (Str × T) -> List (Str × T)
 | [] => [(f, t)]
 | (g, x) :: r => if g = f then (g, t) :: r else (g, x) :: BO f t r
theorem fz.length {fs : List (Str × T)} {gs : List (Str × V)} {fp : List Addr} (h : fz K CL H Z fs gs fp) : fs.length = gs.length :=
 fz.ind (P := fun d v _ => d.length = v.length) rfl (fun _ _ i => congrArg (· + 1) i) h
theorem fz.put {f : Str} {g : List Addr} (q : d8 K CL H Z t v g) : ∀ {fs : List (Str × T)} {gs : List (Str × V)} {fp : List Addr}, fz K CL H Z fs gs fp →
   ∃ Nm f', fz K CL H Z (BO f t fs) (lz f v gs) Nm /\ f'.Sublist fp /\ Nm.Perm (g ++ f')
 | _, _, _, .nil => ⟨g ++ [], [], .cons q .nil, amS _, aor _⟩
 | _, _, _, .cons (x := x) (fp := fp) (gp := gp) r rs => by
   rw [BO, lz]
   by_cases h : x = f
   . rw [amo h, amo h]
     exact ⟨g ++ gp, gp, .cons q rs, anz _ _, aor _⟩
   . rw [amk h, amk h]
     obtain ⟨p, p', h1, h2, h3⟩ := fz.put (f := f) q rs
     refine ⟨fp ++ p, fp ++ p', .cons r h1, amV (amS _) h2, (amM fp h3).trans ?_⟩
     rw [← aml, ← aml]
     exact amX.append_right p'
theorem dz.aaW {a : Addr} {o : HO} {Nm gp fp gp' : List Addr} {δ2 : List (Option T)} (hm : qf o = false) (S : dz K CL b H Z δ σ ts vs) (own : ∀ c ∈ fp ++ gp, Z c = none /\ b.B c = none) (ha : a ∈ fp ++ gp)
   (e' : iz K CL (upd H a o) Z δ2 σ Nm) (r' : bz K CL (upd H a o) Z tl us gp') (pm : (Nm ++ gp').Nodup) (sub : ∀ c ∈ Nm ++ gp', c ∈ fp ++ gp) :
   dz K CL b (upd H a o) Z δ2 σ tl us := by
 have oa := own a ha
 refine ⟨⟨_, _, e', r', pm, fun c hc => own c (sub c hc)⟩, fun c u q => ?_, S.zz, fun c u q => ?_, S.new, fun c u q i => ?_, S.tab⟩
 . rw [aH (cG q oa.2)]; exact S.bh c u q
 . rw [aH (cG q oa.1)]; exact S.zh c u q
 . by_cases hc : c = a
   . subst hc; rw [bW] at q; cases q; rw [hm] at i; cases i
   . rw [aH hc] at q; exact S.tp c u q i
theorem dz.setField {i : Nat} {x : Addr} {c f : Str} {fs : List (Str × T)} (S : dz K CL b H Z δ σ (t :: ts) (v :: vs)) (hi : δ[i]? = some (some (.pin x (.ins c fs)))) :
   ∃ dx gs, σ[i]? = some (some (.ref x)) /\ H x = some (.ins (CL c) dx gs) /\ gs.length = fs.length /\ dz K CL b (upd H x (.ins (CL c) dx (lz f v gs))) Z (δ.set i (some (.pin x (.ins c (BO f t fs))))) σ ts vs := by
 obtain ⟨fp, gp, e, r, nd, k⟩ := S.rep
 obtain ⟨v0, f1, f2, f3, hv, tZ, rt, put, _⟩ := e.get hi
 subst tZ
 cases rt with
 | pin rt =>
 cases rt with
 | @ins a dx _ gs _ g ha rs =>
   cases r with
   | @cons _ _ _ _ ft gr q1 q2 =>
     have ne : ∀ c ∈ (f1 ++ (g ++ f3)) ++ (ft ++ gr), c ≠ x := fun c hc e => by
       subst e
       have hp : ((f1 ++ ((c :: g) ++ f3)) ++ (ft ++ gr)).Perm (c :: ((f1 ++ (g ++ f3)) ++ (ft ++ gr))) := by
         rw [amE, ← amE]
         exact (anJ.append_right _)
       exact (anr.mp (hp.nodup_iff.mp nd)).1 hc
     refine ⟨dx, gs, hv, ha, rs.length.symm, ?_⟩
     have q1' := q1.mono (H' := upd H x (.ins (CL c) dx (lz f v gs))) (.refl _) fun c hc => aH (ne c (by simp [hc]))
     have rs' := rs.mono (H' := upd H x (.ins (CL c) dx (lz f v gs))) (.refl _) fun c hc => aH (ne c (by simp [hc]))
     obtain ⟨p, p', h1, h2, h3⟩ := fz.put (f := f) q1' rs'
     have r1 : d8 K CL (upd H x (.ins (CL c) dx (lz f v gs))) Z (.pin x (.ins c (BO f t fs))) (.ref x) (x :: p) := .pin (.ins bW h1)
     have e2 := put (H' := upd H x (.ins (CL c) dx (lz f v gs))) (.refl _) (fun c hc => aH (ne c (by
       rcases amn.mp hc with h | h
       . simp [h]
       . simp [h]))) r1
     rw [lC hv] at e2
     have hp : ((f1 ++ ((x :: p) ++ f3)) ++ gr).Perm ((f1 ++ ((x :: p') ++ f3)) ++ (ft ++ gr)) := by
       have h4 : ((f1 ++ ((x :: p) ++ f3)) ++ gr).Perm ((f1 ++ ((x :: (ft ++ p')) ++ f3)) ++ gr) := ((h3.cons x).append_right f3).append_left f1 |>.append_right gr
       refine h4.trans ?_
       simp only [amE, aml]
       refine amM f1 (List.Perm.cons x ?_)
       have := (amX (l₁ := ft) (l₂ := p' ++ f3)).append_right gr
       simp only [aml] at this
       exact this
     have sb : ((f1 ++ ((x :: p') ++ f3)) ++ (ft ++ gr)).Sublist ((f1 ++ ((x :: g) ++ f3)) ++ (ft ++ gr)) :=
       amV (amV (amS _) (amV (List.Sublist.cons₂ x h2) (amS _))) (amS _)
     exact S.aaW rfl k (by simp) e2 (q2.mono (.refl _) fun c hc => aH (ne c (by simp [hc]))) (hp.nodup_iff.mpr (nd.sublist sb)) fun c hc => sb.subset (hp.mem_iff.mp hc)
end
section
variable {X : Cx} {CL : Str -> Addr} {b : Bx} {δ δ1 δ2 : List (Option T)} {e : Expr} {es : List Expr} {t : T} {d : D} {c f x : Str} {fs : List (Str × D)} {pos pp : Pos} {DD : fc} {i : Nat}
theorem gb (hc : tY X.K (CL c)) (n : bE X.K (CL c) f) (h : fB X CL b e δ (.ins c fs) δ1) (hl : fs.lookup f = some d) (hb : attributeBase e f X.env (eval e X.env) = eval e X.env := by rfl) :
   fB X CL b (.Attribute e f pos) δ d δ1 := fun H Z σ ts vs Q S k =>
 eW (QZ gQ hb) (h H Z σ ts vs _ S fun v H' Z' z s S' r => by
   cases r with
   | @ins a dx _ gs _ ha rf =>
     obtain ⟨w, hw, rw'⟩ := rf.get hl
     exact ⟨a, CL c, dx, gs, w, rfl, ha, hc, n, hw, k w H' Z' z s S' rw'⟩)
theorem DR (hc : tY X.K (CL c)) (n : bE X.K (CL c) f) (h : dB X CL b e δ (.sh (.ins c fs)) δ1) (hl : fs.lookup f = some d) (hb : attributeBase e f X.env (eval e X.env) = eval e X.env := by rfl) :
   dB X CL b (.Attribute e f pos) δ (.sh d) δ1 := fun H Z σ ts vs Q S k =>
 eW (QZ gQ hb) (h H Z σ ts vs _ S fun v H' Z' z s S' => by
   obtain ⟨fp, gp, _, r, _, _⟩ := S'.rep
   cases r with
   | cons r _ =>
     cases r with
     | sh r =>
       cases r with
       | @ins a dx _ gs _ ha rf =>
         obtain ⟨w, hw, rw'⟩ := rf.get hl
         exact ⟨a, CL c, dx, gs, w, rfl, S'.zh _ _ ha, hc, n, hw, k w H' Z' z s (S'.pop.push rw')⟩)
theorem uY {i9 : List Stmt} {a : Addr} {gs : List (Str × T)} {pa pb pc : Pos} (hc : tY X.K (CL c)) (n : bE X.K (CL c) f) (nm : Vn X i x) (h : dB X CL b e δ t δ1) (h1 : δ1[i]? = some (some (.pin a (.ins c gs)))) (hl : gs.length < 1000)
   (k : iI X CL b i9 (δ1.set i (some (.pin a (.ins c (BO f t gs))))) DD) (hs : swapsWith e (some (.Attribute (.Name x pa) f pb)) pc.line X.env = pure false := by rfl) :
   iI X CL b (.Assign [.Attribute (.Name x pa) f pb] e pc :: i9) δ DD := fC fun H Z σ ts vs E S M =>
 yM (aak (mV nm.hi nm.hv nm.hd nm.oh) gQ hs) (h H Z σ ts vs _ S fun v H' Z' z s S' => by
   obtain ⟨dx, ws, hv, hx, hlen, S2⟩ := S'.setField (f := f) h1
   exact ⟨.ref a, hv, a, CL c, dx, ws, rfl, hx, hc, n, by rw [hlen]; exact hl, M.nx _ σ _ Z' z S2 k⟩)
end
noncomputable def spI (K : PySem.W.Frag) (CL : Str -> Addr) {A : Type} (c : Str) (n : Nat) (arg : A -> List D) (Pre : A -> Prop) (res : A -> List (Str × T)) : Sp := fun vs H Q _ =>
 ∃ (W H0 : Hp) (a : A) (x dx : Addr) (us : List V), vs = .ref x :: us /\ H0 x = none /\ H0 dx = none /\ dx ≠ x /\ H = upd (upd H0 dx (.own x)) x (.ins (CL c) dx []) ∧
   aV W H0 /\ (∀ c o, H0 c = some o -> qf o = true -> W c = some o) /\ aJ K CL W (arg a) us /\ (arg a).length + 1 = n /\ Pre a /\ ql CL W ∧
   ∀ H' W' fp, aV H0 H' -> aV W W' -> aV W' H' -> (∀ c o, W' c = some o -> W c = none -> H0 c = none) -> (∀ c o, H' c = some o -> qf o = true -> W' c = some o) →
     d8 K CL H' W' (.ins c (res a)) (.ref x) fp -> fp.Nodup -> (∀ c ∈ fp, W' c = none /\ H0 c = none) -> Q .non H'
section
variable {X : Cx} {CL : Str -> Addr} {b : Bx} {δ δ1 δ2 : List (Option T)} {e o : Expr} {es : List Expr} {pos pp apos : Pos}
variable {A : Type} {k n : Nat} {f : Addr} {fd : FuncData} {ps : List Str} {arg : A -> List D} {Pre : A -> Prop} {x c m : Str}
theorem V8 {res : A -> List (Str × T)} (a : A) (M : Mk X.K (CL c) f) (F : cC X.prog X.w X.K X.mg X.base iE k f fd ps (spI X.K CL c n arg Pre res)) (hr : iQ (k + 1) X.A) (hm : X.mg x = some (.ref (CL c))) (hb : Binds X.K fd ps [])
   (h : Vg X CL b (e :: es) δ (arg a) δ1) (hn : (arg a).length + 1 = n) (hp : Pre a) (hc : T.cj (res a) = true) (hg : Gl X x)
   (yJ : (x == ("__debug__" : Str)) = false := by decide) (he : starEach (e :: es) X.env = (false, eval e X.env) :: starEach es X.env := by exact bV rfl) (hpl : (backTo pos (starEach es X.env)).any (·.1) = false := by rfl) :
   dB X CL b (.Call (.Name x pp) (e :: es) [] pos) δ (.ins c (res a)) δ1 := fun H Z σ ts vs Q S kk =>
 eW (M9 M F hr hg hm hb .nil Hr Qz yJ he hpl) (h H Z σ ts vs _ S fun us H1 Z1 z1 k1 S1 r x dx hx hdx ne => by
   rw [amF]
   refine ⟨H1, H1, a, x, dx, us, rfl, hx, hdx, ne, rfl, .refl _, fun _ _ q _ => q, r, hn, hp, S1.VR, fun H' W' fp hh ww wh nw tp rt nd own => ⟨rfl, ?_⟩⟩
   obtain ⟨Z', z', S'⟩ := S1.back hh S1.zh ww wh nw tp rt nd own (.inr (by rw [T.clean]; exact hc))
   exact kk _ H' Z' (z1.trans z') (k1.trans hh) S')
end
theorem Nn {P : Program} {w : World} {K : PySem.W.Frag} {mg : Str -> Option Value} {base : Heap} {CL : Str -> Addr} {x qual c : Str} {st : Stmt} {f : Addr} {fd : FuncData} {N ps : List Str} {k : Nat} {A : Type} {arg : A -> List D} {Pre : A -> Prop} {res : A -> List (Str × T)} (F : jv K x qual st f fd) (S : aP N ps (av st))
   (hb : ∀ (fV : Value) (Ar : Around) (outer : List Env) (s : Shared) (H : Hp) (E : XK) (b : Bx) (a : A) (y : Addr), iQ k (Ar.deeper (envOfC qual (av st) s.heap.objs.size f fV)) -> Pre a →
     iI (Hh iE P w K mg base N qual (av st) f fV Ar outer s H E).nox CL b (jH st) (some (.pin y (.ins c [])) :: ((arg a).map (fun d => some (T.sh d)) ++ List.replicate (N.length - ((arg a).length + 1)) none))
       { nx := fun δ => δ[0]? = some (some (.pin y (.ins c (res a)))), rt := fun _ _ => False }) :
   cC P w K mg base iE (k + 1) f fd ps (spI K CL c ps.length arg Pre res) := by
 refine F.ok S (fun vs H Q E h => ?_) (fun fV Ar outer s H vs Q E hr h => ?_)
 . obtain ⟨W, H0, a, y, dx, us, rfl, _, _, _, _, _, _, r, hl, _⟩ := h
   rw [amA, ← r.length]; exact hl
 . obtain ⟨W, H0, a, y, dx, us, rfl, hy, hdx, ne, rfl, wh, tp, r, hl, hp, tb, kk⟩ := h
   have old : ∀ {d : Addr} {o : HO}, H0 d = some o -> upd (upd H0 dx (.own y)) y (.ins (CL c) dx []) d = some o := fun {d o} q => by
     rw [aH (cG q hy), aH (cG q hdx)]; exact q
   refine ⟨_, pbS, hb fV Ar outer s _ E ⟨H0, W⟩ a y hr hp _ W _ [] [] _ ⟨⟨[y] ++ [], [], ?_, .nil, by simp, fun d hd => ?_⟩, fun d o q => old q, .refl _, fun d o q => old (wh d o q), fun d o q z => ?_, fun d o q i => ?_, tb⟩ ⟨fun δ' σ' H' Z' s' S' e => ?_, fun t v H' Z' δ' σ' s' S' e => e.elim, fun _ _ _ _ _ _ e => e.elim, fun _ _ _ _ _ _ e => e.elim⟩⟩
   . unfold L2.start
     rw [am6, amA, amE, ← r.length]
     exact .cons (.pin (.ins bW .nil)) (om _ r)
   . have : d = y := by simpa using hd
     subst this
     exact ⟨aaB wh hy, hy⟩
   . have q' : W d = some o := q
     have z' : W d = none := z
     rw [q'] at z'; cases z'
   . by_cases h1 : d = y
     . subst h1; rw [bW] at q; cases q; cases i
     . rw [aH h1] at q
       by_cases h2 : d = dx
       . subst h2; rw [bW] at q; cases q; cases i
       . rw [aH h2] at q; exact tp d o q i
   . obtain ⟨fp, gp, eE, _, nd, own⟩ := S'.rep
     obtain ⟨v, f1, f2, f3, hv, tZ, rt, _, _⟩ := eE.get e
     subst tZ
     cases rt with
     | pin rt =>
       refine kk H' Z' f2 S'.bh S'.zz S'.zh S'.new S'.tp rt ?_ fun d hd => own d (by simp [hd])
       have h1 := (am4.mp nd).1
       exact (am4.mp (am4.mp h1).2.1).1
section
variable {X : Cx} {CL : Str -> Addr} {b : Bx} {δ δ1 δ2 : List (Option T)} {e e1 e2 : Expr} {es : List Expr} {t : T} {d : D} {ds Np : List D} {x : Str} {pos pp : Pos} {DD : fc} {i : Nat} {i9 body : List Stmt}
theorem za (g : Gx X) (P : Nat -> List (Option T) -> Prop) (m : Nat) (h0 : P m δ)
   (hs : ∀ m δ, P m δ -> ∃ p δ1, yN X CL b e δ p δ1 ∧
     (p = true -> iI X CL b body δ1 { nx := fun δ2 => ∃ m', m' < m /\ P m' δ2, rt := DD.rt, bk := fun δ2 => iI X CL b i9 δ2 DD, ct := fun δ2 => ∃ m', m' < m /\ P m' δ2 }) /\ (p = false -> iI X CL b i9 δ1 DD)) :
   iI X CL b (.While e body [] pos :: i9) δ DD := fC fun H Z σ ts vs E S M =>
 yM (QS (by rw [g.xe]; exact PassesOwn.never) Y6 pbS) (by
   refine ⟨fun m σ H => ∃ Z2 δ2, aV Z Z2 /\ dz X.K CL b H Z2 δ2 σ ts vs /\ P m δ2, ⟨m, Z, δ, .refl _, S, h0⟩, ?_⟩
   rintro m σ H ⟨Z2, δ2, z2, S2, p2⟩
   obtain ⟨p, δ3, ht, h1, h2⟩ := hs m δ2 p2
   refine ht H Z2 σ ts vs _ S2 fun H3 Z3 z3 k3 S3 => ?_
   cases p with
   | true =>
     rw [amo rfl]
     refine ⟨fun σ' H' => ∃ m', m' < m /\ ∃ Z2 δ2, aV Z Z2 /\ dz X.K CL b H' Z2 δ2 σ' ts vs /\ P m' δ2, fun σ' H' q => q, ?_⟩
     refine h1 rfl H3 Z3 σ ts vs _ S3 ⟨fun δ' σ' H' Z' s' S' ⟨m', l, q⟩ => ⟨m', l, Z', δ', z2.trans (z3.trans s'), S', q⟩, fun t v H' Z' δ' σ' s' S' q => M.rt t v H' Z' δ' σ' (z2.trans (z3.trans s')) S' q,
       fun δ' σ' H' Z' s' S' q => M.nx δ' σ' H' Z' (z2.trans (z3.trans s')) S' q, fun δ' σ' H' Z' s' S' ⟨m', l, q⟩ => ⟨m', l, Z', δ', z2.trans (z3.trans s'), S', q⟩⟩
   | false =>
     rw [amk (by decide)]
     exact M.nx δ3 σ H3 Z3 (z2.trans z3) S3 (h2 rfl))
noncomputable def aeO (K : PySem.W.Frag) : R2 := fun x y H Q => ∃ l b xs zs, x = .ref l /\ y = .ref b /\ oi K H l xs /\ oi K H b zs /\ xs.length + zs.length <= sizeLine /\ ∀ p, H p = none -> Q (.ref p) (upd H p (.lst (xs ++ zs)))
theorem V9 : zN X (binaryOp .Add) (aeO X.K) := by
 intro pins s σ H x y v u Q I rx ry h
 obtain ⟨l, b, xs, zs, rfl, rfl, hH, hB, hz, q⟩ := h
 cases rx
 cases ry
 obtain ⟨its, r, pl, _⟩ := I.list hH
 obtain ⟨xo, r2, pl2, _⟩ := I.list hB
 have e1 := r.length
 have e2 := r2.length
 obtain ⟨⟨c1, dd, da1, sl⟩, ho, hc, n, hd⟩ := pl.isList
 obtain ⟨⟨c2, dd2, da2, sl2⟩, ho2, hc2, n2, hd2⟩ := pl2.isList
 cases hc; cases hc2; cases hd; cases hd2
 refine concat_meets ⟨_, ho, rfl⟩ ⟨_, ho2, rfl⟩ noFill_list_add seq_list_add PySem.F.slot_list_add PySem.F.entry_list_add (PySem.F.args_list_add_2 (Value.ref l) (Value.ref b))
   (list_addW l b its.toArray xo.toArray n n2 dd dd2 sl sl2 (by rw [amC, amC]; omega)) ⟨ho, ho2, ?_⟩
 have ea : its.toArray ++ xo.toArray = (its ++ xo).toArray := by simp
 rw [ea]
 exact ⟨.ref _, _, I.aex (t' := s.toks) (r.append r2) (by rw [amj]; omega), rfl, q _ I.fresh⟩
theorem aJ.app {K : PySem.W.Frag} {Z : Hp} {ds Np : List L3.D} {vs vs2 : List V} (h : aJ K CL Z ds vs) (r2 : aJ K CL Z Np vs2) : aJ K CL Z (ds ++ Np) (vs ++ vs2) :=
 aJ.ind (P := fun ds vs => aJ K CL Z (ds ++ Np) (vs ++ vs2)) r2 (fun r _ i => .cons r i) h
theorem oq (h1 : fB X CL b e1 δ (.lst ds) δ1) (h2 : fB X CL b e2 δ1 (.lst Np) δ2) (i1 : D.bZ ds = true) (i2 : D.bZ Np = true) (hz : ds.length + Np.length <= sizeLine) :
   dB X CL b (.BinOp e1 .Add e2 pos) δ (.lst ((ds ++ Np).map T.sh)) δ2 := fun H Z σ ts vs Q S k =>
 eW (QV V9 gQ gQ) (h1 H Z σ ts vs _ S fun v1 H1 Z1 z1 k1 S1 r1 => h2 H1 Z1 σ ts vs _ S1 fun v2 H2 Z2 z2 k2 S2 r2 => by
   have r1' := r1.mono k2
   cases r1' with
   | lst hq1 rr1 =>
     cases r2 with
     | lst hq2 rr2 =>
       refine ⟨_, _, _, _, rfl, rfl, hq1, hq2, by rw [← rr1.length, ← rr2.length]; exact hz, fun p hp => ?_⟩
       have rc := aJ.app (aJ.qc S2.tp i1 rr1) (aJ.qc S2.tp i2 rr2)
       obtain ⟨c, S4⟩ := (dz.uU rc S2).qo (g0 := []) (by simp [rc.length, rr1.length, rr2.length]) hp
       exact k _ _ _ (z1.trans z2) (k1.trans (k2.trans c)) S4)
theorem boot_min : bootBuiltins "min" = some (.builtin "min") := by decide +kernel
theorem boot_max : bootBuiltins "max" = some (.builtin "max") := by decide +kernel
theorem boot_str : bootBuiltins "str" = some (.type "str") := by decide +kernel
theorem Wa {i j : Int} (g : Gx X) (hm : X.mg "min" = none) (hg : Gl X "min") (h : Vg X CL b [e1, e2] δ [.int i, .int j] δ1) (hs : starEach [e1, e2] X.env = (false, eval e1 X.env) :: starEach [e2] X.env := by exact bV rfl) (hpl : (backTo pos (starEach [e2] X.env)).any (·.1) = false := by rfl) :
   dB X CL b (.Call (.Name "min" pp) [e1, e2] [] pos) δ (.sh (.int (if j < i then j else i))) δ1 := fun H Z σ ts vs Q S k =>
 eW (nI (Ox g.calm) hg hm boot_min Qz (he := hs) (hpl := hpl)) (h H Z σ ts vs _ S fun us H1 Z1 z1 k1 S1 r => by
   cases r with
   | cons r1 r =>
     cases r with
     | cons r2 r =>
       cases r
       rw [r1.sc rfl, r2.sc rfl]
       exact ⟨i, j, rfl, k _ H1 Z1 z1 k1 (S1.push (.int _))⟩)
theorem Wb {i j : Int} (g : Gx X) (hm : X.mg "max" = none) (hg : Gl X "max") (h : Vg X CL b [e1, e2] δ [.int i, .int j] δ1) (hs : starEach [e1, e2] X.env = (false, eval e1 X.env) :: starEach [e2] X.env := by exact bV rfl) (hpl : (backTo pos (starEach [e2] X.env)).any (·.1) = false := by rfl) :
   dB X CL b (.Call (.Name "max" pp) [e1, e2] [] pos) δ (.sh (.int (if j > i then j else i))) δ1 := fun H Z σ ts vs Q S k =>
 eW (nI (Ow g.calm) hg hm boot_max Qz (he := hs) (hpl := hpl)) (h H Z σ ts vs _ S fun us H1 Z1 z1 k1 S1 r => by
   cases r with
   | cons r1 r =>
     cases r with
     | cons r2 r =>
       cases r
       rw [r1.sc rfl, r2.sc rfl]
       exact ⟨i, j, rfl, k _ H1 Z1 z1 k1 (S1.push (.int _))⟩)
theorem uZ {i : Int} (hm : X.mg "str" = none) (hg : Gl X "str") (h : fB X CL b e δ (.int i) δ1) (hi : i.natAbs.log2 < 1920) (hs : starEach [e] X.env = (false, eval e X.env) :: starEach [] X.env := by exact bV rfl) :
   dB X CL b (.Call (.Name "str" pp) [e] [] pos) δ (.sh (.str (toString i))) δ1 := fun H Z σ ts vs Q S k =>
 eW (rS DC hg hm boot_str (dc gQ fU hs) (he := hs)) (h H Z σ ts vs _ S fun v H1 Z1 z1 k1 S1 r => by
   rw [r.sc rfl]
   exact ⟨i, rfl, hi, k _ H1 Z1 z1 k1 (S1.push (.str _))⟩)
end
structure Fm (X : Cx) (CL : Str -> Addr) (x : Str) (k n : Nat) {A : Type} (arg : A -> List D) (Pre : A -> Prop) (res : A -> List (Str × T)) : Prop where
 ex : ∃ f fd ps, Mk X.K (CL x) f /\ cC X.prog X.w X.K X.mg X.base iE k f fd ps (spI X.K CL x n arg Pre res) /\ X.mg x = some (.ref (CL x)) /\ Binds X.K fd ps []
 room : iQ (k + 1) X.A
noncomputable def RH (N : List Str) (y : Addr) (c : Str) (ds : List D) : List (Option T) := some (.pin y (.ins c [])) :: (ds.map (fun d => some (T.sh d)) ++ List.replicate (N.length - (ds.length + 1)) none)
theorem aaX {K : PySem.W.Frag} {CL CL' : Str -> Addr} {arg : List Int -> List D} {pre : List Int -> Prop} {res : List Int -> T} (ha : ∀ a, arg a = [.lst (a.map .int)]) (hr : ∀ a, res a = .sh (.bl true)) (h0 : ∀ x, Nh x = true -> CL x = 0) :
   ∀ (vs : List V) (H : Hp) (Q : VK) (E : XK), jt K CL' 1 arg pre res vs H Q E -> jt K CL 1 arg pre res vs H Q E := by
 rintro vs H Q E ⟨W, a, h1, h2, h3, h4, h5, _, k⟩
 have aaY : ∀ {l : List Int} {us : List V}, aJ K CL' W (l.map .int) us -> aJ K CL W (l.map .int) us := by
   intro l
   induction l with
   | nil => intro us r; cases r; exact .nil
   | cons i l ih =>
     intro us r
     cases r with
     | cons r t => cases r; exact .cons (.int i) (ih t)
 refine ⟨W, a, h1, h2, ?_, h4, h5, fun x hx e => absurd (h0 x hx) e, fun v H' W' fp a1 a2 a3 a4 a5 r nd own => k v H' W' fp a1 a2 a3 a4 a5 ?_ nd own⟩
 . rw [ha] at h3 ⊢
   cases h3 with
   | cons r t =>
     cases t
     cases r with
     | lst q rr => exact .cons (.lst q (aaY rr)) .nil
 . rw [hr] at r ⊢
   cases r with
   | sh r => cases r; exact .sh (.bl _)
section
variable {X : Cx} {CL : Str -> Addr} {b : Bx} {δ δ1 δ2 : List (Option T)} {e e1 e2 o : Expr} {es : List Expr} {d : L3.D} {t : T} {i : Nat} {x c m : Str} {pos pp apos : Pos} {D : fc} {i9 : List Stmt} {ds : List L3.D}
theorem mk_ {k n : Nat} {A : Type} {arg : A -> List L3.D} {Pre : A -> Prop} {res : A -> List (Str × T)} (a : A) (F : Fm X CL x k n arg Pre res) (hg : Gl X x) (h : Vg X CL b (e :: es) δ (arg a) δ1) (hp : Pre a) (hc : T.cj (res a) = true) (hn : (arg a).length + 1 = n := by rfl)
   (yJ : (x == ("__debug__" : Str)) = false := by decide) (he : starEach (e :: es) X.env = (false, eval e X.env) :: starEach es X.env := by exact bV rfl) (hpl : (backTo pos (starEach es X.env)).any (·.1) = false := by rfl) :
   dB X CL b (.Call (.Name x pp) (e :: es) [] pos) δ (.ins x (res a)) δ1 := by
 obtain ⟨f, fd, ps, M, F1, m, b⟩ := F.ex
 exact V8 a M F1 F.room m b h hn hp hc hg yJ he hpl
end
theorem ou {α : Type} {f : Str} {d : α} {fs : List (Str × α)} : ((f, d) :: fs).lookup f = some d := by
 rw [am1, beq_self_eq_true]
theorem fE {α : Type} {f g : Str} {d : α} {fs : List (Str × α)} (h : (f == g) = false) : ((g, d) :: fs).lookup f = fs.lookup f := by
 rw [am1, h]
theorem jd {f : Str} {t : T} : BO f t [] = [(f, t)] := rfl
theorem cU {f g : Str} {t u : T} {fs : List (Str × T)} (h : ¬ g = f) : BO f t ((g, u) :: fs) = (g, u) :: BO f t fs := by
 rw [BO, amk h]
section
variable {X : Cx} {CL : Str -> Addr} {b : Bx} {δ δ1 δ2 : List (Option T)} {e1 e2 : Expr} {x : Str} {pos : Pos} {d : L3.D}
theorem u0 (x : Int) : ∀ l : List Int, inV (.int x) (l.map V.int) = decide (x ∈ l)
 | [] => by simp [inV]
 | y :: l => by
   have ih := u0 x l
   unfold inV at ih ⊢
   rw [am6, List.any_cons, ih]
   by_cases h : y = x
   . subst h; simp [Vf]
   . have h' : ¬ x = y := fun e => h e.symm
     simp [Vf, h, h']
theorem aJ.ints {K : PySem.W.Frag} {Z : Hp} : ∀ {l : List Int} {vs : List V}, aJ K CL Z (l.map D.int) vs -> vs = l.map V.int
 | [], _, r => by
   have r' : aJ K CL Z [] _ := r
   cases r'; rfl
 | y :: l, _, r => by
   have r' : aJ K CL Z (D.int y :: l.map D.int) _ := r
   cases r' with
   | cons r1 r2 => rw [r1.sc rfl, aJ.ints r2]; rfl
theorem je : ∀ l : List Int, (l.map V.int).all uQ = true
 | [] => rfl
 | y :: l => by rw [am6, List.all_cons, je l]; rfl
noncomputable def HB (d : L3.D) : Option (List L3.D) := match d with
 | .lst ds => some ds
 | .tup ds => some ds
 | _ => none
theorem c9.HB {K : PySem.W.Frag} {Z : Hp} {v : V} {ds : List L3.D} (r : c9 K CL Z d v) (h : L3.HB d = some ds) : ∃ p us, v = .ref p /\ (oi K Z p us \/ Dy K Z p us) /\ aJ K CL Z ds us := by
 cases r with
 | tup hq rr => cases h; exact ⟨_, _, rfl, .inr hq, rr⟩
 | lst hq rr => cases h; exact ⟨_, _, rfl, .inl hq, rr⟩
 | non => cases h
 | bl => cases h
 | int => cases h
 | str => cases h
 | any => cases h
 | val => cases h
 | BH => cases h
 | dct => cases h
 | ins => cases h
theorem kJ {l : List Int} {i : Int} (h1 : fB X CL b e1 δ (.int i) δ1) (h2 : fB X CL b e2 δ1 d δ2) (hd : L3.HB d = some (l.map .int)) (hm : behindInMarks .In e2 = false) :
   yN X CL b (.Compare e1 [.In] [e2] pos) δ (decide (i ∈ l)) δ2 /\ dB X CL b (.Compare e1 [.In] [e2] pos) δ (.sh (.bl (decide (i ∈ l)))) δ2 := by
 constructor
 . intro H Z σ ts vs Q S k
   refine Rh (DB Cy gQ gQ hm) (h1 H Z σ ts vs _ S fun v1 H1 Z1 z1 k1 S1 r1 => h2 H1 Z1 σ ts vs _ S1 fun v2 H2 Z2 z2 k2 S2 r2 => ?_)
   obtain ⟨p, us, rfl, hq, rr⟩ := c9.HB r2 hd
   have e := rr.ints
   subst e
   refine ⟨_, _, rfl, hq, by rw [r1.sc rfl]; rfl, je l, _, rfl, ?_⟩
   rw [amk amv, r1.sc rfl, u0]
   exact k H2 Z2 (z1.trans z2) (k1.trans k2) S2
 . intro H Z σ ts vs Q S k
   refine eW (Dz Cy gQ gQ hm) (h1 H Z σ ts vs _ S fun v1 H1 Z1 z1 k1 S1 r1 => h2 H1 Z1 σ ts vs _ S1 fun v2 H2 Z2 z2 k2 S2 r2 => ?_)
   obtain ⟨p, us, rfl, hq, rr⟩ := c9.HB r2 hd
   have e := rr.ints
   subst e
   refine ⟨_, _, rfl, hq, by rw [r1.sc rfl]; rfl, je l, ?_⟩
   rw [amk amv, r1.sc rfl, u0]
   exact k _ H2 Z2 (z1.trans z2) (k1.trans k2) (S2.push (.bl _))
theorem u5 {l : List Int} {i : Int} (h1 : fB X CL b e1 δ (.int i) δ1) (h2 : fB X CL b e2 δ1 d δ2) (hd : L3.HB d = some (l.map .int)) (hm : behindInMarks .NotIn e2 = false) :
   yN X CL b (.Compare e1 [.NotIn] [e2] pos) δ (!decide (i ∈ l)) δ2 /\ dB X CL b (.Compare e1 [.NotIn] [e2] pos) δ (.sh (.bl (!decide (i ∈ l)))) δ2 := by
 constructor
 . intro H Z σ ts vs Q S k
   refine Rh (DB uS gQ gQ hm) (h1 H Z σ ts vs _ S fun v1 H1 Z1 z1 k1 S1 r1 => h2 H1 Z1 σ ts vs _ S1 fun v2 H2 Z2 z2 k2 S2 r2 => ?_)
   obtain ⟨p, us, rfl, hq, rr⟩ := c9.HB r2 hd
   have e := rr.ints
   subst e
   refine ⟨_, _, rfl, hq, by rw [r1.sc rfl]; rfl, je l, _, rfl, ?_⟩
   rw [amo rfl, r1.sc rfl, u0]
   exact k H2 Z2 (z1.trans z2) (k1.trans k2) S2
 . intro H Z σ ts vs Q S k
   refine eW (Dz uS gQ gQ hm) (h1 H Z σ ts vs _ S fun v1 H1 Z1 z1 k1 S1 r1 => h2 H1 Z1 σ ts vs _ S1 fun v2 H2 Z2 z2 k2 S2 r2 => ?_)
   obtain ⟨p, us, rfl, hq, rr⟩ := c9.HB r2 hd
   have e := rr.ints
   subst e
   refine ⟨_, _, rfl, hq, by rw [r1.sc rfl]; rfl, je l, ?_⟩
   rw [amo rfl, r1.sc rfl, u0]
   exact k _ H2 Z2 (z1.trans z2) (k1.trans k2) (S2.push (.bl _))
end
section
variable {X : Cx} {CL : Str -> Addr} {b : Bx} {δ δ1 δ2 : List (Option T)} {e : Expr} {es : List Expr} {d : L3.D} {ds : List L3.D} {t : T} {i : Nat} {x : Str} {pos pp : Pos} {DD : fc} {i9 : List Stmt}
theorem di : OX X CL b [] δ (([] : List L3.D).map T.sh) δ := cZ
theorem aG (h1 : dB X CL b e δ (.sh d) δ1) (h2 : OX X CL b es δ1 (ds.map T.sh) δ2) (hs : starEach (e :: es) X.env = (false, eval e X.env) :: starEach es X.env := by exact bV rfl) : OX X CL b (e :: es) δ ((d :: ds).map T.sh) δ2 := bY h1 h2 hs
theorem gI (h : OX X CL b es δ (ds.map T.sh) δ1) (hl : ds.length <= sizeLine) : dB X CL b (.List es pos) δ (.lst (ds.map T.sh)) δ1 := dN h (by simpa using hl)
theorem u6 (l : List Str) : D.bZ (l.map L3.D.str) = true := jV (fun _ => rfl) _
theorem gf (h : dB X CL b e δ (.lst (ds.map T.sh)) δ1) : dB X CL b e δ (.sh (.lst ds)) δ1 := by
 have := J7 h
 rwa [T.fS, lW] at this
theorem Nq (h : dB X CL b e δ t δ1) (q : t.fS = d) : dB X CL b e δ (.sh d) δ1 := q ▸ J7 h
theorem Wc (h : DD.bk δ) : iI X CL b (.Break pos :: i9) δ DD := fC (Rp h)
theorem CG {d2 : L3.D} (h : fB X CL b e δ d δ1) (q : d = d2) : fB X CL b e δ d2 δ1 := q ▸ h
theorem aK {t2 : T} (h : dB X CL b e δ t δ1) (q : t = t2) : dB X CL b e δ t2 δ1 := q ▸ h
end
structure HC (Z H Z' H' : Hp) : Prop where
 z : aV Z Z'
 h : aV H H'
 zh : aV Z' H'
 new : ∀ a o, Z' a = some o -> Z a = none -> H a = none
 tp : ∀ a o, H' a = some o -> qf o = true -> Z' a = some o
theorem HC.refl {Z H : Hp} (zh : aV Z H) (tp : ∀ a o, H a = some o -> qf o = true -> Z a = some o) : HC Z H Z H := ⟨.refl _, .refl _, zh, fun a o q z => (by rw [q] at z; cases z), tp⟩
theorem HC.tup {Z H : Hp} {p : Addr} {xs : List V} (zh : aV Z H) (tp : ∀ a o, H a = some o -> qf o = true -> Z a = some o) (hp : H p = none) : HC Z H (upd Z p (.tup xs)) (upd H p (.tup xs)) := by
 have zp : Z p = none := zh.free hp
 refine ⟨aV.upd zp, aV.upd hp, fun a o q => ?_, fun a o q z => ?_, fun a o q i => ?_⟩
 . by_cases e : a = p
   . subst e; rw [bW] at q ⊢; exact q
   . rw [aH e] at q ⊢; exact zh a o q
 . by_cases e : a = p
   . subst e; exact hp
   . rw [aH e, z] at q; cases q
 . by_cases e : a = p
   . subst e; rw [bW] at q ⊢; exact q
   . rw [aH e] at q ⊢; exact tp a o q i
section
variable {K : PySem.W.Frag} {CL : Str -> Addr} {b : Bx} {H H' Z Z' : Hp} {δ : List (Option T)} {σ : L2.St} {ts : List T} {vs : List V}
noncomputable def aeQ (δ : List (Option T)) : List Nat -> List D -> List (Option T)
 | i :: is, d :: ds => aeQ (δ.set i (some (.sh d))) is ds
 | _, _ => δ
noncomputable def CH (σ : L2.St) : List Nat -> List V -> L2.St
 | i :: is, v :: vs => CH (σ.set i (some v)) is vs
 | _, _ => σ
end
section
variable {X : Cx} {CL : Str -> Addr} {b : Bx} {δ δ1 : List (Option T)} {ds : List D} {iter tg : Expr} {pos : Pos}
structure DS (X : Cx) (CL : Str -> Addr) (b : Bx) (δ1 : List (Option T)) (σ : L2.St) (ts : List T) (vs : List V) (Z H : Hp) (ds : List D) (J : It) (H1 : Hp) : Prop where
 ex : ∃ Z1, aV Z Z1 /\ aV H H1 /\ dz X.K CL b H1 Z1 δ1 σ ts vs /\ (∀ i H2, aV Z1 H2 -> i < ds.length -> J.go i H2) ∧
   (∀ i Z2 H2 x H', aV Z1 Z2 -> aV Z2 H2 -> (∀ a o, H2 a = some o -> qf o = true -> Z2 a = some o) -> i < ds.length -> J.Y0 i H2 x H' -> ∃ Z3 d, ds[i]? = some d /\ HC Z2 H2 Z3 H' /\ c9 X.K CL Z3 d x) /\ (∀ H2, aV Z1 H2 -> J.stop ds.length H2)
noncomputable def GIt (X : Cx) (CL : Str -> Addr) (b : Bx) (tg e : Expr) (δ : List (Option T)) (ds : List D) (δ1 : List (Option T)) : Prop :=
 ∃ wi, PI X tg e wi /\ ∀ (H Z : Hp) (σ : L2.St) (ts : List T) (vs : List V) (R : It -> Hp -> Prop), dz X.K CL b H Z δ σ ts vs -> (∀ J H1, DS X CL b δ1 σ ts vs Z H ds J H1 -> R J H1) -> wi σ H R
theorem Zd (h : V4 X CL b tg iter δ ds δ1) : GIt X CL b tg iter δ ds δ1 := by
 obtain ⟨wi, pi, hw⟩ := h
 refine ⟨wi, pi, fun H Z σ ts vs R S k => hw H Z σ ts vs R S fun J H1 zz => ?_⟩
 obtain ⟨Z1, us, z1, k1, S1, rr, go, yl, st⟩ := zz
 refine k J H1 ⟨Z1, z1, k1, S1, go, fun i Z2 H2 x H' s1 s2 tp hi hy => ?_, st⟩
 obtain ⟨e, hu⟩ := yl i H2 x H' (s1.trans s2) hi hy
 subst e
 obtain ⟨d, hd, rd⟩ := rr.VP hu
 exact ⟨Z2, d, hd, .refl s2 tp, rd.mono s1⟩
noncomputable def Tgt (X : Cx) (CL : Str -> Addr) (tg : Expr) (is : List Nat) (parts : D -> Option (List D)) : Prop :=
 ∃ t : TG, PG X tg t /\ ∀ (Z H : Hp) (d : D) (ps : List D) (x : V) (σ : L2.St) (Q : L2.St -> Hp -> Prop), aV Z H -> c9 X.K CL Z d x -> parts d = some ps -> (∀ ys, aJ X.K CL Z ps ys -> Q (CH σ is ys) H) -> t x σ H Q
noncomputable def part1 (d : D) : Option (List D) := some [d]
noncomputable def part2 : D -> Option (List D)
 | .tup [a, c] => some [a, c]
 | _ => none
theorem O2 {d : D} {ps : List D} (h : part2 d = some ps) : ∃ d1 d2, d = .tup [d1, d2] /\ ps = [d1, d2] := by
 unfold part2 at h
 split at h
 . cases h; exact ⟨_, _, rfl, rfl⟩
 . cases h
theorem Kd {K : PySem.W.Frag} {i j : Nat} {Z H : Hp} {d : D} {ps : List D} {x : V} {σ : L2.St} {Q : L2.St -> Hp -> Prop} (zh : aV Z H) (r : c9 K CL Z d x) (e : part2 d = some ps) (k : ∀ ys, aJ K CL Z ps ys -> Q (CH σ [i, j] ys) H) : ZZ K 2 (G8 (yi i) (G8 (yi j) ZY)) x σ H Q := by
 obtain ⟨d1, d2, rfl, rfl⟩ := O2 e
 cases r with
 | tup hq rr =>
   cases rr with
   | cons r1 rr =>
     cases rr with
     | cons r2 rr =>
       cases rr
       exact ⟨_, _, rfl, aV.sqT zh hq, rfl, _, _, rfl, _, _, rfl, rfl, k _ (.cons r1 (.cons r2 .nil))⟩
theorem RJ {i : Nat} {x : Str} {px : Pos} (hN : X.N.Nodup) (n : Ln X i x) : Tgt X CL (.Name x px) [i] part1 :=
 ⟨yi i, uO hN n.hi n.loc n.hf, fun Z H d ps x σ Q zh r e k => by
   cases e
   exact k [x] (.cons r .nil)⟩
theorem Wd {i j k : Nat} {x y : Str} {px py pt : Pos} (hN : X.N.Nodup) (hc : X.calm = true) (n : Ln X i x) (m : Ln X j y) (hs : (assignEach [.Name x px, .Name y py] X.env).map (·.2) = assign (.Name x px) X.env :: (assignEach [.Name y py] X.env).map (·.2) := by rfl) (G3 : (assignEach [.Name y py] X.env).map (·.2) = assign (.Name y py) X.env :: (assignEach [] X.env).map (·.2) := by rfl)
   (hn : (assignEach [.Name x px, .Name y py] X.env).length = 2 := by rfl) (BG : (assignEach [.Name x px, .Name y py] X.env).findIdx? (·.1) = none := by rfl) : Tgt X CL (.Tuple [.Name x px, .Name y py] k pt) [i, j] part2 :=
 ⟨ZZ X.K 2 (G8 (yi i) (G8 (yi j) ZY)), Z0 hc (G9 (uO hN n.hi n.loc n.hf) (G9 (uO hN m.hi m.loc m.hf) Vt G3) hs) hn BG, fun Z H d ps x σ Q zh r e k => Kd zh r e k⟩
end
structure ow (X : Cx) (scope : Scope) (xs : List Str) (Nc : List Str) (ix : List Nat) : Prop where
 kind : scope.kind = .function
 DP : ∀ y ∈ scope.names, y.2 ≠ .cell
 nd : Nc.Nodup
 names : ∀ y ∈ scope.names, y.2 = .local -> scope.names.lookup y.1 = some .local
 own : ∀ x ∈ xs, scope.names.lookup x = some .local
 frees : ∀ y ∈ scope.names, y.2 = .free -> scope.names.lookup y.1 = some .free /\ (X.env.kindOf y.1 = some .cell \/ X.env.kindOf y.1 = some .free)
 hd : Nc = xs ++ ix.filterMap (X.N[·]?)
 ixs : ∀ i ∈ ix, ∃ y, X.N[i]? = some y /\ scope.names.lookup y = some .free
noncomputable def O4 (σ : L2.St) (ix : List Nat) (os : List (Option V)) : L2.St := os ++ ix.map fun i => (σ[i]?).getD none
section
variable {X : Cx} {scope : Scope} {xs : List Str} {Nc : List Str} {ix : List Nat} {pins : List (Addr × Obj)} {σ : L2.St} {H : Hp} {s : Shared}
theorem HD {fp : List Addr} (sc : ow X scope xs Nc ix) (I : Inv X pins σ H s) (tZ : ∀ b ∈ fp, yI X pins H b /\ b < s.heap.objs.size) {h' : Heap} {m : Str -> Option Value} {tk : Nat}
   (hn : h'.Ns s.heap.objs.size m) (hk : ∀ b o, s.heap.get? b = some o -> h'.get? b = some o) :
   Inv (fh X scope Nc s.heap.objs.size s H fp) [] (O4 σ ix (List.replicate xs.length none)) H { s with heap := h', toks := tk } := by
 have frees : ∀ y ∈ scope.names, y.2 = .free -> ∃ c, X.env.cells.lookup y.1 = some c := fun y hy e => I.ok.has y.1 (sc.frees y hy e).2
 have sub : ∀ {y : Str} {c : Addr}, (jb X.env scope.names []).lookup y = some c -> X.env.cells.lookup y = some c := fun {y c} e => t8 frees (fun _ _ z => by cases z) e
 have hlen : (O4 σ ix (List.replicate xs.length none)).length = Nc.length := by
   have all : ∀ l : List Nat, (∀ i ∈ l, ∃ y, X.N[i]? = some y /\ scope.names.lookup y = some .free) -> (l.filterMap (X.N[·]?)).length = l.length := by
     intro l
     induction l with
     | nil => intro _; rfl
     | cons i r ih =>
       intro h
       obtain ⟨y, e, _⟩ := h i ame
       rw [anF, e]
       show _ + 1 = _ + 1
       rw [ih fun j hj => h j (ami _ hj)]
   unfold O4
   rw [sc.hd, amj, amj, amc, anA, all ix sc.ixs]
 have C0 : s.heap.get? s.heap.objs.size = none := Heap.get?_none_of_le (amu _)
 refine ⟨⟨I.ok.mod, sc.kind, I.ok.glob, I.ok.blt, amu _, fun y z c h1 h2 => I.ok.inj y z c (sub h1) (sub h2), fun y hy => ?_, fun y c hf _ => (by cases (show false = true from hf)), I.ok.hd, I.ok.frames, .inl rfl, fun b hb => ⟨am7 (tZ b hb).2, fun y c e => (tZ b hb).1.2.2.2.2.1 y c (sub e)⟩, I.bs, am0 I.ok.Vl I.sz, fun b o e hb => ?_, fun b hb hf => ?_, I.stack, I.MZ⟩,
   rfl, I.bare, Un.kept hk, ⟨m, hn, fun i y v h1 h2 h3 => ?_⟩, fun y c e => ?_, I.iP.fresh (amu _), fun y c e => I.tH y c (sub e), fun p hp => absurd (show p ∈ ([] : List (Addr × Obj)) from hp) (by simp), I.iP.kept hk, hlen⟩
 . 
   have hy' : (relabel scope X.env).names.lookup y = some .cell \/ (relabel scope X.env).names.lookup y = some .free := hy
   cases e : scope.names.lookup y with
   | none => 
     have := kG (env := X.env) e
     rcases hy' with q | q <;> (rw [show (relabel scope X.env).names.lookup y = none from this] at q; cases q)
   | some k =>
     have q := gR (env := X.env) e
     have hk : k = .free := by
       by_cases hk : k = .free
       . exact hk
       . have hb : (k == NameKind.free) = false := by simpa using hk
         rw [amk (by rw [hb]; simp)] at q
         have nc : k ≠ .cell := fun z => by
           subst z
           exact sc.DP _ (anG e) rfl
         rcases hy' with z | z
         . rw [show (relabel scope X.env).names.lookup y = some k from q] at z
           exact absurd (am3 z) nc
         . rw [show (relabel scope X.env).names.lookup y = some k from q] at z
           exact absurd (am3 z) hk
     subst hk
     exact t9 e
 . 
   rcases (tZ b hb).1.2.2.2.1 with z | z
   . exact I.ok.QJ b o e z
   . exact absurd (amZ (amy e) (am0 I.ok.Vl z)) (aoh _)
 . rcases amf.mp (I.Dw b hf) with z | z
   . exact (tZ b hb).1.2.1 z
   . exact (tZ b hb).1.2.2.1 z
 . 
   unfold O4 at h2
   by_cases hi : i < xs.length
   . rw [aol (by rw [anA]; exact hi), aos, amo hi] at h2
     cases h2
   . obtain ⟨n, rfl⟩ : ∃ n, i = xs.length + n := ⟨i - xs.length, by omega⟩
     rw [anI (by rw [anA]; omega), anA, Nat.add_sub_cancel_left, amT] at h2
     cases ei : ix[n]? with
     | none => rw [ei] at h2; cases h2
     | some j =>
       rw [ei] at h2
       have h2' : (σ[j]?).getD none = some v := am3 h2
       have hj : σ[j]? = some (some v) := by
         cases q : σ[j]? with
         | none => rw [q] at h2'; cases h2'
         | some o => rw [q] at h2'; exact congrArg some h2'
       obtain ⟨y', hy1, hy2⟩ := sc.ixs j (anv ei)
       have hNc : Nc[xs.length + n]? = some y' := by
         have all : ∀ (l : List Nat) (i : Nat), (∀ j ∈ l, ∃ y, X.N[j]? = some y /\ scope.names.lookup y = some .free) -> l[i]? = some j -> (l.filterMap (X.N[·]?))[i]? = some y' := by
           intro l
           induction l with
           | nil => intro i _ h; simp at h
           | cons a r ih =>
             intro i h hi
             obtain ⟨ya, ea, _⟩ := h a ame
             rw [anF, ea]
             cases i with
             | zero =>
               simp at hi
               subst hi
               rw [hy1] at ea
               cases ea
               rfl
             | succ i => exact ih i (fun j hj => h j (List.mem_cons_of_mem _ hj)) (by simpa using hi)
         rw [sc.hd, anI (by omega), Nat.add_sub_cancel_left]
         exact all ix n sc.ixs ei
       have ey : y' = y := by
         have h1' : Nc[xs.length + n]? = some y := h1
         rw [hNc] at h1'
         exact am3 h1'
       subst ey
       have ym := (sc.frees (y', .free) (anG hy2) rfl).2
       have ahO : ZH X.env.scope y' := ym.elim (fun z => .inr (.inl z)) (fun z => .inr (.inr z))
       obtain ⟨m0, hn0, hl0⟩ := I.loc
       obtain ⟨u, ru, lk⟩ := hl0 j y' v hy1 hj ahO
       refine ⟨u, ru, ?_⟩
       rcases lk with ⟨kk, _⟩ | ⟨_, c, hc, Cq⟩
       . rcases ym with z | z
         . rw [kk] at z; cases z
         . rw [kk] at z; cases z
       . obtain ⟨c', ZL⟩ := t9 (env := X.env) (cs := []) hy2
         have : c' = c := by
           have := sub ZL
           rw [hc] at this
           exact (am3 this).symm
         subst this
         obtain ⟨o, ho, hd⟩ := Cq
         refine .inr ⟨?_, c', ZL, o, hk _ _ ho, hd⟩
         have q := gR (env := X.env) hy2
         show (relabel scope X.env).names.lookup y' = some .cell \/ (relabel scope X.env).names.lookup y' = some .free
         rw [show (relabel scope X.env).names.lookup y' = _ from q]
         split
         . exact .inl rfl
         . exact .inr rfl
 . obtain ⟨v, o, ho, hd⟩ := I.cell y c (sub e)
   exact ⟨v, o, hk _ _ ho, hd⟩
noncomputable def RK (X : Cx) (tg elt : Expr) (ifs : List Expr) (n : Nat) (σ : L2.St) (ix : List Nat) (D : Addr) (N : Hp -> Prop) (xv : V) (os : List (Option V)) (H3 : Hp) : Prop :=
 ∃ t : TG, PG X tg t /\ t xv (O4 σ ix os) H3 fun σ8 H4 => ∃ os', os'.length = n /\ σ8 = O4 σ ix os' /\ aaM X ifs σ8 H4 fun ok H5 =>
   if ok = true then Rf X elt σ8 H5 fun y H6 => ∃ acc, H6 D = some (.lst acc) /\ acc.length < sizeLine /\ N (upd H6 D (.lst (acc ++ [y]))) else N H5
theorem Ke {elt iter tg : Expr} {pos : Pos} {ifs : List Expr} {J : It} {fp : List Addr} {it : Addr} {tn : Nat -> Heap -> Prop} {G : Addr -> Hp -> Prop} {RR : Value -> Addr -> Result -> Shared -> Prop} {E : Value -> Shared -> Prop}
   (sc : ow X scope xs Nc ix) (hc : X.calm = true) (I : Inv X pins σ H s) (Tn : Turn X.prog X.w X.K tg J fp it tn) (st : tn 0 s.heap) (hf : ∀ b ∈ fp, yI X pins H b)
   (loop : ∀ D, H D = none -> ∃ W : Nat -> Nat -> Hp -> Prop, (∃ m, W 0 m (upd H D (.lst []))) /\ ∀ i m H2, W i m H2 -> (J.stop i H2 /\ G D H2) ∨
     (J.go i H2 /\ ∃ N : Hp -> Prop, (∀ H', N H' -> ∃ m', m' < m /\ W (i + 1) m' H') /\ ∀ xv H3, J.Y0 i H2 xv H3 -> ∀ C s0 H0 f0 os, os.length = xs.length -> RK (fh X scope Nc C s0 H0 f0) tg elt ifs xs.length σ ix D N xv os H3))
   (hRR : ∀ D C s' H', (∃ m, s'.heap.Ns C m) -> (∃ o, s'.heap.get? C = some o /\ ∀ v, o.data ≠ .cell v) -> H' C = none -> (C ≠ X.env.locals /\ C ∉ X.fs /\ X.s₀.heap.objs.size <= C /\ (∀ y c, X.env.cells.lookup y = some c -> c ≠ C) /\ ∀ q ∈ X.pn ++ pins, q.1 ≠ C) -> (∀ h', Heap.SameBut C s'.heap h' -> Inv X pins σ H' { s' with heap := h' }) -> G D H' -> RR (.ref D) C (.ok .next) s') :
   wpAny (model X.prog X.w) X.A (newList []) (fun acc s₃ => wpAny (model X.prog X.w) X.A (newFunctionEnv scope X.env.globals (jb X.env scope.names []) [] X.env.qual none .none (some X.env)) (fun RL s₄ =>
     codeAny (model X.prog X.w) X.A (.compStart (.ListComp elt [⟨tg, iter, ifs, 0⟩] scope pos) 0 (.ref it) acc { RL with scope := relabel scope X.env }) (RR acc RL.locals) s₄) E s₃) E s := by
 refine wpAny_newObj_type ?_
 have I3 : Inv X pins σ (upd H s.heap.objs.size (.lst [])) { s with heap := s.heap.push { cls := .type "list", dict := none, data := .seq ([] : List Value).toArray } } :=
   I.laid (t' := s.toks) (fun b u e => amw _ e) (amu _) ⟨by show 0 <= sizeLine; exact amO _, [], 0, .nil, anb _ rfl⟩
 have hD : H s.heap.objs.size = none := I.iP.fresh (amu _)
 obtain ⟨W, ⟨m0, w0⟩, turn⟩ := loop _ hD
 have RM : ∀ b ∈ fp, yI X pins (upd H s.heap.objs.size (.lst [])) b /\ b < (s.heap.push { cls := .type "list", dict := none, data := .seq ([] : List Value).toArray }).objs.size := fun b hb => by
   obtain ⟨f0, f1⟩ := hf b hb
   obtain ⟨o, ho, _⟩ := Tn.obj 0 _ st b hb
   have qg := amy ho
   refine ⟨⟨by rw [aH (am7 qg)]; exact f0, f1⟩, ?_⟩
   rw [Heap.size_push]; exact Nat.lt_succ_of_lt qg
 have st3 : tn 0 (s.heap.push { cls := .type "list", dict := none, data := .seq ([] : List Value).toArray }) := Tn.keep 0 _ _ st fun b _ o e => amw _ e
 generalize hs3 : ({ s with heap := s.heap.push { cls := .type "list", dict := none, data := .seq ([] : List Value).toArray } } : Shared) = s3 at I3 ⊢
 have hh3 : s3.heap = s.heap.push { cls := .type "list", dict := none, data := .seq ([] : List Value).toArray } := by rw [← hs3]
 rw [← hh3] at RM st3
 refine wpAny_newFunctionEnv sc.DP (by intro y hy; simp at hy) (fun h₁ aa0 aa1 => ?_) sc.kind
 have old : ∀ b o, s3.heap.get? b = some o -> h₁.get? b = some o := fun b o e => (aa1.2 b (am7 (amy e))).trans (amw _ e)
 have J0 := HD (tk := s3.toks + ([] : List (Str × Value)).length) sc I3 RM aa0 old
 have st4 : tn 0 h₁ := Tn.keep 0 _ _ st3 fun b _ o e => old b o e
 have Ze : ∀ s4 : Shared, s4 = { s3 with heap := h₁, toks := s3.toks + ([] : List (Str × Value)).length } -> codeAny (model X.prog X.w) X.A (.compLoop (.ListComp elt [⟨tg, iter, ifs, 0⟩] scope pos) 0 (.ref it) (.ref s.heap.objs.size) (compEnvC scope (jb X.env scope.names []) s3.heap.objs.size X.env)) (RR (.ref s.heap.objs.size) s3.heap.objs.size) s4 := by
   rintro s4 rfl
   have stat : ∀ {H' : Hp}, (∀ b ∈ fp, H' b = none) -> ∀ b ∈ fp, yI (fh X scope Nc s3.heap.objs.size s3 (upd H s.heap.objs.size (.lst [])) fp) [] H' b := fun {H'} hn b hb => by
     obtain ⟨⟨f0, f1, f2, f3, f4, f5⟩, qg⟩ := RM b hb
     refine ⟨hn b hb, am7 qg, fun z => ?_, .inl hb, fun y c e => f4 y c (t8 (fun y hy e => I.ok.has y.1 (sc.frees y hy e).2) (fun _ _ z => by cases z) e), fun p hp => absurd (show p ∈ ([] : List (Addr × Obj)) from hp) (by simp)⟩
     rcases amf.mp (I3.Dw b z) with q | q
     . exact f1 q
     . exact f2 q
   refine DN (fun n s' => ∃ i o H', o.length = xs.length /\ Inv (fh X scope Nc s3.heap.objs.size s3 (upd H s.heap.objs.size (.lst [])) fp) [] (O4 σ ix o) H' s' /\ tn i s'.heap /\ (∀ b ∈ fp, H' b = none) /\ W i n H') ?_ m0 ⟨0, _, _, anA, J0, st4, fun b hb => (RM b hb).1.1, w0⟩
   rintro n s5 ⟨i, o5, H5, ol5, I5, st5, fr5, w5⟩
   rcases turn i n H5 w5 with ⟨stop, g⟩ | ⟨go, N, hN, step⟩
   . refine gH (Tn.done (fh X scope Nc s3.heap.objs.size s3 (upd H s.heap.objs.size (.lst [])) fp) rfl rfl rfl hc i [] s5 _ H5 _ I5 (stat fr5) st5 stop) fun r s6 zz => ?_
     obtain ⟨hr, I6⟩ := zz
     subst hr
     obtain ⟨m6, hn6, _⟩ := I6.loc
     obtain ⟨oc, esc, epc, hoc, hdc, _⟩ := id hn6
     have fpC := I3.JS (amu s3.heap.objs.size) (H' := fun _ => none) rfl
     refine hRR _ _ s6 H5 ⟨m6, hn6⟩ ⟨oc, hoc, fun v z => by rw [hdc] at z; cases z⟩ I6.free ⟨fpC.2.1, fpC.2.2.1, ?_, fpC.2.2.2.2.1, fpC.2.2.2.2.2⟩ (fun h' hs' => OY I3 (fun b hb => (RM b hb).1) I6 hs') g
     exact I3.sz
   . refine gH (Tn.item (fh X scope Nc s3.heap.objs.size s3 (upd H s.heap.objs.size (.lst [])) fp) rfl rfl rfl hc i [] s5 _ H5 _ I5 (stat fr5) st5 go) fun r s6 zz => ?_
     obtain ⟨u, hr, h6⟩ := zz
     subst hr
     refine gH h6 fun _ s7 zz => ?_
     obtain ⟨xv, H7, I7, r7, y7, st7, fr7⟩ := zz
     have I7' := I7.pinned (stat fr7) (Tn.obj _ _ st7)
     obtain ⟨t, hg, ht⟩ := step xv _ y7 s3.heap.objs.size s3 (upd H s.heap.objs.size (.lst [])) fp o5 ol5
     refine gH (hg _ s7 _ H7 xv u _ I7' r7 ht) fun _ s8 zz => ?_
     obtain ⟨σ8, H8, I8, os8, ol8, e8, h8⟩ := zz
     subst e8
     refine gH (Rr I8 h8 rfl) fun ok s9 zz => ?_
     obtain ⟨H9, I9, q9⟩ := zz
     have again : ∀ {Ha : Hp} {sa : Shared}, Inv (fh X scope Nc s3.heap.objs.size s3 (upd H s.heap.objs.size (.lst [])) fp) ([] ++ zM fp s7.heap) (O4 σ ix os8) Ha sa -> N Ha -> ∃ m, m < n /\ ∃ i o H', o.length = xs.length /\ Inv (fh X scope Nc s3.heap.objs.size s3 (upd H s.heap.objs.size (.lst [])) fp) [] (O4 σ ix o) H' sa /\ tn i sa.heap /\ (∀ b ∈ fp, H' b = none) /\ W i m H' := fun {Ha sa} Ia na => by
       obtain ⟨m', hm, wa⟩ := hN Ha na
       refine ⟨m', hm, i + 1, os8, Ha, ol8, Ia.uP, Tn.keep _ _ _ st7 fun b hb o e => (Ia.pin (b, o) (amh _ (amh _ (oj hb e)))).1, fun b hb => ?_, wa⟩
       obtain ⟨o, e, d⟩ := Tn.obj _ _ st7 b hb
       exact (Ia.pin (b, o) (amh _ (amh _ (oj hb e)))).2.1
     cases ok with
     | false =>
       rw [amk amv] at q9 ⊢
       exact again I9 q9
     | true =>
       rw [amo rfl] at q9 ⊢
       refine gH (q9 _ s9 I9) fun v sa zz => ?_
       obtain ⟨y, Ha, Ia, ra, acc, DT, hlen, na⟩ := zz
       refine gH (xj (X := fh X scope Nc s3.heap.objs.size s3 (upd H s.heap.objs.size (.lst [])) fp) _ sa _ Ha (.ref s.heap.objs.size) [y] (.ref s.heap.objs.size) [v] (fun _ Hb => Hb = upd Ha s.heap.objs.size (.lst (acc ++ [y]))) Ia rfl (.cons ra .nil) ⟨_, acc, y, rfl, rfl, DT, hlen, rfl⟩) fun _ sb zz => ?_
       obtain ⟨_, Hb, Ib, _, eb⟩ := zz
       subst eb
       exact again Ib na
 exact codeAny_compStart_list (Ze _ rfl) (Tn.self _ 0 _ _ _ st4 (Ze _ rfl))
end
noncomputable def O5 (ps : List D) : List (Option T) := ps.map fun p => some (.sh p)
theorem CJ : ∀ {ys : List V} {os : List (Option V)} {pre r : L2.St}, os.length = ys.length -> CH (pre ++ (os ++ r)) (List.range' pre.length ys.length) ys = pre ++ (ys.map some ++ r)
 | [], os, pre, r, h => by
   have : os = [] := List.length_eq_zero_iff.mp h
   subst this
   rfl
 | y :: ys, os, pre, r, h => by
   match os, h with
   | o :: os, h =>
     show CH ((pre ++ (o :: (os ++ r))).set pre.length (some y)) (List.range' (pre.length + 1) ys.length) ys = _
     rw [List.set_append_right _ _ (amu _), Nat.sub_self, List.set_cons_zero]
     have := CJ (ys := ys) (os := os) (pre := pre ++ [some y]) (r := r) (by simpa using h)
     simp only [amj, amA, List.length_nil, aml, List.singleton_append] at this
     rw [this]
     simp
theorem Wf {K : PySem.W.Frag} {CL : Str -> Addr} {H Z : Hp} : ∀ {ps : List D} {ys : List V} {δc : List (Option T)} {σc : L2.St}, aJ K CL Z ps ys -> iz K CL H Z δc σc [] -> iz K CL H Z (O5 ps ++ δc) (ys.map some ++ σc) [] := fun {ps ys δc σc} h e =>
 aJ.ind (P := fun ps ys => iz K CL H Z (O5 ps ++ δc) (ys.map some ++ σc) []) e (fun r _ i => .cons (fp := []) (gp := []) (.sh r) i) h
section
variable {X : Cx} {CL : Str -> Addr} {b : Bx} {H Z W1 : Hp} {δ δc : List (Option T)} {σ : L2.St} {ts : List T} {vs : List V} {ds : List D} {scope : Scope} {Nc : List Str} {n : Nat} {ix : List Nat} {elt tg : Expr} {ifs : List Expr} {p : D -> Bool} {g : D -> T} {J : It} {parts : D -> Option (List D)}
noncomputable def xu (X : Cx) (CL : Str -> Addr) (scope : Scope) (Nc : List Str) (n : Nat) (tg : Expr) (parts : D -> Option (List D)) (ifs : List Expr) (elt : Expr) (δc : List (Option T)) (ds : List D) (p : D -> Bool) (g : D -> T) : Prop :=
 ∀ C s0 H0 f0 b', Tgt (fh X scope Nc C s0 H0 f0) CL tg (List.range' 0 n) parts /\ ∀ d, d ∈ ds -> ∃ ps, parts d = some ps /\ ps.length = n /\ TIv (fh X scope Nc C s0 H0 f0) CL b' ifs (O5 ps ++ δc) (p d) /\ (p d = true -> dB (fh X scope Nc C s0 H0 f0) CL b' elt (O5 ps ++ δc) (g d) (O5 ps ++ δc))
structure GW (K : PySem.W.Frag) (CL : Str -> Addr) (H W1 : Hp) (D : Addr) (l : List T) (k : Nat) (H2 Z2 : Hp) (JL : List V) (fp : List Addr) : Prop where
 a1 : aV H H2
 a2 : aV W1 Z2
 a3 : aV Z2 H2
 a4 : Z2 D = none
 a5 : ∀ a o, Z2 a = some o -> W1 a = none -> H a = none
 a6 : ∀ a o, H2 a = some o -> qf o = true -> Z2 a = some o
 a7 : H2 D = some (.lst JL)
 a8 : bz K CL H2 Z2 l JL fp
 a9 : fp.Nodup
 b1 : D ∉ fp
 b2 : ∀ a ∈ fp, Z2 a = none /\ H a = none
 b3 : JL.length <= k
theorem zX (S : dz X.K CL b H Z δ σ ts vs) (zw : aV Z W1) (wh : aV W1 H) (tp : ∀ a o, H a = some o -> qf o = true -> W1 a = some o)
   (cap : ∀ H', iz X.K CL H' W1 δc (ix.map fun i => (σ[i]?).getD none) []) (inner : xu X CL scope Nc n tg parts ifs elt δc ds p g)
   (Kf : ∀ i H2, aV W1 H2 -> i < ds.length -> J.go i H2)
   (hy : ∀ i Z2 H2 x H', aV W1 Z2 -> aV Z2 H2 -> (∀ a o, H2 a = some o -> qf o = true -> Z2 a = some o) -> i < ds.length -> J.Y0 i H2 x H' -> ∃ Z3 d, ds[i]? = some d /\ HC Z2 H2 Z3 H' /\ c9 X.K CL Z3 d x)
   (BG : ∀ H2, aV W1 H2 -> J.stop ds.length H2) (hlen : ds.length <= sizeLine) (c : W1 = Z \/ ∀ d ∈ ds, (g d).clean = true) :
   ∀ D, H D = none -> ∃ W : Nat -> Nat -> Hp -> Prop, (∃ m, W 0 m (upd H D (.lst []))) /\ ∀ i m H2, W i m H2 -> (J.stop i H2 /\ ∃ Z2, aV Z Z2 /\ aV H H2 /\ dz X.K CL b H2 Z2 δ σ (.lst ((ds.filter p).map g) :: ts) (.ref D :: vs)) ∨
     (J.go i H2 /\ ∃ N : Hp -> Prop, (∀ H', N H' -> ∃ m', m' < m /\ W (i + 1) m' H') /\ ∀ xv H3, J.Y0 i H2 xv H3 -> ∀ C s0 H0 f0 os, os.length = n -> RK (fh X scope Nc C s0 H0 f0) tg elt ifs n σ ix D N xv os H3) := by
 intro D hD
 have wD : W1 D = none := wh.free hD
 refine ⟨fun i m H2 => m = ds.length - i /\ i <= ds.length /\ ∃ Z2 JL fp, GW X.K CL H W1 D (((ds.take i).filter p).map g) i H2 Z2 JL fp, ⟨ds.length, rfl, amO _, W1, [], [], aV.upd hD, .refl _, wh.trans (aV.upd hD), wD, fun a o q z => ?_, fun a o q i => ?_, bW, .nil, List.nodup_nil, by simp, by simp, by simp⟩, ?_⟩
 . rw [q] at z; cases z
 . by_cases ha : a = D
   . subst ha; rw [bW] at q; cases q; cases i
   . rw [aH ha] at q; exact tp a o q i
 . rintro i m H2 ⟨rfl, hi, Z2, JL, fp, hh, wz, zh, zD, nw, tp2, hD2, ra, nd, nD, own, hav⟩
   by_cases qg : i < ds.length
   . refine .inr ⟨Kf i H2 (wz.trans zh) qg, fun H' => ∃ Z2 JL fp, GW X.K CL H W1 D (((ds.take (i + 1)).filter p).map g) (i + 1) H' Z2 JL fp, fun H' h => ⟨ds.length - (i + 1), by omega, rfl, qg, h⟩, fun xv H3 y C s0 H0 f0 os Wg => ?_⟩
     obtain ⟨Z3, d, hd, gr, rd⟩ := hy i Z2 H2 xv H3 wz zh tp2 qg y
     have aa3 : ∀ a, Z2 a = none -> (∃ o, H2 a = some o) -> Z3 a = none := fun a e ⟨o, e2⟩ => by
       cases q : Z3 a with
       | none => rfl
       | some u => rw [gr.new a u q e] at e2; cases e2
     have nw3 : ∀ a o, Z3 a = some o -> W1 a = none -> H a = none := fun a o q z => by
       cases e : Z2 a with
       | none => exact hh.free (gr.new a o q e)
       | some u =>
         have := gr.z a u e
         rw [q] at this; cases this
         exact nw a o e z
     have ra3 : bz X.K CL H3 Z3 (((ds.take i).filter p).map g) JL fp := ra.mono gr.z fun a ha => by
       obtain ⟨o, e⟩ := ra.there a ha
       rw [e]; exact gr.h a o e
     have ow3 : ∀ a ∈ fp, Z3 a = none /\ H a = none := fun a ha => ⟨aa3 a (own a ha).1 (ra.there a ha), (own a ha).2⟩
     have zD3 : Z3 D = none := aa3 D zD ⟨_, hD2⟩
     have Zf : H3 D = some (.lst JL) := gr.h D _ hD2
     have hh3 := hh.trans gr.h
     have wz3 := wz.trans gr.z
     have zh3 := gr.zh
     have tp3 := gr.tp
     clear own nw ra zD hD2 hh wz zh tp2 gr aa3
     have ua : d ∈ ds := anv hd
     have tF : ds.take (i + 1) = ds.take i ++ [d] := by rw [anV, hd]; rfl
     obtain ⟨tgt, inn⟩ := inner C s0 H0 f0 ⟨H3, Z3⟩
     obtain ⟨ps, hps, hpl, it, ie⟩ := inn d ua
     obtain ⟨t, pg, ht⟩ := tgt
     refine ⟨t, pg, ht Z3 H3 d ps xv _ _ zh3 rd hps fun ys rys => ?_⟩
     have hyl : ys.length = n := by rw [← rys.length]; exact hpl
     have es : CH (O4 σ ix os) (List.range' 0 n) ys = O4 σ ix (ys.map some) := by
       have := CJ (ys := ys) (os := os) (pre := []) (r := ix.map fun i => (σ[i]?).getD none) (by rw [Wg, hyl])
       rw [hyl] at this
       exact this
     refine ⟨ys.map some, by rw [amc]; exact hyl, es, ?_⟩
     rw [es]
     have S0 : dz X.K CL ⟨H3, Z3⟩ H3 Z3 (O5 ps ++ δc) (O4 σ ix (ys.map some)) [] [] :=
       ⟨⟨[], [], Wf rys ((cap H3).mono wz3 fun a ha => by cases ha), .nil, List.nodup_nil, fun a ha => by cases ha⟩, .refl _, .refl _, zh3, fun a o q z => (by have z' : Z3 a = none := z; rw [show Z3 a = some o from q] at z'; cases z'), tp3, (S.aaA.mono zw).mono wz3⟩
     refine it.sem S0 fun H4 Z4 z4 k4 S4 => ?_
     have ahU : ∀ a ∈ fp, H4 a = H3 a := fun a ha => by
       obtain ⟨o, e⟩ := ra3.there a ha
       rw [e]; exact k4 a o e
     have RN : ∀ a, Z3 a = none -> (∃ o, H3 a = some o) -> Z4 a = none := fun a e ⟨o, e2⟩ => by
       cases q : Z4 a with
       | none => rfl
       | some u =>
         have := S4.new a u q e
         rw [show H3 a = none from this] at e2; cases e2
     cases hp : p d with
     | false =>
       refine J5 ⟨Z4, JL, fp, hh3.trans k4, wz3.trans z4, S4.zh, RN D zD3 ⟨_, Zf⟩, fun a o q z => ?_, S4.tp, k4 D _ Zf, ?_, nd, nD, fun a ha => ⟨RN a (ow3 a ha).1 (ra3.there a ha), (ow3 a ha).2⟩, by omega⟩
       . cases e : Z3 a with
         | none => exact hh3.free (S4.new a o q e)
         | some u => 
           have := z4 a u e
           rw [q] at this; cases this
           exact nw3 a o e z
       . rw [tF, anh, aot (by simp [hp]), an2, amF]
         exact ra3.mono z4 ahU
     | true =>
       refine J6 ((ie hp) H4 Z4 (O4 σ ix (ys.map some)) [] [] _ S4 fun yv H5 Z5 z5 k5 S5 => ⟨JL, k5 D _ (k4 D _ Zf), by omega, ?_⟩)
       obtain ⟨f1, g1, e1, r1, Y7, aeR⟩ := S5.rep
       cases r1 with
       | @cons _ _ _ _ fy fn ry rn =>
         cases rn
         rw [amF] at Y7 aeR
         have ndy : fy.Nodup := (am4.mp Y7).2.1
         have Wh : ∀ a ∈ fy, Z5 a = none /\ H3 a = none := fun a ha => aeR a (amh _ ha)
         have Kg : ∀ a, Z3 a = none -> (∃ o, H3 a = some o) -> Z5 a = none := fun a e ⟨o, e2⟩ => by
           cases q : Z5 a with
           | none => rfl
           | some u =>
             have := S5.new a u q e
             rw [show H3 a = none from this] at e2; cases e2
         have yD : ∀ a ∈ fy, a ≠ D := fun a ha e => by
           subst e
           rw [(Wh a ha).2] at Zf; cases Zf
         have h5D : H5 D = some (.lst JL) := k5 D _ (k4 D _ Zf)
         have sD : aV H (upd H5 D (.lst (JL ++ [yv]))) := fun a o q => by
           rw [aH (cG q hD)]
           exact k5 a o (k4 a o (hh3 a o q))
         refine ⟨Z5, JL ++ [yv], fp ++ fy, sD, wz3.trans (z4.trans z5), fun a o q => ?_, Kg D zD3 ⟨_, Zf⟩, fun a o q z => ?_, fun a o q im => ?_, bW, ?_, ?_, ?_, fun a ha => ?_, ?_⟩
         . rw [aH (cG q (Kg D zD3 ⟨_, Zf⟩))]; exact S5.zh a o q
         . cases e : Z3 a with
           | none => exact hh3.free (S5.new a o q e)
           | some u =>
             have := z5 a u (z4 a u e)
             rw [q] at this; cases this
             exact nw3 a o e z
         . by_cases ha : a = D
           . subst ha; rw [bW] at q; cases q; cases im
           . rw [aH ha] at q; exact S5.tp a o q im
         . rw [tF, anh, aou hp, an2, amR]
           refine bz.app (ra3.mono (z4.trans z5) fun a ha => ?_) (by
             have := bz.cons (fp := fy) (gp := []) (ry.mono (.refl _) fun a ha => aH (yD a ha)) (bz.nil (H := upd H5 D (.lst (JL ++ [yv]))) (Z := Z5))
             rwa [amF] at this)
           have : a ≠ D := fun e => nD (e ▸ ha)
           rw [aH this]
           obtain ⟨o, e⟩ := ra3.there a ha
           rw [e]; exact k5 a o (k4 a o e)
         . refine am4.mpr ⟨nd, ndy, fun a ha a' Rj e => ?_⟩
           subst e
           obtain ⟨o, e⟩ := ra3.there a ha
           rw [(Wh a Rj).2] at e; cases e
         . intro h
           rcases amn.mp h with h | h
           . exact nD h
           . exact yD D h rfl
         . rcases amn.mp ha with h | h
           . exact ⟨Kg a (ow3 a h).1 (ra3.there a h), (ow3 a h).2⟩
           . exact ⟨(Wh a h).1, hh3.free (Wh a h).2⟩
         . rw [amj, anf]; omega
   . have e : i = ds.length := by omega
     subst e
     refine .inl ⟨BG H2 (wz.trans zh), ?_⟩
     rw [amP] at ra
     obtain ⟨Z', z', S'⟩ := S.back (H' := H2) (W := W1) (W' := Z2) (t := .lst ((ds.filter p).map g)) (v := .ref D) (fp := D :: fp) hh zw wz zh nw tp2 (.lst hD2 ra) (anr.mpr ⟨nD, nd⟩) (fun a ha => by
       rcases amf.mp ha with h | h
       . subst h; exact ⟨zD, hD⟩
       . exact own a h) (c.imp id fun c => by
         rw [rV]
         exact zW fun d hd => c d (amK.mp hd).1)
     exact ⟨Z', z', hh, S'⟩
end
section
variable {X : Cx} {CL : Str -> Addr} {b : Bx} {δ δ1 : List (Option T)} {scope : Scope} {xs : List Str} {Nc : List Str} {ix : List Nat} {elt iter tg : Expr} {ifs : List Expr} {pos : Pos} {ds : List D} {p : D -> Bool} {g : D -> T} {δc : List (Option T)} {parts : D -> Option (List D)}
theorem CK {J : It} {fp : List Addr} {it : Addr} {tn : Nat -> Heap -> Prop} {pins : List (Addr × Obj)} {σ : L2.St} {H H1 Z : Hp} {s : Shared} {ts : List T} {vs : List V} {RR : Value -> Addr -> Result -> Shared -> Prop} {E : Value -> Shared -> Prop}
   (sc : ow X scope xs Nc ix) (hc : X.calm = true) (C : DS X CL b δ1 σ ts vs Z H ds J H1) (I : L2.Inv X pins σ H1 s) (Tn : Turn X.prog X.w X.K tg J fp it tn) (st : tn 0 s.heap) (hf : ∀ b ∈ fp, yI X pins H1 b)
   (hb : (δc = Ht δ1 ix /\ ∀ d ∈ ds, (g d).clean = true) \/ δc = Hu δ1 ix) (inner : xu X CL scope Nc xs.length tg parts ifs elt δc ds p g) (hlen : ds.length <= sizeLine)
   (hRR : ∀ D C s' H' Z', (∃ m, s'.heap.Ns C m) -> (∃ o, s'.heap.get? C = some o /\ ∀ v, o.data ≠ .cell v) -> H' C = none -> (C ≠ X.env.locals /\ C ∉ X.fs /\ X.s₀.heap.objs.size <= C /\ (∀ y c, X.env.cells.lookup y = some c -> c ≠ C) /\ ∀ q ∈ X.pn ++ pins, q.1 ≠ C) -> (∀ h', Heap.SameBut C s'.heap h' -> L2.Inv X pins σ H' { s' with heap := h' }) -> aV Z Z' -> aV H H' -> dz X.K CL b H' Z' δ1 σ (.lst ((ds.filter p).map g) :: ts) (.ref D :: vs) -> RR (.ref D) C (.ok .next) s') :
   wpAny (model X.prog X.w) X.A (newList []) (fun acc s₃ => wpAny (model X.prog X.w) X.A (newFunctionEnv scope X.env.globals (jb X.env scope.names []) [] X.env.qual none .none (some X.env)) (fun RL s₄ =>
     codeAny (model X.prog X.w) X.A (.compStart (.ListComp elt [⟨tg, iter, ifs, 0⟩] scope pos) 0 (.ref it) acc { RL with scope := relabel scope X.env }) (RR acc RL.locals) s₄) E s₃) E s := by
 obtain ⟨Z1, z1, k1, S1, go, yl, stp⟩ := C.ex
 have lp : ∀ D, H1 D = none -> ∃ W : Nat -> Nat -> Hp -> Prop, (∃ m, W 0 m (upd H1 D (.lst []))) /\ ∀ i m H2, W i m H2 -> (J.stop i H2 /\ ∃ Z2, aV Z1 Z2 /\ aV H1 H2 /\ dz X.K CL b H2 Z2 δ1 σ (.lst ((ds.filter p).map g) :: ts) (.ref D :: vs)) ∨
     (J.go i H2 /\ ∃ N : Hp -> Prop, (∀ H', N H' -> ∃ m', m' < m /\ W (i + 1) m' H') /\ ∀ xv H3, J.Y0 i H2 xv H3 -> ∀ C s0 H0 f0 os, os.length = xs.length -> RK (fh X scope Nc C s0 H0 f0) tg elt ifs xs.length σ ix D N xv os H3) := by
   rcases hb with ⟨e, cl⟩ | e
   . subst e
     exact zX (W1 := H1) S1 S1.zh (.refl _) (fun _ _ q _ => q) (Hv S1 ix) inner (fun i H2 s => go i H2 (S1.zh.trans s)) (fun i Z2 H2 y H' s => yl i Z2 H2 y H' (S1.zh.trans s)) (fun H2 s => stp H2 (S1.zh.trans s)) hlen (.inr cl)
   . subst e
     exact zX (W1 := Z1) S1 (.refl _) S1.zh S1.tp (Hw S1 ix) inner go yl stp hlen (.inl rfl)
 exact Ke sc hc I Tn st hf lp fun D C s' H' m io nC ch ci ⟨Z', z', k', S'⟩ => hRR D C s' H' Z' m io nC ch ci (z1.trans z') (k1.trans k') S'
theorem yr (sc : ow X scope xs Nc ix) {pins : List (Addr × Obj)} {σ : L2.St} {H : Hp} {s : Shared} (I : L2.Inv X pins σ H s) : closureFor scope X.env = pure (jb X.env scope.names []) :=
 BK fun y hy e => I.ok.has y.1 (sc.frees y hy e).2
theorem zY (sc : ow X scope xs Nc ix) (hc : X.calm = true) (h : GIt X CL b tg iter δ ds δ1) (hb : (δc = Ht δ1 ix /\ ∀ d ∈ ds, (g d).clean = true) \/ δc = Hu δ1 ix) (inner : xu X CL scope Nc xs.length tg parts ifs elt δc ds p g) (hlen : ds.length <= sizeLine)
   (hs : ∀ x, foldedSetIterable iter X.env x = pure x := by intro _; rfl) : dB X CL b (.ListComp elt [⟨tg, iter, ifs, 0⟩] scope pos) δ (.lst ((ds.filter p).map g)) δ1 := fun H Z σ ts vs Q S k pins s I => by
 obtain ⟨wi, pi, hw⟩ := h
 rw [eval_ListComp]
 refine wpAny_comprehension_free (use := none) rfl hs (yr sc I) sc.kind sc.names ?_
 refine gH (pi pins s σ H _ I (hw H Z σ ts vs (fun J H1 => DS X CL b δ1 σ ts vs Z H ds J H1) S fun J H1 C => C)) fun v s1 h1 => gH h1 fun itv s2 zz => ?_
 obtain ⟨it, fp, tn, J, H1, e, I1, Tn, st, hf, C⟩ := zz
 subst e
 refine CK (RR := fun acc C => compPost (model X.prog X.w) X.A X.xe none (EP X pins σ Q) acc C) sc hc C I1 Tn st hf hb inner hlen fun D C' s' H' Z' m io nC ch ci z' k' S' => ?_
 obtain ⟨m, hn⟩ := m
 exact ⟨m, hn, fun h' hs' => ⟨.ref D, H', ci h' hs', rfl, k _ H' Z' z' k' S'⟩⟩
theorem Wi {D : fc} {y : Str} {py aeS : Pos} (i : Nat) (sc : ow X scope xs Nc ix) (hc : X.calm = true) (h : GIt X CL b tg iter δ ds δ1) (hb : (δc = Ht δ1 ix /\ ∀ d ∈ ds, (g d).clean = true) \/ δc = Hu δ1 ix) (inner : xu X CL scope Nc xs.length tg parts ifs elt δc ds p g) (hlen : ds.length <= sizeLine)
   (k : D.nx (δ1.set i (some (.lst ((ds.filter p).map g))))) (hl : i < δ1.length) (hN : X.N.Nodup) (hi : X.N[i]? = some y) (hx : Loc X.env.scope y) (hf' : X.fn y = true \/ X.env.scope.names.lookup y = some .local)
   (BL : swapsWith (.ListComp elt [⟨tg, iter, ifs, 0⟩] scope pos) (some (.Name y py)) aeS.line X.env = pure true)
   (hs : ∀ x, foldedSetIterable iter X.env x = pure x := by intro _; rfl) : VX X CL b (.Assign [.Name y py] (.ListComp elt [⟨tg, iter, ifs, 0⟩] scope pos) aeS) δ D := fun H Z σ ts vs E S M pins s I => by
 obtain ⟨wi, pi, hw⟩ := h
 rw [exec_Assign_Name_used _ _ _ _ BL]
 refine amG (wpAny_standAt (amG ?_))
 show wpAny _ X.A (do let _ ← comprehension (.ListComp elt [⟨tg, iter, ifs, 0⟩] scope pos) scope X.env _ (newList []) false (eval iter X.env) (some (assign (.Name y py) X.env))) _ _ s
 refine amG (anW (wpAny_comprehension_free (use := some (assign (.Name y py) X.env)) (Q := fun _ s' => SP X pins E .next s') rfl hs (yr sc I) sc.kind sc.names ?_) (fun _ s' hq => ang (ang hq)) fun _ _ e => e)
 refine gH (pi pins s σ H _ I (hw H Z σ ts vs (fun J H1 => DS X CL b δ1 σ ts vs Z H ds J H1) S fun J H1 C => C)) fun v s1 h1 => gH h1 fun itv s2 zz => ?_
 obtain ⟨it, fp, tn, J, H1, e, I1, Tn, st, hf, C⟩ := zz
 subst e
 refine CK (RR := fun acc C => compPost (model X.prog X.w) X.A X.xe (some (assign (.Name y py) X.env)) (fun _ s' => SP X pins E .next s') acc C) sc hc C I1 Tn st hf hb inner hlen fun D' C' s' H' Z' m io nC ch ci z' k' S' => ?_
 obtain ⟨m, hn⟩ := m
 obtain ⟨o, ho, Cq⟩ := io
 have I' : L2.Inv X pins σ H' s' := ci s'.heap (.refl ..)
 have I2 : L2.Inv X (pins ++ [(C', o)]) σ H' s' := I'.yS fun q hq => by
   rcases amn.mp hq with z | z
   . exact I'.pin q (amh _ z)
   . have e : q = (C', o) := by simpa using z
     subst e
     exact ⟨ho, nC, ch.1, ch.2.1, Cq⟩
 show wpAny _ X.A (assign (.Name y py) X.env (.ref D')) _ _ s'
 have hg : PG X (.Name y py) (yi i) := uO hN hi hx hf'
 refine gH (hg _ s' σ H' (.ref D') (.ref D') (fun σ8 H8 => σ8 = σ.set i (some (.ref D')) /\ H8 = H') I2 rfl ⟨rfl, rfl⟩) fun _ s8 zz => ?_
 obtain ⟨σ8, H8, I8, e8, e8'⟩ := zz
 subst e8
 subst e8'
 obtain ⟨hC8, nC8, _⟩ := I8.pin (C', o) (amh _ (amh _ (by simp)))
 refine ⟨m, hn.at' fun o' e' => by rw [ho] at e'; cases e'; exact hC8, fun h' hs' => ?_⟩
 have I9 : L2.Inv X pins (σ.set i (some (.ref D'))) _ s8 := I8.yS fun q hq => I8.pin q (amh _ (ams _ hq))
 have I10 := I9.turned (it := C') (h' := h') (t' := s8.toks) (fun b o hb e => (hs'.2 b hb).trans e) nC8 ch.1.symm.symm (.inr ch.2.2.1) ch.2.2.2.1 ch.2.2.2.2
 exact ⟨_, _, I10, M.nx _ _ _ Z' z' (S'.set hl) k⟩
theorem aa5 {D : fc} {i9 : List Stmt} {i : Nat} {x : Str} {pos' pc : Pos} (gx : Gx X) (n : Ln X i x) (sc : ow X scope xs Nc ix) (h : GIt X CL b tg iter δ ds δ1)
   (hb : (δc = Ht δ1 ix /\ ∀ d ∈ ds, (g d).clean = true) \/ δc = Hu δ1 ix) (inner : xu X CL scope Nc xs.length tg parts ifs elt δc ds p g) (hlen : ds.length <= sizeLine) (k : iI X CL b i9 (δ1.set i (some (.lst ((ds.filter p).map g)))) D) (hl : i < δ1.length)
   (BL : swapsWith (.ListComp elt [⟨tg, iter, ifs, 0⟩] scope pc) (some (.Name x pos')) pos.line X.env = pure true \/ swapsWith (.ListComp elt [⟨tg, iter, ifs, 0⟩] scope pc) (some (.Name x pos')) pos.line X.env = pure false) (hs : ∀ x, foldedSetIterable iter X.env x = pure x := by intro _; rfl) :
   iI X CL b (.Assign [.Name x pos'] (.ListComp elt [⟨tg, iter, ifs, 0⟩] scope pc) pos :: i9) δ D := by
 rcases BL with BL | BL
 . exact fC (Wi i sc gx.calm h hb inner hlen k hl gx.nd n.hi n.loc n.hf BL hs)
 . exact fC (Rq i (zY sc gx.calm h hb inner hlen hs) k hl gx.nd n.hi n.loc BL n.hf)
noncomputable def gOk (scope : Scope) (xs qs : List Str) : Bool :=
 scope.kind == .function && xs.all (fun y => scope.names.lookup y == some .local) && qs.all (fun y => scope.names.lookup y == some .free) && decide ((xs ++ qs).Nodup) &&
   scope.names.all fun y => y.2 != .cell && (y.2 != .local || scope.names.lookup y.1 == some .local) && (y.2 != .free || (qs.contains y.1 && scope.names.lookup y.1 == some .free))
theorem Wj {qs : List Str} (c : Rz X ix qs) (ok : gOk scope xs qs = true) : ow X scope xs (xs ++ qs) ix := by
 unfold gOk at ok
 simp only [amD, anw, amY, aop] at ok
 obtain ⟨⟨⟨⟨h1, h2⟩, h3⟩, h4⟩, h5⟩ := ok
 have kc : ∀ y ∈ qs, X.env.kindOf y = some .cell \/ X.env.kindOf y = some .free := by
   clear h3 h4 h5
   induction c with
   | nil => intro y hy; cases hy
   | cons n k r ih =>
     intro y hy
     rcases amf.mp hy with e | hy
     . subst e; exact k
     . exact ih y hy
 refine ⟨h1, fun y hy e => ?_, h4, fun y hy e => ?_, h2, fun y hy e => ?_, ?_, fun i hi => ?_⟩
 . have := (h5 y hy).1.1
   rw [e] at this
   simp at this
 . have := (h5 y hy).1.2
   rw [e] at this
   simpa using this
 . have := (h5 y hy).2
   rw [e] at this
   simp at this
   exact ⟨this.2, kc _ this.1⟩
 . congr 1
   clear h3 h4 h5 kc
   induction c with
   | nil => rfl
   | cons n k r ih => rw [anF, n.hi, ← ih]
 . clear h4 h5 kc
   induction c with
   | nil => cases hi
   | @cons i' y ix ys n k r ih =>
     rcases amf.mp hi with e | hi
     . subst e; exact ⟨y, n.hi, h3 y ame⟩
     . exact ih (fun z hz => h3 z (ami _ hz)) hi
theorem Kh {i : Nat} {x : Str} {C : Addr} {s : Shared} {H : Hp} {fp : List Addr} (h1 : Nc[i]? = some x) (h2 : scope.names.lookup x = some .local) (hd : (x == ("__debug__" : Str)) = false := by decide) (oh : (x == ("__classdict__" : Str)) = false := by decide) : Ln (fh X scope Nc C s H fp) i x :=
 ⟨ef h1 h2 hd oh, .inl (lookup_relabel_local h2), .inr (lookup_relabel_local h2)⟩
end
noncomputable def Ite (K : PySem.W.Frag) (a : Addr) : It :=
 ⟨fun i H => ∃ xs x, oi K H a xs /\ xs[i]? = some x, fun i H x H' => ∃ T y, H T = none /\ x = .ref T /\ (∀ xs, oi K H a xs -> xs[i]? = some y) /\ H' = upd H T (.tup [.int i, y]), fun i H => ∃ xs, oi K H a xs /\ xs.length <= i⟩
theorem O6 {P : Program} {w : World} {K : PySem.W.Frag} {elts : List Expr} {kk : Nat} {pt : Pos} (a e it : Addr) (qd : e ≠ it) : Turn P w K (.Tuple elts kk pt) (Ite K a) [e, it] e (fun i h => (∃ old, PySem.IsEnum h e it i old) /\ h.IsListIter it a i) where
 mem := by simp
 obj := fun i h st b hb => by
   obtain ⟨⟨old, he⟩, hit⟩ := st
   rcases amf.mp hb with z | z
   . subst z
     exact ⟨_, he, fun v z => by
       have z' : Data.fields _ = Data.cell v := z
       cases z'⟩
   . have z : b = it := by simpa using z
     subst z
     obtain ⟨o, e, c, d⟩ := hit
     exact ⟨o, e, fun v z => by rw [d] at z; cases z⟩
 keep := fun i h h' st k => by
   obtain ⟨⟨old, he⟩, hit⟩ := st
   exact ⟨⟨old, k e (by simp) _ he⟩, hit.at fun o q => k it (by simp) o q⟩
 item := by
   intro X hP hw hK hc i pins s σ H E I hf st hg
   subst hP hw hK
   obtain ⟨xs, x, hq, hx⟩ := hg
   obtain ⟨its, rv, p, hz⟩ := I.list hq
   obtain ⟨u, hu, ru⟩ := rv.get hx
   obtain ⟨⟨old, he⟩, hit⟩ := st
   have fe := hf e (by simp)
   have fi := hf it (by simp)
   have hT0 : H s.heap.objs.size = none := I.iP.fresh (amu _)
   have fT := I.JS (amu s.heap.objs.size) hT0
   refine PySem.wpAny_pyNext_enum_item he hit p.isList (x := u) (by simpa using hu) qd fun h' ho ahW hT Vy hk => ⟨_, rfl, ?_⟩
   refine PySem.wpAny_letOwnedTupleGo_enum ho fun h2 he2 G3 => ?_
   replace G3 : Heap.SameBut e h' h2 := G3
   have eT : e < s.heap.objs.size := amy he
   have keep : ∀ b o, b ≠ e -> b ≠ it -> s.heap.get? b = some o -> h2.get? b = some o := fun b o h1 h3 q => (G3.2 b h1).trans (hk b o h1 h3 q)
   have hT2 : h2.get? s.heap.objs.size = some { cls := .type "tuple", data := .seq #[.int i s.toks, u] } := (G3.2 _ (Nat.ne_of_gt eT)).trans hT
   have nH : ∀ b o, H b = some o -> b ≠ e /\ b ≠ it /\ b ≠ s.heap.objs.size := fun b o q => ⟨fun z => (by rw [z, fe.1] at q; cases q), fun z => (by rw [z, fi.1] at q; cases q), fun z => (by rw [z, hT0] at q; cases q)⟩
   have I' : L2.Inv X pins σ (upd H s.heap.objs.size (.tup [.int i, x])) { s with heap := h2, toks := s.toks + 1 } := by
     refine I.step (g' := s.gens) (d' := s.drawn) (ch := [e, it, s.heap.objs.size]) (fun b hb => ?_) (fun b o _ _ hc q _ => ?_) (fun b o _ _ hc q _ => ⟨o.slots, ?_⟩) (fun b o hc q n => ?_) (fun b o hc q => ⟨o, ?_⟩) (fun b ys q => ?_) (fun b o u q => ?_) (fun b ps q => ⟨#[], ?_⟩) (fun m hm => ?_) (fun b o q => ?_) I.bare
     . rcases amf.mp hb with z | hb
       . subst z; exact ⟨fe.2.2.2.1, fe.2.1, fe.2.2.2.2.1, fe.2.2.2.2.2⟩
       . rcases amf.mp hb with z | hb
         . subst z; exact ⟨fi.2.2.2.1, fi.2.1, fi.2.2.2.2.1, fi.2.2.2.2.2⟩
         . have z : b = s.heap.objs.size := by simpa using hb
           subst z; exact ⟨fT.2.2.2.1, fT.2.1, fT.2.2.2.2.1, fT.2.2.2.2.2⟩
     . exact keep b o (fun z => hc (by simp [z])) (fun z => hc (by simp [z])) q
     . exact keep b o (fun z => hc (by simp [z])) (fun z => hc (by simp [z])) q
     . rw [aH (fun z => hc (by simp [z]))]; exact n
     . exact keep b o (fun z => hc (by simp [z])) (fun z => hc (by simp [z])) q
     . rw [aH (nH b _ q).2.2]; exact q
     . rw [aH (nH b _ q).2.2]; exact q
     . rw [aH (nH b _ q).2.2, q]; simp
     . obtain ⟨o, es, ep, ho, r⟩ := hm
       exact ⟨o, es, ep, keep _ o (anQ fe.2.1) (anQ fi.2.1) ho, r⟩
     . by_cases hb : b = s.heap.objs.size
       . subst hb
         rw [bW] at q
         cases q
         exact ⟨amQ (bQ (amg rfl)), [.int i s.toks, u], .cons ⟨s.toks, rfl⟩ (.cons ru .nil), ⟨_, hT2, rfl, _, rfl⟩⟩
       . rw [aH hb] at q
         refine (I.iP b o q).Ds (fun c v hc z => keep c v ?_ ?_ z) (fun c z => by rw [aH (nH c _ z).2.2]; exact z) (fun c ys z => by rw [aH (nH c _ z).2.2]; exact z) fun c ys z => by rw [aH (nH c _ z).2.2]; exact z
         . rcases hc with z | z
           . rw [z]; exact (nH b _ q).1
           . exact (nH c _ z).1
         . rcases hc with z | z
           . rw [z]; exact (nH b _ q).2.1
           . exact (nH c _ z).2.1
   have ei : ((i + 1 : Nat) : Int) = (i : Int) + 1 := by omega
   refine ⟨.ref s.heap.objs.size, _, I', rfl, ⟨_, x, hT0, rfl, fun ys hy => by rw [I.zL hy hq]; exact hx, rfl⟩, ⟨⟨u, by rw [ei]; exact he2⟩, ahW.at fun o q => (G3.2 it (anQ qd)).trans q⟩, fun b hb => ?_⟩
   have hb' := hf b hb
   obtain ⟨o, Vo, _⟩ : ∃ o, s.heap.get? b = some o /\ True := by
     rcases amf.mp hb with z | z
     . subst z; exact ⟨_, he, trivial⟩
     . have z : b = it := by simpa using z
       subst z
       obtain ⟨o, q, _⟩ := hit
       exact ⟨o, q, trivial⟩
   rw [aH (am7 (amy Vo))]
   exact hb'.1
 done := by
   intro X hP hw hK hc i pins s σ H E I hf st hg
   subst hP hw hK
   obtain ⟨xs, hq, hx⟩ := hg
   obtain ⟨its, rv, p, hz⟩ := I.list hq
   obtain ⟨⟨old, he⟩, hit⟩ := st
   obtain ⟨f0, f1, f2, f3, f4, f5⟩ := hf it (by simp)
   have hl := rv.length
   exact PySem.wpAny_pyNext_enum_end (I.ok.hd hc) he hit p.isList (by simp; omega) fun h' eb => ⟨rfl, I.turned (t' := s.toks) (fun b o hb e => eb b o hb e) f0 f1 f3 f4 f5⟩
 self := fun _ _ _ _ _ st h => by
   obtain ⟨⟨old, he⟩, _⟩ := st
   exact PySem.wpAny_pyIter_enum he h
section
variable {X : Cx} {elts : List Expr} {kk : Nat} {pt : Pos}
noncomputable def aeT (K : PySem.W.Frag) (ta : TA) : TI := fun σ H R => ta σ H fun vs H1 => ∃ a xs, vs = [.ref a] /\ oi K H1 a xs /\ R (Ite K a) H1
theorem Wk {a : Expr} {ta : TA} {p pos : Pos} (hg : Gl X "enumerate") (hm : X.mg "enumerate" = none) (ha : PA X [a] ta) (hs : starEach [a] X.env = (false, eval a X.env) :: starEach [] X.env) : PI X (.Tuple elts kk pt) (.Call (.Name "enumerate" p) [a] [] pos) (aeT X.K ta) := by
 intro pins s σ H R I h
 refine Call_ (mW I hg hm boot_enumerate (anj (gH (ha pos pins s σ H _ I h) fun us s1 zz => ?_) hs rfl))
 obtain ⟨vs, H1, I1, r1, q1⟩ := zz
 obtain ⟨l, xs, e, hq, q⟩ := q1
 subst e
 cases r1 with
 | cons r rr =>
   cases rr
   cases r
   obtain ⟨its, rv, p, hz⟩ := I1.list hq
   refine PySem.call_enumerate_list p.isList fun h' he hit Vy hk => ?_
   have I2 : L2.Inv X pins σ H1 { s1 with heap := h' } := I1.kept (t' := s1.toks) fun b o e => hk b o e
   refine PySem.wpAny_pyIter_enum he ?_
   refine ⟨s1.heap.objs.size + 1, [s1.heap.objs.size + 1, s1.heap.objs.size], _, _, H1, rfl, I2, O6 l _ _ (Nat.succ_ne_self _), ⟨⟨_, he⟩, hit⟩, fun b hb => ?_, q⟩
   rcases amf.mp hb with z | z
   . subst z
     exact I1.JS (anZ _) (I1.iP.fresh (anZ _))
   . have z : b = s1.heap.objs.size := by simpa using z
     subst z
     exact I1.JS (amu _) (I1.iP.fresh (amu _))
end
noncomputable def zZ (ds : List D) : List D := (List.range ds.length).map fun (i : Nat) => .tup [.int i, ds.getD i .non]
theorem xx (ds : List D) : (zZ ds).length = ds.length := by simp [zZ]
theorem O7 {ds : List D} {i : Nat} {d : D} (h : ds[i]? = some d) : (zZ ds)[i]? = some (.tup [.int i, d]) := by
 have hi : i < ds.length := (amH.mp h).1
 unfold zZ
 rw [amT, anp hi]
 show some (D.tup [.int i, ds.getD i .non]) = _
 rw [amd, h]
 rfl
section
variable {X : Cx} {CL : Str -> Addr} {b : Bx} {δ δ1 : List (Option T)} {e : Expr} {ds : List D} {elts : List Expr} {kk : Nat} {pt pr pc : Pos}
theorem Wm (hm : X.mg "enumerate" = none) (h : dB X CL b e δ (.sh (.lst ds)) δ1) (hg : Gl X "enumerate") (hs : starEach [e] X.env = (false, eval e X.env) :: starEach [] X.env := by exact bV rfl) : GIt X CL b (.Tuple elts kk pt) (.Call (.Name "enumerate" pr) [e] [] pc) δ (zZ ds) δ1 := by
 refine ⟨_, Wk hg hm (dc gQ fU hs) hs, fun H Z σ ts vs R S k => h H Z σ ts vs _ S fun v H1 Z1 z1 k1 S1 => ?_⟩
 obtain ⟨fp, gp, _, r, _, _⟩ := S1.rep
 cases r with
 | cons r _ =>
   cases r with
   | sh r =>
     cases r with
     | @lst a us _ hq rr =>
       have hl := rr.length
       refine ⟨a, us, rfl, S1.zh.seq hq, k _ _ ⟨Z1, z1, k1, S1.pop, fun i H2 s hi => ?_, fun i Z2 H2 x H' s1 s2 tp hi hy => ?_, fun H2 s => ?_⟩⟩
       . rw [xx] at hi
         have Nj : i < us.length := by rw [← hl]; exact hi
         exact ⟨us, us[i], s.seq hq, amq Nj⟩
       . rw [xx] at hi
         obtain ⟨T, y, hT, rfl, hx, rfl⟩ := hy
         obtain ⟨d, hd, rd⟩ := rr.VP (hx us ((s1.trans s2).seq hq))
         have gr : HC Z2 H2 _ _ := HC.tup (xs := [.int i, y]) s2 tp hT
         exact ⟨_, _, O7 hd, gr, .tup (Dy.of bW) (.cons (.int _) (.cons ((rd.mono s1).mono gr.z) .nil))⟩
       . rw [xx]
         exact ⟨us, s.seq hq, by rw [← hl]; exact amu _⟩
end
noncomputable def insI (x : Int) : List Int -> List Int
 | [] => [x]
 | y :: l => if x <= y then x :: y :: l else y :: insI x l
noncomputable def sortI : List Int -> List Int
 | [] => []
 | x :: l => insI x (sortI l)
theorem insI_perm (x : Int) : ∀ l, (insI x l).Perm (x :: l)
 | [] => .refl _
 | y :: l => by
   rw [insI]
   split
   . exact .refl _
   . exact ((insI_perm x l).cons y).trans (.swap x y l)
theorem sortI_perm : ∀ l, (sortI l).Perm l
 | [] => .refl _
 | x :: l => (insI_perm x (sortI l)).trans ((sortI_perm l).cons x)
theorem k9 {l : List Int} {x : Int} : x ∈ sortI l ↔ x ∈ l := (sortI_perm l).mem_iff
theorem g9 (l : List Int) : (sortI l).length = l.length := (sortI_perm l).length_eq
theorem yt (x : Int) : ∀ {l : List Int}, l.Pairwise (· <= ·) -> (insI x l).Pairwise (· <= ·)
 | [], _ => anu _ _
 | y :: l, h => by
   rw [insI]
   obtain ⟨h1, h2⟩ := am5.mp h
   split
   . rename_i e
     refine am5.mpr ⟨fun z hz => ?_, h⟩
     rcases amf.mp hz with rfl | hz
     . exact e
     . exact Int.le_trans e (h1 z hz)
   . rename_i e
     refine am5.mpr ⟨fun z hz => ?_, yt x h2⟩
     rcases amf.mp ((insI_perm x l).mem_iff.mp hz) with rfl | hz
     . omega
     . exact h1 z hz
theorem kK : ∀ l, (sortI l).Pairwise (· <= ·)
 | [] => .nil
 | x :: l => yt x (kK l)
theorem yu : ∀ {a b : List Int}, a.Perm b -> a.Pairwise (· <= ·) -> b.Pairwise (· <= ·) -> a = b
 | [], b, p, _, _ => (List.nil_perm.mp p).symm
 | x :: a, [], p, _, _ => absurd p.length_eq (by simp)
 | x :: a, y :: b, p, ha, hb => by
   obtain ⟨a1, a2⟩ := am5.mp ha
   obtain ⟨b1, b2⟩ := am5.mp hb
   have e : x = y := by
     have h1 : x ∈ y :: b := p.mem_iff.mp ame
     have h2 : y ∈ x :: a := p.mem_iff.mpr ame
     rcases amf.mp h1 with e | h1
     . exact e
     . rcases amf.mp h2 with e | h2
       . exact e.symm
       . exact Int.le_antisymm (a1 y h2) (b1 x h1)
   subst e
   rw [yu (List.Perm.cons_inv p) a2 b2]
theorem u9 {l z : List Int} (p : z.Perm l) (s : z.Pairwise (· <= ·)) : z = sortI l := yu (p.trans (sortI_perm l).symm) s (kK l)
theorem RP {l : List Int} (s : l.Pairwise (· <= ·)) : sortI l = l := (u9 (.refl _) s).symm
theorem oz : ∀ {us : List Value} {ns : List Int}, IntsAre us ns -> Vals (ns.map V.int) us
 | _, _, .nil => .nil
 | _, _, .cons n t r => .cons ⟨t, rfl⟩ (oz r)
section
variable {X : Cx}
theorem DU : qj X (.builtin "sorted") (fun xs H Q => ∃ p ns, xs = [.ref p] /\ oi X.K H p (ns.map .int) /\ ns.length < 64 /\ ∀ l, H l = none -> Q (.ref l) (upd H l (.lst ((sortI ns).map .int)))) := by
 intro pins s σ H xs us Q I r h
 obtain ⟨p, ns, rfl, hq, hl, q⟩ := h
 obtain ⟨u, rfl, rx⟩ := vals1 r
 cases rx
 obtain ⟨its, r', pl, hz⟩ := I.list hq
 have hlen := r'.length
 rw [amc] at hlen
 refine sorted_ints pl.isList (intsAre_of r') (by omega) fun out ns' a1 a2 a3 => ?_
 obtain ⟨e, he⟩ := sortedAll_at s.heap its out
 have e2 : ns' = sortI ns := u9 a2 a3
 subst e2
 refine ⟨.ref (s.heap.objs.size + 1), _, I.laid (t' := s.toks) (fun _ _ => sortedAll_old) (anZ _) (show ju X.prog X.w _ _ _ (.lst ((sortI ns).map .int)) from ⟨?_, out.toList, e, oz a1, ?_⟩), rfl, q _ (I.iP.fresh (anZ _))⟩
 . rw [amc, g9]
   rw [amc] at hz
   exact hz
 . simpa using he
theorem vd : bootBuiltins "sorted" = some (.builtin "sorted") := by decide +kernel
end
section
variable {X : Cx} {CL : Str -> Addr} {b : Bx} {δ δ1 : List (Option T)} {e : Expr} {pos pp : Pos}
theorem CM {K : PySem.W.Frag} {Z : Hp} {l : List Int} {us : List V} (h : aJ K CL Z (l.map D.int) us) : us = l.map V.int := by
 refine aJ.ind (P := fun ds us => ∀ l : List Int, ds = l.map D.int -> us = l.map V.int) ?_ ?_ h l rfl
 . intro l e
   cases l with
   | nil => rfl
   | cons => cases e
 . intro d v ds vs r _ i l e
   cases l with
   | nil => cases e
   | cons a l =>
     injection e with e1 e2
     subst e1
     rw [i l e2]
     cases r
     rfl
theorem ints_rep {K : PySem.W.Frag} {Z : Hp} : ∀ (l : List Int), aJ K CL Z (l.map D.int) (l.map V.int)
 | [] => .nil
 | _ :: l => .cons (.int _) (ints_rep l)
theorem iR {l : List Int} (hm : X.mg "sorted" = none) (h : fB X CL b e δ (.lst (l.map .int)) δ1) (hl : l.length < 64) (hg : Gl X "sorted") (hs : starEach [e] X.env = (false, eval e X.env) :: starEach [] X.env := by exact bV rfl) : dB X CL b (.Call (.Name "sorted" pp) [e] [] pos) δ (.lst (((sortI l).map D.int).map T.sh)) δ1 := fun H Z σ ts vs Q S k =>
 eW (nI DU hg hm vd (dc gQ fU hs) (he := hs)) (h H Z σ ts vs _ S fun v H1 Z1 z1 k1 S1 r => by
   cases r with
   | @lst a us _ hq rr =>
     have := CM rr
     subst this
     refine ⟨a, l, rfl, hq, hl, fun p hp => ?_⟩
     obtain ⟨c, S2⟩ := (dz.uU (ints_rep (sortI l)) S1).qo (g0 := []) (by simp) hp
     exact k _ _ _ z1 (k1.trans c) S2)
end
section
variable {X : Cx}
end
section
variable {X : Cx} {CL : Str -> Addr} {b : Bx} {δ δ1 : List (Option T)} {e : Expr} {pos pp : Pos}
end
theorem Kl : typeLookup (.type "list_reverseiterator") "__len__" = pure none := by rw [typeLookup_type, builtinLookup_eq_fast]; kernel_rfl
theorem RQ : typeLookup (.type "list_reverseiterator") "__length_hint__" = pure (some (.builtin "list_reverseiterator.__length_hint__")) := by rw [typeLookup_type, builtinLookup_eq_fast]; kernel_rfl
section
variable {prog : Program} {w : World} {A : Around} {s : Shared}
theorem RT {it l : Addr} {i : Int} {E : Value -> Shared -> Prop} {Q : Bool -> Shared -> Prop} (hr : s.heap.IsRevIter it l i) (h : Q false s) : wpAny (model prog w) A (Builtin.List.listLengthHint (.ref it)) Q E s := by
 unfold Builtin.List.listLengthHint
 refine amG (wpAny_specialOf hr.typeIs Kl ?_)
 refine amG (wpAny_specialOf hr.typeIs RQ ?_)
 generalize hid : ("list_reverseiterator.__length_hint__" : String) = id0
 wp_delta
 rw [show splitId id0 = some ("list_reverseiterator", "__length_hint__") from by subst hid; decide +kernel]
 subst hid
 refine amG (wpAny_isInstance (T := "list_reverseiterator") (b := true) hr.typeIs (by rw [isSubtype_type]; kernel_rfl) ?_)
 refine wpAny_ite_split (fun Wn => absurd Wn (by decide)) (fun _ => ?_)
 refine wpAny_ite_split (fun _ => ?_) (fun Wn => absurd (by decide +kernel) Wn)
 refine wpAny_ite_split (fun Wn => absurd Wn (by decide +kernel)) (fun _ => ?_)
 exact ang h
end
section
variable {prog : Program} {w : World} {A : Around} {s : Shared}
theorem Km {R : Result -> Shared -> Prop} {it l : Addr} {items : Array Value} (hh : A.handled = none) (hr : s.heap.IsRevIter it l ((items.size : Int) - 1)) (hl : s.heap.IsList l items) (qd : l ≠ it) (hlen : items.size <= sizeLine) (S : Addr) (res : Value) (c₀ : Nat)
   (hS : s.heap.get? S = some { cls := .type "list", data := .seq #[] c₀ }) (hSi : S ≠ it) (hSl : S ≠ l)
   (hR : ∀ h' tk qh c', (∀ b o, b ≠ S -> b ≠ it -> s.heap.get? b = some o -> h'.get? b = some o) -> h'.get? S = some { cls := .type "list", dict := none, data := .seq qh c', slots := #[] } →
     ItemsOf (fun i v => items[items.size - 1 - i]? = some v) qh items.size -> R (.ok (.ret res)) { s with heap := h', toks := tk }) :
   wpAny (model prog w) A.in1 (Builtin.List.listExtendWith (.ref S) (.ref it) res)
     (fun fin s' => match fin with | .done f => R (.ok f) s' | .again c' => c'.quiet = true /\ codeAny (model prog w) A c' R s') (fun e s' => R (.error e) s') s := by
 have W := (Walks.listRev (prog := prog) (w := w) (A := A.in1) hh it l qd items).toS
 have hSf : S ∉ [it, l] := fun h => by
   rcases amf.mp h with e | h
   . exact hSi e
   . exact hSl (anm.mp h)
 have e0 : (items.size : Int) - 1 = (items.size : Int) - 1 - ((0 : Nat) : Int) := by omega
 have key : ∀ (h : Heap) (c₁ tk : Nat), (∀ b o, b ≠ S -> s.heap.get? b = some o -> h.get? b = some o) →
     h.get? S = some { cls := .type "list", data := .seq #[] c₁ } -> codeAny (model prog w) A (.builtin "list.extend.loop" ⟨[.ref S, .ref it, res], []⟩) R { s with heap := h, toks := tk } := by
   intro h c₁ tk hk hS₁
   have hit : h.IsRevIter it l ((items.size : Int) - 1 - ((0 : Nat) : Int)) := e0 ▸ hr.at fun o q => hk it o (anQ hSi) q
   have hl' : h.IsList l items := hl.at fun o q => hk l o (anQ hSl) q
   refine codeAny_extend_loopS W hlen S hSf res items.size 0 _ #[] c₁ rfl (amO _) ⟨amO _, hit, hl'⟩ hS₁ (ItemsOf.nil _) fun s' qh c' hm hS' DT => ?_
   rw [Moved.eq_with hm]
   refine hR s'.heap s'.toks qh c' (fun b o hb hbi e => hm.heap b o (fun ua => ?_) (hk b o hb e)) hS' DT
   rcases amf.mp ua with e' | ua
   . exact hb e'
   . exact hbi (anm.mp ua)
 unfold Builtin.List.listExtendWith
 refine amG (wpAny_typeOf (T := "list_reverseiterator") hr.typeIs ?_)
 have h1 : Builtin.List.listSameRef (.ref S) (.ref it) = false := by simp [Builtin.List.listSameRef, hSi]
 have h2 : (Value.type "list_reverseiterator" == Value.type "list") = false := by decide
 have h3 : (Value.type "list_reverseiterator" == Value.type "tuple") = false := by decide
 simp only [h1, h2, h3, Bool.or_false, Bool.false_eq_true, if_false]
 refine amG (wpAny_pyIter_revIter hr ?_)
 refine amG (wpAny_holding (RT hr ?_))
 refine wpAny_ite_split (fun _ => ?_) (fun _ => ang ⟨plainId_quiet F.plain_extend_loop _, key _ c₀ _ (fun b o _ e => e) hS⟩)
 refine amG (wpAny_rule ?_)
 refine amG ?_
 show wpAny _ _ (updateSeq S (·.push .none) >>= fun _ => updateSeq S (·.pop)) _ _ _
 refine amG (wpAny_updateSeq hS rfl ?_)
 have Nr := an9 (Obj.mapSeq (·.push Value.none)) hS rfl
 refine wpAny_updateSeq (hz := by seq_fits) Nr rfl ?_
 have hS₃ := an9 (Obj.mapSeq (·.pop)) Nr rfl
 refine ang ⟨plainId_quiet F.plain_extend_loop _, key _ _ _ (fun b o hb e => ?_) hS₃⟩
 exact (anS _ _ (anQ hb)).trans ((anS _ _ (anQ hb)).trans e)
theorem BP {R : Result -> Shared -> Prop} {it l : Addr} {items : Array Value} (hh : A.handled = none) (hr : s.heap.IsRevIter it l ((items.size : Int) - 1)) (hl : s.heap.IsList l items) (qd : l ≠ it) (hlen : items.size <= sizeLine) (S : Addr)
   (hS : s.heap.get? S = some { cls := .type "list", data := .seq #[] }) (hSi : S ≠ it) (hSl : S ≠ l)
   (hR : ∀ h' tk qh c', (∀ b o, b ≠ S -> b ≠ it -> s.heap.get? b = some o -> h'.get? b = some o) -> h'.get? S = some { cls := .type "list", dict := none, data := .seq qh c', slots := #[] } →
     ItemsOf (fun i v => items[items.size - 1 - i]? = some v) qh items.size -> R (.ok (.ret .none)) { s with heap := h', toks := tk }) :
   wpAny (model prog w) A.in1 (Builtin.«list.__init__» ⟨[.ref S, .ref it], []⟩)
     (fun fin s' => match fin with | .done f => R (.ok f) s' | .again c' => c'.quiet = true /\ codeAny (model prog w) A c' R s') (fun e s' => R (.error e) s') s := by
 show wpAny _ _ (do let old ← Builtin.List.listItems (.ref S); Builtin.List.listUpdate (.ref S) (fun _ => #[]); letGo old.toList.reverse; Builtin.List.listExtendWith (.ref S) (.ref it) .none) _ _ s
 refine amG ?_
 unfold Builtin.List.listItems
 refine amG (wpAny_seqItems hS rfl (ang ?_))
 show wpAny _ _ (updateSeq S (fun _ => #[]) >>= fun _ => letGo (#[] : Array Value).toList.reverse >>= fun _ => Builtin.List.listExtendWith (.ref S) (.ref it) .none) _ _ s
 refine amG (wpAny_updateSeq hS rfl ?_)
 have Nr := an9 (Obj.mapSeq (fun _ => (#[] : Array Value))) hS rfl
 have oth : ∀ b o, b ≠ S -> s.heap.get? b = some o -> (s.heap.update S (Obj.mapSeq (fun _ => (#[] : Array Value)))).get? b = some o :=
   fun b o hb e => (anS _ _ (anQ hb)).trans e
 refine amG (wpAny_letGo ?_)
 refine Km hh (hr.at fun o q => oth it o (anQ hSi) q) (hl.at fun o q => oth l o (anQ hSl) q) qd hlen S .none _ Nr hSi hSl fun h' tk qh c' hk hS' DT => ?_
 exact hR h' tk qh c' (fun b o hb hbi e => hk b o hb hbi (oth b o hb e)) hS' DT
theorem BQ {E : Value -> Shared -> Prop} {Q : Value -> Shared -> Prop} {it l : Addr} {items : Array Value} (hh : A.handled = none) (hr : s.heap.IsRevIter it l ((items.size : Int) - 1)) (hl : s.heap.IsList l items) (qd : l ≠ it) (hlen : items.size <= sizeLine)
   (hQ : ∀ h' tk qh c', (∀ b o, b ≠ it -> s.heap.get? b = some o -> h'.get? b = some o) →
     h'.get? s.heap.objs.size = some { cls := .type "list", dict := none, data := .seq qh c', slots := #[] } -> ItemsOf (fun i v => items[items.size - 1 - i]? = some v) qh items.size -> Q (.ref s.heap.objs.size) { s with heap := h', toks := tk }) :
   wpAny (model prog w) A (call (.type "list") [.ref it]) Q E s := by
 refine callType_codes (Q₁ := fun obj s₁ => obj = .ref s.heap.objs.size /\ s₁ = { s with heap := s.heap.push { cls := .type "list", data := .seq #[] } }) F.called_list (F.typeCall_list_1 _) F.entry_list_init
   (code_list_new _ ⟨rfl, rfl⟩) fun obj s₁ h₁ => ?_
 obtain ⟨rfl, rfl⟩ := h₁
 have hS : (s.heap.push { cls := .type "list", data := .seq #[] }).get? s.heap.objs.size = some { cls := .type "list", data := .seq #[] } := anb _ rfl
 have hit : it < s.heap.objs.size := by obtain ⟨o, e, _⟩ := hr; exact amy e
 have qg : l < s.heap.objs.size := by obtain ⟨o, e, _⟩ := hl; exact amy e
 refine ⟨⟨_, hS, rfl⟩, F.args_list_init_2 _ _, BP (A := A.in1) hh (hr.at fun o q => amw _ q) (hl.at fun o q => amw _ q) qd hlen _ hS (Nat.ne_of_gt hit) (Nat.ne_of_gt qg) fun h' tk qh c' hk hS' DT => ?_⟩
 exact ⟨rfl, hQ h' tk qh c' (fun b o hb e => hk b o (am7 (amy e)) hb (amw _ e)) hS' DT⟩
end
theorem O8 {items acc : Array Value} (h : ItemsOf (fun i v => items[items.size - 1 - i]? = some v) acc items.size) : acc.toList = items.toList.reverse := by
 obtain ⟨h1, h2⟩ := h
 apply aov
 intro j
 by_cases hj : j < items.size
 . rw [List.getElem?_reverse (by simpa using hj)]
   have e1 : acc[j]? = some acc[j] := Array.getElem?_eq_getElem (by omega)
   have := h2 j _ e1
   rw [Array.getElem?_toList, e1, ← this]
   simp
 . rw [anB (by simp; omega), anB (by simp; omega)]
theorem Vals.rev : ∀ {xs : List V} {us : List Value}, Vals xs us -> Vals xs.reverse us.reverse
 | [], _, .nil => .nil
 | _ :: _, _, .cons r rr => by
   rw [anc, anc]
   exact Vals.append (Vals.rev rr) (.cons r .nil)
section
variable {X : Cx}
noncomputable def tLR (K : PySem.W.Frag) (ta : TA) : TE := fun σ H Q => ta σ H fun vs H1 => ∃ a xs, vs = [.ref a] /\ oi K H1 a xs /\ ∀ l, H1 l = none -> Q (.ref l) (upd H1 l (.lst xs.reverse))
theorem Kn {x : Expr} {ta : TA} {p q pq pos : Pos} (hc : X.calm = true) (hgl : Gl X "list") (yw : X.mg "list" = none) (hgr : Gl X "reversed") (hmr : X.mg "reversed" = none) (ha : PA X [x] ta) (hs : starEach [x] X.env = (false, eval x X.env) :: starEach [] X.env)
   (G3 : starEach [.Call (.Name "reversed" q) [x] [] pq] X.env = (false, eval (.Call (.Name "reversed" q) [x] [] pq) X.env) :: starEach [] X.env) : PE X (.Call (.Name "list" p) [.Call (.Name "reversed" q) [x] [] pq] [] pos) (tLR X.K ta) := by
 intro pins s σ H Q I h
 refine anL (mW I hgl yw bH ?_ (by decide) (by decide))
 refine anj ?_ G3 rfl
 rw [G3]
 show wpAny _ _ (spliced ((false, eval (.Call (.Name "reversed" q) [x] [] pq) X.env) :: backTo pos (starEach [] X.env))) _ _ s
 refine Calls.spliced_cons ?_
 refine Call_ (mW I hgr hmr boot_reversed (anj (gH (ha pq pins s σ H _ I h) fun us s1 zz => ?_) hs rfl))
 obtain ⟨vs, H1, I1, r1, q1⟩ := zz
 obtain ⟨l, xs, e, hq, q⟩ := q1
 subst e
 cases r1 with
 | cons r rr =>
   cases rr
   cases r
   obtain ⟨its, rv, p, hz⟩ := I1.list hq
   have hll := rv.length
   refine PySem.call_reversed_list p.isList ?_
   refine Calls.spliced_nil ?_
   have hL : l < s1.heap.objs.size := by obtain ⟨o, e, _⟩ := p.isList; exact amy e
   have st : PySem.Heap.IsRevIter (s1.heap.push (PySem.revObj l ((its.toArray.size : Int) - 1))) s1.heap.objs.size l ((its.toArray.size : Int) - 1) := ⟨_, anb _ rfl, rfl, rfl⟩
   refine BQ (s := { s1 with heap := s1.heap.push (PySem.revObj l ((its.toArray.size : Int) - 1)) }) (I1.ok.hd hc) st (p.isList.at fun o q => amw _ q) (am7 hL) (by rw [amC, ← hll]; exact hz) fun h' tk qh c' hk hS' DT => ?_
   have Vy : (s1.heap.push (PySem.revObj l ((its.toArray.size : Int) - 1))).objs.size = s1.heap.objs.size + 1 := Heap.size_push ..
   have hS2 : h'.get? (s1.heap.objs.size + 1) = some { cls := .type "list", dict := none, data := .seq qh c', slots := #[] } := Vy ▸ hS'
   have ea : qh.toList = its.reverse := by simpa using O8 DT
   show EP X pins σ Q (.ref (s1.heap.push (PySem.revObj l ((its.toArray.size : Int) - 1))).objs.size) _
   rw [Vy]
   refine ⟨.ref (s1.heap.objs.size + 1), _, I1.laid (t' := tk) (fun b u e => hk b u (am7 (amy e)) (amw _ e)) (anZ _) (show ju X.prog X.w _ _ _ (.lst xs.reverse) from ⟨by rw [anx]; exact hz, its.reverse, c', Vals.rev rv, ?_⟩), rfl, q _ (I1.iP.fresh (anZ _))⟩
   have e2 : qh = its.reverse.toArray := by rw [← ea]
   rw [← e2]
   exact hS2
end
section
variable {X : Cx} {CL : Str -> Addr} {b : Bx} {δ δ1 : List (Option T)} {e : Expr} {ds : List D} {pos pp pq pr : Pos}
theorem aJ.rev {K : PySem.W.Frag} {Z : Hp} {ds : List L3.D} {us : List V} (r : aJ K CL Z ds us) : aJ K CL Z ds.reverse us.reverse := by
 have go : ∀ {ds : List L3.D} {us : List V} {es : List L3.D} {ws : List V}, aJ K CL Z ds us -> aJ K CL Z es ws -> aJ K CL Z (ds.reverse ++ es) (us.reverse ++ ws) := by
   intro ds us es ws r
   induction ds generalizing us es ws with
   | nil => cases r; exact fun q => q
   | cons d ds ih =>
     cases r with
     | cons r1 r2 =>
       intro q
       rw [anc, anc, aml, aml]
       exact ih r2 (.cons r1 q)
 simpa using go r .nil
theorem z7 (g : Gx X) (yw : X.mg "list" = none) (hmr : X.mg "reversed" = none) (h : fB X CL b e δ (.lst ds) δ1) (hi : D.bZ ds = true) (hgl : Gl X "list") (hgr : Gl X "reversed") (hs : starEach [e] X.env = (false, eval e X.env) :: starEach [] X.env := by exact bV rfl)
   (G3 : starEach [.Call (.Name "reversed" pq) [e] [] pr] X.env = (false, eval (.Call (.Name "reversed" pq) [e] [] pr) X.env) :: starEach [] X.env := by exact bV rfl) : dB X CL b (.Call (.Name "list" pp) [.Call (.Name "reversed" pq) [e] [] pr] [] pos) δ (.lst (ds.reverse.map T.sh)) δ1 := fun H Z σ ts vs Q S k =>
 eW (Kn g.calm hgl yw hgr hmr (dc gQ fU hs) hs G3) (h H Z σ ts vs _ S fun v H1 Z1 z1 k1 S1 r => by
   cases r with
   | lst hq rr =>
     refine ⟨_, _, rfl, hq, fun l hl => ?_⟩
     obtain ⟨c, S2⟩ := (dz.uU (aJ.rev (aJ.qc S1.tp hi rr)) S1).qo (g0 := []) (by simp [rr.length]) hl
     exact k _ _ _ z1 (k1.trans c) S2)
end
theorem gi {α β : Type} {f : α -> β} {l : List α} {j : Nat} {d : β} (h : (l.map f)[j]? = some d) : ∃ x, d = f x /\ l[j]? = some x /\ x ∈ l /\ j < l.length /\ l.drop j = x :: l.drop (j + 1) /\ l.take (j + 1) = l.take j ++ [x] := by
 rw [amT] at h
 cases hx : l[j]? with
 | none => rw [hx] at h; cases h
 | some x =>
   rw [hx] at h
   cases h
   have hj : j < l.length := (amH.mp hx).1
   have e : l[j] = x := (amH.mp hx).2
   exact ⟨x, rfl, rfl, anv hx, hj, by rw [anY hj, e], by rw [anV, hx]; rfl⟩
noncomputable def D.at1 : L3.D -> L3.D
 | .tup (a :: _) => a
 | d => d
noncomputable def D.at2 : L3.D -> L3.D
 | .tup (_ :: a :: _) => a
 | d => d
section
variable {X : Cx} {CL : Str -> Addr} {b : Bx} {δ δ1 : List (Option T)} {e : Expr} {elts : List Expr} {kk : Nat} {pt pr pc : Pos}
theorem O9 {α : Type} (f : α -> L3.D) (z : α) (l : List α) : zZ (l.map f) = (List.range l.length).map fun (i : Nat) => L3.D.tup [.int i, f (l.getD i z)] := by
 unfold zZ
 rw [amc]
 apply anH
 intro i hi
 have hi : i < l.length := anP.mp hi
 have : (l.map f).getD i .non = f (l.getD i z) := by
   rw [amd, amd, amT, amq hi]
   rfl
 rw [this]
theorem RV {α : Type} {f : α -> L3.D} {l : List α} (z : α) (hm : X.mg "enumerate" = none) (h : dB X CL b e δ (.sh (.lst (l.map f))) δ1) (hg : Gl X "enumerate") (hs : starEach [e] X.env = (false, eval e X.env) :: starEach [] X.env := by exact bV rfl) :
   GIt X CL b (.Tuple elts kk pt) (.Call (.Name "enumerate" pr) [e] [] pc) δ ((List.range l.length).map fun (i : Nat) => L3.D.tup [.int i, f (l.getD i z)]) δ1 := by
 have := Wm (elts := elts) (kk := kk) (pt := pt) (pr := pr) (pc := pc) hm h hg hs
 rwa [O9 f z l] at this
end
section
variable {K : PySem.W.Frag} {CL : Str -> Addr} {b : Bx} {H H' Z Z' : Hp} {δ δ' : List (Option T)} {σ σ' : L2.St} {ts tl : List T} {vs us : List V} {t : T} {v : V}
end
section
variable {X : Cx} {CL : Str -> Addr} {b : Bx} {δ δ1 δ2 : List (Option T)} {e e2 : Expr} {t : T} {tl J9 tt Zc : List T} {D : fc} {pos pp pa pb : Pos}
end
section
variable {X : Cx} {CL : Str -> Addr} {b : Bx} {δ δ1 : List (Option T)} {e : Expr} {t : T} {i : Nat} {x : Str} {pos pp : Pos} {DD : fc} {i9 : List Stmt}
end
section
variable {X : Cx}
end
section
variable {K : PySem.W.Frag} {CL : Str -> Addr} {b : Bx} {H Z : Hp} {δ : List (Option T)} {σ : L2.St} {ts tl : List T} {vs : List V} {t : T} {v : V}
end
section
variable {X : Cx} {CL : Str -> Addr} {b : Bx} {δ δ1 : List (Option T)} {e : Expr} {t : T} {tl J9 : List T} {D : fc} {pos pp pa pb pc : Pos} {kj i : Nat} {x : Str} {i9 : List Stmt}
end
theorem Wo {l : List Int} (h : 0 < l.length) : zP (l.map L3.D.int) (-1) = some (.int (l.getD (l.length - 1) 0)) := by
 unfold zP
 have e : OL (l.map L3.D.int).length (-1) = some (l.length - 1) := by
   unfold OL
   rw [amc]
   simp only [show ¬ (0 : Int) <= -1 by decide, if_false]
   rw [amo (by omega)]
   congr 1
   omega
 rw [e]
 show (l.map L3.D.int)[l.length - 1]? = _
 rw [amT, amq (by omega), amd, amq (by omega)]
 rfl
section
variable {X : Cx} {CL : Str -> Addr} {b : Bx} {δ δ1 : List (Option T)} {e : Expr} {pos pp : Pos}
end
section
variable {K : PySem.W.Frag} {CL : Str -> Addr} {b : Bx} {H Z : Hp} {δ : List (Option T)} {σ : L2.St} {ts tl Wq : List T} {vs : List V} {v : V}
theorem dz.extend {i : Nat} (S : dz K CL b H Z δ σ (.lst Wq :: ts) (v :: vs)) (hi : δ[i]? = some (some (.lst tl))) :
   ∃ a us a2 Wr, σ[i]? = some (some (.ref a)) /\ H a = some (.lst us) /\ us.length = tl.length /\ v = .ref a2 /\ H a2 = some (.lst Wr) /\ Wr.length = Wq.length /\ dz K CL b (upd H a (.lst (us ++ Wr))) Z (δ.set i (some (.lst (tl ++ Wq)))) σ ts vs := by
 obtain ⟨fp, gp, e, r, nd, k⟩ := S.rep
 obtain ⟨v0, f1, f2, f3, hv, tZ, rt, put, _⟩ := e.get hi
 subst tZ
 cases rt with
 | @lst a us _ g ha rs =>
   cases r with
   | @cons _ _ _ _ ft gr q1 q2 =>
     cases q1 with
     | @lst a2 Wr _ g2 ha2 rs2 =>
       have ne : ∀ c ∈ (f1 ++ (g ++ f3)) ++ (g2 ++ gr), c ≠ a := fun c hc e => by
         subst e
         have hp : ((f1 ++ ((c :: g) ++ f3)) ++ ((a2 :: g2) ++ gr)).Perm (c :: ((f1 ++ (g ++ f3)) ++ ((a2 :: g2) ++ gr))) := by
           rw [amE, ← amE]
           exact (anJ.append_right _)
         refine (anr.mp (hp.nodup_iff.mp nd)).1 ?_
         rcases amn.mp hc with z | z
         . exact ams _ z
         . exact amh _ (ami _ z)
       refine ⟨a, us, a2, Wr, hv, ha, rs.length.symm, rfl, ha2, rs2.length.symm, ?_⟩
       have r1 : d8 K CL (upd H a (.lst (us ++ Wr))) Z (.lst (tl ++ Wq)) (.ref a) (a :: (g ++ g2)) :=
         .lst bW (bz.app (rs.mono (.refl _) fun c hc => aH (ne c (by simp [hc]))) (rs2.mono (.refl _) fun c hc => aH (ne c (by simp [hc]))))
       have e2 := put (H' := upd H a (.lst (us ++ Wr))) (.refl _) (fun c hc => aH (ne c (by
         rcases amn.mp hc with h | h
         . simp [h]
         . simp [h]))) r1
       rw [lC hv] at e2
       have hp : ((f1 ++ ((a :: (g ++ g2)) ++ f3)) ++ gr).Perm ((f1 ++ ((a :: g) ++ f3)) ++ (g2 ++ gr)) := by
         simp only [amE, aml]
         refine amM f1 (List.Perm.cons a (amM g ?_))
         rw [← aml, ← aml]
         exact amX.append_right gr
       have sb : ((f1 ++ ((a :: g) ++ f3)) ++ (g2 ++ gr)).Sublist ((f1 ++ ((a :: g) ++ f3)) ++ ((a2 :: g2) ++ gr)) :=
         amV (amS _) (by rw [amE]; exact List.sublist_cons_self _ _)
       exact S.write nd k (ame) ⟨_, ha⟩ e2 (q2.mono (.refl _) fun c hc => aH (ne c (by simp [hc]))) (hp.nodup_iff.mpr (nd.sublist sb)) fun c hc => sb.subset (hp.mem_iff.mp hc)
end
section
variable {X : Cx} {CL : Str -> Addr} {b : Bx} {δ δ1 : List (Option T)} {e : Expr} {tl J9 Wq : List T} {D : fc} {pos pp pa pb : Pos} {i : Nat} {x : Str} {i9 : List Stmt}
theorem CN (n : Vn X i x) (h0 : δ[i]? = some (some (.lst J9))) (h : dB X CL b e δ (.lst Wq) δ1) (h1 : δ1[i]? = some (some (.lst tl))) (hl : tl.length + Wq.length <= 1000000) (k : iI X CL b i9 (δ1.set i (some (.lst (tl ++ Wq)))) D)
   (lA : attributeBase (.Name x pp) "extend" X.env (eval (.Name x pp) X.env) = eval (.Name x pp) X.env := by rfl)
   (xh : ((backTo pb (starEach [e] X.env)).all (fun x => !x.1) && (backToKw pb (keywordEach [] X.env)).all (fun x => x.1.isSome) && decide ([e].length + ([] : List Keyword).length + (if ([] : List Keyword).isEmpty then 0 else 1) < 30)) = true := by rfl)
   (hline : (pa.endLine == pb.line) = true := by rfl) (hs : starEach [e] X.env = (false, eval e X.env) :: starEach [] X.env := by exact bV rfl)
   (BL : swapsWith (.Call (.Attribute (.Name x pp) "extend" pa) [e] [] pb) none pos.line X.env = pure false := by rfl) :
   iI X CL b (.Expr (.Call (.Attribute (.Name x pp) "extend" pa) [e] [] pb) pos :: i9) δ D := fC fun H Z σ ts vs E S M =>
 yM (yU (Nf an0 PySem.F.slot_list_extend PySem.F.type_list_extend OO (mV n.hi n.hv n.hd n.oh) (dc gQ fU hs) lA xh hline hs rfl) BL) (by
   obtain ⟨v0, e0, r0⟩ := S.look h0
   refine ⟨v0, e0, ?_, ?_⟩
   . rw [T.fS] at r0
     cases r0 with
     | lst hq _ => exact .inl ⟨rfl, _, hq⟩
   . refine h H Z σ ts vs _ S fun v H1 Z1 z1 k1 S1 => ?_
     obtain ⟨a, us, a2, Wr, ea, ha, hu, rfl, ha2, Vh, S2⟩ := S1.extend h1
     rw [e0] at ea
     cases ea
     exact ⟨a, a2, us, Wr, rfl, rfl, ha, ha2, by rw [hu, Vh]; exact amQ (ant hl (by rw [anq]; decide)), M.nx _ σ _ Z1 z1 S2 k⟩)
end
section
variable {X : Cx} {CL : Str -> Addr} {b : Bx} {e1 e2 : Expr} {δ δ1 δ2 : List (Option T)} {ds : List L3.D} {pos : Pos}
noncomputable def aeX (K : PySem.W.Frag) : R2 := fun x y H Q => ∃ l k xs, x = .ref l /\ y = .int k /\ oi K H l xs /\ -(2 ^ 63) <= k /\ k < 2 ^ 63 /\ xs.length * k.toNat <= sizeLine ∧
 ∀ p, H p = none -> Q (.ref p) (upd H p (.lst (List.replicate k.toNat xs).flatten))
theorem Ws : zN X (binaryOp .Mult) (aeX X.K) := by
 intro pins s σ H x y v u Q I rx ry h
 obtain ⟨l, k, xs, rfl, rfl, hH, h1, h2, hz, q⟩ := h
 cases rx
 obtain ⟨t, rfl⟩ := ry
 obtain ⟨its, r, pl, _⟩ := I.list hH
 have hl := r.length
 obtain ⟨⟨c1, dd, da1, sl⟩, e, hc, n, hd⟩ := pl.isList
 cases hc; cases hd
 have hlen : its.toArray.size * k.toNat <= sizeLine := by rw [amC, ← hl]; exact hz
 have ah3 : ¬ its.toArray.size * k.toNat > (2 ^ 63 - 1) / 8 := by
   have : (sizeLine : Nat) <= (2 ^ 63 - 1) / 8 := by decide
   omega
 have ah4 : ¬ (!Builtin.List.listFitsIndex k) = true := by
   rw [fitsIndex_both h1 h2]
   exact amv
 have Ho : ¬ Builtin.List.listTooLong (its.toArray.size * k.toNat) = true := by
   rw [zQ hlen]
   exact amv
 have Wt : List.foldl (fun x1 x2 => x1 ++ x2) #[] (List.replicate (if its.toArray.isEmpty = true then 0 else k.toNat) its.toArray) = (List.replicate k.toNat its).flatten.toArray := by
   have f0 : ∀ m : Nat, List.foldl (fun x1 x2 => x1 ++ x2) #[] (List.replicate m its.toArray) = (List.replicate m its).flatten.toArray := fun m => by
     have := foldl_rep its m []
     rw [List.nil_append] at this
     exact this
   rw [f0]
   cases its with
   | nil => simp
   | cons a r' => rw [amk (by simp)]
 refine wpAny_binaryOp_repeat_ref (T := "list") (U := "int") (by decide) ⟨_, e, rfl⟩ (fun s' => typeIs_int s' k t) noFill_list_mul F.fills_int_mul F.slot_int_rmul repeat_list F.slot_int_index.lookup
   (call_meets F.slot_int_rmul (typeIs_int s k t) F.entry_int_rmul (F.args_int_rmul_2 _ _) (lm_int_rmul_list_any k t l its.toArray n dd sl)
     ⟨e, rfl, ⟨_, e, rfl⟩, call_meets F.slot_list_mul ⟨_, e, rfl⟩ F.entry_list_mul (F.args_list_mul_2 _ _) (lm_list_mul_any l its.toArray n dd sl k t ah4 ah3 Ho) ⟨e, ?_⟩⟩)
 rw [Wt]
 exact ⟨.ref _, _, I.aex (t' := s.toks) (r.rep k.toNat) (by rw [len_rep, Nat.mul_comm]; exact hz), rfl, q _ I.fresh⟩
theorem aJ.rep {K : PySem.W.Frag} {Z : Hp} {ds : List L3.D} {vs : List V} (r : aJ K CL Z ds vs) : ∀ k : Nat, aJ K CL Z (List.replicate k ds).flatten (List.replicate k vs).flatten
 | 0 => .nil
 | k + 1 => by
   rw [ano, ano, anN, anN]
   exact aJ.app r (aJ.rep r k)
theorem Wu {k : Int} (h1 : fB X CL b e1 δ (.lst ds) δ1) (h2 : fB X CL b e2 δ1 (.int k) δ2) (i1 : D.bZ ds = true) (k1 : -(2 ^ 63) <= k) (k2 : k < 2 ^ 63) (hz : ds.length * k.toNat <= sizeLine) :
   dB X CL b (.BinOp e1 .Mult e2 pos) δ (.lst ((List.replicate k.toNat ds).flatten.map T.sh)) δ2 := fun H Z σ ts vs Q S kk =>
 eW (QV Ws gQ gQ) (h1 H Z σ ts vs _ S fun v1 H1 Z1 z1 q1 S1 r1 => h2 H1 Z1 σ ts vs _ S1 fun v2 H2 Z2 z2 q2 S2 r2 => by
   have r1' := r1.mono q2
   cases r1' with
   | lst hq1 rr1 =>
     cases r2 with
     | int =>
       refine ⟨_, _, _, rfl, rfl, hq1, k1, k2, by rw [← rr1.length]; exact hz, fun p hp => ?_⟩
       have rc := aJ.rep (aJ.qc S2.tp i1 rr1) k.toNat
       obtain ⟨c, S4⟩ := (dz.uU rc S2).qo (g0 := []) (by rw [amc, rc.length]) hp
       exact kk _ _ _ (z1.trans z2) (q1.trans (q2.trans c)) S4)
end
section
variable {X : Cx} {CL : Str -> Addr} {b : Bx} {δ : List (Option T)} {x : Str} {pos : Pos}
end
section
variable {X : Cx} {CL : Str -> Addr} {b : Bx} {e1 e2 e iter : Expr} {δ δ1 δ2 : List (Option T)} {pos : Pos}
end
section
variable {X : Cx} {CL : Str -> Addr} {b : Bx} {e : Expr} {δ δ1 δ2 δ3 : List (Option T)} {pos p2 : Pos}
end
end L3
namespace L3
open PySem PySem.Spec PyProof.Rows L2 PySem.Builtin PySem.Builtin.Str
section
variable {X : Cx} {CL : Str -> Addr} {b : Bx} {e o : Expr} {δ δ1 δ2 : List (Option T)} {pos apos : Pos}
end
end L3
namespace L3
open PySem PySem.Spec PyProof.Rows L2
section
variable {X : Cx} {CL : Str -> Addr} {b : Bx} {δ : List (Option T)} {pos pp : Pos} {x : Str}
theorem c0 {k n : Nat} {A : Type} {arg : A -> List L3.D} {Pre : A -> Prop} {res : A -> T} (a : A) (F : Fc X CL x k n arg Pre res) (hg : Gl X x) (ha : arg a = []) (hp : Pre a) (hc : (res a).clean = true) (hn : (arg a).length = n := by rfl)
   (yJ : (x == ("__debug__" : Str)) = false := by decide) : dB X CL b (.Call (.Name x pp) [] [] pos) δ (res a) δ := by
 obtain ⟨f, fd, ps, F1, m, kk, bb⟩ := F.ex
 intro H Z σ ts vs Q S k
 refine eW (Q6 F1 F.room hg m kk bb .nil Hr yJ) ?_
 refine ⟨H, a, .refl _, fun _ _ q _ => q, by rw [ha]; exact .nil, hn, hp, S.VR, fun v H' W' fp hh ww wh nw tp rt nd own => ?_⟩
 obtain ⟨Z', z', S'⟩ := S.back hh S.zh ww wh nw tp rt nd own (.inr hc)
 exact k v H' Z' z' hh S'
end
section
variable {K : PySem.W.Frag} {CL : Str -> Addr} {b : Bx} {H Z : Hp} {δ : List (Option T)} {σ : L2.St} {ts tl : List T} {vs : List V} {t : T} {v : V} {d : D} {ly : List (Key × D)} {gs : List (Key × V)}
end
section
variable {X : Cx} {CL : Str -> Addr} {b : Bx} {δ δ1 δ2 : List (Option T)} {e e1 e2 : Expr} {t : T} {d : L3.D} {D : fc} {pos pp ps : Pos} {i : Nat} {x : Str} {i9 : List Stmt} {ly : List (Key × L3.D)} {k : Key}
end
section
variable {K : PySem.W.Frag} {CL : Str -> Addr} {b : Bx} {H Z : Hp} {δ : List (Option T)} {σ : L2.St} {ts : List T} {vs : List V} {t : T} {v w : V} {f c : Str} {QB : List (Str × T)}
theorem fz.Wv {ft : List Addr} (rt : d8 K CL H Z t v ft) : ∀ {HF : List (Str × T)} {gs : List (Str × V)} {fp : List Addr}, fz K CL H Z (HF ++ (f, .sh (.val v)) :: QB) gs fp -> ∃ Nm, fz K CL H Z (HF ++ (f, t) :: QB) gs Nm /\ Nm.Perm (fp ++ ft)
 | [], _, _, r => by
   cases r with
   | @cons _ _ v' _ _ f1 gp h r =>
     cases h with
     | sh h =>
       cases h
       exact ⟨ft ++ gp, .cons rt r, amX⟩
 | (y, u) :: HF, _, _, r => by
   cases r with
   | @cons _ _ v' _ _ f1 gp h r =>
     obtain ⟨Nm, r', p⟩ := fz.Wv rt (HF := HF) r
     refine ⟨f1 ++ Nm, .cons h r', ?_⟩
     rw [aml]
     exact p.append_left f1
theorem dz.Wv {HF : List (Str × T)} (S : dz K CL b H Z δ σ (.ins c (HF ++ (f, .sh (.val v)) :: QB) :: t :: ts) (w :: v :: vs)) : dz K CL b H Z δ σ (.ins c (HF ++ (f, t) :: QB) :: ts) (w :: vs) := by
 obtain ⟨fp, gp, e, r, nd, k⟩ := S.rep
 cases r with
 | @cons _ _ _ _ g1 g2 r1 r2 =>
   cases r2 with
   | @cons _ _ _ _ g3 g4 r3 r4 =>
     cases r1 with
     | @ins a dx _ gs _ fp1 ha rf =>
       obtain ⟨Nm, rf', p⟩ := fz.Wv r3 rf
       have pm : (fp ++ ((a :: Nm) ++ g4)).Perm (fp ++ ((a :: fp1) ++ (g3 ++ g4))) := by
         refine amM fp ?_
         rw [← aml]
         refine List.Perm.append_right g4 ?_
         rw [amE]
         exact List.Perm.cons a p
       exact ⟨⟨fp, (a :: Nm) ++ g4, e, .cons (.ins ha rf') r4, pm.nodup_iff.mpr nd, fun c hc => k c (pm.mem_iff.mp hc)⟩, S.bh, S.zz, S.zh, S.new, S.tp, S.tab⟩
end
noncomputable def PAv (X : Cx) (CL : Str -> Addr) (b : Bx) (es : List Expr) (δ : List (Option T)) (dv : V -> List D) (t : T) (δ' : List (Option T)) : Prop :=
 ∀ (H Z : Hp) (σ : L2.St) (ts : List T) (vs : List V) (Q : List V -> Hp -> Prop), dz X.K CL b H Z δ σ ts vs →
   (∀ us H' Z' v, aV Z Z' -> aV H H' -> dz X.K CL b H' Z' δ' σ (t :: ts) (v :: vs) -> aJ X.K CL H' (dv v) us -> Q us H') -> Rg X es σ H Q
theorem T.z8 {f : Str} {v : V} {QB : List (Str × T)} (h2 : T.cj QB = true) : ∀ {HF : List (Str × T)}, T.cj HF = true -> T.cj (HF ++ (f, .sh (.val v)) :: QB) = true
 | [], _ => by rw [List.nil_append, T.cj, h2]; rfl
 | (x, t) :: HF, h => by
   rw [T.cj, amD] at h
   rw [amE, T.cj, h.1, T.z8 h2 h.2]; rfl
section
variable {X : Cx} {CL : Str -> Addr} {b : Bx} {δ δ1 δ2 : List (Option T)} {e o : Expr} {es : List Expr} {pos pp apos : Pos} {t : T} {ds : List D} {d : D} {dv : V -> List D}
theorem RW (h : dB X CL b e δ t δ1) (r : Vg X CL b es δ1 ds δ2) (hs : notStar e = true := by rfl) : PAv X CL b (e :: es) δ (fun v => .val v :: ds) t δ2 := fun H Z σ ts vs Q S k =>
 OW (dc gQ Qz (bV hs)) (h H Z σ ts vs _ S fun v H1 Z1 z1 k1 S1 => r H1 Z1 σ _ _ _ S1 fun us H2 Z2 z2 k2 S2 r2 => k (v :: us) H2 Z2 v (z1.trans z2) (k1.trans k2) S2 (.cons (.val v) r2))
theorem HG (h : fB X CL b e δ d δ1) (r : PAv X CL b es δ1 dv t δ2) (hs : notStar e = true := by rfl) : PAv X CL b (e :: es) δ (fun v => d :: dv v) t δ2 := fun H Z σ ts vs Q S k =>
 OW (dc gQ Qz (bV hs)) (h H Z σ ts vs _ S fun v H1 Z1 z1 k1 S1 r1 => r H1 Z1 σ ts vs _ S1 fun us H2 Z2 v2 z2 k2 S2 r2 => k (v :: us) H2 Z2 v2 (z1.trans z2) (k1.trans k2) S2 (.cons (r1.mono k2) r2))
variable {A : Type} {k n : Nat} {arg : A -> List D} {Pre : A -> Prop} {x c m f : Str}
theorem mkP {res : A -> List (Str × T)} (a : V -> A) {HF QB : List (Str × T)} (F : Fm X CL x k n arg Pre res) (hg : Gl X x) (h : PAv X CL b (e :: es) δ dv t δ1) (ha : ∀ v, arg (a v) = dv v) (hp : ∀ v, Pre (a v)) (hr : ∀ v, res (a v) = HF ++ (f, .sh (.val v)) :: QB) (hc : T.cj HF = true) (hc2 : T.cj QB = true) (hn : ∀ v, (arg (a v)).length + 1 = n := by exact fun _ => rfl)
   (yJ : (x == ("__debug__" : Str)) = false := by decide) (he : starEach (e :: es) X.env = (false, eval e X.env) :: starEach es X.env := by exact bV rfl) (hpl : (backTo pos (starEach es X.env)).any (·.1) = false := by rfl) :
   dB X CL b (.Call (.Name x pp) (e :: es) [] pos) δ (.ins x (HF ++ (f, t) :: QB)) δ1 := fun H Z σ ts vs Q S kk => by
 obtain ⟨f', fd, ps, M, F1, hm, hb⟩ := F.ex
 exact eW (M9 M F1 F.room hg hm hb .nil Hr Qz yJ he hpl) (h H Z σ ts vs _ S fun us H1 Z1 v z1 k1 S1 r y dx hx hdx ne => by
   rw [amF]
   refine ⟨H1, H1, a v, y, dx, us, rfl, hx, hdx, ne, rfl, .refl _, fun _ _ q _ => q, by rw [ha]; exact r, hn v, hp v, S1.VR, fun H' W' fp hh ww wh nw tp rt nd own => ⟨rfl, ?_⟩⟩
   obtain ⟨Z', z', S'⟩ := S1.back hh S1.zh ww wh nw tp rt nd own (.inr (by rw [T.clean, hr]; exact T.z8 hc2 hc))
   rw [hr] at S'
   exact kk _ H' Z' (z1.trans z') (k1.trans hh) S'.Wv)
end
section
variable {X : Cx}
end
section
variable {X : Cx} {CL : Str -> Addr} {b : Bx} {δ δ1 : List (Option T)} {e : Expr} {pos pp : Pos} {l : List Bool}
end
namespace Rv
theorem Pa : PySem.Slot "reversed" "__init__" "object.__init__" :=
 .of (owner := "object") (n := "__init__") (by rw [typeLookup_type, builtinLookup_eq_fast]; kernel_rfl) (by decide +kernel) (by decide +kernel) (by decide +kernel)
   (by first | exact .inl (by decide +kernel) | exact .inr (by decide +kernel)) (by rw [isSubtype_type]; kernel_rfl)
theorem called : TypeCalled "reversed" "reversed.__new__" "object.__init__" :=
 ⟨by decide +kernel, by decide +kernel, ⟨_, _, PySem.F.mro_reversed⟩, PySem.F.made_reversed, by decide +kernel, PySem.F.sub_reversed_self, Pa⟩
noncomputable def obj (t : Addr) (i : Int) : Obj := { cls := .type "reversed", data := .fields #[.ref t, rawInt i] }
section
variable {prog : Program} {w : World} {A : Around} {E : Value -> Shared -> Prop} {s : Shared}
end
end Rv
namespace Rv
section
variable {prog : Program} {w : World} {A : Around} {E : Value -> Shared -> Prop} {s : Shared}
end
end Rv
section
variable {X : Cx} {tg : Expr}
end
section
variable {X : Cx} {CL : Str -> Addr} {b : Bx} {δ δ1 : List (Option T)} {e : Expr} {ds : List D} {tg : Expr} {pr pc : Pos}
end
section
variable {X : Cx} {CL : Str -> Addr} {b : Bx} {δ δ1 : List (Option T)} {e : Expr} {t : T} {tl J9 tt Zc : List T} {D : fc} {pos pp pa pb : Pos}
variable {i9 : List Stmt} {i i2 : Nat} {x y : Str} {DD : fc}
end
section
variable {X : Cx} {CL : Str -> Addr} {b : Bx} {δ δ1 : List (Option T)} {e : Expr} {ds : List D} {tg : Expr} {pr pc : Pos} {l : Bool}
end
section
variable {X : Cx} {CL : Str -> Addr} {b : Bx} {δ : List (Option T)}
noncomputable def constInt : Expr -> Option Int
 | .Constant (.int i) _ _ => some i
 | .UnaryOp .USub (.Constant (.int i) _ _) _ => some (-i)
 | _ => none
noncomputable def xA : List Expr -> Option (List Int)
 | [] => some []
 | e :: es => (constInt e).bind fun x => (xA es).map (x :: ·)
theorem Pb {e : Expr} {x : Int} (h : constInt e = some x) : dB X CL b e δ (.sh (.int x)) δ := by
 unfold constInt at h
 split at h
 . cases h; exact aj
 . cases h; exact eH (ah aj)
 . cases h
theorem HJ {e : Expr} {x : Int} (h : constInt e = some x) : notStar e = true := by
 unfold constInt at h
 split at h
 . rfl
 . rfl
 . cases h
theorem zb : ∀ {es : List Expr} {l : List Int}, xA es = some l -> OX X CL b es δ ((l.map D.int).map T.sh) δ
 | [], l, h => by
   have e : l = [] := (am3 h).symm
   subst e
   exact cZ
 | e :: es, l, h => by
   rw [xA] at h
   obtain ⟨x, hx, h⟩ := Option.bind_eq_some_iff.mp h
   obtain ⟨l', hl, rfl⟩ := Option.map_eq_some_iff.mp h
   exact bY (Pb hx) (zb hl) (bV (HJ hx))
end
theorem RX (l q : Addr) (xs ys : Array Value) (n m : Nat) (dq : Option Addr) (sq : Array (Option Value)) (hc : ¬(!xs.isEmpty && Builtin.List.listTooLong (xs.size + ys.size)) = true) (hx : xs.size <= sizeLine) (hy : xs.size + ys.size <= sizeLine + 1) :
   PySem.Meets (Builtin.«list.extend» ⟨[.ref l, .ref q], []⟩) (fun _ R s => s.heap.get? l = some { cls := .type "list", dict := none, data := .seq xs n, slots := #[] } /\ s.heap.get? q = some { cls := .type "tuple", dict := dq, data := .seq ys m, slots := sq } ∧
     R (.ok (.ret Value.none)) { s with heap := s.heap.update l (Obj.mapSeq fun x => x ++ ys), toks := s.toks }) :=
 PySem.Meets.of_wp fun prog w A R s h => by
   obtain ⟨hp, g, d, tk, os⟩ := s
   obtain ⟨hl, hb, h⟩ := h
   have f1 := AutoSeq1.idx_int
   have f2 := AutoSeq1.sub_tuple_tuple
   have f3 := AutoSeq1.sub_list_list
   have f4 := AutoSeq1.sub_tuple_list
   have f5 := AutoSeq1.sub_list_tuple
   have hz : (xs ++ ys).size <= sizeLine + 1 := by
     rw [Array.size_append]
     exact hy
   wp_walk using (wpAny_updateSeq hl rfl (hz := hx) (_hz' := hz)), wpAny_loadPart' hl, wpAny_loadPart' hb
   exact ⟨_, rfl, h⟩
noncomputable def aeY (K : PySem.W.Frag) : V -> List V -> Hp -> VK -> Prop := fun x vs H Q => ∃ l q xs zs, x = .ref l /\ vs = [.ref q] /\ H l = some (.lst xs) /\ Dy K H q zs /\ xs.length + zs.length <= sizeLine /\ Q .non (upd H l (.lst (xs ++ zs)))
theorem Ww {X : Cx} : MtM X "list.extend" (aeY X.K) := by
 intro pins s σ H x vs v us Q I rx rv h
 obtain ⟨l, q, xs, zs, rfl, rfl, hH, hB, hz, k⟩ := h
 cases rx
 obtain ⟨u, rfl, ru⟩ := rv.one
 cases ru
 obtain ⟨z, its, n, r, hl, e⟩ := I.VJ hH
 obtain ⟨xo, r2, ⟨⟨c2, d2, da2, s2⟩, e2, hc2, n2, hd2⟩, z2⟩ := I.tuple hB
 cases hc2
 cases hd2
 have hl2 := r2.length
 have Vy : its.toArray.size + xo.toArray.size <= sizeLine := by
   rw [amC, amC]
   omega
 have Ho : ¬ (!its.toArray.isEmpty && Builtin.List.listTooLong (its.toArray.size + xo.toArray.size)) = true := by
   rw [zQ Vy, aoq]
   decide
 refine call_meets F.slot_list_extend ⟨_, e, rfl⟩ F.entry_list_extend (F.args_list_extend_2 _ _) (RX l q its.toArray xo.toArray n n2 d2 s2 Ho (by rw [amC]; omega) (by omega)) ⟨e, e2, ?_⟩
 refine ⟨.non, _, I.aav (its' := its ++ xo) hH e (by simp) (r.append r2) ?_, rfl, k⟩
 rw [amj]
 omega
section
variable {K : PySem.W.Frag} {CL : Str -> Addr} {b : Bx} {H Z : Hp} {δ : List (Option T)} {σ : L2.St} {ts tl : List T} {vs : List V} {ds : List D} {us : List V}
theorem dz.Wx {i : Nat} (S : dz K CL b H Z δ σ ts vs) (hr : aJ K CL Z ds us) (hi : δ[i]? = some (some (.lst tl))) :
   ∃ a ws, σ[i]? = some (some (.ref a)) /\ H a = some (.lst ws) /\ ws.length = tl.length /\ dz K CL b (upd H a (.lst (ws ++ us))) Z (δ.set i (some (.lst (tl ++ ds.map T.sh)))) σ ts vs := by
 obtain ⟨fp, gp, e, r, nd, k⟩ := S.rep
 obtain ⟨v0, f1, f2, f3, hv, tZ, rt, put, _⟩ := e.get hi
 subst tZ
 cases rt with
 | @lst a ws _ g ha rs =>
   have ne : ∀ c ∈ (f1 ++ (g ++ f3)) ++ gp, c ≠ a := fun c hc e => by
     subst e
     have hp : ((f1 ++ ((c :: g) ++ f3)) ++ gp).Perm (c :: ((f1 ++ (g ++ f3)) ++ gp)) := by
       rw [amE, ← amE]
       exact (anJ.append_right _)
     exact (anr.mp (hp.nodup_iff.mp nd)).1 hc
   refine ⟨a, ws, hv, ha, rs.length.symm, ?_⟩
   have r1 : d8 K CL (upd H a (.lst (ws ++ us))) Z (.lst (tl ++ ds.map T.sh)) (.ref a) (a :: (g ++ [])) :=
     .lst bW (bz.app (rs.mono (.refl _) fun c hc => aH (ne c (by simp [hc]))) (bz.ofF hr))
   rw [amF] at r1
   have e2 := put (H' := upd H a (.lst (ws ++ us))) (.refl _) (fun c hc => aH (ne c (by
     rcases amn.mp hc with h | h
     . simp [h]
     . simp [h]))) r1
   rw [lC hv] at e2
   exact S.write nd k (ame) ⟨_, ha⟩ e2 (r.mono (.refl _) fun c hc => aH (ne c (by simp [hc]))) nd fun c hc => hc
end
section
variable {X : Cx} {CL : Str -> Addr} {b : Bx} {δ δ1 : List (Option T)} {e : Expr} {tl J9 : List T} {ds : List L3.D} {D : fc} {pos pp pa pb : Pos} {i : Nat} {x : Str} {i9 : List Stmt}
theorem xB (n : Vn X i x) (h0 : δ[i]? = some (some (.lst J9))) (h : fB X CL b e δ (.tup ds) δ1) (him : L3.D.bZ ds = true) (h1 : δ1[i]? = some (some (.lst tl))) (hl : tl.length + ds.length <= 1000000) (k : iI X CL b i9 (δ1.set i (some (.lst (tl ++ ds.map T.sh)))) D)
   (lA : attributeBase (.Name x pp) "extend" X.env (eval (.Name x pp) X.env) = eval (.Name x pp) X.env := by rfl)
   (xh : ((backTo pb (starEach [e] X.env)).all (fun x => !x.1) && (backToKw pb (keywordEach [] X.env)).all (fun x => x.1.isSome) && decide ([e].length + ([] : List Keyword).length + (if ([] : List Keyword).isEmpty then 0 else 1) < 30)) = true := by rfl)
   (hline : (pa.endLine == pb.line) = true := by rfl) (hs : starEach [e] X.env = (false, eval e X.env) :: starEach [] X.env := by exact bV rfl)
   (BL : swapsWith (.Call (.Attribute (.Name x pp) "extend" pa) [e] [] pb) none pos.line X.env = pure false := by rfl) :
   iI X CL b (.Expr (.Call (.Attribute (.Name x pp) "extend" pa) [e] [] pb) pos :: i9) δ D := fC fun H Z σ ts vs E S M =>
 yM (yU (Nf an0 PySem.F.slot_list_extend PySem.F.type_list_extend Ww (mV n.hi n.hv n.hd n.oh) (dc gQ fU hs) lA xh hline hs rfl) BL) (by
   obtain ⟨v0, e0, r0⟩ := S.look h0
   refine ⟨v0, e0, ?_, ?_⟩
   . rw [T.fS] at r0
     cases r0 with
     | lst hq _ => exact .inl ⟨rfl, _, hq⟩
   . refine h H Z σ ts vs _ S fun v H1 Z1 z1 k1 S1 r => ?_
     cases r with
     | tup hq rr =>
       obtain ⟨a, ws, ea, ha, hu, S2⟩ := S1.Wx (aJ.qc S1.tp him rr) h1
       rw [e0] at ea
       cases ea
       have hz := rr.length
       exact ⟨a, _, ws, _, rfl, rfl, ha, hq, by rw [hu, ← hz]; exact amQ (ant hl (by rw [anq]; decide)), M.nx _ σ _ Z1 z1 S2 k⟩)
end
section
variable {X : Cx} {CL : Str -> Addr} {b : Bx} {δ δ1 δ2 δ3 : List (Option T)} {e e1 e2 : Expr} {ds Np : List L3.D} {pos p2 : Pos}
end
section
variable {a₀ xs : Array Keyed} {ι : Nat -> Nat} {n : Nat}
noncomputable def turned (ι : Nat -> Nat) (i j : Nat) : Nat -> Nat := fun k => if i <= k /\ k < j then ι (i + j - 1 - k) else ι k
end
section
variable {prog : Program} {w : World} {A : Around} {E : Value -> Shared -> Prop} {s : Shared} {a₀ : Array Keyed}
end
theorem DV {a c : List Int} (p : a.Perm c) (s : a.Pairwise (· ≥ ·)) : a = (sortI c).reverse := by
 have h := u9 ((List.reverse_perm a).trans p) (List.pairwise_reverse.mpr (s.imp fun h => h))
 rw [← h, List.reverse_reverse]
section
variable {X : Cx}
noncomputable def tSR (K : PySem.W.Frag) (t : TA) : TE := fun σ H Q => t σ H fun vs H1 => ∃ p ns, vs = [.ref p] /\ oi K H1 p (ns.map .int) /\ ns.length < 64 /\ ∀ l, H1 l = none -> Q (.ref l) (upd H1 l (.lst ((sortI ns).reverse.map .int)))
theorem Ko {e : Expr} {t : TA} {p pos p1 p2 : Pos} {kj : Nat} (hg : Gl X "sorted") (hm : X.mg "sorted" = none) (ha : PA X [e] t) (hs : starEach [e] X.env = (false, eval e X.env) :: starEach [] X.env) :
   PE X (.Call (.Name "sorted" p) [e] [⟨some "reverse", .Constant (.bool true) kj p1, p2⟩] pos) (tSR X.K t) := by
 intro pins s σ H Q I h
 have hk : PK X [⟨some "reverse", .Constant (.bool true) kj p1, p2⟩] (Q0 (tC (.bl true)) VA) := VB YZ aan
 refine anL (mW I hg hm vd ?_)
 refine callWith_kw (gH (ha pos pins s σ H _ I h) fun us s1 zz => ?_) (by rw [hs]; rfl) (by rw [hs]; rfl) rfl rfl
 obtain ⟨vs, H1, I1, r1, q1⟩ := zz
 refine gH (hk pos pins s1 σ H1 (fun zs H2 => zs = [.bl true] /\ H2 = H1) I1 ⟨rfl, rfl⟩) fun ws s2 zz => ?_
 obtain ⟨zs, H2, I2, rz, e1, e2⟩ := zz
 subst e1
 subst e2
 obtain ⟨u, rfl, ru⟩ := rz.one
 cases ru
 obtain ⟨q, ns, rfl, hq, hl, kk⟩ := q1
 obtain ⟨v, rfl, rv⟩ := r1.one
 cases rv
 obtain ⟨its, r', pl, hz⟩ := I2.list hq
 have hlen := r'.length
 rw [amc] at hlen
 show wpAny _ _ (call (.builtin "sorted") [.ref q] [(Str.ofString "reverse", .bool true)]) _ _ s2
 refine sorted_ints_rev pl.isList (intsAre_of r') (by omega) fun out ns' a1 a2 a3 => ?_
 obtain ⟨en, he⟩ := sortedAll_at s2.heap its out
 have e3 : ns' = (sortI ns).reverse := DV a2 a3
 subst e3
 refine ⟨.ref (s2.heap.objs.size + 1), _, I2.laid (t' := s2.toks) (fun _ _ => sortedAll_old) (anZ _) (show ju X.prog X.w _ _ _ (.lst ((sortI ns).reverse.map .int)) from ⟨?_, out.toList, en, oz a1, ?_⟩), rfl, kk _ (I2.iP.fresh (anZ _))⟩
 . rw [amc, anx, g9]
   rw [amc] at hz
   exact hz
 . simpa using he
end
section
variable {X : Cx} {CL : Str -> Addr} {b : Bx} {δ δ1 : List (Option T)} {e : Expr} {pos pp p1 p2 : Pos} {kj : Nat}
theorem z9 {l : List Int} (hm : X.mg "sorted" = none) (h : fB X CL b e δ (.lst (l.map .int)) δ1) (hl : l.length < 64) (hg : Gl X "sorted") (hs : starEach [e] X.env = (false, eval e X.env) :: starEach [] X.env := by exact bV rfl) :
   dB X CL b (.Call (.Name "sorted" pp) [e] [⟨some "reverse", .Constant (.bool true) kj p1, p2⟩] pos) δ (.lst (((sortI l).reverse.map .int).map T.sh)) δ1 := fun H Z σ ts vs Q S k =>
 eW (Ko hg hm (dc gQ fU hs) hs) (h H Z σ ts vs _ S fun v H1 Z1 z1 k1 S1 r => by
   cases r with
   | @lst a us _ hq rr =>
     have := CM rr
     subst this
     refine ⟨a, l, rfl, hq, hl, fun p hp => ?_⟩
     obtain ⟨c, S2⟩ := (dz.uU (ints_rep (sortI l).reverse) S1).qo (g0 := []) (by simp) hp
     exact k _ _ _ z1 (k1.trans c) S2)
end
section
variable {X : Cx} {i : Nat} {x : Str}
theorem mkL (hi : X.N[i]? = some x) (h : X.env.scope.names.lookup x = some .local) (hf : X.fn x = true) (hd : (x == ("__debug__" : Str)) = false := by decide) (hc : (x == ("__classdict__" : Str)) = false := by decide) : Ln X i x := ⟨⟨hi, .inl h, hd, hc⟩, .inl h, .inl hf⟩
theorem mkC (hi : X.N[i]? = some x) (h : X.env.scope.names.lookup x = some .cell) (hf : X.fn x = true) (hd : (x == ("__debug__" : Str)) = false := by decide) (hc : (x == ("__classdict__" : Str)) = false := by decide) : Ln X i x := ⟨⟨hi, .inr (.inl h), hd, hc⟩, .inr h, .inl hf⟩
end
theorem cP {P : Program} {w : World} {K : PySem.W.Frag} {mg : Str -> Option Value} {base : Heap} {k : Nat} {f : Addr} {fd : FuncData} {ps : List Str} {sp : Sp} {x : Str} (G : cC P w K mg base iE k f fd ps sp) (m : mg x = some (.ref f)) (q : PySem.W.keepIn K (.ref f) = true) (b : Binds K fd ps []) :
   ∃ f fd ps, cC P w K mg base iE k f fd ps sp /\ mg x = some (.ref f) /\ PySem.W.keepIn K (.ref f) = true /\ Binds K fd ps [] := ⟨_, _, _, G, m, q, b⟩
section
variable {X : Cx} {CL : Str -> Addr} {b : Bx} {δ δ1 δc : List (Option T)} {scope : Scope} {y : Str} {Nc : List Str} {ix : List Nat} {elt iter : Expr} {ifs : List Expr} {px pc pos : Pos} {p : L3.D -> Bool} {g : L3.D -> T} {ds : List L3.D}
theorem aeZ (sc : nJ X scope y Nc ix) : ow X scope [y] Nc ix := ⟨sc.kind, sc.DP, sc.nd, sc.names, (fun x hx => by rw [anm] at hx; subst hx; exact sc.own), sc.frees, sc.hd, sc.ixs⟩
theorem ae0 (sc : nJ X scope y Nc ix) (h : Block X CL scope Nc ifs elt δc ds p g) (h1 : (y == ("__debug__" : Str)) = false) (h2 : (y == ("__classdict__" : Str)) = false) : xu X CL scope Nc [y].length (.Name y px) part1 ifs elt δc ds p g := fun C s0 H0 f0 b' =>
 ⟨RJ (i := 0) sc.nd (Kh (by rw [sc.hd]; rfl) sc.own h1 h2), fun d hd => ⟨[d], rfl, rfl, (h C s0 H0 f0 b' d hd).1, (h C s0 H0 f0 b' d hd).2⟩⟩
theorem lY (sc : nJ X scope y Nc ix) (hc : X.calm = true) (h : V4 X CL b (.Name y px) iter δ ds δ1) (hb : (δc = Ht δ1 ix /\ ∀ d ∈ ds, (g d).clean = true) \/ δc = Hu δ1 ix) (inner : Block X CL scope Nc ifs elt δc ds p g) (hlen : ds.length <= sizeLine)
   (hs : ∀ x, foldedSetIterable iter X.env x = pure x := by intro _; rfl) (h1 : (y == ("__debug__" : Str)) = false := by decide) (h2 : (y == ("__classdict__" : Str)) = false := by decide) : dB X CL b (.ListComp elt [⟨.Name y px, iter, ifs, 0⟩] scope pos) δ (.lst ((ds.filter p).map g)) δ1 :=
 zY (xs := [y]) (aeZ sc) hc (Zd h) hb (ae0 sc inner h1 h2) hlen hs
theorem xC {D : fc} {i9 : List Stmt} {i : Nat} {x : Str} {pos' : Pos} {gg : L3.D -> T} (g : Gx X) (n : Ln X i x) (sc : nJ X scope y Nc ix) (h : V4 X CL b (.Name y px) iter δ ds δ1) (hb : (δc = Ht δ1 ix /\ ∀ d ∈ ds, (gg d).clean = true) \/ δc = Hu δ1 ix) (inner : Block X CL scope Nc ifs elt δc ds p gg)
   (hlen : ds.length <= sizeLine) (k : iI X CL b i9 (δ1.set i (some (.lst ((ds.filter p).map gg)))) D) (hl : i < δ1.length)
   (BL : swapsWith (.ListComp elt [⟨.Name y px, iter, ifs, 0⟩] scope pc) (some (.Name x pos')) pos.line X.env = pure true \/ swapsWith (.ListComp elt [⟨.Name y px, iter, ifs, 0⟩] scope pc) (some (.Name x pos')) pos.line X.env = pure false) (hs : ∀ x, foldedSetIterable iter X.env x = pure x := by intro _; rfl)
   (h1 : (y == ("__debug__" : Str)) = false := by decide) (h2 : (y == ("__classdict__" : Str)) = false := by decide) : iI X CL b (.Assign [.Name x pos'] (.ListComp elt [⟨.Name y px, iter, ifs, 0⟩] scope pc) pos :: i9) δ D :=
 aa5 (xs := [y]) g n (aeZ sc) (Zd h) hb (ae0 sc inner h1 h2) hlen k hl BL hs
end
section
variable {X : Cx} {CL : Str -> Addr} {b : Bx} {δ : List (Option T)} {i : Nat} {x : Str} {d : L3.D} {pos : Pos}
theorem aB (n : Ln X i x) (h : δ[i]? = some (some (.sh d)) := by rfl) : fB X CL b (.Name x pos) δ d δ := ah (v_ n.1 h)
end
structure cA (X : Cx) : Prop where
 g : Gx X
 u : X.A.units + 64 < cLine
noncomputable abbrev aC (X : Cx) (CL : Str -> Addr) (b : Bx) (st : Stmt) (N : List Str) (l : List L3.D) (r : T) : Prop := iI X CL b (jH st) (entry N l) { nx := fun _ => r = .sh .non, rt := fun v__ _ => v__ = r }
noncomputable abbrev az : NameKind := .globalImplicit
noncomputable abbrev ak : NameKind := .local
theorem aX {N P : List Str} {sc : Scope} (h1 : sc.kind = .function := by rfl) (h2 : sc.isCoroutine = false := by rfl) (h3 : sc.isGenerator = false := by rfl) (h4 : N.Nodup := by decide +kernel) (h5 : N.take P.length = P := by rfl) (h6 : ∀ x ∈ P, sc.names.lookup x = some .local \/ sc.names.lookup x = some .cell := by decide +kernel) (h7 : ∀ y ∈ sc.names, y.2 ≠ .free := by decide +kernel) : aP N P sc := ⟨h1, h2, h3, h4, h5, h6, h7⟩
section
variable {X : Cx} {i : Nat} {x : Str} {tb : List (Str × NameKind)}
theorem aU (c : jU X.env.scope tb = true) (j : Nat) (hj : tb[j]? = some (x, .local) := by rfl) (hi : X.N[i]? = some x := by rfl) (hf : X.fn x = true := by rfl) (hd : (x == ("__debug__" : Str)) = false := by decide) (hc : (x == ("__classdict__" : Str)) = false := by decide) : Ln X i x := mkL hi (e9 c j hj) hf hd hc
theorem HK (c : jU X.env.scope tb = true) (j : Nat) (hj : tb[j]? = some (x, .cell) := by rfl) (hi : X.N[i]? = some x := by rfl) (hf : X.fn x = true := by rfl) (hd : (x == ("__debug__" : Str)) = false := by decide) (hc : (x == ("__classdict__" : Str)) = false := by decide) : Ln X i x := mkC hi (e9 c j hj) hf hd hc
theorem cN (c : jU X.env.scope tb = true) (j : Nat) (hj : tb[j]? = some (x, .globalImplicit) := by rfl) : Gl X x := e9 c j hj
theorem cz {CL : Str -> Addr} {k n m : Nat} {A : Type} {arg : A -> List D} {Pre : A -> Prop} {res : A -> T} (F : ∃ f fd ps, cC X.prog X.w X.K X.mg X.base iE k f fd ps (jt X.K CL n arg Pre res) /\ X.mg x = some (.ref f) /\ PySem.W.keepIn X.K (.ref f) = true /\ Binds X.K fd ps []) (r : iQ m X.A) (h : k <= m := by decide) : Fc X CL x k n arg Pre res := ⟨F, r.mono h⟩
end
section
variable {K : PySem.W.Frag} {CL : Str -> Addr} {b : Bx} {H H' Z Z' : Hp} {δ δ' : List (Option T)} {σ σ' : L2.St} {ts tl : List T} {vs us : List V} {t : T} {v : V} {y : Addr} {i : Nat}
end
section
variable {K : PySem.W.Frag} {CL : Str -> Addr} {b : Bx} {H Z : Hp} {σ : L2.St} {ts : List T} {vs : List V}
end
section
variable {X : Cx} {CL : Str -> Addr} {b : Bx} {δ δ1 δ2 : List (Option T)} {e : Expr} {es : List Expr} {t : T} {d : L3.D} {pos pp : Pos} {D : fc} {i : Nat} {x : Str} {is : List Nat} {fx : List Addr -> Prop} {al : List Addr -> List T} {y : Addr}
variable {i9 : List Stmt}
end
section
variable {X : Cx} {CL : Str -> Addr} {b : Bx} {δ δ1 δ2 : List (Option T)} {e e2 : Expr} {t : T} {tl J9 Wq : List T} {D : fc} {pos pp pa pb : Pos} {y : Addr} {i9 : List Stmt}
section
variable {i : Nat} {x : Str}
end
end
section
variable {α β : Type} {g : α -> Int}
end
section
variable {X : Cx} {CL : Str -> Addr} {pins : List (Addr × Obj)} {σ : L2.St} {H : Hp} {s : Shared} {x q : Str} {params : Arguments} {body : Expr} {scope : Scope} {pos : Pos}
end
section
variable {X : Cx} {scope : Scope} {x q : Str} {Nc : List Str} {ix : List Nat} {pins : List (Addr × Obj)} {σ : L2.St} {H : Hp} {s : Shared} {A : Around} {f c : Addr}
end
section
variable {X : Cx} {pins : List (Addr × Obj)} {σ : L2.St} {H : Hp} {s : Shared}
end
section
variable {α β : Type} {F : α -> β -> Prop} {g1 : α -> Int} {g2 : β -> Int}
end
section
variable {X : Cx} {pins : List (Addr × Obj)} {σ : L2.St} {H : Hp} {s : Shared} {a kS f l : Addr} {us : List Value} {xs : List V} {kz : List Int} {J : Hp -> Prop} {e1 : Nat} {A : Around} {E : Value -> Shared -> Prop} {P : PySem.Fin -> Shared -> Prop}
end
section
variable {K : PySem.W.Frag} {CL : Str -> Addr} {Z : Hp} {g : D -> Int}
end
section
variable {X : Cx} {CL : Str -> Addr} {b : Bx} {δ δ1 : List (Option T)} {e body : Expr} {ds : List L3.D} {g : L3.D -> Int} {scope : Scope} {y q tx : Str} {Nc : List Str} {ix : List Nat} {params : Arguments} {pos pp lp p2 : Pos}
variable {A : Around} {f c : Addr} {s : Shared} {H : Hp} {i : Nat} {x : Str}
end
section
variable {X : Cx}
end
section
variable {X : Cx} {CL : Str -> Addr} {b : Bx} {δ δ1 δ2 : List (Option T)} {o e : Expr} {apos pos : Pos}
end
section
variable {X : Cx} {CL : Str -> Addr} {b : Bx} {δ : List (Option T)} {e : Expr} {es : List Expr} {d : L3.D} {ds : List L3.D}
end
section
variable {X : Cx} {CL : Str -> Addr} {b : Bx} {δ δ1 : List (Option T)} {scope : Scope} {y : Str} {Nc : List Str} {ix : List Nat} {elt iter : Expr} {ifs : List Expr} {px pos : Pos} {p : L3.D -> Bool} {g : L3.D -> T} {ds : List L3.D}
end
section
variable {X : Cx}
end
section
variable {X : Cx} {CL : Str -> Addr} {b : Bx} {δ δ1 : List (Option T)} {e : Expr} {pos pp pq pr : Pos}
end
section
variable {X : Cx} {CL : Str -> Addr} {b : Bx} {δ δ1 : List (Option T)} {ds : List L3.D} {i q : Nat} {x y : Str} {pos pp pos' : Pos}
end
section
variable {X : Cx} {CL : Str -> Addr} {b : Bx} {e o : Expr} {δ δ1 δ2 : List (Option T)} {pos apos : Pos}
end
section
variable {X : Cx} {tg : Expr}
end
section
variable {X : Cx} {CL : Str -> Addr} {b : Bx} {δ δ1 δ2 δ3 : List (Option T)} {e e1 e2 e3 : Expr} {ds Np : List L3.D} {pos p2 pr pc : Pos} {tg : Expr}
end
section
variable {X : Cx} {elts : List Expr} {kk : Nat} {pt : Pos}
end
section
variable {X : Cx} {CL : Str -> Addr} {b : Bx} {δ δ1 δ2 : List (Option T)} {e e1 e2 : Expr} {ds es : List D} {elts : List Expr} {kk : Nat} {pt pr pc pos apos : Pos}
end
section
variable {X : Cx} {CL : Str -> Addr} {b : Bx} {δ δ1 δ2 : List (Option T)} {e e2 : Expr} {t : T} {tl J9 tt Zc : List T} {DD : fc} {i9 : List Stmt} {x : Str} {i : Nat} {pos pp pa pb ps : Pos}
end
section
variable {X : Cx}
end
section
variable {X : Cx} {CL : Str -> Addr} {b : Bx} {δ δ1 δ2 : List (Option T)} {o e : Expr} {apos pos : Pos}
end
section
variable {K : PySem.W.Frag} {CL : Str -> Addr} {b : Bx} {H Z : Hp} {δ : List (Option T)} {σ : L2.St} {ts tl : List T} {vs : List V} {t : T} {v : V} {d : D}
end
section
variable {X : Cx} {CL : Str -> Addr} {b : Bx} {δ δ1 δ2 : List (Option T)} {e e1 e2 : Expr} {t : T} {d : L3.D} {DD : fc} {pos pp ps : Pos} {i : Nat} {x : Str} {i9 : List Stmt} {ly : List (List Key × L3.D)} {k : List Key}
end
section
variable {X : Cx}
end
section
variable {X : Cx} {CL : Str -> Addr} {b : Bx} {δ δ1 : List (Option T)} {e : Expr} {pos pp pq pr : Pos}
end
section
variable {X : Cx} {CL : Str -> Addr} {b : Bx} {δ δ1 δ2 : List (Option T)} {e1 e2 e3 : Expr} {pos : Pos}
end
section
variable {prog : Program} {w : World} {A : Around} {E : Value -> Shared -> Prop} {s : Shared}
end
section
variable {X : Cx}
end
section
variable {X : Cx} {CL : Str -> Addr} {b : Bx} {δ δ1 : List (Option T)} {e : Expr} {pos pp pq pr : Pos}
end
end L3
namespace Law
open PySem L2 L3
noncomputable def top (i : Nat) : Stmt := PySem.Challenge.pw_moodtree_k39_a_move_told.main.body.getD i (.Pass ⟨0, 0, 0, 0⟩)
noncomputable def yO : Nat -> List Int -> Int -> List Int
 | 0, _, _ => []
 | n + 1, es, k => if k = -1 then [] else k :: yO n es (es.getD k.toNat 0)
noncomputable def aY (es : List Int) (m : Int) : List Int := yO (es.length + 1) es (es.getD m.toNat 0)
noncomputable def dM (es : List Int) : Prop := ∀ k : Nat, k < es.length -> -1 <= es.getD k 0 /\ es.getD k 0 < k
theorem dM.at {es : List Int} (h : dM es) {k : Int} (h0 : 0 <= k) (h1 : k < es.length) : -1 <= es.getD k.toNat 0 /\ es.getD k.toNat 0 < k := by
 have := h k.toNat (by omega)
 omega
noncomputable def eo (ks : List Str) (es ss : List Int) : L3.D := .ins "Tree" [("kinds", .lst (ks.map .str)), ("elders", .lst (es.map .int)), ("starts", .lst (ss.map .int))]
theorem lD {ks : List Str} {es ss : List Int} : List.lookup ("kinds" : Str) [(("kinds" : Str), L3.D.lst (ks.map .str)), ("elders", .lst (es.map .int)), ("starts", .lst (ss.map .int))] = some (.lst (ks.map .str)) := ou
theorem lZ {ks : List Str} {es ss : List Int} : List.lookup ("elders" : Str) [(("kinds" : Str), L3.D.lst (ks.map .str)), ("elders", .lst (es.map .int)), ("starts", .lst (ss.map .int))] = some (.lst (es.map .int)) := by
 rw [fE (by decide +kernel), ou]
theorem HL {ks : List Str} {es ss : List Int} : List.lookup ("starts" : Str) [(("kinds" : Str), L3.D.lst (ks.map .str)), ("elders", .lst (es.map .int)), ("starts", .lst (ss.map .int))] = some (.lst (ss.map .int)) := by
 rw [fE (by decide +kernel), fE (by decide +kernel), ou]
theorem cS (ds : List L3.D) : T.fS (.lst (ds.map T.sh)) = .lst ds := by rw [T.fS, lW]
theorem aT (l : List Int) : (T.lst ((l.map L3.D.int).map T.sh)).clean = true := by rw [rV]; exact Hz _
theorem Aa (l : List Str) : (T.lst ((l.map L3.D.str).map T.sh)).clean = true := by
 rw [rV]
 induction l with
 | nil => rfl
 | cons x l ih => exact ih
noncomputable def qe (ks : List Str) (es ss : List Int) : List (Str × T) := [("kinds", .lst ((ks.map .str).map T.sh)), ("elders", .lst ((es.map .int).map T.sh)), ("starts", .lst ((ss.map .int).map T.sh))]
theorem Pg (ks : List Str) (es ss : List Int) : T.fS (.ins "Tree" (qe ks es ss)) = eo ks es ss := by
 unfold qe
 rw [T.fS, T.tE, T.tE, T.tE, T.tE, cS, cS, cS]
 rfl
theorem yx (ks : List Str) (es ss : List Int) : T.cj (qe ks es ss) = true := by
 unfold qe
 rw [T.cj, T.cj, T.cj, T.cj, Aa, aT, aT]
 rfl
theorem Nt {es : List Int} (h : dM es) : ∀ (n : Nat) {k x : Int}, -1 <= k -> k < es.length -> x ∈ yO n es k -> 0 <= x /\ x <= k
 | 0, k, x, _, _, hx => by rw [yO] at hx; cases hx
 | n + 1, k, x, h0, h1, hx => by
   rw [yO] at hx
   split at hx
   . cases hx
   . rename_i hk
     have ha := h.at (k := k) (by omega) h1
     rcases amf.mp hx with rfl | hx
     . omega
     . have := Nt h n (by omega) (by omega) hx
       omega
theorem Ab {es : List Int} (h : dM es) : ∀ (a b : Nat) {k : Int}, -1 <= k -> k < es.length -> k < a -> k < b -> yO a es k = yO b es k
 | 0, 0, _, _, _, _, _ => rfl
 | 0, b + 1, k, h0, _, ha, _ => by
   rw [yO, yO, amo (by omega)]
 | a + 1, 0, k, h0, _, _, hb => by
   rw [yO, yO, amo (by omega)]
 | a + 1, b + 1, k, h0, h1, ha, hb => by
   rw [yO, yO]
   split
   . rfl
   . have hk := h.at (k := k) (by omega) h1
     rw [Ab h a b hk.1 (by omega) (by omega) (by omega)]
theorem c6 {es : List Int} (h : dM es) {m : Int} (h0 : 0 <= m) (h1 : m < es.length) : aY es m = if es.getD m.toNat 0 = -1 then [] else es.getD m.toNat 0 :: aY es (es.getD m.toNat 0) := by
 have hm := h.at h0 h1
 unfold aY
 rw [yO]
 split
 . rfl
 . rename_i hk
   have hk2 := h.at (k := es.getD m.toNat 0) (by omega) (by omega)
   rw [Ab h es.length (es.length + 1) hk2.1 (by omega) (by omega) (by omega)]
theorem aZ {es : List Int} (h : dM es) {m x : Int} (h0 : 0 <= m) (h1 : m < es.length) (hx : x ∈ aY es m) : 0 <= x /\ x < m /\ x < es.length := by
 have hm := h.at h0 h1
 have := Nt h _ hm.1 (by omega) hx
 omega
theorem nM {es : List Int} (h : dM es) : ∀ (n : Nat) {m x : Int}, 0 <= m -> m < es.length -> m < n -> x ∈ aY es m -> ∃ pre, aY es m = pre ++ x :: aY es x /\ ∀ y ∈ pre, y ∈ aY es m /\ x ∈ aY es y
 | 0, m, x, h0, _, hn, _ => by omega
 | n + 1, m, x, h0, h1, hn, hx => by
   have hm := h.at h0 h1
   have e := c6 h h0 h1
   generalize hq : es.getD m.toNat 0 = k at hm e
   by_cases hk : k = -1
   . rw [e, amo hk] at hx; cases hx
   . rw [amk hk] at e
     rw [e] at hx
     rcases amf.mp hx with rfl | hx
     . exact ⟨[], by rw [e]; rfl, fun y hy => by cases hy⟩
     . obtain ⟨pre, p1, p2⟩ := nM h n (m := k) (by omega) (by omega) (by omega) hx
       refine ⟨k :: pre, by rw [e, p1]; rfl, fun y hy => ?_⟩
       rcases amf.mp hy with rfl | hy
       . exact ⟨by rw [e]; exact ame, hx⟩
       . exact ⟨by rw [e]; exact ami _ (p2 y hy).1, (p2 y hy).2⟩
theorem iV {es : List Int} (h : dM es) {m x y : Int} (h0 : 0 <= m) (h1 : m < es.length) (hx : x ∈ aY es m) (hy : y ∈ aY es x) : y ∈ aY es m := by
 obtain ⟨pre, p1, _⟩ := nM h (m.toNat + 1) h0 h1 (by omega) hx
 rw [p1]
 exact amh _ (ami _ hy)
theorem oA {es : List Int} (h : dM es) {m x y : Int} (h0 : 0 <= m) (h1 : m < es.length) (hx : x ∈ aY es m) (hy : y ∈ aY es m) : x = y \/ x ∈ aY es y \/ y ∈ aY es x := by
 obtain ⟨pre, p1, p2⟩ := nM h (m.toNat + 1) h0 h1 (by omega) hx
 rw [p1] at hy
 rcases amn.mp hy with hy | hy
 . exact .inr (.inl (p2 y hy).2)
 . rcases amf.mp hy with e | hy
   . exact .inl e.symm
   . exact .inr (.inr hy)
theorem uc {es : List Int} (h : dM es) : ∀ (n : Nat) {m : Int}, 0 <= m -> m < es.length -> m < n -> (aY es m).Pairwise (fun a b => b < a)
 | 0, m, h0, _, hn => by omega
 | n + 1, m, h0, h1, hn => by
   have hm := h.at h0 h1
   rw [c6 h h0 h1]
   split
   . exact .nil
   . rename_i hk
     have hs := uc h n (m := es.getD m.toNat 0) (by omega) (by omega) (by omega)
     refine am5.mpr ⟨fun x hx => ?_, hs⟩
     have := aZ h (m := es.getD m.toNat 0) (by omega) (by omega) hx
     omega
theorem CP {es : List Int} (h : dM es) {m : Int} (h0 : 0 <= m) (h1 : m < es.length) (hk : es.getD m.toNat 0 ≠ -1) : es.getD m.toNat 0 ∈ aY es m := by
 rw [c6 h h0 h1, amk hk]
 exact ame
noncomputable def jf (es : List Int) : Prop := dM es /\ ∀ k : Nat, k + 1 < es.length -> es.getD (k + 1) 0 = k \/ es.getD (k + 1) 0 ∈ aY es k
theorem jf.down {es : List Int} (h : jf es) {k : Nat} {x : Int} (hk : k + 1 < es.length) (hx : x ∈ aY es ((k + 1 : Nat) : Int)) : x = k \/ x ∈ aY es k := by
 have e := c6 h.1 (m := ((k + 1 : Nat) : Int)) (by omega) (by omega)
 rw [amm] at e
 have hp := h.2 k hk
 rw [e] at hx
 split at hx
 . cases hx
 . rename_i qd
   rcases amf.mp hx with hx | hx
   . rcases hp with hp | hp
     . exact .inl (hx.trans hp)
     . rw [hx]; exact .inr hp
   . rcases hp with hp | hp
     . rw [hp] at hx; exact .inr hx
     . exact .inr (iV h.1 (by omega) (by omega) hp hx)
noncomputable def bU (es : List Int) (u m : Int) : List Int := (m :: (aY es m).takeWhile (fun x => decide (x ≠ u))).reverse
theorem yP {es : List Int} (h : dM es) {u m x : Int} (h0 : 0 <= m) (h1 : m < es.length) (hu : u ∈ aY es m) (hx : x ∈ (aY es m).takeWhile (fun x => decide (x ≠ u))) : u ∈ aY es x := by
 obtain ⟨pre, p1, p2⟩ := nM h (m.toNat + 1) h0 h1 (by omega) hu
 rw [p1] at hx
 have ne : ∀ y ∈ pre, decide (y ≠ u) = true := fun y hy => by
   have := aZ h (m := y) (by have := aZ h h0 h1 (p2 y hy).1; omega) (by have := aZ h h0 h1 (p2 y hy).1; omega) (p2 y hy).2
   simp; omega
 have : (pre ++ u :: aY es u).takeWhile (fun x => decide (x ≠ u)) = pre := by
   rw [aoa ne, List.takeWhile_cons, amk (by simp), amF]
 rw [this] at hx
 exact (p2 x hx).2
noncomputable def DW (bB : Int -> Bool) (es : List Int) (a b : Int) : Int := ((aY es a).find? (fun x => bB x && decide (x ∈ aY es b))).getD (-1)
theorem Ac {α : Type} {p : α -> Bool} : ∀ {l : List α} {x : α}, l.find? p = some x -> ∃ pre suf, l = pre ++ x :: suf /\ p x = true /\ ∀ y ∈ pre, p y = false
 | [], _, h => by cases h
 | y :: l, x, h => by
   rw [List.find?_cons] at h
   cases e : p y with
   | true =>
     rw [e] at h
     cases h
     exact ⟨[], l, rfl, e, fun z hz => by cases hz⟩
   | false =>
     rw [e] at h
     obtain ⟨pre, suf, h1, h2, h3⟩ := Ac h
     refine ⟨y :: pre, suf, by rw [h1]; rfl, h2, fun z hz => ?_⟩
     rcases amf.mp hz with rfl | hz
     . exact e
     . exact h3 z hz
noncomputable def ae1 (bB : Int -> Bool) (es : List Int) (a b t : Int) : Prop :=
 (t = -1 /\ ∀ x ∈ aY es a, x ∈ aY es b -> bB x = false) \/ (t ∈ aY es a /\ t ∈ aY es b /\ bB t = true /\ ∀ x ∈ aY es a, x ∈ aY es b -> bB x = true -> x = t \/ x ∈ aY es t)
theorem DX {bB : Int -> Bool} {es : List Int} (h : dM es) {a b : Int} (h0 : 0 <= a) (h1 : a < es.length) : ae1 bB es a b (DW bB es a b) := by
 unfold DW
 cases e : (aY es a).find? (fun x => bB x && decide (x ∈ aY es b)) with
 | none =>
   refine .inl ⟨rfl, fun x hx hy => ?_⟩
   have := List.find?_eq_none.mp e x hx
   simpa [hy] using this
 | some t =>
   obtain ⟨pre, suf, p1, p2, p3⟩ := Ac e
   have ht : t ∈ aY es a := by rw [p1]; simp
   rw [amD, amY] at p2
   refine .inr ⟨ht, p2.2, p2.1, fun x hx hy ho => ?_⟩
   show x = t \/ x ∈ aY es t
   rcases oA h h0 h1 hx ht with c | c | c
   . exact .inl c
   . exact .inr c
   . exfalso
     have hs := uc h (a.toNat + 1) h0 h1 (by omega)
     rw [p1] at hx hs
     have ta := aZ h h0 h1 ht
     have xa : t < x := by
       have hx' : x ∈ aY es a := by rw [p1]; exact hx
       have xm := aZ h h0 h1 hx'
       exact (aZ h (m := x) (by omega) (by omega) c).2.1
     rcases amn.mp hx with hx | hx
     . have := p3 x hx
       rw [ho, am8 hy] at this
       cases this
     . rcases amf.mp hx with e2 | hx
       . omega
       . have := (am5.mp (aof.mp hs).2.1).1 x hx
         omega
theorem Nu {es : List Int} {x : Int} (h : dM es) : ∀ (n : Nat) {k : Int}, -1 <= k -> k < es.length -> yO n (es ++ [x]) k = yO n es k
 | 0, _, _, _ => rfl
 | n + 1, k, h0, h1 => by
   rw [yO, yO]
   split
   . rfl
   . have hk := h.at (k := k) (by omega) h1
     have e : (es ++ [x]).getD k.toNat 0 = es.getD k.toNat 0 := by
       rw [amd, aol (by omega), ← amd]
     rw [e, Nu h n hk.1 (by omega)]
theorem Ad {es : List Int} {x : Int} {k : Nat} (h : k < es.length) : (es ++ [x]).getD k 0 = es.getD k 0 := by
 rw [amd, aol h, ← amd]
theorem DY {es : List Int} {x : Int} (h : dM es) {m : Int} (h0 : 0 <= m) (h1 : m < es.length) : aY (es ++ [x]) m = aY es m := by
 have hm := h.at h0 h1
 unfold aY
 rw [Ad (by omega), Nu h _ hm.1 (by omega), Ab h _ (es.length + 1) hm.1 (by omega) (by rw [amj]; omega) (by omega)]
theorem dM.snoc {es : List Int} (h : dM es) {x : Int} (h0 : -1 <= x) (h1 : x < es.length) : dM (es ++ [x]) := fun k hk => by
 rw [amj] at hk
 simp only [amA, List.length_nil] at hk
 by_cases e : k < es.length
 . rw [Ad e]
   exact h k e
 . have : k = es.length := by omega
   subst this
   rw [amd, anI (amu _)]
   simp
   omega
theorem jf.snoc {es : List Int} (h : jf es) {x : Int} {k : Nat} (hk : k + 1 = es.length) (hx : x = k \/ x ∈ aY es k) : jf (es ++ [x]) := by
 have hx' : -1 <= x /\ x < es.length := by
   rcases hx with e | e
   . omega
   . have := aZ h.1 (m := (k : Int)) (by omega) (by omega) e
     omega
 refine ⟨h.1.snoc hx'.1 hx'.2, fun j hj => ?_⟩
 rw [amj] at hj
 simp only [amA, List.length_nil] at hj
 rw [DY h.1 (by omega) (by omega)]
 by_cases e : j + 1 < es.length
 . rw [Ad e]
   exact h.2 j e
 . have : j = k := by omega
   subst this
   have e2 : (es ++ [x]).getD (j + 1) 0 = x := by
     rw [amd, anI (by omega), hk, Nat.sub_self]
     rfl
   rw [e2]
   exact hx
structure Wy (es : List Int) (m : Int) (L : Nat) : Prop where
 le : m + 1 + L <= es.length
 iff : ∀ i : Nat, i < es.length -> ((m = -1 \/ m ∈ aY es i) ↔ m < i /\ (i : Int) < m + 1 + L)
 eld : ∀ i : Nat, m < i -> (i : Int) < m + 1 + L -> m <= es.getD i 0
 beh : m + 1 + L = es.length \/ es.getD (m + 1 + L).toNat 0 < m
theorem Kp {es : List Int} (h : jf es) {m : Int} (h0 : -1 <= m) (h1 : m < es.length) : ∃ L, Wy es m L := by
 by_cases hm : m = -1
 . subst hm
   refine ⟨es.length, by omega, fun i hi => ⟨fun _ => by omega, fun _ => .inl rfl⟩, fun i hi hi2 => (h.1 i (by omega)).1, .inl (by omega)⟩
 . have h0 : 0 <= m := by omega
   have wlt : ∀ i : Nat, i < es.length -> m ∈ aY es i -> m < i := fun i hi hx => (aZ h.1 (by omega) (by omega) hx).2.1
   have go : ∀ (r L : Nat), m + 1 + L + r = es.length -> (∀ i : Nat, m < i -> (i : Int) < m + 1 + L -> m ∈ aY es i) -> ∃ L' : Nat, m + 1 + L' <= es.length /\ (∀ i : Nat, m < i -> (i : Int) < m + 1 + L' -> m ∈ aY es i) /\ (m + 1 + L' = es.length \/ m ∉ aY es (m + 1 + L')) := by
     intro r
     induction r with
     | zero => intro L e hL; exact ⟨L, by omega, hL, .inl (by omega)⟩
     | succ r ih =>
       intro L e hL
       by_cases hw : m ∈ aY es (m + 1 + L)
       . refine ih (L + 1) (by omega) fun i hi1 hi2 => ?_
         by_cases hi : (i : Int) < m + 1 + L
         . exact hL i hi1 hi
         . have : (i : Int) = m + 1 + L := by omega
           rw [this]; exact hw
       . exact ⟨L, by omega, hL, .inr hw⟩
   obtain ⟨L, hL1, hL2, hL3⟩ := go (es.length - (m.toNat + 1)) 0 (by omega) (fun i hi1 hi2 => by omega)
   have out : ∀ (r i : Nat), (i : Int) = m + 1 + L + r -> i < es.length -> m ∉ aY es i := by
     intro r
     induction r with
     | zero =>
       intro i hi qg hx
       rcases hL3 with e | e
       . omega
       . rw [show (i : Int) = m + 1 + L by omega] at hx
         exact e hx
     | succ r ih =>
       intro i hi qg hx
       obtain ⟨j, rfl⟩ : ∃ j, i = j + 1 := ⟨i - 1, by omega⟩
       rcases h.down qg hx with e | e
       . omega
       . exact ih j (by omega) (by omega) e
   refine ⟨L, hL1, fun i hi => ⟨fun hw => ?_, fun ⟨a, c⟩ => .inr (hL2 i a c)⟩, fun i hi1 hi2 => ?_, ?_⟩
   . have hx := hw.resolve_left hm
     have := wlt i hi hx
     refine ⟨this, ?_⟩
     by_cases hc : (i : Int) < m + 1 + L
     . exact hc
     . exact absurd hx (out (i - (m.toNat + 1 + L)) i (by omega) hi)
   . have hx := hL2 i hi1 hi2
     have hi : i < es.length := by omega
     have e := c6 h.1 (m := (i : Int)) (by omega) (by omega)
     rw [amm] at e
     rw [e] at hx
     split at hx
     . cases hx
     . rename_i qd
       have hk := h.1 i hi
       rcases amf.mp hx with e2 | hx
       . omega
       . have := aZ h.1 (m := es.getD i 0) (by omega) (by omega) hx
         omega
   . by_cases aa8 : m + 1 + L = es.length
     . exact .inl aa8
     . refine .inr ?_
       obtain ⟨j, hj⟩ : ∃ j : Nat, (j : Int) = m + L := ⟨(m + L).toNat, by omega⟩
       have hj1 : j + 1 < es.length := by omega
       have nw : m ∉ aY es ((j + 1 : Nat) : Int) := out 0 (j + 1) (by omega) hj1
       have wj : m = j \/ m ∈ aY es j := by
         by_cases e : m = j
         . exact .inl e
         . exact .inr (hL2 j (by omega) (by omega))
       have et : (m + 1 + L).toNat = j + 1 := by omega
       rw [et]
       have e := c6 h.1 (m := ((j + 1 : Nat) : Int)) (by omega) (by omega)
       rw [amm] at e
       have hk := h.1 (j + 1) hj1
       by_cases hk1 : es.getD (j + 1) 0 = -1
       . omega
       . rw [amk hk1] at e
         rw [e] at nw
         have n1 : m ≠ es.getD (j + 1) 0 := fun z => nw (by rw [← z]; exact ame)
         have n2 : m ∉ aY es (es.getD (j + 1) 0) := fun z => nw (ami _ z)
         rcases h.2 j hj1 with z | z
         . rw [z] at n1 n2
           rcases wj with w | w
           . exact absurd w n1
           . exact absurd w n2
         . rcases wj with w | w
           . have := aZ h.1 (m := (j : Int)) (by omega) (by omega) z
             omega
           . rcases oA h.1 (m := (j : Int)) (by omega) (by omega) w z with c | c | c
             . exact absurd c n1
             . exact absurd c n2
             . have := aZ h.1 (m := m) (by omega) (by omega) c
               omega
theorem ve : ∀ (n : Nat) (es : List Int) (k : Int), (yO n es k).length <= n
 | 0, _, _ => amu _
 | n + 1, es, k => by
   rw [yO]
   split
   . exact amO _
   . exact Nat.succ_le_succ (ve n es _)
noncomputable def aS (ks : List Str) (x : Int) : Bool := decide (ks.getD x.toNat Str.empty = "one")
noncomputable def eU (es : List Int) (m : Int) : List Int := ((List.range es.length).filter (fun (i : Nat) => decide (es.getD i 0 = m))).map (fun (i : Nat) => (i : Int))
theorem RZ (es : List Int) (m : Int) : (((List.range es.length).map fun (i : Nat) => L3.D.tup [.int i, .int (es.getD i 0)]).filter (fun d => decide (d.at2.uW = m))).map (fun d => T.sh d.at1) = ((eU es m).map L3.D.int).map T.sh := by
 unfold eU
 rw [anE, amI, amI, amI]
 rfl
theorem zc (es : List Int) (m : Int) : (eU es m).length <= es.length := by
 unfold eU
 rw [amc]
 exact am0 (ank _ _) (by simp)
theorem jI {es : List Int} {m x : Int} (h : x ∈ eU es m) : 0 <= x /\ x < es.length /\ es.getD x.toNat 0 = m := by
 unfold eU at h
 obtain ⟨i, hi, rfl⟩ := amJ.mp h
 obtain ⟨h1, h2⟩ := amK.mp hi
 have h1 := anP.mp h1
 have h2 := amx h2
 exact ⟨by omega, by omega, by rw [amm]; exact h2⟩
theorem rX {es : List Int} {m x : Int} (h0 : 0 <= x) (h1 : x < es.length) (h2 : es.getD x.toNat 0 = m) : x ∈ eU es m := by
 unfold eU
 refine List.mem_map.mpr ⟨x.toNat, List.mem_filter.mpr ⟨List.mem_range.mpr (by omega), by simpa using h2⟩, by omega⟩
theorem Ae (es : List Int) (m : Int) : (eU es m).Pairwise (· < ·) := by
 unfold eU
 refine List.Pairwise.map _ (fun a b h => ?_) (aog _ List.pairwise_lt_range)
 exact Int.ofNat_lt.mpr h
noncomputable def HM (s : List Int) (k : Int) : Int := if s.length = 0 then k else s.getD (k % (s.length : Nat)).toNat 0 % 1000000007 / (1 + k / (s.length : Nat)) + k / (s.length : Nat) * k
noncomputable def wX (es : List Int) (m : Int) (n : Nat) : Int := (m :: aY es m).getD n 0
theorem vf {es : List Int} (h : dM es) : ∀ (f : Nat) {m : Int} {n : Nat}, 0 <= m -> m < es.length -> m < f -> n < (aY es m).length -> (0 <= wX es m n /\ wX es m n < es.length) /\ es.getD (wX es m n).toNat 0 = wX es m (n + 1)
 | 0, m, n, h0, _, hf, _ => by omega
 | f + 1, m, n, h0, h1, hf, hn => by
   have hm := h.at h0 h1
   have e := c6 h h0 h1
   generalize hq : es.getD m.toNat 0 = k at hm e
   by_cases hk : k = -1
   . rw [e, amo hk] at hn; cases hn
   . rw [amk hk] at e
     cases n with
     | zero =>
       unfold wX
       refine ⟨⟨h0, h1⟩, ?_⟩
       rw [e]
       exact hq
     | succ n =>
       rw [e, amA] at hn
       have ih := vf h f (m := k) (n := n) (by omega) (by omega) (by omega) (by omega)
       unfold wX at ih ⊢
       rw [e]
       exact ih
theorem DZ {es : List Int} {m : Int} {n : Nat} (hn : n <= (aY es m).length) : wX es m n = m \/ wX es m n ∈ aY es m := by
 cases n with
 | zero => exact .inl rfl
 | succ n =>
   refine .inr ?_
   unfold wX
   show (aY es m).getD n 0 ∈ _
   rw [amd, amq (by omega)]
   exact anD _
noncomputable def Af (n : Int) (es : List Int) (j : Nat) : Int := if n % 3 = 0 then (if 2 < ((aY es j).length : Int) + 1 then 2 else ((aY es j).length : Int) + 1) else ((aY es j).length : Int) + 1
noncomputable def eUp (s : List Int) (n : Int) (es : List Int) (j : Nat) : Int := if ((aY es j).length : Int) = 12 then (if 1 > HM s (1 + (j : Int)) % Af n es j then 1 else HM s (1 + (j : Int)) % Af n es j) else HM s (1 + (j : Int)) % Af n es j
theorem R0 (n : Int) (es : List Int) (j : Nat) : 0 < Af n es j /\ Af n es j <= ((aY es j).length : Int) + 1 := by
 unfold Af
 split
 . split <;> omega
 . omega
theorem abb (s : List Int) (n : Int) (es : List Int) (j : Nat) : 0 <= eUp s n es j /\ eUp s n es j <= ((aY es j).length : Int) := by
 obtain ⟨h1, h2⟩ := R0 n es j
 have a := amB (HM s (1 + (j : Int))) (b := Af n es j) (by omega)
 have b := amt (HM s (1 + (j : Int))) h1
 unfold eUp
 split
 . split <;> omega
 . omega
noncomputable def Wz (s : List Int) (n : Int) : Nat -> List Int
 | 0 => [-1]
 | j + 1 => Wz s n j ++ [wX (Wz s n j) j (eUp s n (Wz s n j) j).toNat]
theorem abd (s : List Int) (n : Int) : ∀ j, (Wz s n j).length = j + 1 /\ jf (Wz s n j)
 | 0 => ⟨rfl, ⟨fun k hk => by
     have : (Wz s n 0).length = 1 := rfl
     have : k = 0 := by omega
     subst this
     exact ⟨Int.le_refl _, show (-1 : Int) < ((0 : Nat) : Int) by decide⟩, fun k hk => by
     have : (Wz s n 0).length = 1 := rfl
     omega⟩⟩
 | j + 1 => by
   obtain ⟨h1, h2⟩ := abd s n j
   refine ⟨by show (Wz s n j ++ _).length = _; rw [amj, h1]; rfl, ?_⟩
   have hu := abb s n (Wz s n j) j
   exact h2.snoc h1.symm (DZ (by omega))
noncomputable def zf (es : List Int) (n : Nat) : List Int := (List.range n).map fun (i : Nat) => ((aY es i).length : Int)
theorem Kq (es : List Int) {n i : Nat} (h : i < n) : (zf es n).getD i 0 = ((aY es i).length : Int) := by
 unfold zf
 rw [amd, amT, anp h]
 rfl
theorem getD_snoc {es : List Int} {x : Int} : (es ++ [x]).getD es.length 0 = x := by
 rw [amd, anI (amu _), Nat.sub_self]
 rfl
theorem R1 {es : List Int} (h : dM es) {x : Int} (h0 : 0 <= x) (h1 : x < es.length) : aY (es ++ [x]) es.length = x :: aY es x := by
 have h' := h.snoc (x := x) (by omega) h1
 rw [c6 h' (m := (es.length : Int)) (by omega) (by rw [amj]; simp; omega), amm, getD_snoc, amk (by omega), DY h h0 h1]
theorem R3 {es : List Int} (h : dM es) {x : Int} (h0 : 0 <= x) (h1 : x < es.length) : zf (es ++ [x]) (es.length + 1) = zf es es.length ++ [((aY es x).length : Int) + 1] := by
 unfold zf
 rw [ans, amR]
 congr 1
 . apply anH
   intro i hi
   have : i < es.length := anP.mp hi
   rw [DY h (by omega) (by omega)]
 . show [((aY (es ++ [x]) (es.length : Nat)).length : Int)] = _
   rw [R1 h h0 h1, amA]
   simp
noncomputable def cD (isAll : Int -> Bool) (es ch : List Int) : Nat -> List Int
 | 0 => [0]
 | j + 1 => if es.getD (j + 1) 0 ∈ cD isAll es ch j /\ (isAll (es.getD (j + 1) 0) = true \/ ch.getD (es.getD (j + 1) 0).toNat 0 = ((j + 1 : Nat) : Int)) then cD isAll es ch j ++ [((j + 1 : Nat) : Int)] else cD isAll es ch j
theorem gJ {isAll : Int -> Bool} {es ch : List Int} : ∀ (j : Nat) {x : Int}, x ∈ cD isAll es ch j -> 0 <= x /\ x <= j
 | 0, x, h => by
   have : x = 0 := by simpa [cD] using h
   omega
 | j + 1, x, h => by
   rw [cD] at h
   split at h
   . rcases amn.mp h with h | h
     . have := gJ j h
       omega
     . have : x = ((j + 1 : Nat) : Int) := by simpa using h
       omega
   . have := gJ j h
     omega
theorem oB {isAll : Int -> Bool} {es ch : List Int} : ∀ (j : Nat), (cD isAll es ch j).length <= j + 1
 | 0 => amu _
 | j + 1 => by
   have := oB (isAll := isAll) (es := es) (ch := ch) j
   rw [cD]
   split
   . rw [amj, anf]; omega
   . omega
noncomputable def aq (ks : List Str) (x : Int) : Bool := decide (ks.getD x.toNat Str.empty = "all")
theorem abe {es : List Int} {k : Nat} (h : (k : Int) ∈ es) : eU es k ≠ [] := fun z => by
 obtain ⟨i, hi, e⟩ := List.getElem_of_mem h
 have : (i : Int) ∈ eU es k := rX (by omega) (by omega) (by rw [amm, amd, amq hi]; exact e)
 rw [z] at this
 cases this
noncomputable def R4 (ks : List Str) (es : List Int) : Prop := ∀ k : Nat, k < es.length -> ks.getD k Str.empty = "one" -> eU es k ≠ []
noncomputable def aQ (ks : List Str) (x : Int) : Bool := decide (ks.getD x.toNat Str.empty = "leaf")
noncomputable def mY (bB : Int -> Bool) (es dG acc : List Int) (m : Int) : List Int := if es.getD m.toNat 0 ∈ dG /\ bB (es.getD m.toNat 0) = true then acc.set (es.getD m.toNat 0).toNat m else acc
noncomputable def JM (bB : Int -> Bool) (es dG acc ops : List Int) : List Int := ops.foldl (mY bB es dG) acc
theorem zg (bB : Int -> Bool) (es dG : List Int) : ∀ (ops acc : List Int), (JM bB es dG acc ops).length = acc.length
 | [], acc => rfl
 | m :: ops, acc => by
   show (JM bB es dG (mY bB es dG acc m) ops).length = _
   rw [zg bB es dG ops]
   unfold mY
   split
   . rw [anU]
   . rfl
theorem R5 (bB : Int -> Bool) (es dG acc ops : List Int) (m : Int) : JM bB es dG acc (ops ++ [m]) = mY bB es dG (JM bB es dG acc ops) m := by
 unfold JM
 rw [an8]
 rfl
noncomputable def setStep (bB : Int -> Bool) (ch acc : List Int) (m : Int) : List Int := if bB m = true then acc.set m.toNat (ch.getD m.toNat 0) else acc
noncomputable def ud (bB : Int -> Bool) (ch acc some : List Int) : List Int := some.foldl (setStep bB ch) acc
theorem vg (bB : Int -> Bool) (ch : List Int) : ∀ (some acc : List Int), (ud bB ch acc some).length = acc.length
 | [], acc => rfl
 | m :: ops, acc => by
   show (ud bB ch (setStep bB ch acc m) ops).length = _
   rw [vg bB ch ops]
   unfold setStep
   split
   . rw [anU]
   . rfl
theorem Ph (bB : Int -> Bool) (ch acc some : List Int) (m : Int) : ud bB ch acc (some ++ [m]) = setStep bB ch (ud bB ch acc some) m := by
 unfold ud
 rw [an8]
 rfl
theorem R6 {bB : Int -> Bool} {es dG ch : List Int} :
   ∀ (ops acc : List Int), (∀ m ∈ ops, ∀ e, es.getD m.toNat 0 = e -> bB e = true -> ch.getD e.toNat 0 = m) -> (∀ e ∈ dG, 0 <= e /\ e < acc.length) -> ∀ i : Nat, i < acc.length →
     (JM bB es dG acc ops).getD i 0 = if (i : Int) ∈ dG /\ bB i = true /\ ∃ m ∈ ops, es.getD m.toNat 0 = (i : Int) then ch.getD i 0 else acc.getD i 0
 | [], acc, _, _, i, _ => by
   rw [amk (fun z => by obtain ⟨_, _, m, hm, _⟩ := z; cases hm)]
   rfl
 | m :: ops, acc, hc, hm, i, hi => by
   show (JM bB es dG (mY bB es dG acc m) ops).getD i 0 = _
   have hl : (mY bB es dG acc m).length = acc.length := by
     unfold mY
     split
     . rw [anU]
     . rfl
   rw [R6 ops _ (fun k hk => hc k (ami _ hk)) (by rw [hl]; exact hm) i (by rw [hl]; exact hi)]
   by_cases h1 : (i : Int) ∈ dG /\ bB i = true /\ ∃ m ∈ ops, es.getD m.toNat 0 = (i : Int)
   . rw [amo h1, amo ⟨h1.1, h1.2.1, h1.2.2.imp fun k hk => ⟨ami _ hk.1, hk.2⟩⟩]
   . rw [amk h1]
     unfold mY
     by_cases h2 : es.getD m.toNat 0 ∈ dG /\ bB (es.getD m.toNat 0) = true
     . rw [amo h2]
       have hb := hm _ h2.1
       by_cases h3 : es.getD m.toNat 0 = (i : Int)
       . rw [amo ⟨by rw [← h3]; exact h2.1, by rw [← h3]; exact h2.2, m, ame, h3⟩]
         have := hc m ame _ h3 (by rw [← h3]; exact h2.2)
         rw [amm] at this
         rw [this, h3, amm, amd, anR hi]
         rfl
       . rw [amk (fun z => by
           obtain ⟨z1, z2, k, hk, z3⟩ := z
           rcases amf.mp hk with e | hk
           . rw [e] at z3; exact h3 z3
           . exact h1 ⟨z1, z2, k, hk, z3⟩)]
         rw [amd, aob (by omega), ← amd]
     . rw [amk h2]
       rw [amk (fun z => by
         obtain ⟨z1, z2, k, hk, z3⟩ := z
         rcases amf.mp hk with e | hk
         . rw [e] at z3
           exact h2 ⟨by rw [z3]; exact z1, by rw [z3]; exact z2⟩
         . exact h1 ⟨z1, z2, k, hk, z3⟩)]
theorem zj {bB : Int -> Bool} {ch : List Int} : ∀ (some acc : List Int), (∀ e ∈ some, 0 <= e /\ e < acc.length) -> ∀ i : Nat, i < acc.length →
     (ud bB ch acc some).getD i 0 = if (i : Int) ∈ some /\ bB i = true then ch.getD i 0 else acc.getD i 0
 | [], acc, _, i, _ => by
   rw [amk (fun z => by cases z.1)]
   rfl
 | m :: ops, acc, hm, i, hi => by
   show (ud bB ch (setStep bB ch acc m) ops).getD i 0 = _
   have hl : (setStep bB ch acc m).length = acc.length := by
     unfold setStep
     split
     . rw [anU]
     . rfl
   rw [zj ops _ (by rw [hl]; exact fun e he => hm e (ami _ he)) i (by rw [hl]; exact hi)]
   have hb := hm m ame
   by_cases h1 : (i : Int) ∈ ops /\ bB i = true
   . rw [amo h1, amo ⟨ami _ h1.1, h1.2⟩]
   . rw [amk h1]
     unfold setStep
     by_cases h2 : bB m = true
     . rw [amo h2]
       by_cases h3 : m = (i : Int)
       . subst h3
         rw [amo ⟨ame, h2⟩, amm, amd, anR hi]
         rfl
       . rw [amk (fun z => by
           rcases amf.mp z.1 with e | e
           . exact h3 e.symm
           . exact h1 ⟨e, z.2⟩)]
         rw [amd, aob (by omega), ← amd]
     . rw [amk h2, amk (fun z => by
         rcases amf.mp z.1 with e | e
         . rw [← e] at h2; exact h2 z.2
         . exact h1 ⟨e, z.2⟩)]
theorem R7 {a b : List Int} (hl : a.length = b.length) (h : ∀ i : Nat, i < a.length -> a.getD i 0 = b.getD i 0) : a = b := by
 apply List.ext_getElem hl
 intro i h1 h2
 have := h i h1
 rw [amd, amd, amq h1, amq h2] at this
 exact this
theorem l0 {isAll : Int -> Bool} {es ch : List Int} (hp : dM es) : ∀ (j : Nat) {k : Nat}, k <= j -> j < es.length -> (((k : Int) ∈ cD isAll es ch j) ↔ (k = 0 \/ (es.getD k 0 ∈ cD isAll es ch j /\ (isAll (es.getD k 0) = true \/ ch.getD (es.getD k 0).toNat 0 = (k : Int)))))
 | 0, k, hk, hj => by
   have : k = 0 := by omega
   subst this
   simp [cD]
 | j + 1, k, hk, hj => by
   have mono : ∀ {x : Int}, x ∈ cD isAll es ch j -> x ∈ cD isAll es ch (j + 1) := fun {x} hx => by
     rw [cD]
     split
     . exact ams _ hx
     . exact hx
   have back : ∀ {x : Int}, x < ((j + 1 : Nat) : Int) -> x ∈ cD isAll es ch (j + 1) -> x ∈ cD isAll es ch j := fun {x} qg hx => by
     rw [cD] at hx
     split at hx
     . rcases amn.mp hx with z | z
       . exact z
       . have : x = ((j + 1 : Nat) : Int) := by simpa using z
         omega
     . exact hx
   by_cases e : k = j + 1
   . subst e
     have ha := hp (j + 1) hj
     have nk : ((j + 1 : Nat) : Int) ∉ cD isAll es ch j := fun z => by
       have := gJ j z
       omega
     constructor
     . intro z
       rw [cD] at z
       split at z
       . rename_i c
         exact .inr ⟨mono c.1, c.2⟩
       . exact absurd z nk
     . rintro (z | ⟨z1, z2⟩)
       . omega
       . rw [cD, amo ⟨back (by omega) z1, z2⟩]
         exact amh _ (by simp)
   . have ih := l0 (isAll := isAll) (ch := ch) hp j (k := k) (by omega) (by omega)
     have ha := hp k (by omega)
     constructor
     . intro z
       rcases ih.mp (back (by omega) z) with w | ⟨w1, w2⟩
       . exact .inl w
       . exact .inr ⟨mono w1, w2⟩
     . rintro (z | ⟨z1, z2⟩)
       . exact mono (ih.mpr (.inl z))
       . exact mono (ih.mpr (.inr ⟨back (by omega) z1, z2⟩))
theorem gS {isAll : Int -> Bool} {es ch : List Int} : ∀ j, (cD isAll es ch j).Pairwise (· < ·)
 | 0 => anu _ _
 | j + 1 => by
   rw [cD]
   split
   . refine aof.mpr ⟨gS j, anu _ _, fun a ha b hb => ?_⟩
     have := gJ j ha
     have : b = ((j + 1 : Nat) : Int) := by simpa using hb
     omega
   . exact gS j
noncomputable def tL (es ops : List Int) (m : Int) : List Int := (eU es m).filter (fun x => decide (x ∈ ops))
noncomputable def fF (ss mem : List Int) (Kr : Bool) (e : Int) : Int := if Kr = true /\ mem.getD e.toNat 0 ≠ -1 then mem.getD e.toNat 0 else ss.getD e.toNat 0
noncomputable def G4 (aE isAll : Int -> Bool) (es ss mem : List Int) (Kr : Bool) (m : Int) : List Int := if aE m = true then [] else if isAll m = true then eU es m else [fF ss mem Kr m]
noncomputable def i7 (aE isAll : Int -> Bool) (es ss mem : List Int) (far : Bool) : Nat -> Bool -> Int -> List Int
 | 0, _, m => [m]
 | d + 1, near, m => m :: (G4 aE isAll es ss mem (far || near) m).flatMap (fun p => i7 aE isAll es ss mem far d false p)
structure dZ (aE isAll : Int -> Bool) (es ss mem : List Int) : Prop where
 pre : jf es
 leaf : ∀ k : Nat, k < es.length -> aE k = true -> eU es k = []
 one : ∀ k : Nat, k < es.length -> aE k = false -> isAll k = false -> ss.getD k 0 ∈ eU es k /\ (mem.getD k 0 = -1 \/ mem.getD k 0 ∈ eU es k)
section
variable {aE isAll : Int -> Bool} {es ss mem : List Int}
theorem Nv (h : dZ aE isAll es ss mem) {u : Bool} {k : Nat} (hk : k < es.length) (h1 : aE k = false) (h2 : isAll k = false) : fF ss mem u k ∈ eU es k := by
 obtain ⟨a, c⟩ := h.one k hk h1 h2
 unfold fF
 rw [amm]
 split
 . rename_i z
   exact c.resolve_left z.2
 . exact a
theorem nO (h : dZ aE isAll es ss mem) {u : Bool} {k : Nat} (hk : k < es.length) {p : Int} (hp : p ∈ G4 aE isAll es ss mem u k) : p ∈ eU es k := by
 unfold G4 at hp
 split at hp
 . cases hp
 . rename_i h1
   split at hp
   . exact hp
   . rename_i h2
     have : p = fF ss mem u k := by simpa using hp
     rw [this]
     exact Nv h hk (by simpa using h1) (by simpa using h2)
theorem R8 (h : dZ aE isAll es ss mem) {u : Bool} {k : Nat} (hk : k < es.length) {p : Int} (hp : p ∈ eU es k) : p ∈ G4 aE isAll es ss mem u k ↔ (isAll k = true \/ fF ss mem u k = p) := by
 have hl : aE k = false := by
   cases e : aE k with
   | false => rfl
   | true => rw [h.leaf k hk e] at hp; cases hp
 unfold G4
 rw [amk (by rw [hl]; decide)]
 cases e : isAll k with
 | true => rw [amo rfl]; exact ⟨fun _ => .inl rfl, fun _ => hp⟩
 | false =>
   rw [amk (by decide), anm]
   exact ⟨fun z => .inr z.symm, fun z => z.elim (fun z => by cases z) (fun z => z.symm)⟩
theorem b6 (h : jf es) {k p : Int} (hp : p ∈ eU es k) : 0 <= p /\ p < es.length /\ es.getD p.toNat 0 = k /\ k < p := by
 have hb := jI hp
 have := h.1 p.toNat (by omega)
 refine ⟨hb.1, hb.2.1, hb.2.2, ?_⟩
 omega
theorem HN (h : dZ aE isAll es ss mem) {far : Bool} : ∀ (a c : Nat) {near : Bool} {k : Nat}, k < es.length -> es.length <= k + a + 1 -> es.length <= k + c + 1 -> i7 aE isAll es ss mem far a near k = i7 aE isAll es ss mem far c near k
 | 0, 0, _, _, _, _, _ => rfl
 | 0, c + 1, near, k, hk, ha, _ => by
   have : G4 aE isAll es ss mem (far || near) k = [] := an3.mpr fun p hp => by
     have := b6 h.pre (nO h hk hp)
     omega
   rw [i7, i7, this]
   rfl
 | a + 1, 0, near, k, hk, _, hc => by
   have : G4 aE isAll es ss mem (far || near) k = [] := an3.mpr fun p hp => by
     have := b6 h.pre (nO h hk hp)
     omega
   rw [i7, i7, this]
   rfl
 | a + 1, c + 1, near, k, hk, ha, hc => by
   rw [i7, i7]
   congr 1
   rw [List.flatMap_def, List.flatMap_def]
   congr 1
   apply anH
   intro p hp
   have hb := b6 h.pre (nO h hk hp)
   obtain ⟨q, rfl⟩ : ∃ q : Nat, p = q := ⟨p.toNat, by omega⟩
   exact HN h a c (by omega) (by omega) (by omega)
theorem jJ (h : dZ aE isAll es ss mem) {far : Bool} : ∀ (d : Nat) {near : Bool} {k : Nat}, k < es.length -> es.length <= k + d + 1 -> ∀ x : Nat, x < es.length →
   ((x : Int) ∈ i7 aE isAll es ss mem far d near k ↔ (x = k \/ (k < x /\ es.getD x 0 ∈ i7 aE isAll es ss mem far d near k /\ (isAll (es.getD x 0) = true \/ fF ss mem (far || (near && decide (es.getD x 0 = (k : Int)))) (es.getD x 0) = (x : Int)))))
 | 0, near, k, hk, hd, x, hx => by
   rw [i7, anm]
   have ht := h.pre.1 x hx
   constructor
   . intro z; exact .inl (by omega)
   . rintro (z | ⟨z1, z2, _⟩)
     . omega
     . omega
 | d + 1, near, k, hk, hd, x, hx => by
   have ht := h.pre.1 x hx
   rw [i7, amf, am2]
   have D0 : ∀ p ∈ G4 aE isAll es ss mem (far || near) k, ∀ y : Nat, y < es.length -> ((y : Int) ∈ i7 aE isAll es ss mem far d false p ↔ ((y : Int) = p \/ (p < y /\ es.getD y 0 ∈ i7 aE isAll es ss mem far d false p /\ (isAll (es.getD y 0) = true \/ fF ss mem far (es.getD y 0) = (y : Int))))) := fun p hp y hy => by
     have hb := b6 h.pre (nO h hk hp)
     obtain ⟨q, rfl⟩ : ∃ q : Nat, p = q := ⟨p.toNat, by omega⟩
     have := jJ h (far := far) d (near := false) (k := q) (by omega) (by omega) y hy
     rw [this]
     simp only [Bool.false_and, Bool.or_false]
     constructor
     . rintro (z | ⟨z1, z2⟩)
       . exact .inl (by omega)
       . exact .inr ⟨by omega, z2⟩
     . rintro (z | ⟨z1, z2⟩)
       . exact .inl (by omega)
       . exact .inr ⟨by omega, z2⟩
   have R9 : ∀ (dd : Nat) (p : Nat), p < es.length -> ∀ y : Int, y ∈ i7 aE isAll es ss mem far dd false p -> (p : Int) <= y := by
     intro dd
     induction dd with
     | zero => intro p _ y hy; rw [i7, anm] at hy; omega
     | succ dd ih =>
       intro p hp y hy
       rw [i7, amf, am2] at hy
       rcases hy with e | ⟨q, hq, hy⟩
       . omega
       . have hb := b6 h.pre (nO h hp hq)
         obtain ⟨r, rfl⟩ : ∃ r : Nat, q = r := ⟨q.toNat, by omega⟩
         have := ih r (by omega) y hy
         omega
   constructor
   . rintro (z | ⟨p, hp, z⟩)
     . exact .inl (by omega)
     . have tM := nO h hk hp
       have hb := b6 h.pre tM
       have hge : p <= x := by
         obtain ⟨q, rfl⟩ : ∃ q : Nat, p = q := ⟨p.toNat, by omega⟩
         exact R9 d q (by omega) x z
       refine .inr ⟨by omega, ?_⟩
       rcases (D0 p hp x hx).mp z with e | ⟨e1, e2, e3⟩
       . have CQ : es.getD x 0 = (k : Int) := by
           rw [← e, amm] at hb
           exact hb.2.2.1
         rw [CQ]
         refine ⟨ame, ?_⟩
         rw [am8 rfl, aoy]
         have := (R8 h hk tM).mp hp
         rw [← e] at this
         exact this
       . have ah7 : p <= es.getD x 0 := by
           obtain ⟨q, rfl⟩ : ∃ q : Nat, p = q := ⟨p.toNat, by omega⟩
           exact R9 d q (by omega) _ e2
         refine ⟨ami _ (am2.mpr ⟨p, hp, e2⟩), ?_⟩
         rw [amN (by omega), aoq, Bool.or_false]
         exact e3
   . rintro (z | ⟨z1, z2, z3⟩)
     . exact .inl (by omega)
     . rcases amf.mp z2 with e | z2
       . 
         have tM : (x : Int) ∈ eU es k := rX (by omega) (by omega) (by rw [amm]; exact e)
         rw [e, am8 rfl, aoy] at z3
         have hp := (R8 h hk tM).mpr z3
         exact .inr ⟨x, hp, (D0 x hp x hx).mpr (.inl rfl)⟩
       . obtain ⟨p, hp, z2⟩ := am2.mp z2
         have tM := nO h hk hp
         have hb := b6 h.pre tM
         have ah7 : p <= es.getD x 0 := by
           obtain ⟨q, rfl⟩ : ∃ q : Nat, p = q := ⟨p.toNat, by omega⟩
           exact R9 d q (by omega) _ z2
         rw [amN (by omega), aoq, Bool.or_false] at z3
         exact .inr ⟨p, hp, (D0 p hp x hx).mpr (.inr ⟨by omega, z2, z3⟩)⟩
theorem b7 (h : dZ aE isAll es ss mem) {far : Bool} : ∀ (d : Nat) {near : Bool} {k : Nat}, k < es.length -> ∀ y ∈ i7 aE isAll es ss mem far d near k, 0 <= y /\ y < es.length /\ (y = k \/ (k : Int) ∈ aY es y)
 | 0, near, k, hk, y, hy => by
   rw [i7, anm] at hy
   exact ⟨by omega, by omega, .inl hy⟩
 | d + 1, near, k, hk, y, hy => by
   rw [i7, amf, am2] at hy
   rcases hy with e | ⟨p, hp, hy⟩
   . exact ⟨by omega, by omega, .inl e⟩
   . have hb := b6 h.pre (nO h hk hp)
     obtain ⟨q, rfl⟩ : ∃ q : Nat, p = q := ⟨p.toNat, by omega⟩
     obtain ⟨y0, y1, y2⟩ := b7 h d (k := q) (by omega) y hy
     have hkq : (k : Int) ∈ aY es q := by
       rw [c6 h.pre.1 (m := (q : Int)) (by omega) (by omega), hb.2.2.1, amk (by omega)]
       exact ame
     refine ⟨y0, y1, .inr ?_⟩
     rcases y2 with e | e
     . rw [e]; exact hkq
     . exact iV h.pre.1 y0 y1 e hkq
theorem oE (h : dZ aE isAll es ss mem) {far : Bool} : ∀ (d : Nat) {near : Bool} {k : Nat}, k < es.length -> (i7 aE isAll es ss mem far d near k).Pairwise (· < ·)
 | 0, _, _, _ => by rw [i7]; exact anu _ _
 | d + 1, near, k, hk => by
   rw [i7]
   refine am5.mpr ⟨fun y hy => ?_, List.pairwise_flatMap.mpr ⟨fun p hp => ?_, ?_⟩⟩
   . obtain ⟨p, hp, hy⟩ := am2.mp hy
     have hb := b6 h.pre (nO h hk hp)
     obtain ⟨q, rfl⟩ : ∃ q : Nat, p = q := ⟨p.toNat, by omega⟩
     obtain ⟨y0, y1, y2⟩ := b7 h d (k := q) (by omega) y hy
     rcases y2 with e | e
     . omega
     . have := aZ h.pre.1 y0 y1 e
       omega
   . have hb := b6 h.pre (nO h hk hp)
     obtain ⟨q, rfl⟩ : ∃ q : Nat, p = q := ⟨p.toNat, by omega⟩
     exact oE h d (by omega)
   . have hs : (G4 aE isAll es ss mem (far || near) k).Pairwise (· < ·) := by
       unfold G4
       split
       . exact .nil
       . split
         . exact Ae es k
         . exact anu _ _
     refine aom ?_ hs
     intro p p' hp hp' qg x hx y hy
     have hb := b6 h.pre (nO h hk hp)
     have hb' := b6 h.pre (nO h hk hp')
     obtain ⟨q, rfl⟩ : ∃ q : Nat, p = q := ⟨p.toNat, by omega⟩
     obtain ⟨q', rfl⟩ : ∃ q' : Nat, p' = q' := ⟨p'.toNat, by omega⟩
     obtain ⟨x0, x1, x2⟩ := b7 h d (k := q) (by omega) x hx
     obtain ⟨y0, y1, y2⟩ := b7 h d (k := q') (by omega) y hy
     obtain ⟨L, S⟩ := Kp h.pre (m := (q : Int)) (by omega) (by omega)
     have xL : x < (q : Int) + 1 + L := by
       rcases x2 with e | e
       . omega
       . obtain ⟨z, rfl⟩ : ∃ z : Nat, x = z := ⟨x.toNat, by omega⟩
         exact ((S.iff z (by omega)).mp (.inr e)).2
     have nq : ¬ ((q : Int) ∈ aY es q') := fun z => by
       rw [c6 h.pre.1 (m := (q' : Int)) (by omega) (by omega), hb'.2.2.1, amk (by omega)] at z
       rcases amf.mp z with e | e
       . omega
       . have := aZ h.pre.1 (m := (k : Int)) (by omega) (by omega) e
         omega
     have Qx : (q : Int) + 1 + L <= q' := by
       have := S.iff q' (by omega)
       by_cases c : (q' : Int) < (q : Int) + 1 + L
       . exact absurd ((this.mpr ⟨qg, c⟩).resolve_left (by omega)) nq
       . omega
     have : (q' : Int) <= y := by
       rcases y2 with e | e
       . omega
       . have := aZ h.pre.1 y0 y1 e
         omega
     omega
end
noncomputable def mZ (mode : Str) : Prop := mode = "new" \/ mode = "near" \/ mode = "far"
noncomputable def bK (mode : Str) : Bool := decide (mode = "far")
noncomputable def cu (mode : Str) : Bool := decide (mode = "near")
noncomputable def JN (ks : List Str) (es ss mem : List Int) (mode : Str) (m : Int) : List Int := i7 (aQ ks) (aq ks) es ss mem (bK mode) es.length (cu mode) m
theorem D3 {aE isAll : Int -> Bool} {es ss mem : List Int} (h : dZ aE isAll es ss mem) {far near : Bool} {d k : Nat} (hk : k < es.length) : (i7 aE isAll es ss mem far d near k).length <= es.length := by
 have hs := oE h (far := far) d (near := near) hk
 have hb := b7 h (far := far) d (near := near) hk
 generalize i7 aE isAll es ss mem far d near k = l at hs hb
 have go : ∀ (l : List Int) (lo : Int), l.Pairwise (· < ·) -> (∀ x ∈ l, lo <= x /\ x < es.length) -> (l.length : Int) <= es.length - lo \/ l = [] := by
   intro l
   induction l with
   | nil => intro lo _ _; exact .inr rfl
   | cons x r ih =>
     intro lo h1 h2
     obtain ⟨a, c⟩ := am5.mp h1
     have hx := h2 x ame
     rcases ih (x + 1) c (fun y hy => ⟨a y hy, (h2 y (ami _ hy)).2⟩) with z | z
     . left; rw [amA]; omega
     . left; rw [z]; simp; omega
 rcases go l 0 hs (fun x hx => ⟨(hb x hx).1, (hb x hx).2.1⟩) with z | z
 . omega
 . rw [z]; exact amO _
noncomputable def gM (es : List Int) (u t x : Int) : Prop := x = t \/ (x ∈ aY es t /\ (u = -1 \/ u ∈ aY es x))
theorem vh {es : List Int} (h : dM es) {u t : Int} (t0 : 0 <= t) (t1 : t < es.length) (hu : u = -1 \/ u ∈ aY es t) (x : Int) : x ∈ bU es u t ↔ gM es u t x := by
 unfold bU gM
 rw [anK, amf]
 refine or_congr Iff.rfl ?_
 rcases hu with rfl | hu
 . have e : (aY es t).takeWhile (fun x => decide (x ≠ -1)) = aY es t := by
     have := aoa (p := fun x => decide (x ≠ (-1 : Int))) (l₁ := aY es t) (l₂ := []) (fun y hy => by
       have := aZ h t0 t1 hy
       simp; omega)
     simpa using this
   rw [e]
   exact ⟨fun z => ⟨z, .inl rfl⟩, fun z => z.1⟩
 . have ub := aZ h t0 t1 hu
   constructor
   . intro z
     exact ⟨(an5 _).subset z, .inr (yP h t0 t1 hu z)⟩
   . rintro ⟨z1, z2⟩
     obtain ⟨pre, p1, p2⟩ := nM h (t.toNat + 1) t0 t1 (by omega) hu
     have ne : ∀ y ∈ pre, decide (y ≠ u) = true := fun y hy => by
       have hy1 := aZ h t0 t1 (p2 y hy).1
       have := aZ h (m := y) (by omega) (by omega) (p2 y hy).2
       simp; omega
     have e : (aY es t).takeWhile (fun x => decide (x ≠ u)) = pre := by
       rw [p1, aoa ne, List.takeWhile_cons, amk (by simp), amF]
     rw [e]
     have hx := aZ h t0 t1 z1
     have hux : u ∈ aY es x := z2.resolve_left (by omega)
     have qg := aZ h (m := x) (by omega) (by omega) hux
     rw [p1] at z1
     rcases amn.mp z1 with z | z
     . exact z
     . rcases amf.mp z with z | z
       . omega
       . have := aZ h (m := u) (by omega) (by omega) z
         omega
section
variable {aE isAll : Int -> Bool} {es ss mem : List Int} {far near : Bool} {u : Int} {t : Nat}
noncomputable def Ks (aE isAll : Int -> Bool) (es ss mem : List Int) (far near : Bool) (u : Int) (t : Nat) (x : Int) : Prop :=
 (gM es u t x /\ x ≠ t) \/ x ∈ i7 aE isAll es ss mem far es.length near t \/ ∃ s p, gM es u t s /\ s ≠ t /\ isAll s = true /\ p ∈ eU es s /\ ¬ gM es u t p /\ x ∈ i7 aE isAll es ss mem false es.length false p
noncomputable def vm (aE isAll : Int -> Bool) (es ss mem : List Int) (far near : Bool) (u : Int) (t : Nat) (e x : Int) : Prop :=
 isAll e = true \/ (fF ss mem ((decide (e = t) && (far || near)) || (far && decide (e ∈ i7 aE isAll es ss mem far es.length near t))) e = x /\ (e = t \/ ¬ gM es u t e))
theorem iC (h : dM es) (ht : t < es.length) {x : Int} (hx : gM es u t x) : 0 <= x /\ x <= t := by
 rcases hx with e | ⟨e, _⟩
 . omega
 . have := aZ h (m := (t : Int)) (by omega) (by omega) e
   omega
theorem Nx (h : dM es) (ht : t < es.length) {s p : Int} (hs : gM es u t s) (hp : p ∈ eU es s) (hpt : p ∈ aY es t \/ p = t) : gM es u t p := by
 rcases hpt with hpt | hpt
 . refine .inr ⟨hpt, ?_⟩
   have sb := iC h ht hs
   have hb := jI hp
   have pb := aZ h (m := (t : Int)) (by omega) (by omega) hpt
   have e := c6 h (m := p) hb.1 hb.2.1
   rw [hb.2.2, amk (by omega)] at e
   have st : s ∈ aY es t := iV h (by omega) (by omega) hpt (by rw [e]; exact ame)
   rcases hs with z | ⟨_, z | z⟩
   . have := aZ h (m := (t : Int)) (by omega) (by omega) st
     omega
   . exact .inl z
   . exact .inr (by rw [e]; exact ami _ z)
 . exact .inl hpt
theorem qu (h : dZ aE isAll es ss mem) (ht : t < es.length) {s p x : Int} (hs : gM es u t s) (BG : s ≠ t) (hp : p ∈ eU es s) (hpl : ¬ gM es u t p) (hx : x = p \/ p ∈ aY es x) (x0 : 0 <= x) (x1 : x < es.length) : ¬ gM es u t x /\ ¬ (x = t \/ (t : Int) ∈ aY es x) := by
 have hT := h.pre.1
 have sb := iC hT ht hs
 have pb := b6 h.pre hp
 have up := fun z => hpl (Nx hT ht hs hp z)
 have key : ¬ (x = t \/ (t : Int) ∈ aY es x) := by
   rintro (z | z)
   . rw [z] at hx
     rcases hx with e | e
     . exact up (.inr e.symm)
     . exact up (.inl e)
   . rcases hx with e | e
     . rw [e, c6 hT (m := p) pb.1 pb.2.1, pb.2.2.1, amk (by omega)] at z
       rcases amf.mp z with w | w
       . exact BG w.symm
       . have := aZ hT (m := s) (by omega) (by omega) w
         omega
     . rcases oA hT x0 x1 z e with w | w | w
       . exact up (.inr w.symm)
       . rw [c6 hT (m := p) pb.1 pb.2.1, pb.2.2.1, amk (by omega)] at w
         rcases amf.mp w with v | v
         . exact BG v.symm
         . have := aZ hT (m := s) (by omega) (by omega) v
           omega
       . exact up (.inl w)
 refine ⟨fun z => ?_, key⟩
 rcases z with z | ⟨z, _⟩
 . exact key (.inl z)
 . rcases hx with e | e
   . rw [e] at z; exact up (.inl z)
   . exact up (.inl (iV hT (by omega) (by omega) z e))
theorem D4 (h : dZ aE isAll es ss mem) (ht : t < es.length) (x : Nat) (hx : x < es.length) :
   Ks aE isAll es ss mem far near u t x ↔ (gM es u t x \/ (Ks aE isAll es ss mem far near u t (es.getD x 0) /\ ¬ gM es u t x /\ vm aE isAll es ss mem far near u t (es.getD x 0) x)) := by
 have hT := h.pre.1
 have CQ := hT x hx
 have WB := fun y hy => b7 h (far := far) (near := near) es.length ht y hy
 have tOp : (t : Int) ∈ i7 aE isAll es ss mem far es.length near t := (jJ h es.length ht (by omega) t ht).mpr (.inl rfl)
 have ae4 : ∀ y : Int, y ∈ i7 aE isAll es ss mem far es.length near t -> y ≠ t -> ¬ gM es u t y := fun y hy qd z => by
   obtain ⟨y0, y1, y2⟩ := WB y hy
   have := iC hT ht z
   rcases y2 with e | e
   . exact qd e
   . have := aZ hT y0 y1 e
     omega
 constructor
 . rintro (z | z | ⟨s, p, z1, z2, z3, z4, z5, z6⟩)
   . exact .inl z.1
   . by_cases e : (x : Int) = t
     . exact .inl (.inl e)
     . refine .inr ?_
       have z' := z
       rw [jJ h es.length ht (by omega) x hx] at z'
       obtain ⟨w1, w2, w3⟩ := z'.resolve_left (by omega)
       refine ⟨.inr (.inl w2), ae4 x z e, ?_⟩
       unfold vm
       rcases w3 with w3 | w3
       . exact .inl w3
       . refine .inr ⟨?_, ?_⟩
         . rw [am8 w2, aoy]
           rw [← w3]
           congr 1
           cases far <;> cases near <;> simp
         . by_cases e2 : es.getD x 0 = t
           . exact .inl e2
           . exact .inr (ae4 _ w2 e2)
   . have pb := b6 h.pre z4
     have sb := iC hT ht z1
     obtain ⟨q, rfl⟩ : ∃ q : Nat, p = q := ⟨p.toNat, by omega⟩
     obtain ⟨y0, y1, y2⟩ := b7 h (far := false) (near := false) es.length (k := q) (by omega) x z6
     obtain ⟨o1, o2⟩ := qu h ht z1 z2 z4 z5 y2 y0 y1
     refine .inr ⟨?_, o1, ?_⟩
     . rw [jJ h es.length (k := q) (by omega) (by omega) x hx] at z6
       rcases z6 with w | ⟨_, w2, _⟩
       . subst w
         have : es.getD x 0 = s := by have := pb.2.2.1; rwa [amm] at this
         rw [this]
         exact .inl ⟨z1, z2⟩
       . exact .inr (.inr ⟨s, q, z1, z2, z3, z4, z5, w2⟩)
     . rw [jJ h es.length (k := q) (by omega) (by omega) x hx] at z6
       unfold vm
       rcases z6 with w | ⟨_, w2, w3⟩
       . subst w
         have : es.getD x 0 = s := by have := pb.2.2.1; rwa [amm] at this
         rw [this]
         exact .inl z3
       . rcases w3 with w3 | w3
         . exact .inl w3
         . obtain ⟨e0, e1, e2⟩ := b7 h (far := false) (near := false) es.length (k := q) (by omega) _ w2
           obtain ⟨p1, p2⟩ := qu h ht z1 z2 z4 z5 e2 e0 e1
           refine .inr ⟨?_, .inr p1⟩
           rw [amN (fun z => p2 (.inl z)), amN (fun z => p2 ((WB _ z).2.2.elim .inl .inr))]
           rw [← w3]
           congr 1
           simp
 . rintro (z | ⟨z1, z2, z3⟩)
   . by_cases e : (x : Int) = t
     . rw [e]; exact .inr (.inl tOp)
     . exact .inl ⟨z, e⟩
   . unfold vm at z3
     rcases z1 with z1 | z1 | ⟨s, p, w1, w2, w3, w4, w5, w6⟩
     . 
       have sb := iC hT ht z1.1
       have OU : isAll (es.getD x 0) = true := z3.elim id (fun w => w.2.elim (fun v => absurd v z1.2) (fun v => absurd z1.1 v))
       have tM : (x : Int) ∈ eU es (es.getD x 0) := rX (by omega) (by omega) (by rw [amm])
       exact .inr (.inr ⟨_, x, z1.1, z1.2, OU, tM, z2, (jJ h es.length hx (by omega) x hx).mpr (.inl rfl)⟩)
     . obtain ⟨e0, e1, e2⟩ := WB _ z1
       have hge : (t : Int) <= es.getD x 0 := by
         rcases e2 with e | e
         . omega
         . have := aZ hT e0 e1 e
           omega
       refine .inr (.inl ((jJ h es.length ht (by omega) x hx).mpr (.inr ⟨by omega, z1, ?_⟩)))
       rcases z3 with w | ⟨w, _⟩
       . exact .inl w
       . refine .inr ?_
         rw [← w, am8 z1, aoy]
         congr 1
         cases far <;> cases near <;> simp
     . have pb := b6 h.pre w4
       have sb := iC hT ht w1
       obtain ⟨q, rfl⟩ : ∃ q : Nat, p = q := ⟨p.toNat, by omega⟩
       obtain ⟨e0, e1, e2⟩ := b7 h (far := false) (near := false) es.length (k := q) (by omega) _ w6
       obtain ⟨p1, p2⟩ := qu h ht w1 w2 w4 w5 e2 e0 e1
       have hge : (q : Int) <= es.getD x 0 := by
         rcases e2 with e | e
         . omega
         . have := aZ hT e0 e1 e
           omega
       refine .inr (.inr ⟨s, q, w1, w2, w3, w4, w5, (jJ h es.length (k := q) (by omega) (by omega) x hx).mpr (.inr ⟨by omega, w6, ?_⟩)⟩)
       rcases z3 with w | ⟨w, _⟩
       . exact .inl w
       . refine .inr ?_
         rw [← w, amN (fun z => p2 (.inl z)), amN (fun z => p2 ((WB _ z).2.2.elim .inl .inr))]
         congr 1
         simp
noncomputable def Vi (aE isAll : Int -> Bool) (es ss mem : List Int) (far near : Bool) (u : Int) (t : Nat) : List Int :=
 (bU es u t).dropLast ++ i7 aE isAll es ss mem far es.length near t ++ ((bU es u t).dropLast.filter (fun s => isAll s)).flatMap (fun s => ((eU es s).filter (fun p => !decide (p ∈ bU es u t))).flatMap (fun p => i7 aE isAll es ss mem false es.length false p))
theorem xD (es : List Int) (u t : Int) : (bU es u t).dropLast = ((aY es t).takeWhile (fun x => decide (x ≠ u))).reverse := by
 unfold bU
 rw [anc, List.dropLast_concat]
theorem rY (h : dM es) (ht : t < es.length) {x : Int} (hx : x ∈ (bU es u t).dropLast) : x ∈ bU es u t /\ x ≠ t := by
 have hx' := hx
 rw [xD, anK] at hx
 have hc := (an5 _).subset hx
 have := aZ h (m := (t : Int)) (by omega) (by omega) hc
 exact ⟨List.dropLast_subset _ hx', by omega⟩
theorem Ny {x : Int} (hx : x ∈ bU es u t) (qd : x ≠ t) : x ∈ (bU es u t).dropLast := by
 rw [xD, anK]
 unfold bU at hx
 rw [anK] at hx
 exact (amf.mp hx).resolve_left qd
theorem zk (h : dZ aE isAll es ss mem) (ht : t < es.length) (hu : u = -1 \/ u ∈ aY es t) (x : Int) : x ∈ Vi aE isAll es ss mem far near u t ↔ Ks aE isAll es ss mem far near u t x := by
 have li := vh h.pre.1 (u := u) (t := (t : Int)) (by omega) (by omega) hu
 unfold Vi Ks
 rw [amn, amn, or_assoc]
 refine or_congr ?_ (or_congr Iff.rfl ?_)
 . constructor
   . intro z
     obtain ⟨a, c⟩ := rY h.pre.1 ht z
     exact ⟨(li x).mp a, c⟩
   . rintro ⟨a, c⟩
     exact Ny ((li x).mpr a) c
 . simp only [am2, amK]
   constructor
   . rintro ⟨s, ⟨s1, s2⟩, p, ⟨p1, p2⟩, z⟩
     obtain ⟨a, c⟩ := rY h.pre.1 ht s1
     refine ⟨s, p, (li s).mp a, c, s2, p1, fun w => ?_, z⟩
     rw [am8 ((li p).mpr w)] at p2
     cases p2
   . rintro ⟨s, p, z1, z2, z3, z4, z5, z6⟩
     refine ⟨s, ⟨Ny ((li s).mpr z1) z2, z3⟩, p, ⟨z4, ?_⟩, z6⟩
     rw [amN (fun w => z5 ((li p).mp w))]
     rfl
theorem qv {l : List Int} (h : l.Pairwise (· < ·)) : l.Nodup := List.Pairwise.imp (fun {a b} (Wn : a < b) => by omega) h
theorem xE (h : dZ aE isAll es ss mem) (ht : t < es.length) (hu : u = -1 \/ u ∈ aY es t) : (Vi aE isAll es ss mem far near u t).Nodup := by
 have hT := h.pre.1
 have li := vh hT (u := u) (t := (t : Int)) (by omega) (by omega) hu
 have Y7 : (bU es u t).dropLast.Nodup := by
   rw [xD]
   have hs := uc hT (t + 1) (m := (t : Int)) (by omega) (by omega) (by omega)
   exact List.pairwise_reverse.mpr (List.Pairwise.imp (fun {a b} (Wn : b < a) => (by omega : b ≠ a)) (List.Pairwise.sublist (an5 _) hs))
 have side : ∀ s ∈ (bU es u t).dropLast.filter (fun s => isAll s), ∀ p ∈ (eU es s).filter (fun p => !decide (p ∈ bU es u t)), gM es u t s /\ s ≠ t /\ p ∈ eU es s /\ ¬ gM es u t p := fun s hs p hp => by
   obtain ⟨s1, s2⟩ := amK.mp hs
   obtain ⟨p1, p2⟩ := amK.mp hp
   obtain ⟨a, c⟩ := rY hT ht s1
   refine ⟨(li s).mp a, c, p1, fun w => ?_⟩
   rw [am8 ((li p).mpr w)] at p2
   cases p2
 have wit : ∀ s p x, gM es u t s -> s ≠ t -> p ∈ eU es s -> ¬ gM es u t p -> x ∈ i7 aE isAll es ss mem false es.length false p -> 0 <= x /\ x < es.length /\ (x = p \/ p ∈ aY es x) := fun s p x _ _ hp _ hx => by
   have pb := b6 h.pre hp
   have hq : ∃ q : Nat, p = q := ⟨p.toNat, by
     have := pb.1
     omega⟩
   obtain ⟨q, rfl⟩ := hq
   exact b7 h es.length (by omega) x hx
 unfold Vi
 refine am4.mpr ⟨am4.mpr ⟨Y7, qv (oE h _ ht), fun a ha b hb e => ?_⟩, ?_, fun a ha b hb e => ?_⟩
 . subst e
   obtain ⟨a1, a2⟩ := rY hT ht ha
   have lb := iC hT ht ((li a).mp a1)
   obtain ⟨y0, y1, y2⟩ := b7 h es.length ht a hb
   rcases y2 with e | e
   . exact a2 e
   . have := aZ hT y0 y1 e
     omega
 . refine List.pairwise_flatMap.mpr ⟨fun s hs => List.pairwise_flatMap.mpr ⟨fun p hp => ?_, ?_⟩, ?_⟩
   . obtain ⟨_, _, p1, _⟩ := side s hs p hp
     have pb := b6 h.pre p1
     have hq : ∃ q : Nat, p = q := ⟨p.toNat, by
       have := pb.1
       omega⟩
     obtain ⟨q, rfl⟩ := hq
     exact qv (oE h _ (by omega))
   . have hpw : ((eU es s).filter (fun p => !decide (p ∈ bU es u t))).Pairwise (· < ·) := aog _ (Ae es s)
     refine aom ?_ hpw
     intro p p' hp hp' qg x hx y hy e
     subst e
     obtain ⟨s1, s2, p1, p2⟩ := side s hs p hp
     obtain ⟨_, _, p1', p2'⟩ := side s hs p' hp'
     obtain ⟨x0, x1, xp⟩ := wit s p x s1 s2 p1 p2 hx
     obtain ⟨_, _, xp'⟩ := wit s p' x s1 s2 p1' p2' hy
     have pb := b6 h.pre p1
     have Zg := b6 h.pre p1'
     have sb := iC hT ht s1
     have c1 : ∀ z, z ∈ aY es p' -> z <= s := fun z hz => by
       rw [c6 hT (m := p') Zg.1 Zg.2.1, Zg.2.2.1, amk (by omega)] at hz
       rcases amf.mp hz with w | w
       . omega
       . have := aZ hT (m := s) (by omega) (by omega) w
         omega
     have c2 : ∀ z, z ∈ aY es p -> z <= s := fun z hz => by
       rw [c6 hT (m := p) pb.1 pb.2.1, pb.2.2.1, amk (by omega)] at hz
       rcases amf.mp hz with w | w
       . omega
       . have := aZ hT (m := s) (by omega) (by omega) w
         omega
     rcases xp with e | e
     . rcases xp' with e' | e'
       . omega
       . rw [e] at e'
         have := c2 _ e'
         omega
     . rcases xp' with e' | e'
       . rw [e'] at e
         have := c1 _ e
         omega
       . rcases oA hT x0 x1 e e' with w | w | w
         . omega
         . have := c1 _ w; omega
         . have := c2 _ w; omega
   . have hnd : ((bU es u t).dropLast.filter (fun s => isAll s)).Nodup := aog _ Y7
     refine aom ?_ hnd
     intro s s' hs hs' qd x hx y hy e
     subst e
     obtain ⟨p, hp, hx⟩ := am2.mp hx
     obtain ⟨p', hp', hy⟩ := am2.mp hy
     obtain ⟨s1, s2, p1, p2⟩ := side s hs p hp
     obtain ⟨s1', s2', p1', p2'⟩ := side s' hs' p' hp'
     obtain ⟨x0, x1, xp⟩ := wit s p x s1 s2 p1 p2 hx
     obtain ⟨_, _, xp'⟩ := wit s' p' x s1' s2' p1' p2' hy
     have pb := b6 h.pre p1
     have Zg := b6 h.pre p1'
     have sb := iC hT ht s1
     have sb' := iC hT ht s1'
     have up : ∀ {s p s' : Int}, gM es u t s -> p ∈ eU es s -> ¬ gM es u t p -> gM es u t s' -> 0 <= s' -> ¬ (p = s' \/ p ∈ aY es s') := fun {s p s'} ls pin np ls' _ z => by
       refine np ?_
       rcases z with z | z
       . rw [z]; exact ls'
       . refine Nx hT ht ls pin (.inl ?_)
         rcases ls' with w | ⟨w, _⟩
         . rw [← w]; exact z
         . exact iV hT (by omega) (by omega) w z
     have d1 : ¬ p ∈ aY es p' := fun z => by
       rw [c6 hT (m := p') Zg.1 Zg.2.1, Zg.2.2.1, amk (by omega)] at z
       exact up s1 p1 p2 s1' sb'.1 ((amf.mp z))
     have d2 : ¬ p' ∈ aY es p := fun z => by
       rw [c6 hT (m := p) pb.1 pb.2.1, pb.2.2.1, amk (by omega)] at z
       exact up s1' p1' p2' s1 sb.1 ((amf.mp z))
     have d3 : p ≠ p' := fun z => qd (by rw [← pb.2.2.1, ← Zg.2.2.1, z])
     rcases xp with e | e
     . rcases xp' with e' | e'
       . exact d3 (e.symm.trans e')
       . rw [e] at e'; exact d2 e'
     . rcases xp' with e' | e'
       . rw [e'] at e; exact d1 e
       . rcases oA hT x0 x1 e e' with w | w | w
         . exact d3 w
         . exact d1 w
         . exact d2 w
 . subst e
   obtain ⟨s, hs, hb⟩ := am2.mp hb
   obtain ⟨p, hp, hb⟩ := am2.mp hb
   obtain ⟨s1, s2, p1, p2⟩ := side s hs p hp
   obtain ⟨x0, x1, xp⟩ := wit s p a s1 s2 p1 p2 hb
   obtain ⟨o1, o2⟩ := qu h ht s1 s2 p1 p2 xp x0 x1
   rcases amn.mp ha with z | z
   . exact o1 ((li a).mp (rY hT ht z).1)
   . exact o2 ((b7 h es.length ht a z).2.2.elim .inl .inr)
end
section
variable {aE isAll : Int -> Bool} {es ss mem : List Int} {far near : Bool} {u : Int} {t : Nat}
noncomputable def Pj (isAll : Int -> Bool) (es ss mem : List Int) (far near : Bool) (dS : List Int) (t : Nat) (r : List Int × List Int) (k : Nat) : Bool :=
 decide ((k : Int) ∈ dS) || (decide (es.getD k 0 ∈ r.1) && (isAll (es.getD k 0) || (decide (fF ss mem ((decide (es.getD k 0 = t) && (far || near)) || (decide (es.getD k 0 ∈ r.2) && far)) (es.getD k 0) = k) && (decide (es.getD k 0 = t) || !decide (es.getD k 0 ∈ dS)))))
noncomputable def wY (isAll : Int -> Bool) (es ss mem : List Int) (far near : Bool) (dS : List Int) (t : Nat) : Nat -> List Int × List Int
 | 0 => ([], [])
 | k + 1 => if Pj isAll es ss mem far near dS t (wY isAll es ss mem far near dS t k) k = true
     then ((wY isAll es ss mem far near dS t k).1 ++ [(k : Int)], if (k : Int) = t \/ es.getD k 0 ∈ (wY isAll es ss mem far near dS t k).2 then (wY isAll es ss mem far near dS t k).2 ++ [(k : Int)] else (wY isAll es ss mem far near dS t k).2)
     else wY isAll es ss mem far near dS t k
theorem HP {dS : List Int} : ∀ (k : Nat), (∀ x ∈ (wY isAll es ss mem far near dS t k).1, 0 <= x /\ x < k) /\ (∀ x ∈ (wY isAll es ss mem far near dS t k).2, 0 <= x /\ x < k) /\ (wY isAll es ss mem far near dS t k).1.Pairwise (· < ·) /\ (wY isAll es ss mem far near dS t k).1.length <= k /\ (wY isAll es ss mem far near dS t k).2.length <= k
 | 0 => ⟨fun x hx => (by cases hx), fun x hx => (by cases hx), List.Pairwise.nil, amu _, amu _⟩
 | k + 1 => by
   obtain ⟨h1, h2, h3, h4, h5⟩ := HP (dS := dS) k
   rw [wY]
   split
   . have q : ∀ {l : List Int}, (∀ x ∈ l, 0 <= x /\ x < (k : Int)) -> ∀ x ∈ l ++ [(k : Int)], 0 <= x /\ x < ((k + 1 : Nat) : Int) := fun {l} hl x hx => by
       rcases amn.mp hx with z | z
       . have := hl x z
         omega
       . have : x = (k : Int) := by simpa using z
         omega
     refine ⟨q h1, ?_, aof.mpr ⟨h3, anu _ _, fun a ha b hb => ?_⟩, by show (_ ++ [_]).length <= _; rw [amj, anf]; omega, ?_⟩
     . dsimp only
       split
       . exact q h2
       . intro x hx
         have := h2 x hx
         omega
     . have : b = (k : Int) := by simpa using hb
       have := h1 a ha
       omega
     . dsimp only
       split
       . rw [amj, anf]; omega
       . omega
   . exact ⟨fun x hx => (by have := h1 x hx; omega), fun x hx => (by have := h2 x hx; omega), h3, by omega, by omega⟩
theorem Ku (h : dZ aE isAll es ss mem) (ht : t < es.length) (hu : u = -1 \/ u ∈ aY es t) {dS : List Int} (HQ : ∀ x, x ∈ dS ↔ gM es u t x) : ∀ (k : Nat), k <= es.length -> ∀ x : Nat, x < k →
   (((x : Int) ∈ (wY isAll es ss mem far near dS t k).1 ↔ Ks aE isAll es ss mem far near u t x) /\ ((x : Int) ∈ (wY isAll es ss mem far near dS t k).2 ↔ (x : Int) ∈ i7 aE isAll es ss mem far es.length near t))
 | 0, _, x, hx => by omega
 | k + 1, hk, x, hx => by
   have hT := h.pre.1
   have ih := Ku h ht hu HQ k (by omega)
   obtain ⟨b1, b2, b3, _, _⟩ := HP (isAll := isAll) (es := es) (ss := ss) (mem := mem) (far := far) (near := near) (dS := dS) (t := t) k
   have CQ := hT k (by omega)
   have WB := fun y hy => b7 h (far := far) (near := near) es.length ht y hy
   have mE : es.getD k 0 ∈ (wY isAll es ss mem far near dS t k).1 ↔ Ks aE isAll es ss mem far near u t (es.getD k 0) := by
     by_cases e0 : es.getD k 0 = -1
     . rw [e0]
       constructor
       . intro z; have := b1 _ z; omega
       . rintro (z | z | ⟨s, p, z1, z2, z3, z4, z5, z6⟩)
         . have := iC hT ht z.1; omega
         . have := WB _ z; omega
         . have pb := b6 h.pre z4
           have hq : ∃ q : Nat, p = q := ⟨p.toNat, by
             have := pb.1
             omega⟩
           obtain ⟨q, rfl⟩ := hq
           have := b7 h (far := false) (near := false) es.length (k := q) (by omega) _ z6
           omega
     . obtain ⟨q, hq⟩ : ∃ q : Nat, es.getD k 0 = q := ⟨(es.getD k 0).toNat, by omega⟩
       rw [hq]
       exact (ih q (by omega)).1
   have mD : es.getD k 0 ∈ (wY isAll es ss mem far near dS t k).2 ↔ es.getD k 0 ∈ i7 aE isAll es ss mem far es.length near t := by
     by_cases e0 : es.getD k 0 = -1
     . rw [e0]
       constructor
       . intro z; have := b2 _ z; omega
       . intro z; have := WB _ z; omega
     . obtain ⟨q, hq⟩ : ∃ q : Nat, es.getD k 0 = q := ⟨(es.getD k 0).toNat, by omega⟩
       rw [hq]
       exact (ih q (by omega)).2
   have Kf : Pj isAll es ss mem far near dS t (wY isAll es ss mem far near dS t k) k = true ↔ Ks aE isAll es ss mem far near u t k := by
     rw [D4 h ht k (by omega)]
     unfold Pj vm
     simp only [an4, amD, amY, anl, ana, HQ, mE]
     have e1 : decide (es.getD k 0 ∈ (wY isAll es ss mem far near dS t k).2) = decide (es.getD k 0 ∈ i7 aE isAll es ss mem far es.length near t) := by rw [decide_eq_decide]; exact mD
     rw [e1, Bool.and_comm (decide (es.getD k 0 ∈ i7 aE isAll es ss mem far es.length near t)) far]
     constructor
     . rintro (z | ⟨z1, z2⟩)
       . exact .inl z
       . by_cases hl : gM es u t k
         . exact .inl hl
         . exact .inr ⟨z1, hl, z2⟩
     . rintro (z | ⟨z1, _, z2⟩)
       . exact .inl z
       . exact .inr ⟨z1, z2⟩
   by_cases e : x = k
   . subst e
     have n1 : (x : Int) ∉ (wY isAll es ss mem far near dS t x).1 := fun z => by have := b1 _ z; omega
     have n2 : (x : Int) ∉ (wY isAll es ss mem far near dS t x).2 := fun z => by have := b2 _ z; omega
     have WC : (x : Int) ∈ i7 aE isAll es ss mem far es.length near t ↔ (Ks aE isAll es ss mem far near u t x /\ ((x : Int) = t \/ es.getD x 0 ∈ i7 aE isAll es ss mem far es.length near t)) := by
       constructor
       . intro z
         refine ⟨.inr (.inl z), ?_⟩
         rw [jJ h es.length ht (by omega) x (by omega)] at z
         rcases z with z | z
         . exact .inl (by omega)
         . exact .inr z.2.1
       . rintro ⟨z1, z2⟩
         rcases z2 with z2 | z2
         . rw [jJ h es.length ht (by omega) x (by omega)]; exact .inl (by omega)
         . have hge : (t : Int) <= es.getD x 0 := by
             obtain ⟨w0, w1, w2⟩ := WB _ z2
             rcases w2 with w | w
             . omega
             . have := aZ hT w0 w1 w; omega
           rcases z1 with w | w | ⟨s, p, w1, w2, w3, w4, w5, w6⟩
           . have := iC hT ht w.1; omega
           . exact w
           . exfalso
             have pb := b6 h.pre w4
             have hq : ∃ q : Nat, p = q := ⟨p.toNat, by
               have := pb.1
               omega⟩
             obtain ⟨q, rfl⟩ := hq
             obtain ⟨v0, v1, v2⟩ := b7 h (far := false) (near := false) es.length (k := q) (by omega) _ w6
             obtain ⟨_, o2⟩ := qu h ht w1 w2 w4 w5 v2 v0 v1
             refine o2 (.inr ?_)
             obtain ⟨y0, y1, y2⟩ := WB _ z2
             rw [c6 hT (m := (x : Int)) (by omega) (by omega), amm, amk (by omega)]
             rcases y2 with y | y
             . rw [y]; exact ame
             . exact ami _ y
     rw [wY]
     by_cases hg : Pj isAll es ss mem far near dS t (wY isAll es ss mem far near dS t x) x = true
     . rw [amo hg]
       refine ⟨⟨fun _ => Kf.mp hg, fun _ => amh _ (by simp)⟩, ?_⟩
       rw [WC]
       dsimp only
       by_cases hd : (x : Int) = t \/ es.getD x 0 ∈ (wY isAll es ss mem far near dS t x).2
       . rw [amo hd]
         exact ⟨fun _ => ⟨Kf.mp hg, hd.imp id mD.mp⟩, fun _ => amh _ (by simp)⟩
       . rw [amk hd]
         exact ⟨fun z => absurd z n2, fun z => absurd (z.2.imp id mD.mpr) hd⟩
     . rw [amk hg]
       exact ⟨⟨fun z => absurd z n1, fun z => absurd (Kf.mpr z) hg⟩, ⟨fun z => absurd z n2, fun z => absurd (Kf.mpr (WC.mp z).1) hg⟩⟩
   . have := ih x (by omega)
     rw [wY]
     split
     . constructor
       . rw [← this.1]
         constructor
         . intro z
           rcases amn.mp z with w | w
           . exact w
           . have : (x : Int) = k := by simpa using w
             omega
         . intro z; exact ams _ z
       . rw [← this.2]
         dsimp only
         split
         . constructor
           . intro z
             rcases amn.mp z with w | w
             . exact w
             . have : (x : Int) = k := by simpa using w
               omega
           . intro z; exact ams _ z
         . exact Iff.rfl
     . exact this
theorem Sb (h : dZ aE isAll es ss mem) (ht : t < es.length) {x : Int} (hx : Ks aE isAll es ss mem far near u t x) : 0 <= x /\ x < es.length := by
 rcases hx with z | z | ⟨s, p, w1, w2, w3, w4, w5, w6⟩
 . have := iC h.pre.1 ht z.1; omega
 . have := b7 h es.length ht x z; omega
 . have pb := b6 h.pre w4
   have hq : ∃ q : Nat, p = q := ⟨p.toNat, by
     have := pb.1
     omega⟩
   obtain ⟨q, rfl⟩ := hq
   have := b7 h (far := false) (near := false) es.length (k := q) (by omega) _ w6
   omega
theorem HR (h : dZ aE isAll es ss mem) (ht : t < es.length) (hu : u = -1 \/ u ∈ aY es t) {dS : List Int} (HQ : ∀ x, x ∈ dS ↔ gM es u t x) : ((wY isAll es ss mem far near dS t es.length).1).Perm (Vi aE isAll es ss mem far near u t) := by
 obtain ⟨b1, _, b3, _, _⟩ := HP (isAll := isAll) (es := es) (ss := ss) (mem := mem) (far := far) (near := near) (dS := dS) (t := t) es.length
 refine (List.perm_ext_iff_of_nodup (qv b3) (xE h ht hu)).mpr fun x => ?_
 rw [zk h ht hu]
 constructor
 . intro z
   have := b1 x z
   obtain ⟨q, rfl⟩ : ∃ q : Nat, x = q := ⟨x.toNat, by omega⟩
   exact (Ku h ht hu HQ es.length (amu _) q (by omega)).1.mp z
 . intro z
   have := Sb h ht z
   obtain ⟨q, rfl⟩ : ∃ q : Nat, x = q := ⟨x.toNat, by omega⟩
   exact (Ku h ht hu HQ es.length (amu _) q (by omega)).1.mpr z
end
theorem vn {α : Type} {f : α -> List Int} {c : Nat} : ∀ {l : List α}, (∀ x ∈ l, (f x).length <= c) -> (l.flatMap f).length <= l.length * c
 | [], _ => by simp
 | x :: l, h => by
   rw [ane, amj, amA, Nat.succ_mul]
   have := vn (l := l) fun y hy => h y (ami _ hy)
   have := h x ame
   omega
theorem Pk {α : Type} (l : List α) : cutD l none (some (-1)) = l.dropLast := by
 unfold cutD
 have e1 : HT.xg l.length 0 none = 0 := rfl
 have e2 : HT.xg l.length l.length (some (-1)) = l.length - 1 := by
   unfold HT.xg
   simp only [show (-1 : Int) < 0 by decide, if_true]
   omega
 rw [e1, e2, List.drop_zero, Nat.sub_zero, List.dropLast_eq_take]
noncomputable def Ag (es : List Int) (u t : Int) : List Int := t :: (aY es t).takeWhile (fun x => decide (x ≠ u))
theorem Sd {es : List Int} {u t x : Int} : x ∈ Ag es u t ↔ x ∈ bU es u t := by
 unfold Ag bU
 rw [anK]
theorem Nz {es : List Int} (h : dM es) : ∀ (f : Nat) {m : Int}, 0 <= m -> m < es.length -> m < f -> es.getD (wX es m (aY es m).length).toNat 0 = -1
 | 0, m, h0, _, hf => by omega
 | f + 1, m, h0, h1, hf => by
   have hm := h.at h0 h1
   have e := c6 h h0 h1
   generalize hq : es.getD m.toNat 0 = k at hm e
   by_cases hk : k = -1
   . rw [amo hk] at e
     unfold wX
     rw [e]
     show es.getD m.toNat 0 = -1
     rw [hq, hk]
   . rw [amk hk] at e
     have ih := Nz h f (m := k) (by omega) (by omega) (by omega)
     unfold wX at ih ⊢
     rw [e]
     exact ih
theorem D5 {ks : List Str} {x : Int} (h : aS ks x = true) : aq ks x = false := by
 have h : ks.getD x.toNat Str.empty = "one" := amx h
 unfold aq
 rw [h]
 decide +kernel
theorem Pn {ks : List Str} {es ch mem some : List Int} {n : Nat} (ht : dM es) (hn : es.length = n) (hn0 : 0 < n) (hm : mem.length = n) (xF : ch.length = n) (tG : ∀ k : Nat, k < n -> ks.getD k Str.empty = "one" -> ch.getD k 0 ∈ eU es k)
   (hs : ∀ x ∈ some, x ∈ cD (aq ks) es ch (n - 1)) : JM (aS ks) es some mem (cD (aq ks) es ch (n - 1)) = ud (aS ks) ch mem some := by
 have G5 : ∀ m ∈ cD (aq ks) es ch (n - 1), 0 <= m /\ m < n := fun m hx => by
   have := gJ _ hx
   omega
 have hsb : ∀ m ∈ some, 0 <= m /\ m < mem.length := fun m hx => by
   have := G5 m (hs m hx)
   omega
 have key : ∀ m ∈ cD (aq ks) es ch (n - 1), ∀ e, es.getD m.toNat 0 = e -> aS ks e = true -> 0 <= e -> ch.getD e.toNat 0 = m := fun m hx e he ho e0 => by
   have hb := G5 m hx
   obtain ⟨k, rfl⟩ : ∃ k : Nat, m = k := ⟨m.toNat, by omega⟩
   rw [amm] at he
   rcases (l0 ht (n - 1) (k := k) (by omega) (by omega)).mp hx with z | ⟨_, z⟩
   . subst z
     have := ht 0 (by omega)
     omega
   . rw [he] at z
     rcases z with z | z
     . rw [D5 ho] at z; cases z
     . exact z
 apply R7
 . rw [zg, vg]
 . intro i hi
   rw [zg] at hi
   rw [zj some mem hsb i hi]
   have h1 := R6 (bB := fun x => aS ks x && decide (0 <= x)) (es := es) (dG := some) (ch := ch) (cD (aq ks) es ch (n - 1)) mem (fun m hx e he ho => by
     rw [amD, amY] at ho
     exact key m hx e he ho.1 ho.2) hsb i hi
   have h2 : JM (fun x => aS ks x && decide (0 <= x)) es some mem (cD (aq ks) es ch (n - 1)) = JM (aS ks) es some mem (cD (aq ks) es ch (n - 1)) := by
     unfold JM
     congr 1
     funext acc m
     unfold mY
     by_cases hq : es.getD m.toNat 0 ∈ some
     . have := hsb _ hq
       simp only [am8 this.1, aoy]
     . rw [amk (fun z => hq z.1), amk (fun z => hq z.1)]
   rw [← h2, h1]
   by_cases hc : (i : Int) ∈ some /\ aS ks i = true
   . rw [amo hc, amo ?_]
     refine ⟨hc.1, by rw [hc.2, am8 (by omega)]; rfl, ?_⟩
     have tM := jI (tG i (by omega) (by have := amx hc.2; rwa [amm] at this))
     obtain ⟨k, hk⟩ : ∃ k : Nat, ch.getD i 0 = k := ⟨(ch.getD i 0).toNat, by omega⟩
     rw [hk] at tM
     rw [amm] at tM
     refine ⟨(k : Int), (l0 ht (n - 1) (k := k) (by omega) (by omega)).mpr (.inr ⟨by rw [tM.2.2]; exact hs _ hc.1, .inr (by rw [tM.2.2, amm, hk])⟩), by rw [amm]; exact tM.2.2⟩
   . rw [amk hc, amk (fun z => hc ⟨z.1, by have := z.2.1; rw [amD] at this; exact this.1⟩)]
noncomputable def uf (bB : Int -> Bool) (es ch : List Int) : Prop := ∀ k : Nat, k < es.length -> bB k = true -> ch.getD k 0 ∈ eU es k
noncomputable def xG (aE bB isAll : Int -> Bool) (es : List Int) : Prop := ∀ k : Nat, k < es.length -> (aE k = true /\ bB k = false /\ isAll k = false /\ eU es k = []) \/ (aE k = false /\ bB k = true /\ isAll k = false) \/ (aE k = false /\ bB k = false /\ isAll k = true)
section
variable {aE bB isAll : Int -> Bool} {es ss mem ch : List Int}
theorem NB (hp : dM es) (hk : xG aE bB isAll es) {k e : Nat} (he : e < es.length) (zl : k < es.length) (h : es.getD k 0 = (e : Int)) (hO : (e : Int) ∈ cD isAll es ch (es.length - 1)) (ha : ¬ isAll e = true) : ((k : Int) ∈ cD isAll es ch (es.length - 1) ↔ ch.getD e 0 = (k : Int)) := by
 rw [l0 hp (es.length - 1) (by omega) (by omega), h]
 have := hp k zl
 constructor
 . rintro (z | z)
   . omega
   . rcases z.2 with z | z
     . exact absurd z ha
     . rwa [amm] at z
 . intro z
   exact .inr ⟨hO, .inr (by rw [amm]; exact z)⟩
theorem HS (hp : dM es) (hk : xG aE bB isAll es) (hc : uf bB es ch) {e : Nat} (he : e < es.length) (ho : bB e = true) (hO : (e : Int) ∈ cD isAll es ch (es.length - 1)) : tL es (cD isAll es ch (es.length - 1)) e ≠ [] /\ (tL es (cD isAll es ch (es.length - 1)) e).getD 0 0 = ch.getD e 0 := by
 have tM := hc e he ho
 have hb := jI tM
 have ha : ¬ isAll e = true := fun z => by
   rcases hk e he with y | y | y
   . rw [y.2.1] at ho; cases ho
   . rw [y.2.2] at z; cases z
   . rw [y.2.1] at ho; cases ho
 have hm : ch.getD e 0 ∈ tL es (cD isAll es ch (es.length - 1)) e := by
   refine amK.mpr ⟨tM, am8 ?_⟩
   obtain ⟨q, hq⟩ : ∃ q : Nat, ch.getD e 0 = q := ⟨(ch.getD e 0).toNat, by omega⟩
   rw [hq] at hb ⊢
   rw [amm] at hb
   exact (NB hp hk he (by omega) hb.2.2 hO ha).mpr hq
 have OU : ∀ x ∈ tL es (cD isAll es ch (es.length - 1)) e, x = ch.getD e 0 := fun x hx => by
   obtain ⟨h1, h2⟩ := amK.mp hx
   have h2 := amx h2
   have h3 := jI h1
   obtain ⟨q, rfl⟩ : ∃ q : Nat, x = q := ⟨x.toNat, by omega⟩
   rw [amm] at h3
   exact ((NB hp hk he (by omega) h3.2.2 hO ha).mp h2).symm
 generalize tL es (cD isAll es ch (es.length - 1)) e = l at hm OU
 cases l with
 | nil => cases hm
 | cons y l => exact ⟨by simp, OU y ame⟩
end
section
variable {aE bB isAll : Int -> Bool} {es ss mem ch : List Int} {far near : Bool} {u : Int} {t : Nat}
theorem NC (hp : dM es) : ∀ (f : Nat) {t e : Int}, 0 <= t -> t < es.length -> t < f -> e ∈ aY es t -> ∃ y : Int, (y = t \/ y ∈ aY es t) /\ 0 <= y /\ y < es.length /\ es.getD y.toNat 0 = e
 | 0, t, e, h0, _, hf, _ => by omega
 | f + 1, t, e, h0, h1, hf, he => by
   have hq := c6 hp h0 h1
   have hb := hp.at h0 h1
   by_cases e1 : es.getD t.toNat 0 = -1
   . rw [hq, amo e1] at he; cases he
   . rw [amk e1] at hq
     rw [hq] at he
     rcases amf.mp he with z | z
     . exact ⟨t, .inl rfl, h0, h1, z.symm⟩
     . obtain ⟨y, y1, y2, y3, y4⟩ := NC hp f (t := es.getD t.toNat 0) (by omega) (by omega) (by omega) z
       refine ⟨y, .inr ?_, y2, y3, y4⟩
       rw [hq]
       rcases y1 with z | z
       . rw [z]; exact ame
       . exact ami _ z
theorem Pp (hp : dM es) {t x y : Int} (t0 : 0 <= t) (t1 : t < es.length) (x0 : 0 <= x) (x1 : x < es.length) (y0 : 0 <= y) (y1 : y < es.length) (he : es.getD x.toNat 0 = es.getD y.toNat 0) (hx : x = t \/ x ∈ aY es t) (hy : y = t \/ y ∈ aY es t) : x = y := by
 have no : ∀ a c : Int, 0 <= a -> a < es.length -> 0 <= c -> c < es.length -> es.getD a.toNat 0 = es.getD c.toNat 0 -> ¬ a ∈ aY es c := fun a c a0 a1 c0 c1 hh hm => by
   have hb := hp.at a0 a1
   rw [c6 hp c0 c1] at hm
   by_cases e1 : es.getD c.toNat 0 = -1
   . rw [amo e1] at hm; cases hm
   . rw [amk e1] at hm
     have hb2 := hp.at c0 c1
     rcases amf.mp hm with z | z
     . omega
     . have := aZ hp (m := es.getD c.toNat 0) (by omega) (by omega) z
       omega
 rcases hx with rfl | hx <;> rcases hy with rfl | hy
 . rfl
 . exact absurd hy (no _ _ y0 y1 x0 x1 he.symm)
 . exact absurd hx (no _ _ x0 x1 y0 y1 he)
 . rcases oA hp t0 t1 hx hy with z | z | z
   . exact z
   . exact absurd z (no _ _ x0 x1 y0 y1 he)
   . exact absurd z (no _ _ y0 y1 x0 x1 he.symm)
theorem ug (h : jf es) : ∀ (f t : Nat), t < f -> t < es.length -> t = 0 \/ (0 : Int) ∈ aY es t
 | 0, t, hf, _ => by omega
 | f + 1, t, hf, ht => by
   by_cases e : t = 0
   . exact .inl e
   . obtain ⟨s, rfl⟩ : ∃ s, t = s + 1 := ⟨t - 1, by omega⟩
     have hb := h.1 (s + 1) ht
     have h2 : 0 <= es.getD (s + 1) 0 := by
       rcases h.2 s ht with z | z
       . omega
       . have := aZ h.1 (m := (s : Int)) (by omega) (by omega) z
         omega
     have hq := c6 h.1 (m := ((s + 1 : Nat) : Int)) (by omega) (by omega)
     rw [amm, amk (by omega)] at hq
     refine .inr ?_
     rw [hq]
     obtain ⟨q, hq2⟩ : ∃ q : Nat, es.getD (s + 1) 0 = q := ⟨(es.getD (s + 1) 0).toNat, by omega⟩
     rw [hq2]
     rcases ug h f q (by omega) (by omega) with z | z
     . rw [z]; exact ame
     . exact ami _ z
noncomputable def uN (es : List Int) (u x : Int) : Prop := u = -1 \/ u ∈ aY es x
theorem D6 (hp : dM es) {x y : Int} (x0 : 0 <= x) (x1 : x < es.length) (hy : y ∈ aY es x) (hb : uN es u y) : uN es u x := by
 rcases hb with z | z
 . exact .inl z
 . exact .inr (iV hp x0 x1 hy z)
theorem Ah (hu : u = -1 \/ u ∈ aY es t) {x : Int} (hx : gM es u t x) : uN es u x := by
 rcases hx with rfl | z
 . exact hu
 . exact z.2
theorem vo (h : dZ aE isAll es ss mem) (ht : t < es.length) (hu : u = -1 \/ u ∈ aY es t) {x : Int} (hx : Ks aE isAll es ss mem far near u t x) : uN es u x := by
 have hp := h.pre.1
 rcases hx with z | z | ⟨s, p, hs, _, _, hpi, _, z⟩
 . exact Ah hu z.1
 . obtain ⟨x0, x1, y⟩ := b7 h es.length ht x z
   rcases y with rfl | y
   . exact hu
   . exact D6 hp x0 x1 y hu
 . have hc := b6 h.pre hpi
   have hsb := iC hp ht hs
   obtain ⟨q, rfl⟩ : ∃ q : Nat, p = q := ⟨p.toNat, by omega⟩
   have hq : uN es u q := D6 hp hc.1 hc.2.1 (by rw [← hc.2.2.1]; exact CP hp hc.1 hc.2.1 (by omega)) (Ah hu hs)
   obtain ⟨x0, x1, y⟩ := b7 h es.length (k := q) (by omega) x z
   rcases y with rfl | y
   . exact hq
   . exact D6 hp x0 x1 y hq
theorem Ds (hk : xG aE bB isAll es) (hc : uf bB es ch) (h : dZ aE isAll es ss mem) (ht : t < es.length)
   (hu : u = -1 \/ (u ∈ aY es t /\ bB u = true /\ u ∈ cD isAll es ch (es.length - 1))) :
   ∃ zm : List Int, zm.length = es.length /\ uf bB es zm ∧
     (cD isAll es zm (es.length - 1)).Perm ((cD isAll es ch (es.length - 1)).filter (fun x => !(decide (u = -1) || decide (u ∈ aY es x))) ++ Vi aE isAll es ss mem far near u t) /\ (t : Int) ∈ cD isAll es zm (es.length - 1) := by
 classical
 have hp := h.pre.1
 have hn : 0 < es.length := by omega
 have WD : u = -1 \/ u ∈ aY es t := hu.imp id (·.1)
 have BG : ∀ e : Int, ∃ y : Int, e ∈ aY es t -> (y = t \/ y ∈ aY es t) /\ 0 <= y /\ y < es.length /\ es.getD y.toNat 0 = e := fun e => by
   by_cases z : e ∈ aY es t
   . obtain ⟨y, hy⟩ := NC hp (t + 1) (t := (t : Int)) (by omega) (by omega) (by omega) z
     exact ⟨y, fun _ => hy⟩
   . exact ⟨0, fun y => absurd y z⟩
 obtain ⟨st, BG⟩ : ∃ st : Int -> Int, ∀ e : Int, e ∈ aY es t -> (st e = t \/ st e ∈ aY es t) /\ 0 <= st e /\ st e < es.length /\ es.getD (st e).toNat 0 = e := ⟨fun e => Classical.choose (BG e), fun e => Classical.choose_spec (BG e)⟩
 let fl : Int -> Bool := fun e => (decide (e = t) && (far || near)) || (far && decide (e ∈ i7 aE isAll es ss mem far es.length near t))
 let c : Nat -> Int := fun k => if (k : Int) = u \/ (gM es u t k /\ (k : Int) ≠ t) then st k else if uN es u k then fF ss mem (fl k) k else ch.getD k 0
 have hat : ∀ k : Nat, k < es.length -> ((List.range es.length).map c).getD k 0 = c k := fun k zl => by
   rw [amd, amT, anp zl]
   rfl
 have NF : ∀ e : Int, gM es u t e -> Ks aE isAll es ss mem far near u t e := fun e he => by
   have hb := iC hp ht he
   obtain ⟨q, rfl⟩ : ∃ q : Nat, e = q := ⟨e.toNat, by omega⟩
   exact (D4 h ht q (by omega)).mpr (.inl he)
 let N : Int -> Prop := fun x => (x ∈ cD isAll es ch (es.length - 1) /\ ¬ uN es u x) \/ Ks aE isAll es ss mem far near u t x
 have hNb : ∀ x, N x -> 0 <= x /\ x < es.length := fun x hx => by
   rcases hx with z | z
   . have := gJ _ z.1; omega
   . exact Sb h ht z
 have hN : ∀ k : Nat, k < es.length -> (N k ↔ (k = 0 \/ (N (es.getD k 0) /\ (isAll (es.getD k 0) = true \/ c (es.getD k 0).toNat = (k : Int))))) := by
   intro k zl
   have CQ := hp k zl
   have hq := c6 hp (m := (k : Int)) (by omega) (by omega)
   rw [amm] at hq
   by_cases k0 : k = 0
   . subst k0
     rw [amo (by omega)] at hq
     refine ⟨fun _ => .inl rfl, fun _ => ?_⟩
     rcases hu with z | z
     . refine .inr (NF _ ?_)
       rcases ug h.pre (t + 1) t (by omega) ht with y | y
       . exact .inl (by omega)
       . exact .inr ⟨y, .inl z⟩
     . refine .inl ⟨(l0 hp (es.length - 1) (k := 0) (by omega) (by omega)).mpr (.inl rfl), ?_⟩
       rintro (y | y)
       . have := gJ _ z.2.2; omega
       . rw [hq] at y; cases y
   . have e0 : es.getD k 0 ≠ -1 := by
       rcases ug h.pre (k + 1) k (by omega) zl with y | y
       . exact absurd y k0
       . intro z; rw [hq, amo z] at y; cases y
     rw [amk e0] at hq
     have hO := l0 (isAll := isAll) (ch := ch) hp (es.length - 1) (k := k) (by omega) (by omega)
     have hE := D4 (far := far) (near := near) (u := u) h ht k zl
     obtain ⟨e, he⟩ : ∃ e : Nat, es.getD k 0 = e := ⟨(es.getD k 0).toNat, by omega⟩
     rw [he] at hq hO hE CQ ⊢
     rw [amm] at hO ⊢
     have ah8 : e < es.length := by omega
     have eb : uN es u e -> uN es u k := fun z => D6 hp (by omega) (by omega) (by rw [hq]; exact ame) z
     have self : ∀ x : Int, 0 <= x -> x < es.length -> ¬ x ∈ aY es x := fun x a0 a1 z => by
       have := aZ hp a0 a1 z; omega
     have stp : (e : Int) ∈ aY es t -> (st e = k ↔ ((k : Int) = t \/ (k : Int) ∈ aY es t)) := fun z => by
       obtain ⟨s1, s2, s3, s4⟩ := BG e z
       constructor
       . intro y; rw [← y]; exact s1
       . intro y
         exact Pp hp (t := (t : Int)) (by omega) (by omega) s2 s3 (by omega) (by omega) (by rw [s4, amm, he]) s1 y
     by_cases hB : uN es u k
     . by_cases heu : (e : Int) = u
       . have Vh := hu.resolve_left (by omega)
         rw [← heu] at Vh
         have hnB : ¬ uN es u e := by
           rintro (z | z)
           . omega
           . rw [heu] at z; exact self u (by omega) (by omega) z
         have hna : ¬ isAll e = true := fun z => by
           rcases hk e ah8 with y | y | y
           . rw [y.2.1] at Vh; cases Vh.2.1
           . rw [y.2.2] at z; cases z
           . rw [y.2.1] at Vh; cases Vh.2.1
         have hce : c e = st e := amo (.inl heu)
         rw [hce]
         have hnE : ¬ Ks aE isAll es ss mem far near u t e := fun z => hnB (vo h ht WD z)
         constructor
         . rintro (z | z)
           . exact absurd hB z.2
           . rcases hE.mp z with y | y
             . refine .inr ⟨.inl ⟨Vh.2.2, hnB⟩, .inr ((stp Vh.1).mpr ?_)⟩
               rcases y with y | y
               . exact .inl y
               . exact .inr y.1
             . exact absurd y.1 hnE
         . rintro (z | ⟨_, z | z⟩)
           . exact absurd z k0
           . exact absurd z hna
           . refine .inr (NF _ ?_)
             rcases (stp Vh.1).mp z with y | y
             . exact .inl y
             . exact .inr ⟨y, hB⟩
       . have hBe : uN es u e := by
           rcases hB with z | z
           . exact .inl z
           . rw [hq] at z
             rcases amf.mp z with y | y
             . exact absurd y.symm heu
             . exact .inr y
         have L1 : N k ↔ Ks aE isAll es ss mem far near u t k := ⟨fun z => z.resolve_left (fun y => y.2 hB), .inr⟩
         have L2 : N e ↔ Ks aE isAll es ss mem far near u t e := ⟨fun z => z.resolve_left (fun y => y.2 hBe), .inr⟩
         rw [L1, L2, hE]
         by_cases hL : gM es u t e /\ (e : Int) ≠ t
         . have hce : c e = st e := amo (.inr hL)
           rw [hce]
           have het : (e : Int) ∈ aY es t := by
             rcases hL.1 with y | y
             . exact absurd y hL.2
             . exact y.1
           have hm : vm aE isAll es ss mem far near u t e k ↔ isAll e = true := by
             unfold vm
             constructor
             . rintro (z | z)
               . exact z
               . rcases z.2 with y | y
                 . exact absurd y hL.2
                 . exact absurd hL.1 y
             . exact .inl
           rw [hm, stp het]
           constructor
           . rintro (z | z)
             . refine .inr ⟨NF _ hL.1, .inr ?_⟩
               rcases z with y | y
               . exact .inl y
               . exact .inr y.1
             . exact .inr ⟨z.1, .inl z.2.2⟩
           . rintro (z | ⟨z1, z2⟩)
             . exact absurd z k0
             . by_cases hLk : gM es u t k
               . exact .inl hLk
               . rcases z2 with z2 | z2
                 . exact .inr ⟨z1, hLk, z2⟩
                 . refine absurd ?_ hLk
                   rcases z2 with y | y
                   . exact .inl y
                   . exact .inr ⟨y, hB⟩
         . have hce : c e = fF ss mem (fl e) e := by
             show (if (e : Int) = u \/ (gM es u t e /\ (e : Int) ≠ t) then st e else if uN es u e then fF ss mem (fl e) e else ch.getD e 0) = _
             rw [amk (fun z => z.elim heu hL), amo hBe]
           rw [hce]
           have hnL : ¬ gM es u t k := by
             rintro (z | z)
             . refine hL ⟨.inr ⟨?_, hBe⟩, by omega⟩
               rw [← z, hq]
               exact ame
             . have := aZ hp (m := (t : Int)) (by omega) (by omega) z.1
               exact hL ⟨.inr ⟨iV hp (by omega) (by omega) z.1 (by rw [hq]; exact ame), hBe⟩, by omega⟩
           have hm : vm aE isAll es ss mem far near u t e k ↔ (isAll e = true \/ fF ss mem (fl e) e = k) := by
             have : (e : Int) = t \/ ¬ gM es u t e := by
               by_cases y : (e : Int) = t
               . exact .inl y
               . exact .inr (fun w => hL ⟨w, y⟩)
             unfold vm
             constructor
             . rintro (z | z)
               . exact .inl z
               . exact .inr z.1
             . rintro (z | z)
               . exact .inl z
               . exact .inr ⟨z, this⟩
           rw [hm]
           constructor
           . rintro (z | z)
             . exact absurd z hnL
             . exact .inr ⟨z.1, z.2.2⟩
           . rintro (z | z)
             . exact absurd z k0
             . exact .inr ⟨z.1, hnL, z.2⟩
     . have WG : ¬ uN es u e := fun z => hB (eb z)
       have heu : (e : Int) ≠ u := fun z => hB (.inr (by rw [hq, z]; exact ame))
       have hce : c e = ch.getD e 0 := by
         show (if (e : Int) = u \/ (gM es u t e /\ (e : Int) ≠ t) then st e else if uN es u e then fF ss mem (fl e) e else ch.getD e 0) = _
         rw [amk (fun z => z.elim heu (fun y => WG (Ah WD y.1))), amk WG]
       rw [hce]
       have L1 : N k ↔ (k : Int) ∈ cD isAll es ch (es.length - 1) := ⟨fun z => z.elim (·.1) (fun y => absurd (vo h ht WD y) hB), fun z => .inl ⟨z, hB⟩⟩
       have L2 : N e ↔ (e : Int) ∈ cD isAll es ch (es.length - 1) := ⟨fun z => z.elim (·.1) (fun y => absurd (vo h ht WD y) WG), fun z => .inl ⟨z, WG⟩⟩
       rw [L1, L2]
       exact hO
 have ua : ∀ x, x ∈ cD isAll es ((List.range es.length).map c) (es.length - 1) ↔ N x := by
   have key : ∀ (f k : Nat), k < f -> k < es.length -> ((k : Int) ∈ cD isAll es ((List.range es.length).map c) (es.length - 1) ↔ N k) := by
     intro f
     induction f with
     | zero => intro k h; omega
     | succ f ih =>
       intro k hkf zl
       rw [l0 hp (es.length - 1) (by omega) (by omega), hN k zl]
       have CQ := hp k zl
       by_cases e : es.getD k 0 = -1
       . rw [e]
         constructor
         . rintro (z | z)
           . exact .inl z
           . have := gJ _ z.1; omega
         . rintro (z | z)
           . exact .inl z
           . have := hNb _ z.1; omega
       . obtain ⟨q, hq⟩ : ∃ q : Nat, es.getD k 0 = q := ⟨(es.getD k 0).toNat, by omega⟩
         rw [hq, ih q (by omega) (by omega), amm, hat q (by omega)]
   intro x
   constructor
   . intro z
     have := gJ _ z
     obtain ⟨q, rfl⟩ : ∃ q : Nat, x = q := ⟨x.toNat, by omega⟩
     exact (key (q + 1) q (by omega) (by omega)).mp z
   . intro z
     have := hNb _ z
     obtain ⟨q, rfl⟩ : ∃ q : Nat, x = q := ⟨x.toNat, by omega⟩
     exact (key (q + 1) q (by omega) (by omega)).mpr z
 have bb : ∀ x : Int, ((!(decide (u = -1) || decide (u ∈ aY es x))) = true ↔ ¬ uN es u x) := fun x => by
   unfold uN
   simp
 refine ⟨(List.range es.length).map c, by simp, fun k zl ho => ?_, ?_, (ua _).mpr (.inr (NF _ (.inl rfl)))⟩
 . rw [hat k zl]
   show (if (k : Int) = u \/ (gM es u t k /\ (k : Int) ≠ t) then st k else if uN es u k then fF ss mem (fl k) k else ch.getD k 0) ∈ _
   by_cases z : (k : Int) = u \/ (gM es u t k /\ (k : Int) ≠ t)
   . rw [amo z]
     have hkt : (k : Int) ∈ aY es t := by
       rcases z with y | y
       . rw [y]; exact WD.resolve_left (by omega)
       . exact (y.1.resolve_left y.2).1
     obtain ⟨_, s2, s3, s4⟩ := BG k hkt
     exact rX s2 s3 s4
   . rw [amk z]
     by_cases y : uN es u k
     . rw [amo y]
       rcases hk k zl with w | w | w
       . rw [w.2.1] at ho; cases ho
       . exact Nv h zl w.1 w.2.2
       . rw [w.2.1] at ho; cases ho
     . rw [amk y]
       exact hc k zl ho
 . refine (List.perm_ext_iff_of_nodup (qv (gS _)) ?_).mpr fun x => ?_
   . rw [am4]
     refine ⟨aog _ (qv (gS _)), xE h ht WD, fun a ha b hb Wn => ?_⟩
     subst Wn
     exact (bb a).mp (amK.mp ha).2 (vo h ht WD ((zk h ht WD a).mp hb))
   . rw [ua, amn, amK, zk h ht WD, bb]
end
inductive J where
 | out (m : Int) | inn (m : Int) | keep (m p q : Int) | put (x p q : Int) | oth (w : Str) (ds : List L3.D)
theorem Se {n : Nat} : ∀ {l : List Int} {lo : Int}, l.Pairwise (· < ·) -> (∀ x ∈ l, lo <= x /\ x < n) -> 0 <= lo -> l.length <= ((n : Int) - lo).toNat
 | [], _, _, _, _ => amO _
 | y :: l, lo, hp, hl, h0 => by
   have hy := hl y ame
   obtain ⟨h1, h2⟩ := am5.mp hp
   have := Se (n := n) (lo := y + 1) h2 (fun x hx => ⟨by have := h1 x hx; omega, (hl x (ami _ hx)).2⟩) (by omega)
   rw [amA]
   omega
theorem Ai {l : List Int} (h : l.Pairwise (· <= ·)) (nd : l.Nodup) : l.Pairwise (· < ·) := by
 induction l with
 | nil => exact .nil
 | cons y l ih =>
   obtain ⟨h1, h2⟩ := am5.mp h
   obtain ⟨n1, n2⟩ := anr.mp nd
   refine am5.mpr ⟨fun x hx => ?_, ih h2 n2⟩
   have := h1 x hx
   have : y ≠ x := fun e => n1 (e ▸ hx)
   omega
theorem Sf {l : List Int} (h : l.Pairwise (· < ·)) : l.Nodup := h.imp fun h e => by omega
theorem ae7 {l : List Int} (h : l.Pairwise (· < ·)) : l.Pairwise (· <= ·) := h.imp fun h => by omega
noncomputable def gF (bs nm : List L3.D) (tr : L3.D) (is os ws : List L3.D) : L3.D := .ins "Chart" [("boxes", .lst bs), ("names", .lst nm), ("tree", tr), ("ins", .lst is), ("outs", .lst os), ("ways", .lst ws)]
section
variable {bs nm is os ws : List L3.D} {tr : L3.D}
theorem jw : List.lookup ("tree" : Str) [(("boxes" : Str), L3.D.lst bs), ("names", .lst nm), ("tree", tr), ("ins", .lst is), ("outs", .lst os), ("ways", .lst ws)] = some tr := by
 rw [fE (by decide +kernel), fE (by decide +kernel), ou]
theorem Pq : List.lookup ("ins" : Str) [(("boxes" : Str), L3.D.lst bs), ("names", .lst nm), ("tree", tr), ("ins", .lst is), ("outs", .lst os), ("ways", .lst ws)] = some (.lst is) := by
 rw [fE (by decide +kernel), fE (by decide +kernel), fE (by decide +kernel), ou]
theorem Kv : List.lookup ("outs" : Str) [(("boxes" : Str), L3.D.lst bs), ("names", .lst nm), ("tree", tr), ("ins", .lst is), ("outs", .lst os), ("ways", .lst ws)] = some (.lst os) := by
 rw [fE (by decide +kernel), fE (by decide +kernel), fE (by decide +kernel), fE (by decide +kernel), ou]
theorem lE : List.lookup ("ways" : Str) [(("boxes" : Str), L3.D.lst bs), ("names", .lst nm), ("tree", tr), ("ins", .lst is), ("outs", .lst os), ("ways", .lst ws)] = some (.lst ws) := by
 rw [fE (by decide +kernel), fE (by decide +kernel), fE (by decide +kernel), fE (by decide +kernel), fE (by decide +kernel), ou]
end
noncomputable def xH (bs nm : List L3.D) : List (Str × T) := [("boxes", .lst (bs.map T.sh)), ("names", .lst (nm.map T.sh))]
noncomputable def xJ (is os ws : List L3.D) : List (Str × T) := [("ins", .lst (is.map T.sh)), ("outs", .lst (os.map T.sh)), ("ways", .lst (ws.map T.sh))]
noncomputable def kD (bs nm : List L3.D) (t : T) (is os ws : List L3.D) : List (Str × T) := xH bs nm ++ (("tree" : Str), t) :: xJ is os ws
theorem Kw (bs nm : List L3.D) (t : T) (is os ws : List L3.D) : T.fS (.ins "Chart" (kD bs nm t is os ws)) = gF bs nm t.fS is os ws := by
 unfold kD xH xJ
 rw [amE, amE, List.nil_append, T.fS, T.tE, T.tE, T.tE, T.tE, T.tE, T.tE, T.tE, cS, cS, cS, cS, cS]
 rfl
theorem c7 {ds : List L3.D} (h : D.bZ ds = true) : (T.lst (ds.map T.sh)).clean = true := by
 rw [rV]
 induction ds with
 | nil => rfl
 | cons d ds ih =>
   rw [D.bZ, amD] at h
   rw [am6, T.iA, ih h.2, T.clean, h.1]; rfl
theorem D7 {bs nm : List L3.D} (h1 : D.bZ bs = true) (h2 : D.bZ nm = true) : T.cj (xH bs nm) = true := by
 unfold xH
 rw [T.cj, T.cj, T.cj, c7 h1, c7 h2]; rfl
theorem D8 {is os ws : List L3.D} (h1 : D.bZ is = true) (h2 : D.bZ os = true) (h3 : D.bZ ws = true) : T.cj (xJ is os ws) = true := by
 unfold xJ
 rw [T.cj, T.cj, T.cj, T.cj, c7 h1, c7 h2, c7 h3]; rfl
noncomputable def BR (p : Str × Int) : L3.D := .tup [.str p.1, .int p.2]
structure cR where
 src : Int
 sign : Str
 asks : List L3.D
 jW : List L3.D
 tgt : Int
 mode : Str
noncomputable def cE (w : cR) : L3.D := .tup [.int w.src, .str w.sign, .tup w.asks, .tup w.jW, .int w.tgt, .str w.mode]
noncomputable def w0 : cR := ⟨0, Str.empty, [], [], 0, Str.empty⟩
noncomputable def cW (ws : List cR) (i : Int) : cR := ws.getD i.toNat w0
theorem mh {ws : List cR} {i : Int} (h0 : 0 <= i) (h1 : i < ws.length) : cW ws i ∈ ws := by
 unfold cW
 rw [amd, amq (by omega)]
 exact anD _
noncomputable def eV (ks : List Str) (es : List Int) (w : cR) : Int := DW (aS ks) es w.src w.tgt
noncomputable def qw (es : List Int) (u x : Int) : Bool := decide (u = -1) || decide (u ∈ aY es x)
theorem Aj {es : List Int} {u x : Int} : qw es u x = true ↔ uN es u x := by
 unfold qw uN
 simp
noncomputable def jX (es ops : List Int) (u : Int) : List Int := (ops.filter (fun m => decide (u = -1) || decide (u ∈ aY es m))).reverse
noncomputable def Ap (es : List Int) (u v : Int) : Prop := u ≠ -1 /\ v ≠ -1 /\ u ≠ v /\ u ∉ aY es v /\ v ∉ aY es u
theorem Ap.symm {es : List Int} {u v : Int} (h : Ap es u v) : Ap es v u := ⟨h.2.1, h.1, fun e => h.2.2.1 e.symm, h.2.2.2.2, h.2.2.2.1⟩
theorem CT {es : List Int} (hp : dM es) {u v x : Int} (x0 : 0 <= x) (x1 : x < es.length) (ap : Ap es u v) (h : uN es u x) : ¬ uN es v x := fun k => by
 have h := h.resolve_left ap.1
 have k := k.resolve_left ap.2.1
 rcases oA hp x0 x1 h k with e | e | e
 . exact ap.2.2.1 e
 . exact ap.2.2.2.1 e
 . exact ap.2.2.2.2 e
theorem CV {l : List Int} {n : Nat} (nd : l.Nodup) (hb : ∀ x ∈ l, 0 <= x /\ x < n) : l.length <= n := by
 have := Se (n := n) (lo := 0) (Ai (kK l) ((sortI_perm l).nodup_iff.mpr nd)) (fun x hx => hb x (k9.mp hx)) (Int.le_refl _)
 rw [g9] at this
 omega
theorem uh {α : Type} {es : List Int} (hp : dM es) {top : α -> Int} {f : α -> List Int} : ∀ {gs : List α}, gs.Pairwise (fun a c => Ap es (top a) (top c)) -> (∀ a ∈ gs, (f a).Nodup /\ ∀ x ∈ f a, (0 <= x /\ x < es.length) /\ uN es (top a) x) →
   (gs.flatMap f).Nodup /\ ∀ x ∈ gs.flatMap f, (0 <= x /\ x < es.length) /\ ∃ a ∈ gs, uN es (top a) x
 | [], _, _ => ⟨by simp, fun x hx => by simp at hx⟩
 | a :: gs, hA, hf => by
   obtain ⟨h1, h2⟩ := am5.mp hA
   obtain ⟨i1, i2⟩ := uh hp h2 (fun c hc => hf c (ami _ hc))
   obtain ⟨f1, f2⟩ := hf a ame
   rw [ane]
   refine ⟨am4.mpr ⟨f1, i1, fun x hx y hy e => ?_⟩, fun x hx => ?_⟩
   . subst e
     obtain ⟨b1, c, hc, hb⟩ := i2 x hy
     exact CT hp b1.1 b1.2 (h1 c hc) (f2 x hx).2 hb
   . rcases amn.mp hx with hx | hx
     . exact ⟨(f2 x hx).1, a, ame, (f2 x hx).2⟩
     . obtain ⟨b1, c, hc, hb⟩ := i2 x hx
       exact ⟨b1, c, ami _ hc, hb⟩
theorem Sg {isAll : Int -> Bool} {es ch : List Int} (hp : dM es) : ∀ (f : Nat) {x y : Int}, x < f -> x ∈ cD isAll es ch (es.length - 1) -> y ∈ aY es x -> y ∈ cD isAll es ch (es.length - 1)
 | 0, x, y, hf, hx, hy => by
   have := (gJ _ hx).1
   omega
 | f + 1, x, y, hf, hx, hy => by
   have hb := gJ _ hx
   by_cases hn : es.length = 0
   . have e : es = [] := List.eq_nil_of_length_eq_zero hn
     subst e
     have x0 : x = 0 := by simpa [cD] using hx
     subst x0
     simp [aY, yO] at hy
     subst hy
     simp [cD]
   . obtain ⟨k, rfl⟩ : ∃ k : Nat, x = k := ⟨x.toNat, by omega⟩
     have hk : k < es.length := by omega
     have e := c6 hp (m := (k : Int)) (by omega) (by omega)
     rw [amm] at e
     have ha := hp k hk
     by_cases hz : es.getD k 0 = -1
     . rw [e, amo hz] at hy
       cases hy
     . rw [e, amk hz] at hy
       have CQ : es.getD k 0 ∈ cD isAll es ch (es.length - 1) := by
         rcases (l0 hp (es.length - 1) (k := k) (by omega) (by omega)).mp hx with z | z
         . omega
         . exact z.1
       rcases amf.mp hy with rfl | hy
       . exact CQ
       . exact Sg hp f (by omega) CQ hy
noncomputable def CW (ks : List Str) (es ss mem : List Int) (w : cR) : List Int := Vi (aQ ks) (aq ks) es ss mem (bK w.mode) (cu w.mode) (eV ks es w) w.tgt.toNat
noncomputable def Goes (ks : List Str) (es ops : List Int) (w : cR) : Prop := (0 <= w.tgt /\ w.tgt < es.length) /\ (eV ks es w = -1 \/ (eV ks es w ∈ aY es w.tgt.toNat /\ aS ks (eV ks es w) = true /\ eV ks es w ∈ ops))
theorem Goes.up {ks : List Str} {es ops : List Int} {w : cR} (h : Goes ks es ops w) : eV ks es w = -1 \/ eV ks es w ∈ aY es w.tgt.toNat := h.2.imp id (·.1)
theorem Sh {ks : List Str} {es ss mem ops : List Int} (hT : dZ (aQ ks) (aq ks) es ss mem) {w : cR} (h : Goes ks es ops w) : (CW ks es ss mem w).Nodup /\ ∀ x ∈ CW ks es ss mem w, (0 <= x /\ x < es.length) /\ uN es (eV ks es w) x := by
 have ht : w.tgt.toNat < es.length := by have := h.1; omega
 refine ⟨xE hT ht h.up, fun x hx => ?_⟩
 have hi := (zk hT ht h.up x).mp hx
 exact ⟨Sb hT ht hi, vo hT ht h.up hi⟩
theorem Zh {ks : List Str} {es ss mem : List Int} (hk : xG (aQ ks) (aS ks) (aq ks) es) (hT : dZ (aQ ks) (aq ks) es ss mem) (hn : 0 < es.length) : ∀ {gs : List cR} {ch : List Int}, ch.length = es.length -> uf (aS ks) es ch -> gs.Pairwise (fun a c => Ap es (eV ks es a) (eV ks es c)) →
   (∀ w ∈ gs, Goes ks es (cD (aq ks) es ch (es.length - 1)) w) →
   ∃ zm : List Int, zm.length = es.length /\ uf (aS ks) es zm /\ (cD (aq ks) es zm (es.length - 1)).Perm ((cD (aq ks) es ch (es.length - 1)).filter (fun x => !(gs.any fun w => qw es (eV ks es w) x)) ++ gs.flatMap (CW ks es ss mem))
 | [], ch, hl, hc, _, _ => ⟨ch, hl, hc, by simp [iU]⟩
 | w :: gs, ch, hl, hc, hA, hg => by
   obtain ⟨h1, h2⟩ := am5.mp hA
   have gw := hg w ame
   have ht : w.tgt.toNat < es.length := by have := gw.1; omega
   obtain ⟨c1, l1, k1, p1, _⟩ := Ds (far := bK w.mode) (near := cu w.mode) hk hc hT ht gw.2
   have ua : ∀ x ∈ cD (aq ks) es ch (es.length - 1), 0 <= x /\ x < es.length := fun x hx => by
     have := gJ _ hx
     omega
   have g1 : ∀ v ∈ gs, Goes ks es (cD (aq ks) es c1 (es.length - 1)) v := fun v hv => by
     have gv := hg v (ami _ hv)
     refine ⟨gv.1, gv.2.imp id fun z => ⟨z.1, z.2.1, p1.mem_iff.mpr (ams _ (amK.mpr ⟨z.2.2, ?_⟩))⟩⟩
     have ap := h1 v hv
     have e1 : ¬ (eV ks es w = -1 \/ eV ks es w ∈ aY es (eV ks es v)) := fun q => q.elim ap.1 ap.2.2.2.1
     simp only [anl, anM, ana]
     exact ⟨fun q => e1 (.inl q), fun q => e1 (.inr q)⟩
   obtain ⟨c2, l2, k2, p2⟩ := Zh hk hT hn l1 k1 h2 g1
   refine ⟨c2, l2, k2, p2.trans ?_⟩
   have p3 := (p1.filter (fun x => !(gs.any fun w => qw es (eV ks es w) x))).append_right (gs.flatMap (CW ks es ss mem))
   refine p3.trans ?_
   rw [anh, List.filter_filter, ane, ← aml]
   have e1 : (Vi (aQ ks) (aq ks) es ss mem (bK w.mode) (cu w.mode) (eV ks es w) w.tgt.toNat).filter (fun x => !(gs.any fun w => qw es (eV ks es w) x)) = CW ks es ss mem w := by
     refine List.filter_eq_self.mpr fun x hx => ?_
     obtain ⟨b1, b2⟩ := (Sh hT gw).2 x hx
     rw [anl, List.any_eq_false]
     intro v hv q
     exact CT hT.pre.1 b1.1 b1.2 (h1 v hv) b2 (Aj.mp q)
   have e2 : (cD (aq ks) es ch (es.length - 1)).filter (fun a => (!(gs.any fun w => qw es (eV ks es w) a)) && !(decide (eV ks es w = -1) || decide (eV ks es w ∈ aY es a))) = (cD (aq ks) es ch (es.length - 1)).filter (fun x => !((w :: gs).any fun w => qw es (eV ks es w) x)) := by
     refine List.filter_congr fun x _ => ?_
     show ((!(gs.any fun w => qw es (eV ks es w) x)) && !(qw es (eV ks es w) x)) = _
     rw [List.any_cons, Bool.not_or, Bool.and_comm]
   rw [e1, e2]
noncomputable def gO (ks : List Str) (es ops : List Int) (gs : List cR) : List Int := (sortI (gs.flatMap fun w => jX es ops (eV ks es w))).reverse
theorem CY {l : List Int} (h : l.Nodup) : l.reverse.Nodup := List.pairwise_reverse.mpr (h.imp fun h e => h e.symm)
theorem qx {es ops : List Int} {u x : Int} : x ∈ jX es ops u ↔ x ∈ ops /\ uN es u x := by
 unfold jX uN
 rw [anK, amK]
 simp
theorem vp {ks : List Str} {es ops : List Int} {gs : List cR} {x : Int} : x ∈ gO ks es ops gs ↔ x ∈ ops /\ ∃ w ∈ gs, uN es (eV ks es w) x := by
 unfold gO
 rw [anK, k9, am2]
 constructor
 . rintro ⟨w, hw, hx⟩
   exact ⟨(qx.mp hx).1, w, hw, (qx.mp hx).2⟩
 . rintro ⟨hx, w, hw, hb⟩
   exact ⟨w, hw, qx.mpr ⟨hx, hb⟩⟩
theorem Ak {ks : List Str} {es ops : List Int} {gs : List cR} (hp : dM es) (ho : ops.Pairwise (· < ·)) (hb : ∀ x ∈ ops, 0 <= x /\ x < es.length) (hA : gs.Pairwise (fun a c => Ap es (eV ks es a) (eV ks es c))) :
   (gs.flatMap fun w => jX es ops (eV ks es w)).Nodup /\ (gs.flatMap fun w => jX es ops (eV ks es w)).length <= es.length := by
 have h := uh (f := fun w => jX es ops (eV ks es w)) hp hA (fun w _ => ⟨by
   unfold jX
   exact CY ((Sf ho).filter _), fun x hx => ⟨hb x (qx.mp hx).1, (qx.mp hx).2⟩⟩)
 exact ⟨h.1, CV h.1 fun x hx => (h.2 x hx).1⟩
theorem xK {ks : List Str} {es ops : List Int} {gs : List cR} (hp : dM es) (ho : ops.Pairwise (· < ·)) (hb : ∀ x ∈ ops, 0 <= x /\ x < es.length) (hA : gs.Pairwise (fun a c => Ap es (eV ks es a) (eV ks es c))) : (gO ks es ops gs).Nodup /\ (gO ks es ops gs).length <= es.length := by
 obtain ⟨h1, h2⟩ := Ak (ks := ks) hp ho hb hA
 unfold gO
 exact ⟨CY ((sortI_perm _).nodup_iff.mpr h1), by rw [anx, g9]; exact h2⟩
theorem rZ {a c : List Int} (h : a.Perm c) : sortI a = sortI c := u9 ((sortI_perm a).trans h) (kK a)
noncomputable def lV (ks : List Str) (es ss mem : List Int) (gs : List cR) : List Int := sortI (gs.flatMap (CW ks es ss mem))
theorem Al {ks : List Str} {es ss mem ops : List Int} {gs : List cR} (hT : dZ (aQ ks) (aq ks) es ss mem) (hA : gs.Pairwise (fun a c => Ap es (eV ks es a) (eV ks es c))) (hg : ∀ w ∈ gs, Goes ks es ops w) :
   (gs.flatMap (CW ks es ss mem)).Nodup /\ (gs.flatMap (CW ks es ss mem)).length <= es.length /\ ∀ x ∈ gs.flatMap (CW ks es ss mem), (0 <= x /\ x < es.length) /\ ∃ w ∈ gs, uN es (eV ks es w) x := by
 have h := uh hT.pre.1 hA (fun w hw => Sh hT (hg w hw))
 exact ⟨h.1, CV h.1 fun x hx => (h.2 x hx).1, h.2⟩
noncomputable def Pr (ks : List Str) (es ss mem ops : List Int) (gs : List cR) : List Int := sortI (ops.filter (fun x => !decide (x ∈ gO ks es ops gs)) ++ lV ks es ss mem gs)
theorem Am {ks : List Str} {es ss mem ch : List Int} {gs : List cR} (hk : xG (aQ ks) (aS ks) (aq ks) es) (hT : dZ (aQ ks) (aq ks) es ss mem) (hn : 0 < es.length) (hl : ch.length = es.length) (hc : uf (aS ks) es ch)
   (hA : gs.Pairwise (fun a c => Ap es (eV ks es a) (eV ks es c))) (hg : ∀ w ∈ gs, Goes ks es (cD (aq ks) es ch (es.length - 1)) w) :
   ∃ zm : List Int, zm.length = es.length /\ uf (aS ks) es zm /\ Pr ks es ss mem (cD (aq ks) es ch (es.length - 1)) gs = cD (aq ks) es zm (es.length - 1) /\ ((cD (aq ks) es ch (es.length - 1)).filter (fun x => !decide (x ∈ gO ks es (cD (aq ks) es ch (es.length - 1)) gs)) ++ lV ks es ss mem gs).length <= es.length := by
 obtain ⟨c2, l2, k2, p2⟩ := Zh hk hT hn hl hc hA hg
 have e1 : (cD (aq ks) es ch (es.length - 1)).filter (fun x => !decide (x ∈ gO ks es (cD (aq ks) es ch (es.length - 1)) gs)) = (cD (aq ks) es ch (es.length - 1)).filter (fun x => !(gs.any fun w => qw es (eV ks es w) x)) := by
   refine List.filter_congr fun x hx => ?_
   congr 1
   rw [aok, decide_eq_true_iff, vp, List.any_eq_true]
   constructor
   . rintro ⟨_, w, hw, hb⟩
     exact ⟨w, hw, Aj.mpr hb⟩
   . rintro ⟨w, hw, hb⟩
     exact ⟨hx, w, hw, Aj.mp hb⟩
 have p3 : ((cD (aq ks) es ch (es.length - 1)).filter (fun x => !decide (x ∈ gO ks es (cD (aq ks) es ch (es.length - 1)) gs)) ++ lV ks es ss mem gs).Perm (cD (aq ks) es c2 (es.length - 1)) := by
   rw [e1]
   exact (amM _ (sortI_perm _)).trans p2.symm
 refine ⟨c2, l2, k2, ?_, ?_⟩
 . unfold Pr
   rw [rZ p3]
   exact RP (ae7 (gS _))
 . rw [p3.length_eq]
   have := oB (isAll := aq ks) (es := es) (ch := c2) (es.length - 1)
   omega
noncomputable def gP (ws : List cR) (i : Int) : Bool := !decide ((cW ws i).tgt = -1)
noncomputable def eX (ws : List cR) (some : List Int) : List cR := (some.filter (gP ws)).map (cW ws)
theorem m5 {α β : Type} {f : α -> List β} (l : List α) (j : Nat) : ((l.take j).flatMap f).length <= (l.flatMap f).length := by
 have h2 := anC j l
 conv => rhs; rw [← h2]
 rw [amW, amj]
 omega
theorem xM {α : Type} {f : α -> List Int} : ∀ l : List α, (l.flatMap fun a => sortI (f a)).Perm (l.flatMap f)
 | [] => .refl _
 | a :: l => by
   rw [ane, ane]
   exact (sortI_perm _).append (xM l)
theorem HV {α : Type} {f : α -> List Int} : ∀ l : List α, (l.flatMap fun a => (f a).reverse).Perm (l.flatMap f)
 | [] => .refl _
 | a :: l => by
   rw [ane, ane]
   exact (List.reverse_perm _).append (HV l)
noncomputable def Zi (n : Nat) (w : cR) : Prop := (0 <= w.src /\ w.src < n) /\ (w.tgt = -1 \/ (0 <= w.tgt /\ w.tgt < n)) /\ mZ w.mode /\ w.jW.length <= 2 /\ D.bZ w.jW = true /\ D.bZ w.asks = true
noncomputable def qy (es : List Int) (m : Int) (w : cR) : Bool := (!decide (w.mode = "new") && decide (w.tgt = m)) || (decide (w.mode = "far") && (decide (w.tgt = -1) || decide (w.tgt ∈ aY es m)))
noncomputable def cH (ks : List Str) (es : List Int) (ws : List cR) (m : Int) : Bool := aS ks m && ws.any (qy es m)
noncomputable def inR (is : List (List L3.D)) (come : List Int) : List L3.D := come.flatMap fun m => L3.D.tup [.str "in", .int m] :: is.getD m.toNat []
noncomputable def qz (is : List (List L3.D)) : Prop := ∀ l ∈ is, l.length <= 2 /\ D.bZ l = true
noncomputable def xN (vq : Int -> Bool) (os : List (List L3.D)) (mem bh gone : List Int) : List L3.D := gone.flatMap fun m => L3.D.tup [.str "out", .int m] :: ((if vq m = true then [L3.D.tup [.str "keep", .int m, .int (mem.getD m.toNat 0), .int (bh.getD m.toNat 0)]] else []) ++ os.getD m.toNat [])
noncomputable def vt (ws : List cR) (some : List Int) : List L3.D := some.flatMap fun i => L3.D.tup [.str "way", .int i] :: (cW ws i).jW
theorem qz.get {is : List (List L3.D)} (h : qz is) (k : Nat) : (is.getD k []).length <= 2 /\ D.bZ (is.getD k []) = true := by
 by_cases hk : k < is.length
 . rw [amd, amq hk]
   exact h _ (anD _)
 . rw [amd, anB (by omega)]
   exact ⟨by simp, rfl⟩
theorem r6 {α β : Type} {f : α -> List β} {c : Nat} : ∀ l : List α, (∀ a ∈ l, (f a).length <= c) -> (l.flatMap f).length <= c * l.length
 | [], _ => by simp
 | a :: l, h => by
   have h1 := h a ame
   have h2 := r6 l (fun b hb => h b (ami _ hb))
   rw [ane, amj, amA, Nat.mul_succ]
   omega
theorem xO {α : Type} {f : α -> List L3.D} {l : List α} (h : ∀ a ∈ l, D.bZ (f a) = true) : D.bZ (l.flatMap f) = true := lX fun d hd => by
 obtain ⟨a, ha, hd⟩ := am2.mp hd
 exact qt (h a ha) d hd
theorem vv {a c : List L3.D} (h1 : D.bZ a = true) (h2 : D.bZ c = true) : D.bZ (a ++ c) = true := lX fun d hd => (amn.mp hd).elim (qt h1 d) (qt h2 d)
theorem vz {vq : Int -> Bool} {os : List (List L3.D)} {mem bh : List Int} (h : qz os) (gone : List Int) : (xN vq os mem bh gone).length <= 4 * gone.length /\ D.bZ (xN vq os mem bh gone) = true := by
 refine ⟨r6 _ fun m _ => ?_, xO fun m _ => ?_⟩
 . have := (h.get m.toNat).1
   have h1 : (if vq m = true then [L3.D.tup [.str "keep", .int m, .int (mem.getD m.toNat 0), .int (bh.getD m.toNat 0)]] else []).length <= 1 := by split <;> simp
   rw [amA, amj]
   omega
 . show (true && _) = true
   rw [aoi]
   refine vv ?_ (h.get m.toNat).2
   split <;> rfl
theorem D9 {is : List (List L3.D)} (h : qz is) (come : List Int) : (inR is come).length <= 3 * come.length /\ D.bZ (inR is come) = true := by
 refine ⟨r6 _ fun m _ => ?_, xO fun m _ => ?_⟩
 . have := (h.get m.toNat).1
   rw [amA]
   omega
 . show (true && _) = true
   rw [aoi]
   exact (h.get m.toNat).2
theorem vA {ws : List cR} {n : Nat} {some : List Int} (h : ∀ i ∈ some, Zi n (cW ws i)) : (vt ws some).length <= 3 * some.length /\ D.bZ (vt ws some) = true := by
 refine ⟨r6 _ fun m hm => ?_, xO fun m hm => ?_⟩
 . have := (h m hm).2.2.2.1
   rw [amA]
   omega
 . show (true && _) = true
   rw [aoi]
   exact (h m hm).2.2.2.2.1
theorem CZ (vq : Int -> Bool) (os : List (List L3.D)) (mem bh gone : List Int) (m : Int) : xN vq os mem bh (gone ++ [m]) = xN vq os mem bh gone ++ (L3.D.tup [.str "out", .int m] :: ((if vq m = true then [L3.D.tup [.str "keep", .int m, .int (mem.getD m.toNat 0), .int (bh.getD m.toNat 0)]] else []) ++ os.getD m.toNat [])) := by
 unfold xN
 rw [amW]
 simp
theorem C1 (ws : List cR) (some : List Int) (i : Int) : vt ws (some ++ [i]) = vt ws some ++ (L3.D.tup [.str "way", .int i] :: (cW ws i).jW) := by
 unfold vt
 rw [amW]
 simp
theorem HW (is : List (List L3.D)) (come : List Int) (m : Int) : inR is (come ++ [m]) = inR is come ++ (L3.D.tup [.str "in", .int m] :: is.getD m.toNat []) := by
 unfold inR
 rw [amW]
 simp
noncomputable def BU (ks : List Str) (es : List Int) (ws : List cR) (mem ops : List Int) (gs : List cR) : List Int := JM (aS ks) es ((gO ks es ops gs).filter (cH ks es ws)) mem ops
noncomputable def xP (ks : List Str) (es ss : List Int) (is os : List (List L3.D)) (ws : List cR) (mem ops some : List Int) : List L3.D :=
 xN (cH ks es ws) os mem (BU ks es ws mem ops (eX ws some)) (gO ks es ops (eX ws some)) ++ vt ws some ++ inR is (lV ks es ss (BU ks es ws mem ops (eX ws some)) (eX ws some))
noncomputable def tN (ks : List Str) (es mem : List Int) : Prop := mem.length = es.length /\ ∀ k : Nat, k < es.length -> aS ks k = true -> mem.getD k 0 = -1 \/ mem.getD k 0 ∈ eU es k
structure iJ (ks : List Str) (es ss : List Int) (is os : List (List L3.D)) (ws : List cR) : Prop where
 n0 : 0 < es.length
 n1 : es.length <= 40
 kl : ks.length = es.length
 sl : ss.length = es.length
 il : is.length = es.length
 ol : os.length = es.length
 kd : xG (aQ ks) (aS ks) (aq ks) es
 pre : jf es
 st : uf (aS ks) es ss
 ir : qz is
 or : qz os
 wo : ∀ w ∈ ws, Zi es.length w
 wl : ws.length <= 8
structure qA (ks : List Str) (es : List Int) (ws : List cR) (ops some : List Int) : Prop where
 i : ∀ i ∈ some, (0 <= i /\ i < ws.length) /\ (cW ws i).src ∈ ops
 l : some.length <= 8
 ap : (eX ws some).Pairwise (fun a c => Ap es (eV ks es a) (eV ks es c))
section
variable {ks : List Str} {es ss : List Int} {is os : List (List L3.D)} {ws : List cR} {ch mem some : List Int}
theorem iJ.tree (h : iJ ks es ss is os ws) (hm : tN ks es mem) : dZ (aQ ks) (aq ks) es ss mem := ⟨h.pre, (fun k hk e => by
   rcases h.kd k hk with ⟨_, _, _, z⟩ | ⟨z, _⟩ | ⟨z, _⟩
   . exact z
   . rw [z] at e; cases e
   . rw [z] at e; cases e), fun k hk e1 e2 => by
   rcases h.kd k hk with ⟨z, _⟩ | ⟨_, z, _⟩ | ⟨_, _, z⟩
   . rw [z] at e1; cases e1
   . exact ⟨h.st k hk z, hm.2 k hk z⟩
   . rw [z] at e2; cases e2⟩
theorem iJ.kinds (h : iJ ks es ss is os ws) : ∀ k : Nat, k < es.length -> aQ ks k = true \/ aq ks k = true \/ ks.getD k Str.empty = "one" := fun k hk => by
 rcases h.kd k hk with ⟨z, _⟩ | ⟨_, z, _⟩ | ⟨_, _, z⟩
 . exact .inl z
 . refine .inr (.inr ?_)
   have := amx z
   rwa [amm] at this
 . exact .inr (.inl z)
theorem HX (hn : 0 < es.length) {x : Int} (hx : x ∈ cD (aq ks) es ch (es.length - 1)) : 0 <= x /\ x < es.length := by
 have := gJ _ hx
 omega
theorem abi {w : cR} (hw : w ∈ eX ws some) : ∃ i ∈ some, w = cW ws i /\ w.tgt ≠ -1 := by
 unfold eX at hw
 obtain ⟨i, hi, rfl⟩ := amJ.mp hw
 obtain ⟨h1, h2⟩ := amK.mp hi
 refine ⟨i, h1, rfl, ?_⟩
 unfold gP at h2
 simpa using h2
theorem qA.goes (h : iJ ks es ss is os ws) (hs : qA ks es ws (cD (aq ks) es ch (es.length - 1)) some) : ∀ w ∈ eX ws some, Goes ks es (cD (aq ks) es ch (es.length - 1)) w := fun w hw => by
 obtain ⟨i, hi, rfl, ht⟩ := abi hw
 obtain ⟨⟨i0, i1⟩, Si⟩ := hs.i i hi
 have win := h.wo _ (mh i0 i1)
 have WH := win.2.1.resolve_left ht
 refine ⟨WH, ?_⟩
 have e : ((cW ws i).tgt.toNat : Int) = (cW ws i).tgt := by omega
 rcases DX (bB := aS ks) (b := (cW ws i).tgt) h.pre.1 win.1.1 win.1.2 with z | z
 . exact .inl z.1
 . refine .inr ⟨by rw [e]; exact z.2.1, z.2.2.1, ?_⟩
   have hb := HX h.n0 Si
   exact Sg h.pre.1 ((cW ws i).src.toNat + 1) (by omega) Si z.1
theorem qA.win (h : iJ ks es ss is os ws) {ops : List Int} (hs : qA ks es ws ops some) : ∀ i ∈ some, Zi es.length (cW ws i) := fun i hi => h.wo _ (mh (hs.i i hi).1.1 (hs.i i hi).1.2)
theorem Zj (h : iJ ks es ss is os ws) (hc : uf (aS ks) es ch) (xF : ch.length = es.length) (hm : mem.length = es.length) (gs : List cR) : BU ks es ws mem (cD (aq ks) es ch (es.length - 1)) gs = ud (aS ks) ch mem ((gO ks es (cD (aq ks) es ch (es.length - 1)) gs).filter (cH ks es ws)) := by
 unfold BU
 refine Pn h.pre.1 rfl h.n0 hm xF (fun k hk e => hc k hk ?_) (fun x hx => (vp.mp (amK.mp hx).1).1)
 unfold aS
 rw [amm]
 exact am8 e
theorem C2 (h : iJ ks es ss is os ws) (hc : uf (aS ks) es ch) (xF : ch.length = es.length) (hm : tN ks es mem) (gs : List cR) : tN ks es (BU ks es ws mem (cD (aq ks) es ch (es.length - 1)) gs) := by
 rw [Zj h hc xF hm.1]
 refine ⟨by rw [vg]; exact hm.1, fun k hk ho => ?_⟩
 rw [zj _ _ (fun e he => ?_) k (by rw [hm.1]; exact hk)]
 . split
   . exact .inr (hc k hk ho)
   . exact hm.2 k hk ho
 . rw [hm.1]
   exact HX h.n0 (vp.mp (amK.mp he).1).1
end
theorem vC {α : Type} {p : α -> Bool} {l : List α} {j : Nat} {x : α} (h : l[j]? = some x) (hx : p x = true) : l.any p = true := List.any_eq_true.mpr ⟨x, anv h, hx⟩
theorem any_none {α : Type} {p : α -> Bool} {l : List α} (h : ∀ (j : Nat) (x : α), l[j]? = some x -> p x = false) : l.any p = false := by
 rw [List.any_eq_false]
 intro x hx
 obtain ⟨j, hj, e⟩ := List.getElem_of_mem hx
 rw [h j x (by rw [amq hj, e])]
 decide
noncomputable def aA (s : List Int) (k : Int) : Int := if s.length = 0 then k else s.getD (k % (s.length : Nat)).toNat 0 % 10 ^ (36 : Int).toNat / (1 + k / (s.length : Nat)) + k / (s.length : Nat) * k
theorem nP (s : List Int) {k : Int} (h : 0 <= k) : 0 <= aA s k := by
 unfold aA
 by_cases e : s.length = 0
 . rw [amo e]; exact h
 . rw [amk e]
   have t0 : 0 <= k / (s.length : Nat) := Int.ediv_nonneg h (by omega)
   have m0 := amB (s.getD (k % (s.length : Nat)).toNat 0) (b := 10 ^ (36 : Int).toNat) (by decide)
   have := Int.ediv_nonneg m0 (b := 1 + k / (s.length : Nat)) (by omega)
   have := Int.mul_nonneg t0 h
   omega
noncomputable abbrev Ea : Stmt := top 32
noncomputable abbrev Kx : Type := List Int × Int
noncomputable def fG : Kx -> List L3.D := fun (s, k) => [.lst (s.map .int), .int k]
noncomputable def bu : Kx -> Prop := fun (s, k) => 0 <= k /\ k <= 100000 /\ s.length <= 1000
noncomputable def eY : Kx -> T := fun (s, k) => (.sh (.int (aA s k)) : T)
structure abj (X : Cx) (CL : Str -> Addr) : Prop extends cA X where
 aF : Ln X 0 "script"
 iW : Ln X 1 "k"
 Ky : Ln X 2 "turn"
 dm : Gl X "len"
 dw : X.mg "len" = none
theorem abk {X : Cx} {CL : Str -> Addr} {b : Bx} (E : abj X CL) (s k) (h : bu (s, k)) :
   aC X CL b Ea ["script", "k", "turn"] (fG (s, k)) (eY (s, k)) := by
 dsimp only [aC, bu, fG, eY] at h ⊢
 obtain ⟨k0, k1, hl⟩ := h
 refine d9 (dD (ah (dW (amc ..) E.dw (aB E.aF) E.dm)) (ah aj)).1 (fun hp => ?_) (fun hp => ao ?_)
 . have e : s.length = 0 := by
     have := amx hp
     omega
   refine bD (v_ E.iW.1) ?_
   show T.sh _ = T.sh (.int (aA s k))
   unfold aA
   rw [amo e]
 . have e : ¬ s.length = 0 := by
     have := amU hp
     omega
   have t0 : 0 <= k / (s.length : Nat) := Int.ediv_nonneg k0 (by omega)
   have t1 : k / (s.length : Nat) <= k := Int.ediv_le_self _ k0
   have b1 := amB k (b := (s.length : Nat)) (by omega)
   have b2 := amt k (b := (s.length : Nat)) (by omega)
   refine aI E.g E.Ky (dg (aB E.iW) (ah (dW (amc ..) E.dw (aB E.aF) E.dm)) (⟨by omega, by omega⟩)) ?_
   refine bD (dQ (ah (dg (ah (bN (aO (aB E.aF) (ah (bN (aB E.iW) (ah (dW (amc ..) E.dw (aB E.aF) E.dm)) (by omega))) (ck b1 b2)) (ah (J8 (ah aj) (ah aj) ⟨by decide, by decide, by decide⟩)) (by decide))) (ah (dQ (ah aj) (aB E.Ky))) (⟨by omega, by omega⟩))) (ah (zS (aB E.Ky) (aB E.iW) (.inr ⟨by omega, by omega⟩)))) ?_
   show T.sh _ = T.sh (.int (aA s k))
   unfold aA
   rw [amk e]
theorem zo : jU (av Ea) ([("script", ak), ("k", ak), ("turn", ak), ("len", az)]) = true := by decide +kernel
theorem NK : aP ["script", "k", "turn"] ["script", "k"] (av Ea) := aX
noncomputable def kL (s : List Int) : Int := aA s 0 / 9 % 3
theorem abl (s : List Int) : 0 <= kL s /\ kL s < 3 := ⟨amB _ (by decide), amt _ (by decide)⟩
noncomputable def Pu : List Int := [-1]
noncomputable def Pw : List Int := [-1, 0, 1, 1, 0, 4, 4, 0, 7]
noncomputable def Px : List Int := [-1, 0, 1, 2, 2, 1, 5, 5, 0]
noncomputable def oF (s : List Int) : List Int := if kL s = 0 then Pu else if kL s = 1 then Pw else Px
noncomputable def Zk (s es : List Int) (j : Nat) : Int := aA s ((j : Int) + 1) % (((aY es j).length : Int) + 1)
theorem Sj (s es : List Int) (j : Nat) : 0 <= Zk s es j /\ Zk s es j <= ((aY es j).length : Int) := by
 have a := amB (aA s ((j : Int) + 1)) (b := ((aY es j).length : Int) + 1) (by omega)
 have b := amt (aA s ((j : Int) + 1)) (b := ((aY es j).length : Int) + 1) (by omega)
 unfold Zk
 omega
noncomputable def Kz (s es : List Int) (j : Nat) : Int := wX es j (Zk s es j).toNat
noncomputable def QC (s es : List Int) (j : Nat) : Int := if 11 < ((aY es (Kz s es j)).length : Int) then es.getD (Kz s es j).toNat 0 else Kz s es j
theorem Sl {s es : List Int} (h : jf es) {j : Nat} (hj : j + 1 = es.length) : (Kz s es j = j \/ Kz s es j ∈ aY es j) /\ (QC s es j = j \/ QC s es j ∈ aY es j) := by
 have hu := Sj s es j
 have h1 : Kz s es j = j \/ Kz s es j ∈ aY es j := DZ (by omega)
 refine ⟨h1, ?_⟩
 unfold QC
 split
 . rename_i hd
   have hb : 0 <= Kz s es j /\ Kz s es j < es.length := by
     rcases h1 with z | z
     . omega
     . have := aZ h.1 (m := (j : Int)) (by omega) (by omega) z
       omega
   have qd : es.getD (Kz s es j).toNat 0 ≠ -1 := fun e => by
     have := c6 h.1 hb.1 hb.2
     rw [amo e] at this
     rw [this] at hd
     simp at hd
   have he := CP h.1 hb.1 hb.2 qd
   rcases h1 with z | z
   . rw [z] at he
     rw [z]
     exact .inr he
   . exact .inr (iV h.1 (by omega) (by omega) z he)
 . exact h1
noncomputable def m7 (s jY : List Int) : Nat -> List Int
 | 0 => jY
 | i + 1 => m7 s jY i ++ [QC s (m7 s jY i) ((m7 s jY i).length - 1)]
theorem Eb (s : List Int) {jY : List Int} (h0 : 0 < jY.length) (hp : jf jY) : ∀ i, (m7 s jY i).length = jY.length + i /\ jf (m7 s jY i)
 | 0 => ⟨rfl, hp⟩
 | i + 1 => by
   obtain ⟨h1, h2⟩ := Eb s h0 hp i
   refine ⟨by show (m7 s jY i ++ _).length = _; rw [amj, h1]; rfl, ?_⟩
   exact h2.snoc (k := (m7 s jY i).length - 1) (by omega) (Sl h2 (by omega)).2
noncomputable def ae8 (es : List Int) : Bool := (List.range es.length).all (fun k => decide (-1 <= es.getD k 0) && decide (es.getD k 0 < (k : Int))) && (List.range (es.length - 1)).all (fun k => decide (es.getD (k + 1) 0 = (k : Int)) || decide (es.getD (k + 1) 0 ∈ aY es k))
theorem WK {es : List Int} (h : ae8 es = true) : jf es := by
 unfold ae8 at h
 rw [amD, anw, anw] at h
 refine ⟨fun k hk => ?_, fun k hk => ?_⟩
 . have := h.1 k (anP.mpr hk)
   simpa using this
 . have := h.2 k (anP.mpr (by omega))
   simpa using this
theorem Sn (s : List Int) {n : Nat} (h : 1 <= n) : 0 < ((oF s).take n).length /\ ((oF s).take n).length <= n /\ ((oF s).take n).length <= 9 /\ jf ((oF s).take n) := by
 have hm : (oF s).take n = (oF s).take (min n 9) := by
   have hl : (oF s).length <= 9 := by
     unfold oF
     split
     . decide
     . split <;> decide
   rw [← List.take_take, List.take_of_length_le (l := oF s) (i := 9) hl]
 have hl2 : ((oF s).take n).length <= n := by simp; omega
 rw [hm] at hl2 ⊢
 have : min n 9 = 1 \/ min n 9 = 2 \/ min n 9 = 3 \/ min n 9 = 4 \/ min n 9 = 5 \/ min n 9 = 6 \/ min n 9 = 7 \/ min n 9 = 8 \/ min n 9 = 9 := by omega
 have key : ∀ f ∈ [Pu, Pw, Px], ∀ m : Nat, (m = 1 \/ m = 2 \/ m = 3 \/ m = 4 \/ m = 5 \/ m = 6 \/ m = 7 \/ m = 8 \/ m = 9) -> 0 < (f.take m).length /\ (f.take m).length <= 9 /\ jf (f.take m) := by
   intro f hf m hm
   simp only [amf, amL, an6] at hf
   rcases hf with rfl | rfl | rfl <;> rcases hm with rfl | rfl | rfl | rfl | rfl | rfl | rfl | rfl | rfl <;> exact ⟨by decide +kernel, by decide +kernel, WK (by decide +kernel)⟩
 have hf : oF s ∈ [Pu, Pw, Px] := by
   unfold oF
   split
   . simp
   . split <;> simp
 obtain ⟨a, b, c⟩ := key _ hf _ this
 exact ⟨a, hl2, b, c⟩
noncomputable def oG (s : List Int) (n : Nat) : List Int := m7 s ((oF s).take n) (n - ((oF s).take n).length)
theorem NP (s : List Int) {n : Nat} (h1 : 1 <= n) (h9 : n <= 30) : (oG s n).length = n /\ jf (oG s n) := by
 obtain ⟨a, b, c, d⟩ := Sn s h1
 obtain ⟨x, y⟩ := Eb s a d (n - ((oF s).take n).length)
 exact ⟨by unfold oG; rw [x]; omega, y⟩
theorem Py {α : Type} {l : List α} {k : Nat} : cutD l none (some (k : Int)) = l.take k := by
 unfold cutD
 have e1 : HT.xg l.length 0 none = 0 := rfl
 have e2 : HT.xg l.length l.length (some (k : Int)) = min k l.length := by
   unfold HT.xg
   simp
   try omega
 rw [e1, e2]
 simp
 try rw [List.QD]
theorem WL {α : Type} {x : α} {l : List α} : cutD (x :: l) (some 1) none = l := by
 unfold cutD
 have e1 : HT.xg (x :: l).length (x :: l).length none = (x :: l).length := rfl
 have e2 : HT.xg (x :: l).length 0 (some 1) = 1 := by
   unfold HT.xg
   simp
 rw [e1, e2]
 simp
theorem WM {es : List Int} (h : jf es) {j : Nat} (hj : j + 1 < es.length) : (0 <= es.getD (j + 1) 0 /\ es.getD (j + 1) 0 <= j) /\ ((aY es ((j + 1 : Nat) : Int)).length : Int) = ((aY es (es.getD (j + 1) 0)).length : Int) + 1 := by
 have hb : 0 <= es.getD (j + 1) 0 /\ es.getD (j + 1) 0 <= j := by
   rcases h.2 j hj with z | z
   . omega
   . have := aZ h.1 (m := (j : Int)) (by omega) (by omega) z
     omega
 refine ⟨hb, ?_⟩
 have e := c6 h.1 (m := ((j + 1 : Nat) : Int)) (by omega) (by omega)
 rw [amm] at e
 rw [e, amk (by omega), amA]
 omega
noncomputable abbrev vD : Stmt := top 34
noncomputable abbrev An : Type := List Int × Nat
noncomputable def oH : An -> List L3.D := fun (s, n) => [.lst (s.map .int), .int n]
noncomputable def lF : An -> Prop := fun (s, n) => 1 <= n /\ n <= 30 /\ s.length <= 1000
noncomputable def oJ : An -> T := fun (s, n) => (.lst (((oG s n).map .int).map T.sh) : T)
structure Sq (X : Cx) (CL : Str -> Addr) : Prop extends cA X where
 aF : Ln X 0 "script"
 gG : Ln X 1 "many"
 r9 : Ln X 2 "style"
 aR : Ln X 3 "elders"
 lG : Ln X 4 "depths"
 bR : Ln X 5 "elder"
 iW : Ln X 6 "k"
 eu : Ln X 7 "at"
 Ao : Ln X 8 "step"
 aL : Gl X "_law_cell"
 bS : Gl X "range"
 dm : Gl X "len"
 cO : Fc X CL "_law_cell" 1 2 fG bu eY
 bT : X.mg "range" = none
 dw : X.mg "len" = none
theorem Ss {X : Cx} {CL : Str -> Addr} {b : Bx} (E : Sq X CL) (s n) (h : lF (s, n)) :
   aC X CL b vD ["script", "many", "style", "elders", "depths", "elder", "k", "at", "step"] (oH (s, n)) (oJ (s, n)) := by
 dsimp only [aC, lF, oH, oJ] at h ⊢
 obtain ⟨n1, n2, hs⟩ := h
 refine aI E.g E.r9 (aK (bN (ah (dg (ah (c_ ((s, 0)) E.cO E.aL (ai (aB E.aF) (ai (ah aj) aD)) (by dsimp only [bu]; exact (⟨by omega, by omega, hs⟩)) rfl)) (ah aj) ⟨by decide, by decide⟩)) (ah aj) (by decide)) (t2 := .sh (.int (kL s))) rfl) ?_
 obtain ⟨y0, y1⟩ := abl s
 have hat : zP [L3.D.lst (Pu.map .int), L3.D.lst (Pw.map .int), .lst (Px.map .int)] (kL s) = some (.lst ((oF s).map .int)) := by
   unfold oF
   have : kL s = 0 \/ kL s = 1 \/ kL s = 2 := by omega
   rcases this with e | e | e
   . rw [amo e, e]; rfl
   . rw [amk (by omega), amo e, e]; rfl
   . rw [amk (by omega), amk (by omega), e]; rfl
 have hfr : T.fS (.lst [.lst ((Pu.map L3.D.int).map T.sh), .lst ((Pw.map L3.D.int).map T.sh), .lst ((Px.map L3.D.int).map T.sh)]) = .lst [L3.D.lst (Pu.map .int), L3.D.lst (Pw.map .int), .lst (Px.map .int)] := by
   rw [T.fS, T.fL, T.fL, T.fL, T.fL, cS, cS, cS]
 refine aI E.g E.aR (aK (uX (aO (CG (Rk (dN (bY (dN (zb rfl) (aN rfl)) (bY (dN (zb rfl) (aN rfl)) (bY (dN (zb rfl) (aN rfl)) cZ))) (aN rfl))) hfr) (aB E.r9) hat) (b9 _) yZ (y9 (aB E.gG))) (t2 := .lst ((((oF s).take n).map .int).map T.sh)) (by rw [Py]; simp [aox])) ?_
 obtain ⟨f0, f1, f2, fp⟩ := Sn s n1
 show iI X CL b _ _ { nx := _, rt := fun v__ _ => v__ = T.lst (((oG s n).map .int).map T.sh), bk := _, ct := _ }
 unfold oG
 generalize (oF s).take n = jY at f0 f1 f2 fp ⊢
 refine aI E.g E.lG (gI (aG aj di) (aN rfl)) ?_
 obtain ⟨e1, r1, abm⟩ : ∃ x r, jY = x :: r := by
   cases jY with
   | nil => simp at f0
   | cons x r => exact ⟨x, r, rfl⟩
 have aia : cutD (jY.map L3.D.int) (some 1) none = r1.map L3.D.int := by rw [abm, am6, WL]
 have hr1 : r1.length + 1 = jY.length := by rw [abm]; rfl
 refine d7 E.g E.bR (fun j δ => ∃ o5, δ = [some (.sh (.lst (s.map .int))), some (.sh (.int n)), some (.sh (.int (kL s))), some (.lst ((jY.map .int).map T.sh)), some (.lst (((zf jY (j + 1)).map .int).map T.sh)), o5, none, none, none])
   (dR (gf (aK (uX (vL E.aR.1) (b9 _) (y9 (ah aj)) yZ) (by rw [aia])))) ⟨none, ?i0⟩ (fun j δ ⟨_, e⟩ => by subst e; exact amg rfl) ?ae9 ?aib
 case i0 =>
   have : zf jY 1 = [0] := by
     show [((aY jY ((0 : Nat) : Int)).length : Int)] = [0]
     have e := c6 fp.1 (m := ((0 : Nat) : Int)) (by omega) (by omega)
     have hz := fp.1 0 f0
     rw [e, amo (by rw [amm]; omega)]
     rfl
   rw [this]
   rfl
 case ae9 =>
   rintro j d δ hj ⟨o5, rfl⟩
   obtain ⟨x, rfl, hx, _, nG, _, _⟩ := gi hj
   have aic : j + 1 < jY.length := by omega
   obtain ⟨hb, hd⟩ := WM fp aic
   have hgx : jY.getD (j + 1) 0 = x := by
     rw [abm, amd, anO, hx]
     rfl
   rw [hgx] at hb hd
   have hdl : (zf jY (j + 1)).length = j + 1 := by simp [zf]
   have dx : (zf jY (j + 1)).getD x.toNat 0 = ((aY jY x).length : Int) := by
     have := Kq jY (n := j + 1) (i := x.toNat) (by omega)
     rw [this, show ((x.toNat : Nat) : Int) = x by omega]
   refine fD E.lG.1 rfl (aK (dQ (aO (vL E.lG.1) (aB E.bR) (ck (by omega) (by omega))) (ah aj)) (congrArg (fun z => T.sh (.int (z + 1))) dx)) rfl (by simp; omega) (ao ?_)
   have e2 : (((zf jY (j + 1)).map L3.D.int).map T.sh) ++ [T.sh (.int (((aY jY x).length : Int) + 1))] = ((zf jY (j + 1 + 1)).map L3.D.int).map T.sh := by
     rw [← hd]
     unfold zf
     rw [ans (n := j + 1)]
     simp
   rw [e2]
   exact ⟨_, rfl⟩
 case aib =>
 rintro δ ⟨o5, rfl⟩
 rw [amc, hr1]
 have ajr : ((jY.length : Nat) : Int) <= n := by omega
 refine d7 E.g E.iW (fun i δ => ∃ o6 o7 o8, δ = [some (.sh (.lst (s.map .int))), some (.sh (.int n)), some (.sh (.int (kL s))), some (.lst (((m7 s jY i).map .int).map T.sh)), some (.lst (((zf (m7 s jY i) (jY.length + i)).map .int).map T.sh)), o5, o6, o7, o8])
   (CB E.bT (ah (dW (amc ..) E.dw (vL E.aR.1) E.dm)) (aB E.gG) (by omega) E.bS) ⟨_, _, _, rfl⟩ (fun j δ ⟨_, _, _, e⟩ => by subst e; exact amg rfl) ?turn ?fin
 case turn =>
   rintro i d δ hj ⟨o6, o7, o8, rfl⟩
   obtain ⟨rfl, nG⟩ := fW hj
   obtain ⟨hl, hp⟩ := Eb s f0 fp i
   obtain ⟨j, hj1⟩ : ∃ j : Nat, jY.length + i = j + 1 := ⟨jY.length + i - 1, by omega⟩
   have est : m7 s jY (i + 1) = m7 s jY i ++ [QC s (m7 s jY i) j] := by
     show m7 s jY i ++ [QC s (m7 s jY i) ((m7 s jY i).length - 1)] = _
     rw [show (m7 s jY i).length - 1 = j by omega]
   have tM := Sl (s := s) hp (j := j) (by omega)
   have hu := Sj s (m7 s jY i) j
   show iI X CL b _ _ { nx := fun δ => ∃ o6 o7 o8, δ = [_, _, _, some (.lst (((m7 s jY (i + 1)).map .int).map T.sh)), some (.lst (((zf (m7 s jY (i + 1)) (jY.length + (i + 1))).map .int).map T.sh)), o5, o6, o7, o8], rt := _, bk := _, ct := _ }
   rw [est, show jY.length + (i + 1) = j + 1 + 1 by omega, hj1]
   rw [show ((jY.length : Nat) : Int) + (i : Int) = (j : Int) + 1 by omega]
   generalize hes : m7 s jY i = es at hl hp hu tM ⊢
   have ht := hp.1
   have hdl : (zf es (j + 1)).length = j + 1 := by simp [zf]
   have xF : ((aY es (j : Int)).length : Nat) <= es.length + 1 := ve _ _ _
   have dj : (zf es (j + 1)).getD (j : Int).toNat 0 = ((aY es (j : Int)).length : Int) := by
     rw [amm]
     exact Kq es (by omega)
   refine aI E.g E.eu (aK (qm (aB E.iW) (ah aj)) (congrArg (fun z => T.sh (.int z)) (show ((j : Int) + 1) - 1 = j by omega))) ?_
   have hgu : aA s ((j : Int) + 1) % ((zf es (j + 1)).getD (j : Int).toNat 0 + 1) = Zk s es j := by rw [dj]; rfl
   refine d7 E.g E.Ao (fun i δ => ∃ o8, δ = [some (.sh (.lst (s.map .int))), some (.sh (.int n)), some (.sh (.int (kL s))), some (.lst ((es.map .int).map T.sh)), some (.lst (((zf es (j + 1)).map .int).map T.sh)), o5, some (.sh (.int ((j : Int) + 1))), some (.sh (.int (wX es j i))), o8])
     (dO E.bT (CG (ah (bN (ah (c_ ((s, (j : Int) + 1)) E.cO E.aL (ai (aB E.aF) (ai (aB E.iW) aD)) (by dsimp only [bu]; exact (⟨by omega, by omega, hs⟩)) rfl)) (ah (dQ (aO (vL E.lG.1) (aB E.eu) (ck (by omega) (by omega))) (ah aj))) ((by rw [dj]; omega)))) (congrArg L3.D.int hgu)) (by omega) E.bS) ⟨_, rfl⟩ (fun j δ ⟨_, e⟩ => by subst e; exact Nat.le_of_ble_eq_true rfl) ?HY ?fin2
   case HY =>
     rintro i d δ hi ⟨o8, rfl⟩
     obtain ⟨rfl, hil⟩ := fW hi
     obtain ⟨⟨x0, x1⟩, x2⟩ := vf ht (j + 1) (m := (j : Int)) (n := i) (by omega) (by omega) (by omega) (by omega)
     refine aI E.g E.eu (aK (cY (aO (vL E.aR.1) (aB E.eu) (ck (by omega) (by omega))) rfl) (congrArg (fun z => T.sh (.int z)) x2)) (ao ⟨_, rfl⟩)
   case fin2 =>
     rintro δ ⟨o8, rfl⟩
     have e0 : (bO 0 (Zk s es j).toNat).length = (Zk s es j).toNat := by simp [bO]
     rw [e0, show wX es j (Zk s es j).toNat = Kz s es j from rfl]
     have hbd : ∀ y : Int, (y = j \/ y ∈ aY es j) -> 0 <= y /\ y < es.length := fun y hy => by
       rcases hy with z | z
       . omega
       . have := aZ ht (m := (j : Int)) (by omega) (by omega) z
         omega
     have hb1 := hbd _ tM.1
     have hb := hbd _ tM.2
     have dx : ∀ y : Int, 0 <= y -> y < es.length -> (zf es (j + 1)).getD y.toNat 0 = ((aY es y).length : Int) := fun y a c => by
       have := Kq es (n := j + 1) (i := y.toNat) (by omega)
       rw [this, show ((y.toNat : Nat) : Int) = y by omega]
     refine qq (fun δ => δ = [some (.sh (.lst (s.map .int))), some (.sh (.int n)), some (.sh (.int (kL s))), some (.lst ((es.map .int).map T.sh)), some (.lst (((zf es (j + 1)).map .int).map T.sh)), o5, some (.sh (.int ((j : Int) + 1))), some (.sh (.int (QC s es j))), o8]) (Hs (aO (vL E.lG.1) (aB E.eu) (ck (by omega) (by omega))) (ah aj)).1 (fun hp => ?_) (fun hp => ?_) ?_
     . have hp : 11 < ((aY es (Kz s es j)).length : Int) := by rw [← dx _ hb1.1 hb1.2]; exact amx hp
       rw [show QC s es j = es.getD (Kz s es j).toNat 0 by unfold QC; rw [amo hp]]
       exact aI E.g E.eu (cY (aO (vL E.aR.1) (aB E.eu) (ck (by omega) (by omega))) rfl) (ao rfl)
     . have hp : ¬ 11 < ((aY es (Kz s es j)).length : Int) := by rw [← dx _ hb1.1 hb1.2]; exact amU hp
       rw [show QC s es j = Kz s es j by unfold QC; rw [amk hp]]
       exact ao rfl
     rintro δ rfl
     generalize QC s es j = x at hb ⊢
     refine fD E.aR.1 rfl (v_ E.eu.1) rfl (by simp; omega) ?_
     refine fD E.lG.1 rfl (aK (dQ (aO (vL E.lG.1) (aB E.eu) (ck (by omega) (by omega))) (ah aj)) (congrArg (fun z => T.sh (.int (z + 1))) (dx x hb.1 hb.2))) rfl (by simp; omega) (ao ?_)
     have e1 : ((es.map L3.D.int).map T.sh) ++ [T.sh (.int x)] = ((es ++ [x]).map L3.D.int).map T.sh := by simp
     have e2 : (((zf es (j + 1)).map L3.D.int).map T.sh) ++ [T.sh (.int (((aY es x).length : Int) + 1))] = ((zf (es ++ [x]) (j + 1 + 1)).map L3.D.int).map T.sh := by
       rw [show j + 1 = es.length by omega, R3 ht hb.1 hb.2]
       simp
     rw [e1, e2]
     exact ⟨_, _, _, rfl⟩
 case fin =>
   rintro δ ⟨o6, o7, o8, rfl⟩
   refine bD (vM E.aR.1) ?_
   have e : (bO ((jY.length : Nat) : Int) ((n : Int) - ((jY.length : Nat) : Int)).toNat).length = n - jY.length := by simp [bO] <;> omega
   rw [e]
theorem fk : jU (av vD) ([("script", ak), ("many", ak), ("style", ak), ("elders", ak), ("depths", ak), ("elder", ak), ("k", ak), ("at", ak), ("step", ak), ("_law_cell", az), ("range", az), ("len", az)]) = true := by decide +kernel
theorem C3 : aP ["script", "many", "style", "elders", "depths", "elder", "k", "at", "step"] ["script", "many"] (av vD) := aX
noncomputable def WN (s : List Int) (k : Nat) : Str := if 0 < kL s then (["one", "all"] : List Str).getD (if (k : Int) = kL s - 1 then 1 else 0) Str.empty else (["all", "one", "one"] : List Str).getD ((aA s k / 13 + k) % 3).toNat Str.empty
noncomputable def kE (s es : List Int) (k : Nat) : Str := if (k : Int) ∈ es then WN s k else "leaf"
noncomputable def wZ (s es : List Int) (n : Nat) : List Str := (List.range n).map (kE s es)
theorem Ec (s es : List Int) (n : Nat) : (wZ s es n).length = n := by simp [wZ]
theorem Sv (s es : List Int) {n k : Nat} (h : k < n) : (wZ s es n).getD k Str.empty = kE s es k := by
 unfold wZ
 rw [amd, amT, anp h]
 rfl
theorem abn (s : List Int) (k : Nat) : WN s k = "all" \/ WN s k = "one" := by
 unfold WN
 split
 . split
   . exact .inl rfl
   . exact .inr rfl
 . have a := amB (aA s k / 13 + k) (b := 3) (by decide)
   have b := amt (aA s k / 13 + k) (b := 3) (by decide)
   have : ((aA s k / 13 + k) % 3).toNat = 0 \/ ((aA s k / 13 + k) % 3).toNat = 1 \/ ((aA s k / 13 + k) % 3).toNat = 2 := by omega
   rcases this with e | e | e
   . rw [e]; exact .inl rfl
   . rw [e]; exact .inr rfl
   . rw [e]; exact .inr rfl
theorem Zm (s es : List Int) (k : Nat) : ((k : Int) ∈ es /\ (kE s es k = "all" \/ kE s es k = "one")) \/ ((k : Int) ∉ es /\ kE s es k = "leaf") := by
 unfold kE
 split
 . rename_i h
   exact .inl ⟨h, abn s k⟩
 . rename_i h
   exact .inr ⟨h, rfl⟩
theorem NQ (s es : List Int) : R4 (wZ s es es.length) es := fun k hk e => by
 rw [Sv s es hk] at e
 rcases Zm s es k with ⟨h, _⟩ | ⟨_, e2⟩
 . exact abe h
 . rw [e2] at e
   exact absurd e (by decide +kernel)
theorem Sw (s es : List Int) : ∀ k : Nat, k < es.length -> (aQ (wZ s es es.length) k = true /\ aS (wZ s es es.length) k = false /\ aq (wZ s es es.length) k = false /\ eU es k = []) \/ (aQ (wZ s es es.length) k = false /\ aS (wZ s es es.length) k = true /\ aq (wZ s es es.length) k = false) \/ (aQ (wZ s es es.length) k = false /\ aS (wZ s es es.length) k = false /\ aq (wZ s es es.length) k = true) := fun k hk => by
 unfold aQ aS aq
 rw [amm, Sv s es hk]
 rcases Zm s es k with ⟨_, e | e⟩ | ⟨hni, e⟩
 . rw [e]; exact .inr (.inr ⟨by decide +kernel, by decide +kernel, by decide +kernel⟩)
 . rw [e]; exact .inr (.inl ⟨by decide +kernel, by decide +kernel, by decide +kernel⟩)
 . rw [e]
   refine .inl ⟨by decide +kernel, by decide +kernel, by decide +kernel, ?_⟩
   refine an3.mpr fun x hx => hni ?_
   have hb := jI hx
   rw [← hb.2.2, amd, amq (by omega)]
   exact anD _
noncomputable abbrev zq : Stmt := top 35
noncomputable abbrev Ed : Type := List Int × List Int
noncomputable def sd : Ed -> List L3.D := fun (s, es) => [.lst (s.map .int), .lst (es.map .int)]
noncomputable def nQ : Ed -> Prop := fun (s, es) => es.length <= 900 /\ s.length <= 1000
noncomputable def se : Ed -> T := fun (s, es) => (.lst (((wZ s es es.length).map .str).map T.sh) : T)
structure WO (X : Cx) (CL : Str -> Addr) : Prop extends cA X where
 aF : Ln X 0 "script"
 aR : Ln X 1 "elders"
 r9 : Ln X 2 "style"
 eL : Ln X 3 "kinds"
 iW : Ln X 4 "k"
 qB : Ln X 5 "kind"
 aL : Gl X "_law_cell"
 bS : Gl X "range"
 dm : Gl X "len"
 C4 : Gl X "int"
 cO : Fc X CL "_law_cell" 1 2 fG bu eY
 bT : X.mg "range" = none
 dw : X.mg "len" = none
 C5 : X.mg "int" = none
theorem WQ {X : Cx} {CL : Str -> Addr} {b : Bx} (E : WO X CL) (s es) (h : nQ (s, es)) :
   aC X CL b zq ["script", "elders", "style", "kinds", "k", "kind"] (sd (s, es)) (se (s, es)) := by
 dsimp only [aC, nQ, sd, se] at h ⊢
 obtain ⟨hl, hs⟩ := h
 refine aI E.g E.r9 (aK (bN (ah (dg (ah (c_ ((s, 0)) E.cO E.aL (ai (aB E.aF) (ai (ah aj) aD)) (by dsimp only [bu]; exact (⟨by omega, by omega, hs⟩)) rfl)) (ah aj) ⟨by decide, by decide⟩)) (ah aj) (by decide)) (t2 := .sh (.int (kL s))) rfl) ?_
 refine aI E.g E.eL (dN cZ (amO _)) ?_
 refine d7 E.g E.iW (fun j δ => ∃ o4 o5, δ = [some (.sh (.lst (s.map .int))), some (.sh (.lst (es.map .int))), some (.sh (.int (kL s))), some (.lst (((wZ s es j).map .str).map T.sh)), o4, o5])
   (dO E.bT (ah (dW (amc ..) E.dw (aB E.aR) E.dm)) (by omega) E.bS) ⟨_, _, rfl⟩ (fun j δ ⟨_, _, e⟩ => by subst e; exact amg rfl) ?turn ?fin
 case turn =>
   rintro j d δ hj ⟨o4, o5, rfl⟩
   obtain ⟨rfl, nG⟩ := fW hj
   rw [ani]
   have zl := Ec s es j
   have eK : ∀ x : Str, x = kE s es j -> ((wZ s es j).map L3.D.str).map T.sh ++ [T.sh (.str x)] = ((wZ s es (j + 1)).map L3.D.str).map T.sh := fun x e => by
     subst e
     simp [wZ, ans]
   refine aI E.g E.qB (cY (aO (cQ (gI (aG bC (aG bC (aG bC di))) (aN rfl))) (ah (bN (ah (dQ (ah (dg (ah (c_ ((s, (j : Int))) E.cO E.aL (ai (aB E.aF) (ai (aB E.iW) aD)) (by dsimp only [bu]; exact (⟨by omega, by omega, by omega⟩)) rfl)) (ah aj) ⟨by decide, by decide⟩)) (aB E.iW))) (ah aj) (by decide))) (c5 (f := L3.D.str) (l := ["all", "one", "one"]) Str.empty (Int.emod_nonneg _ (by decide)) (Int.emod_lt_of_pos _ (by decide)))) rfl) ?_
   refine qq (fun δ => δ = [some (.sh (.lst (s.map .int))), some (.sh (.lst (es.map .int))), some (.sh (.int (kL s))), some (.lst (((wZ s es j).map .str).map T.sh)), some (.sh (.int j)), some (.sh (.str (WN s j)))]) (Hs (aB E.r9) (ah aj)).1 (fun hp => ?_) (fun hp => ?_) ?_
   . have hp := amx hp
     refine aI E.g E.qB (aK (cY (aO (ds := (["one", "all"] : List Str).map .str) (cQ (gI (aG bC (aG bC di)) (aN rfl))) (ah (V7 E.C5 (ah ((dD (aB E.iW) (ah (qm (aB E.r9) (ah aj)))).2)) E.C4)) (c5 (f := L3.D.str) Str.empty (by split <;> omega) (by show (if _ then (1 : Int) else 0) < ((2 : Nat) : Int); split <;> omega))) rfl) (t2 := .sh (.str (WN s j))) ?_) (ao rfl)
     unfold WN
     rw [amo hp]
     by_cases e : (j : Int) = kL s - 1
     . rw [amo e, amo (am8 e)]; rfl
     . rw [if_neg e, if_neg (by simpa using e)]; rfl
   . have hp := amU hp
     refine ao ?_
     unfold WN
     rw [amk hp]
     rfl
   rintro δ rfl
   refine qq (fun δ => δ = [some (.sh (.lst (s.map .int))), some (.sh (.lst (es.map .int))), some (.sh (.int (kL s))), some (.lst (((wZ s es j).map .str).map T.sh)), some (.sh (.int j)), some (.sh (.str (kE s es j)))]) (u5 (l := es) (aB E.iW) (aB E.aR) rfl rfl).1 (fun hp => ?_) (fun hp => ?_) ?_
   . have e : ¬ (j : Int) ∈ es := by
       rw [anl] at hp
       exact amU hp
     rw [show kE s es j = "leaf" by unfold kE; rw [amk e]]
     exact aI E.g E.qB bC (ao rfl)
   . have e : (j : Int) ∈ es := by
       rw [aon] at hp
       exact amx hp
     rw [show kE s es j = WN s j by unfold kE; rw [amo e]]
     exact ao rfl
   rintro δ rfl
   refine fD E.eL.1 rfl (v_ E.qB.1) rfl (by simp; omega) (ao ?_)
   rw [eK _ rfl]
   exact ⟨_, _, rfl⟩
 case fin =>
   rintro δ ⟨o4, o5, rfl⟩
   have e : (bO 0 (es.length : Int).toNat).length = es.length := by simp [bO]
   rw [e]
   exact bD (vM E.eL.1) rfl
theorem iG : jU (av zq) ([("script", ak), ("elders", ak), ("style", ak), ("kinds", ak), ("k", ak), ("kind", ak), ("_law_cell", az), ("range", az), ("len", az), ("int", az)]) = true := by decide +kernel
theorem HZ : aP ["script", "elders", "style", "kinds", "k", "kind"] ["script", "elders"] (av zq) := aX
noncomputable abbrev oK : Stmt := top 36
noncomputable abbrev um : Type := List Int × Int
noncomputable def gk : um -> List L3.D := fun (es, m) => [.lst (es.map .int), .int m]
noncomputable def dX : um -> Prop := fun (es, m) => es.length <= 1000
noncomputable def fH : um -> T := fun (es, m) => (.lst (((eU es m).map .int).map T.sh) : T)
structure KC (X : Cx) (CL : Str -> Addr) : Prop extends cA X where
 aR : Ln X 0 "elders"
 Aq : X.env.kindOf "elders" = some .cell
 bf : Ln X 1 "mood"
 KD : X.env.kindOf "mood" = some .cell
 bS : Gl X "range"
 dm : Gl X "len"
 bT : X.mg "range" = none
 dw : X.mg "len" = none
theorem KG {X : Cx} {CL : Str -> Addr} {b : Bx} (E : KC X CL) (es m) (h : dX (es, m)) :
   aC X CL b oK ["elders", "mood"] (gk (es, m)) (fH (es, m)) := by
 dsimp only [aC, dX, gk, fH] at h ⊢
 refine bD (lY (p := fun d => decide (es.getD d.uW.toNat 0 = m)) (g := fun d => T.sh d) (dF (.cons E.aR.1 (.inl E.Aq) (.cons E.bf.1 (.inl E.KD) .nil)) (by decide +kernel)) E.g.calm
   (dO E.bT (ah (dW (amc ..) E.dw (aB E.aR) E.dm)) (by omega) E.bS) (.inr rfl) (fun C s0 H0 f0 b' d hd => ?D0) (amQ (bQ (by simp [bO]; omega)))) ?eq
 case D0 =>
   obtain ⟨i, hi, rfl⟩ := amJ.mp hd
   have Nj : i < es.length := by simpa using hi
   exact ⟨(dD (aO (ah (v_ (f9 (i := 1) rfl (by decide +kernel)))) (ah (v_ (ef (i := 0) rfl (by decide +kernel)))) (ck (show (0 : Int) <= 0 + (i : Int) by omega) (show 0 + (i : Int) < es.length by omega))) (ah (v_ (f9 (i := 2) rfl (by decide +kernel))))).1, fun _ => v_ (ef (i := 0) rfl (by decide +kernel))⟩
 case eq =>
   refine congrArg T.lst ?_
   unfold bO eU
   rw [anE, amI, amI, amI, amm]
   have e1 : ((fun d : L3.D => decide (es.getD d.uW.toNat 0 = m)) ∘ fun i : Nat => L3.D.int (0 + (i : Int))) = fun i : Nat => decide (es.getD i 0 = m) := by
     funext i
     show decide (es.getD (0 + (i : Int)).toNat 0 = m) = _
     rw [ani, amm]
   rw [e1]
   congr 1
   funext i
   show T.sh (.int (0 + (i : Int))) = T.sh (.int i)
   rw [ani]
theorem iX : jU (av oK) ([("elders", .cell), ("mood", .cell), ("range", az), ("len", az)]) = true := by decide +kernel
theorem yy : aP ["elders", "mood"] ["elders", "mood"] (av oK) := aX
noncomputable def Pz (s es : List Int) (ks : List Str) (base : Int) (k : Nat) : Int := if ks.getD k Str.empty = "one" then (eU es k).getD (aA s (base + k) % ((eU es k).length : Nat)).toNat 0 else -1
noncomputable def JQ (s es : List Int) (ks : List Str) (base : Int) (n : Nat) : List Int := (List.range n).map (Pz s es ks base)
theorem NR (s es : List Int) (ks : List Str) (base : Int) (n : Nat) : (JQ s es ks base n).length = n := by simp [JQ]
theorem abo (s es : List Int) (ks : List Str) (base : Int) {n k : Nat} (h : k < n) : (JQ s es ks base n).getD k 0 = Pz s es ks base k := by
 unfold JQ
 rw [amd, amT, anp h]
 rfl
theorem WR {s es : List Int} {ks : List Str} {base : Int} {k : Nat} (ho : R4 ks es) (hk : k < es.length) (e : ks.getD k Str.empty = "one") : (JQ s es ks base es.length).getD k 0 ∈ eU es k := by
 rw [abo s es ks base hk]
 unfold Pz
 rw [amo e]
 have afa : 0 < (eU es (k : Int)).length := List.length_pos_iff.mpr (ho k hk e)
 have c1 := amB (aA s (base + (k : Int))) (b := ((eU es (k : Int)).length : Nat)) (by omega)
 have c2 := amt (aA s (base + (k : Int))) (b := ((eU es (k : Int)).length : Nat)) (by omega)
 rw [amd, amq (by omega)]
 exact anD _
noncomputable abbrev vG : Stmt := top 37
noncomputable abbrev As : Type := List Int × List Int × List Str × Int
noncomputable def oM : As -> List L3.D := fun (s, es, ks, base) => [.lst (s.map .int), .lst (es.map .int), .lst (ks.map .str), .int base]
noncomputable def lH : As -> Prop := fun (s, es, ks, base) => es.length <= 900 /\ s.length <= 1000 /\ ks.length = es.length /\ R4 ks es /\ 0 <= base /\ base <= 5000
noncomputable def oN : As -> T := fun (s, es, ks, base) => (.lst (((JQ s es ks base es.length).map .int).map T.sh) : T)
structure Sx (X : Cx) (CL : Str -> Addr) : Prop extends cA X where
 aF : Ln X 0 "script"
 aR : Ln X 1 "elders"
 eL : Ln X 2 "kinds"
 KH : Ln X 3 "base"
 jZ : Ln X 4 "chosen"
 iW : Ln X 5 "k"
 gT : Ln X 6 "near"
 bS : Gl X "range"
 dm : Gl X "len"
 gn : Gl X "_law_inner"
 aL : Gl X "_law_cell"
 bT : X.mg "range" = none
 dw : X.mg "len" = none
 iS : Fc X CL "_law_inner" 1 2 gk dX fH
 cO : Fc X CL "_law_cell" 1 2 fG bu eY
theorem Sy {X : Cx} {CL : Str -> Addr} {b : Bx} (E : Sx X CL) (s es ks base) (h : lH (s, es, ks, base)) :
   aC X CL b vG ["script", "elders", "kinds", "base", "chosen", "k", "near"] (oM (s, es, ks, base)) (oN (s, es, ks, base)) := by
 dsimp only [aC, lH, oM, oN] at h ⊢
 obtain ⟨hl, hs, hk, ho, b0, b1⟩ := h
 refine aI E.g E.jZ (dN cZ (amO _)) ?_
 refine d7 E.g E.iW (fun j δ => ∃ o o', δ = [some (.sh (.lst (s.map .int))), some (.sh (.lst (es.map .int))), some (.sh (.lst (ks.map .str))), some (.sh (.int base)), some (.lst (((JQ s es ks base j).map .int).map T.sh)), o, o'])
   (dO E.bT (ah (dW (amc ..) E.dw (aB E.aR) E.dm)) (by omega) E.bS) ⟨_, _, rfl⟩ (fun j δ ⟨_, _, e⟩ => by subst e; exact amg rfl) ?turn ?fin
 case turn =>
   rintro j d δ hj ⟨o, o', rfl⟩
   obtain ⟨rfl, nG⟩ := fW hj
   rw [ani]
   have xF := NR s es ks base j
   have yw : ((eU es (j : Int)).map L3.D.int).length = (eU es (j : Int)).length := by simp
   have eK : ∀ x : Int, x = Pz s es ks base j -> ((JQ s es ks base j).map L3.D.int).map T.sh ++ [T.sh (.int x)] = ((JQ s es ks base (j + 1)).map L3.D.int).map T.sh := fun x e => by
     subst e
     simp [JQ, ans]
   refine aI E.g E.gT (c_ ((es, (j : Int))) E.iS E.gn (ai (aB E.aR) (ai (aB E.iW) aD)) ((by dsimp only [dX]; omega)) (aT _)) ?_
   rw [show fH (es, (j : Int)) = T.lst (((eU es (j : Int)).map .int).map T.sh) from rfl]
   refine d9 (iB (aO (aB E.eL) (aB E.iW) (c5 Str.empty (by omega) (by omega))) (ah bC)).1 (fun hp => ?_) (fun hp => ?_)
   . have e : ks.getD j Str.empty = "one" := amx hp
     have afa : 0 < (eU es (j : Int)).length := List.length_pos_iff.mpr (ho j (by omega) e)
     have c1 := amB (aA s (base + (j : Int))) (b := ((eU es (j : Int)).length : Nat)) (by omega)
     have c2 := amt (aA s (base + (j : Int))) (b := ((eU es (j : Int)).length : Nat)) (by omega)
     refine fD E.jZ.1 rfl (cY (aO (vL E.gT.1) (ah (bN (ah (c_ ((s, base + (j : Int))) E.cO E.aL (ai (aB E.aF) (ai (ah (dQ (aB E.KH) (aB E.iW))) aD)) (by dsimp only [bu]; exact (⟨by omega, by omega, by omega⟩)) rfl)) (ah (dW (yw) E.dw (vL E.gT.1) E.dm)) (by omega))) (ck c1 c2)) rfl) rfl (by simp; omega) (ao (ao ?_))
     rw [eK _ (by unfold Pz; rw [amo e])]
     exact ⟨_, _, rfl⟩
   . have e : ¬ ks.getD j Str.empty = "one" := amU hp
     refine fD E.jZ.1 rfl (eH (ah aj)) rfl (by simp; omega) (ao (ao ?_))
     rw [eK _ (by unfold Pz; rw [amk e])]
     exact ⟨_, _, rfl⟩
 case fin =>
   rintro δ ⟨o, o', rfl⟩
   have e : (bO 0 (es.length : Int).toNat).length = es.length := by simp [bO]
   rw [e]
   exact bD (vM E.jZ.1) rfl
theorem fX : jU (av vG) ([("script", ak), ("elders", ak), ("kinds", ak), ("base", ak), ("chosen", ak), ("k", ak), ("near", ak), ("range", az), ("len", az), ("_law_inner", az), ("_law_cell", az)]) = true := by decide +kernel
theorem C6 : aP ["script", "elders", "kinds", "base", "chosen", "k", "near"] ["script", "elders", "kinds", "base"] (av vG) := aX
noncomputable def Sz : List Nat := (List.range 26).map (· + 97)
theorem Ic : ("abcdefghijklmnopqrstuvwxyz" : Str).cps.toList = Sz := by decide +kernel
noncomputable def tO (k : Int) : Str := ⟨#[Sz.getD k.toNat 0]⟩
noncomputable def sI (k : Int) : Str := toString k
noncomputable def Zn (s : List Int) (k : Int) : Str := ([tO (aA s 60 / 3 % 26) ++ sI k, tO (aA s 60 / 3 % 26) ++ sI k ++ tO (aA s 60 / 78 % 26), tO (aA s 60 / 3 % 26) ++ tO (aA s 60 / 78 % 26) ++ sI k] : List Str).getD (aA s 60 % 3).toNat Str.empty
noncomputable abbrev Ef : Stmt := top 42
noncomputable abbrev KJ : Type := List Int × Int
noncomputable def qC : KJ -> List L3.D := fun (s, k) => [.lst (s.map .int), .int k]
noncomputable def lI : KJ -> Prop := fun (s, k) => s.length <= 1000 /\ 0 <= k /\ k <= 8
noncomputable def qD : KJ -> T := fun (s, k) => (.sh (.str (Zn s k)) : T)
structure abp (X : Cx) (CL : Str -> Addr) : Prop extends cA X where
 aF : Ln X 0 "script"
 iW : Ln X 1 "k"
 bX : Ln X 2 "cell"
 xQ : Ln X 3 "letters"
 C7 : Ln X 4 "one"
 SD : Ln X 5 "two"
 aL : Gl X "_law_cell"
 vH : Gl X "str"
 cO : Fc X CL "_law_cell" 1 2 fG bu eY
 nR : X.mg "str" = none
theorem abq {X : Cx} {CL : Str -> Addr} {b : Bx} (E : abp X CL) (s k) (h : lI (s, k)) :
   aC X CL b Ef ["script", "k", "cell", "letters", "one", "two"] (qC (s, k)) (qD (s, k)) := by
 dsimp only [aC, lI, qC, qD] at h ⊢
 obtain ⟨hs, hk0, hk⟩ := h
 refine aI E.g E.bX (c_ ((s, 60)) E.cO E.aL (ai (aB E.aF) (ai (ah aj) aD)) (by dsimp only [bu]; exact (⟨by omega, by omega, hs⟩)) rfl) ?_
 rw [show eY (s, 60) = T.sh (.int (aA s 60)) from rfl]
 have c0 := nP s (k := 60) (by omega)
 show iI X CL b _ _ { nx := _, rt := fun v__ _ => v__ = T.sh (.str (Zn s k)), bk := _, ct := _ }
 unfold Zn
 generalize aA s 60 = c at c0 ⊢
 refine aI E.g E.xQ bC ?_
 have hl : Sz.length = 26 := by decide +kernel
 have m26 := fun m : Int => amB m (show (26 : Int) ≠ 0 by decide)
 have l26 := fun m : Int => amt m (show (0 : Int) < 26 by decide)
 have QK : ∀ m : Int, (tO m).length = 1 := fun _ => rfl
 have hkk : (sI k).length = 1 /\ k.natAbs.log2 < 1920 := by
   have : k = 0 \/ k = 1 \/ k = 2 \/ k = 3 \/ k = 4 \/ k = 5 \/ k = 6 \/ k = 7 \/ k = 8 := by omega
   rcases this with rfl | rfl | rfl | rfl | rfl | rfl | rfl | rfl | rfl <;> exact ⟨by decide +kernel, by decide +kernel⟩
 refine aI E.g E.C7 (aK (Rn (aB E.xQ) (ah (bN (ah (dg (aB E.bX) (ah aj) ⟨by decide, by decide⟩)) (ah aj) (by decide))) (by rw [anq]; decide +kernel) (by rw [Ic]; exact RD 0 (m26 _) (by have := l26 (c / 3); rw [hl]; omega))) (t2 := .sh (.str (tO (c / 3 % 26)))) rfl) ?_
 refine aI E.g E.SD (aK (Rn (aB E.xQ) (ah (bN (ah (dg (aB E.bX) (ah aj) ⟨by decide, by decide⟩)) (ah aj) (by decide))) (by rw [anq]; decide +kernel) (by rw [Ic]; exact RD 0 (m26 _) (by have := l26 (c / 78); rw [hl]; omega))) (t2 := .sh (.str (tO (c / 78 % 26)))) rfl) ?_
 have h1 := QK (c / 3 % 26)
 have h2 := QK (c / 78 % 26)
 generalize tO (c / 3 % 26) = one at h1 ⊢
 generalize tO (c / 78 % 26) = two at h2 ⊢
 have l1 : (one ++ sI k).length = 2 := by rw [str_len, h1, hkk.1]
 have l2 : (one ++ two).length = 2 := by rw [str_len, h1, h2]
 refine bD (cY (aO (cQ (gI (aG (t7 (aB E.C7) (ah (uZ E.nR E.vH (aB E.iW) (hkk.2))) ((by rw [anq]; show one.length + (sI k).length <= _; omega))) (aG (t7 (ah (t7 (aB E.C7) (ah (uZ E.nR E.vH (aB E.iW) (hkk.2))) ((by rw [anq]; show one.length + (sI k).length <= _; omega)))) (aB E.SD) ((by rw [anq]; show (one ++ sI k).length + two.length <= _; omega))) (aG (t7 (ah (t7 (aB E.C7) (aB E.SD) ((by rw [anq]; omega)))) (ah (uZ E.nR E.vH (aB E.iW) (hkk.2))) ((by rw [anq]; show (one ++ two).length + (sI k).length <= _; omega))) di))) (aN rfl))) (ah (bN (aB E.bX) (ah aj) (by decide))) (c5 (f := L3.D.str) (l := [one ++ sI k, one ++ sI k ++ two, one ++ two ++ sI k]) Str.empty (amB _ (by decide)) (amt _ (by decide)))) rfl) rfl
theorem mj : jU (av Ef) ([("script", ak), ("k", ak), ("cell", ak), ("letters", ak), ("one", ak), ("two", ak), ("_law_cell", az), ("str", az)]) = true := by decide +kernel
theorem NS : aP ["script", "k", "cell", "letters", "one", "two"] ["script", "k"] (av Ef) := aX
noncomputable def Ie (c : Int) : Int := if c % 4 = 1 then c / 4 % (2 * 10 ^ (30 : Int).toNat - 1) - (10 ^ (30 : Int).toNat - 1) else c / 4 % 7 - 3
noncomputable abbrev vI : Stmt := top 43
noncomputable abbrev Au : Type := Int
noncomputable def lJ : Au -> List L3.D := fun a => [.int a]
noncomputable def lK : Au -> Prop := fun a => True
noncomputable def lM : Au -> T := fun a => (.sh (.int (Ie a)) : T)
structure SG (X : Cx) (CL : Str -> Addr) : Prop extends cA X where
 bX : Ln X 0 "cell"
theorem SJ {X : Cx} {CL : Str -> Addr} {b : Bx} (E : SG X CL) (a) (h : lK a) :
   aC X CL b vI ["cell"] (lJ a) (lM a) := by
 dsimp only [aC, lK, lJ, lM] at h ⊢
 refine d9 (dD (ah (bN (aB E.bX) (ah aj) (by decide))) (ah aj)).1 (fun hp => ?_) (fun hp => ao ?_)
 . refine bD (qm (ah (bN (ah (dg (aB E.bX) (ah aj) ⟨by decide, by decide⟩)) (ah (qm (ah (zS (ah aj) (ah (J8 (ah aj) (ah aj) ⟨by decide, by decide, by decide⟩)) (.inl ⟨by decide, by decide⟩))) (ah aj))) (by decide))) (ah (qm (ah (J8 (ah aj) (ah aj) ⟨by decide, by decide, by decide⟩)) (ah aj)))) ?_
   show T.sh _ = T.sh (.int (Ie a))
   unfold Ie
   rw [amo (amx hp)]
 . refine bD (qm (ah (bN (ah (dg (aB E.bX) (ah aj) ⟨by decide, by decide⟩)) (ah aj) (by decide))) (ah aj)) ?_
   show T.sh _ = T.sh (.int (Ie a))
   unfold Ie
   rw [amk (amU hp)]
theorem PB : jU (av vI) ([("cell", ak)]) = true := by decide +kernel
theorem C8 : aP ["cell"] ["cell"] (av vI) := aX
noncomputable def vJ (c : Int) (n : Nat) : L3.D := .tup [.int (c % ((n : Int) + 1) - 1), .int (Ie (c / 4))]
noncomputable abbrev Eg : Stmt := top 44
noncomputable abbrev KL : Type := Int × Nat
noncomputable def qE : KL -> List L3.D := fun (c, n) => [.int c, .int n]
noncomputable def qF : KL -> Prop := fun (c, n) => n <= 1000
noncomputable def qG : KL -> T := fun (c, n) => (.sh (.tup [.int (c % ((n : Int) + 1) - 1), .int (Ie (c / 4))]) : T)
structure abr (X : Cx) (CL : Str -> Addr) : Prop extends cA X where
 bX : Ln X 0 "cell"
 fJ : Ln X 1 "boxes"
 BV : Gl X "_law_number"
 Av : Fc X CL "_law_number" 1 1 lJ lK lM
theorem abt {X : Cx} {CL : Str -> Addr} {b : Bx} (E : abr X CL) (c n) (h : qF (c, n)) :
   aC X CL b Eg ["cell", "boxes"] (qE (c, n)) (qG (c, n)) := by
 dsimp only [aC, qF, qE, qG] at h ⊢
 exact bD (fQ (aG (qm (ah (bN (aB E.bX) (ah (dQ (aB E.fJ) (ah aj))) (by omega))) (ah aj)) (aG (c_ (c / 4) E.Av E.BV (ai (ah (dg (aB E.bX) (ah aj) ⟨by decide, by decide⟩)) aD) (trivial) rfl) di)) (aN rfl)) rfl
theorem Eh : jU (av Eg) ([("cell", ak), ("boxes", ak), ("_law_number", az)]) = true := by decide +kernel
theorem NT : aP ["cell", "boxes"] ["cell", "boxes"] (av Eg) := aX
noncomputable def PC (n m : Nat) (c : Int) : L3.D :=
 if c % 3 = 1 then .tup [.str ((["open", "shut"] : List Str).getD (c / 3 % 2).toNat Str.empty), .int (c / 6 % (m : Int))]
 else .tup [.str ((["<", "<=", "=", "!="] : List Str).getD (c / 3 % 4).toNat Str.empty), vJ (c / 12) n, vJ (c / 48) n]
noncomputable def PD (s : List Int) (q : Int) (m n k : Nat) : L3.D := PC n m (aA s (q + 1 + (k : Int)))
noncomputable def C9 (s : List Int) (q : Int) (m n : Nat) : List L3.D := (List.range (aA s q % 3).toNat).map (PD s q m n)
theorem Ig (n m : Nat) (c : Int) : (PC n m c).qc = true := by
 unfold PC
 split <;> rfl
theorem uo (s : List Int) (q : Int) (m n : Nat) : D.bZ (C9 s q m n) = true := jV (fun k => Ig _ _ _) _
noncomputable abbrev Ei : Stmt := top 46
noncomputable abbrev KN : Type := List Int × Int × Nat × Nat
noncomputable def vK : KN -> List L3.D := fun (s, q, m, n) => [.lst (s.map .int), .int q, .int m, .int n]
noncomputable def qH : KN -> Prop := fun (s, q, m, n) => s.length <= 1000 /\ 0 <= q /\ q <= 90000 /\ n <= 1000 /\ 1 <= m
noncomputable def vN : KN -> T := fun (s, q, m, n) => (.sh (.tup (C9 s q m n)) : T)
structure abu (X : Cx) (CL : Str -> Addr) : Prop extends cA X where
 aF : Ln X 0 "script"
 eu : Ln X 1 "at"
 gG : Ln X 2 "many"
 fJ : Ln X 3 "boxes"
 oO : Ln X 4 "asks"
 iW : Ln X 5 "k"
 bX : Ln X 6 "cell"
 SK : Ln X 7 "mark"
 bS : Gl X "range"
 aL : Gl X "_law_cell"
 j0 : Gl X "_law_term"
 mq : Gl X "tuple"
 bT : X.mg "range" = none
 cO : Fc X CL "_law_cell" 1 2 fG bu eY
 Aw : Fc X CL "_law_term" 2 2 qE qF qG
 mw : X.mg "tuple" = none
theorem abv {X : Cx} {CL : Str -> Addr} {b : Bx} (E : abu X CL) (s q m n) (h : qH (s, q, m, n)) :
   aC X CL b Ei ["script", "at", "many", "boxes", "asks", "k", "cell", "mark"] (vK (s, q, m, n)) (vN (s, q, m, n)) := by
 dsimp only [aC, qH, vK, vN] at h ⊢
 obtain ⟨hs, q0, q1, hn, hm⟩ := h
 refine aI E.g E.oO (dN cZ (amO _)) ?_
 have c0 := amB (aA s q) (show (3 : Int) ≠ 0 by decide)
 have c1 := amt (aA s q) (show (0 : Int) < 3 by decide)
 refine d7 E.g E.iW (fun j δ => ∃ o5 o6 o7, δ = [some (.sh (.lst (s.map .int))), some (.sh (.int q)), some (.sh (.int m)), some (.sh (.int n)), some (.lst (((List.range j).map (PD s q m n)).map T.sh)), o5, o6, o7])
   (dO E.bT (ah (bN (ah (c_ ((s, q)) E.cO E.aL (ai (aB E.aF) (ai (aB E.eu) aD)) (by dsimp only [bu]; exact (⟨q0, by omega, hs⟩)) rfl)) (ah aj) (by decide))) ((show -(2 ^ 62) <= aA s q % 3 /\ aA s q % 3 < 2 ^ 62 by omega)) E.bS) ⟨_, _, _, rfl⟩ (fun j δ ⟨_, _, _, e⟩ => by subst e; exact Nat.le_of_ble_eq_true rfl) ?turn ?fin
 case turn =>
   rintro j d δ hj ⟨o5, o6, o7, rfl⟩
   obtain ⟨rfl, nG⟩ := fW hj
   have hj3 : j < 3 := by have nG : j < (aA s q % 3).toNat := nG; omega
   rw [ani]
   have d0 := nP s (k := q + 1 + (j : Int)) (by omega)
   refine aI E.g E.bX (aK (c_ ((s, q + 1 + (j : Int))) E.cO E.aL (ai (aB E.aF) (ai (ah (dQ (ah (dQ (aB E.eu) (ah aj))) (aB E.iW))) aD)) (by dsimp only [bu]; exact (⟨by omega, by omega, hs⟩)) rfl) (t2 := .sh (.int (aA s (q + 1 + (j : Int))))) rfl) ?_
   have eK : ∀ x : L3.D, x = PD s q m n j -> ((List.range j).map (PD s q m n)).map T.sh ++ [T.sh x] = ((List.range (j + 1)).map (PD s q m n)).map T.sh := fun x e => by
     subst e
     simp [ans]
   have hd : PD s q m n j = PC n m (aA s (q + 1 + (j : Int))) := rfl
   generalize aA s (q + 1 + (j : Int)) = c at d0 hd ⊢
   refine d9 (dD (ah (bN (aB E.bX) (ah aj) (by decide))) (ah aj)).1 (fun hp => ?_) (fun hp => ?_)
   . refine fD E.oO.1 rfl (fQ (aG (cY (aO (cQ (gI (aG bC (aG bC di)) (aN rfl))) (ah (bN (ah (dg (aB E.bX) (ah aj) ⟨by decide, by decide⟩)) (ah aj) (by decide))) (c5 (f := L3.D.str) (l := ["open", "shut"]) Str.empty (amB _ (by decide)) (amt _ (by decide)))) rfl) (aG (bN (ah (dg (aB E.bX) (ah aj) ⟨by decide, by decide⟩)) (aB E.gG) (by omega)) di)) (aN rfl)) rfl (by simp; omega) (ao (ao ?_))
     rw [eK _ (by rw [hd]; unfold PC; rw [amo (amx hp)])]
     exact ⟨_, _, _, rfl⟩
   . have hp := amU hp
     refine aI E.g E.SK (cY (aO (cQ (gI (aG bC (aG bC (aG bC (aG bC di)))) (aN rfl))) (ah (bN (ah (dg (aB E.bX) (ah aj) ⟨by decide, by decide⟩)) (ah aj) (by decide))) (c5 (f := L3.D.str) (l := ["<", "<=", "=", "!="]) Str.empty (amB _ (by decide)) (amt _ (by decide)))) rfl) ?_
     refine fD E.oO.1 rfl (fQ (aG (v_ E.SK.1) (aG (aK (c_ ((c / 12, n)) E.Aw E.j0 (ai (ah (dg (aB E.bX) (ah aj) ⟨by decide, by decide⟩)) (ai (aB E.fJ) aD)) (hn) rfl) (t2 := .sh (vJ (c / 12) n)) rfl) (aG (aK (c_ ((c / 48, n)) E.Aw E.j0 (ai (ah (dg (aB E.bX) (ah aj) ⟨by decide, by decide⟩)) (ai (aB E.fJ) aD)) (hn) rfl) (t2 := .sh (vJ (c / 48) n)) rfl) di))) (aN rfl)) rfl (by simp; omega) (ao (ao ?_))
     rw [eK _ (by rw [hd]; unfold PC; rw [amk hp])]
     exact ⟨_, _, _, rfl⟩
 case fin =>
   rintro δ ⟨o5, o6, o7, rfl⟩
   refine bD (CF E.mw (vL E.oO.1) (jV (fun k => Ig _ _ _) _) E.mq) ?_
   have e : (bO 0 (aA s q % 3).toNat).length = (aA s q % 3).toNat := by simp [bO]
   rw [show (bO 0 (aA (s, q).1 (s, q).2 % 3).toNat).length = (aA s q % 3).toNat from e]
   rfl
theorem iK : jU (av Ei) ([("script", ak), ("at", ak), ("many", ak), ("boxes", ak), ("asks", ak), ("k", ak), ("cell", ak), ("mark", ak), ("range", az), ("_law_cell", az), ("_law_term", az), ("tuple", az)]) = true := by decide +kernel
theorem NV : aP ["script", "at", "many", "boxes", "asks", "k", "cell", "mark"] ["script", "at", "many", "boxes"] (av Ei) := aX
noncomputable def vO (s : List Int) (n : Nat) (c : Int) : L3.D :=
 if c % 4 = 1 then .tup [.str "call", .str (Zn s (c / 4 % 4))]
 else if c % 4 = 2 \/ n = 0 then .tup [.str "say", .str (Zn s (c / 4 % 4)), vJ (c / 16) n]
 else .tup [.str "put", .int (c / 4 % (n : Int)), vJ (c / 16) n]
noncomputable def Dc (s : List Int) (q : Int) (n k : Nat) : L3.D := vO s n (aA s (q + 1 + (k : Int)))
noncomputable def gU (s : List Int) (q : Int) (n : Nat) : List L3.D := (List.range (aA s q % 3).toNat).map (Dc s q n)
theorem Dd (s : List Int) (n : Nat) (c : Int) : (vO s n c).qc = true := by
 unfold vO
 split
 . rfl
 . split <;> rfl
theorem iY (s : List Int) (q : Int) (n : Nat) : D.bZ (gU s q n) = true := jV (fun k => Dd _ _ _) _
theorem Ax (s : List Int) (q : Int) (n : Nat) : (gU s q n).length <= 2 := by
 have c1 := amt (aA s q) (show (0 : Int) < 3 by decide)
 unfold gU
 rw [amc, aow]
 omega
noncomputable abbrev zu : Stmt := top 45
noncomputable abbrev Ej : Type := List Int × Int × Nat
noncomputable def nS : Ej -> List L3.D := fun (s, q, n) => [.lst (s.map .int), .int q, .int n]
noncomputable def iZ : Ej -> Prop := fun (s, q, n) => s.length <= 1000 /\ 0 <= q /\ q <= 90000 /\ n <= 1000
noncomputable def nT : Ej -> T := fun (s, q, n) => (.sh (.tup (gU s q n)) : T)
structure WT (X : Cx) (CL : Str -> Addr) : Prop extends cA X where
 aF : Ln X 0 "script"
 eu : Ln X 1 "at"
 fJ : Ln X 2 "boxes"
 jK : Ln X 3 "deeds"
 iW : Ln X 4 "k"
 bX : Ln X 5 "cell"
 qI : Ln X 6 "name"
 bS : Gl X "range"
 aL : Gl X "_law_cell"
 qJ : Gl X "_law_name"
 j0 : Gl X "_law_term"
 mq : Gl X "tuple"
 bT : X.mg "range" = none
 cO : Fc X CL "_law_cell" 1 2 fG bu eY
 KP : Fc X CL "_law_name" 2 2 qC lI qD
 Aw : Fc X CL "_law_term" 2 2 qE qF qG
 mw : X.mg "tuple" = none
theorem WU {X : Cx} {CL : Str -> Addr} {b : Bx} (E : WT X CL) (s q n) (h : iZ (s, q, n)) :
   aC X CL b zu ["script", "at", "boxes", "deeds", "k", "cell", "name"] (nS (s, q, n)) (nT (s, q, n)) := by
 dsimp only [aC, iZ, nS, nT] at h ⊢
 obtain ⟨hs, q0, q1, hn⟩ := h
 refine aI E.g E.jK (dN cZ (amO _)) ?_
 have c0 := amB (aA s q) (show (3 : Int) ≠ 0 by decide)
 have c1 := amt (aA s q) (show (0 : Int) < 3 by decide)
 refine d7 E.g E.iW (fun j δ => ∃ o4 o5 o6, δ = [some (.sh (.lst (s.map .int))), some (.sh (.int q)), some (.sh (.int n)), some (.lst (((List.range j).map (Dc s q n)).map T.sh)), o4, o5, o6])
   (dO E.bT (ah (bN (ah (c_ ((s, q)) E.cO E.aL (ai (aB E.aF) (ai (aB E.eu) aD)) (by dsimp only [bu]; exact (⟨q0, by omega, hs⟩)) rfl)) (ah aj) (by decide))) ((show -(2 ^ 62) <= aA s q % 3 /\ aA s q % 3 < 2 ^ 62 by omega)) E.bS) ⟨_, _, _, rfl⟩ (fun j δ ⟨_, _, _, e⟩ => by subst e; exact Nat.le_of_ble_eq_true rfl) ?turn ?fin
 case turn =>
   rintro j d δ hj ⟨o4, o5, o6, rfl⟩
   obtain ⟨rfl, nG⟩ := fW hj
   have hj3 : j < 3 := by have nG : j < (aA s q % 3).toNat := nG; omega
   rw [ani]
   have d0 := nP s (k := q + 1 + (j : Int)) (by omega)
   refine aI E.g E.bX (aK (c_ ((s, q + 1 + (j : Int))) E.cO E.aL (ai (aB E.aF) (ai (ah (dQ (ah (dQ (aB E.eu) (ah aj))) (aB E.iW))) aD)) (by dsimp only [bu]; exact (⟨by omega, by omega, hs⟩)) rfl) (t2 := .sh (.int (aA s (q + 1 + (j : Int))))) rfl) ?_
   have eK : ∀ x : L3.D, x = Dc s q n j -> ((List.range j).map (Dc s q n)).map T.sh ++ [T.sh x] = ((List.range (j + 1)).map (Dc s q n)).map T.sh := fun x e => by
     subst e
     simp [ans]
   have hd : Dc s q n j = vO s n (aA s (q + 1 + (j : Int))) := rfl
   generalize aA s (q + 1 + (j : Int)) = c at d0 hd ⊢
   have m0 := amB (c / 4) (show (4 : Int) ≠ 0 by decide)
   have m1 := amt (c / 4) (show (0 : Int) < 4 by decide)
   refine aI E.g E.qI (aK (c_ ((s, c / 4 % 4)) E.KP E.qJ (ai (aB E.aF) (ai (ah (bN (ah (dg (aB E.bX) (ah aj) ⟨by decide, by decide⟩)) (ah aj) (by decide))) aD)) (by dsimp only [lI]; exact (⟨hs, m0, by omega⟩)) rfl) (t2 := .sh (.str (Zn s (c / 4 % 4)))) rfl) ?_
   refine d9 (dD (ah (bN (aB E.bX) (ah aj) (by decide))) (ah aj)).1 (fun hp => ?_) (fun hp => ?_)
   . refine fD E.jK.1 rfl (fQ (aG bC (aG (v_ E.qI.1) di)) (aN rfl)) rfl (by simp; omega) (ao (ao ?_))
     rw [eK _ (by rw [hd]; unfold vO; rw [amo (amx hp)])]
     exact ⟨_, _, _, rfl⟩
   . have hp := amU hp
     refine d9 (kH (qp (dD (ah (bN (aB E.bX) (ah aj) (by decide))) (ah aj)).1 (fun hb => (mX (dD (aB E.fJ) (ah aj)).1)))) (fun hq => ?_) (fun hq => ?_)
     . have Qx : c % 4 = 2 \/ n = 0 := by
         simp only [an4, amY] at hq
         omega
       refine fD E.jK.1 rfl (fQ (aG bC (aG (v_ E.qI.1) (aG (aK (c_ ((c / 16, n)) E.Aw E.j0 (ai (ah (dg (aB E.bX) (ah aj) ⟨by decide, by decide⟩)) (ai (aB E.fJ) aD)) (hn) rfl) (t2 := .sh (vJ (c / 16) n)) rfl) di))) (aN rfl)) rfl (by simp; omega) (ao (ao (ao ?_)))
       rw [eK _ (by rw [hd]; unfold vO; rw [amk hp, amo Qx])]
       exact ⟨_, _, _, rfl⟩
     . have Qx : ¬ (c % 4 = 2 \/ n = 0) := by
         simp only [anM, ana] at hq
         omega
       refine fD E.jK.1 rfl (fQ (aG bC (aG (bN (ah (dg (aB E.bX) (ah aj) ⟨by decide, by decide⟩)) (aB E.fJ) (by omega)) (aG (aK (c_ ((c / 16, n)) E.Aw E.j0 (ai (ah (dg (aB E.bX) (ah aj) ⟨by decide, by decide⟩)) (ai (aB E.fJ) aD)) (hn) rfl) (t2 := .sh (vJ (c / 16) n)) rfl) di))) (aN rfl)) rfl (by simp; omega) (ao (ao (ao ?_)))
       rw [eK _ (by rw [hd]; unfold vO; rw [amk hp, amk Qx])]
       exact ⟨_, _, _, rfl⟩
 case fin =>
   rintro δ ⟨o4, o5, o6, rfl⟩
   refine bD (CF E.mw (vL E.jK.1) (jV (fun k => Dd _ _ _) _) E.mq) ?_
   have e : (bO 0 (aA s q % 3).toNat).length = (aA s q % 3).toNat := by simp [bO]
   rw [show (bO 0 (aA (s, q).1 (s, q).2 % 3).toNat).length = (aA s q % 3).toNat from e]
   rfl
theorem gB : jU (av zu) ([("script", ak), ("at", ak), ("boxes", ak), ("deeds", ak), ("k", ak), ("cell", ak), ("name", ak), ("range", az), ("_law_cell", az), ("_law_name", az), ("_law_term", az), ("tuple", az)]) = true := by decide +kernel
theorem Ih : aP ["script", "at", "boxes", "deeds", "k", "cell", "name"] ["script", "at", "boxes"] (av zu) := aX
noncomputable def Ay (s : List Int) : Int := aA s 36 % 9
noncomputable def j3 (s : List Int) (m : Nat) : List Int := sortI ((List.range (Ay s).toNat).map fun (k : Nat) => aA s (37 + (k : Int)) % (m : Int))
noncomputable def Az (es : List Int) (src c : Int) : Int := if 1 < c % 4 then (eU es (es.getD src.toNat 0)).getD (c / 4 % ((eU es (es.getD src.toNat 0)).length : Nat)).toNat 0 else c / 4 % (es.length : Nat)
noncomputable def BW (s : List Int) (c : Int) : Prop := c % 4 = 1 \/ aA s 36 / 9 % 5 = 1
noncomputable instance (s : List Int) (c : Int) : Decidable (BW s c) := by unfold BW; infer_instance
noncomputable def De (c : Int) : Str := (["new", "near", "far"] : List Str).getD (c % 3).toNat Str.empty
noncomputable def BX (s es : List Int) (n k : Nat) (src : Int) : cR where
 src := src
 sign := Zn s (aA s (200 + 12 * (k : Int)) % (1 + aA s 62 % 3))
 asks := C9 s (200 + 12 * (k : Int) + 1) es.length n
 jW := gU s (200 + 12 * (k : Int) + 4) n
 tgt := if BW s (aA s (200 + 12 * (k : Int) + 7)) then -1 else Az es src (aA s (200 + 12 * (k : Int) + 7))
 mode := if BW s (aA s (200 + 12 * (k : Int) + 7)) then "new" else De (aA s (200 + 12 * (k : Int) + 8))
noncomputable def vP (s es : List Int) (n : Nat) : List cR := (List.range (j3 s es.length).length).map fun k => BX s es n k ((j3 s es.length).getD k 0)
theorem Df {s : List Int} {m : Nat} (hm : 1 <= m) {x : Int} (h : x ∈ j3 s m) : 0 <= x /\ x < m := by
 obtain ⟨k, _, rfl⟩ := amJ.mp (k9.mp h)
 exact ⟨amB _ (by omega), amt _ (by omega)⟩
theorem Dg (s : List Int) (m : Nat) : (j3 s m).length <= 8 := by
 unfold j3
 rw [g9, amc, aow]
 have := amt (aA s 36) (show (0 : Int) < 9 by decide)
 unfold Ay
 omega
theorem SM (s es : List Int) (n k : Nat) (src : Int) : (cE (BX s es n k src)).qc = true := by
 show (true && (true && (D.bZ (C9 _ _ _ _) && (D.bZ (gU _ _ _) && (true && (true && true)))))) = true
 rw [uo, iY]
 rfl
theorem KQ (s es : List Int) (n : Nat) : D.bZ ((vP s es n).map cE) = true := lX fun d hd => by
 obtain ⟨w, hw, rfl⟩ := amJ.mp hd
 obtain ⟨k, _, rfl⟩ := amJ.mp hw
 exact SM _ _ _ _ _
noncomputable abbrev Ek : Stmt := top 47
noncomputable abbrev KR : Type := List Int × List Int × Nat
noncomputable def vQ : KR -> List L3.D := fun (s, es, n) => [.lst (s.map .int), .lst (es.map .int), .int n]
noncomputable def qK : KR -> Prop := fun (s, es, n) => s.length <= 1000 /\ 1 <= es.length /\ es.length <= 900 /\ n <= 1000
noncomputable def vR : KR -> T := fun (s, es, n) => (.lst (((vP s es n).map cE).map T.sh) : T)
structure abw (X : Cx) (CL : Str -> Addr) : Prop extends cA X where
 aF : Ln X 0 "script"
 qL : X.env.kindOf "script" = some .cell
 aR : Ln X 1 "elders"
 fJ : Ln X 2 "boxes"
 gG : Ln X 3 "many"
 abx : X.env.kindOf "many" = some .cell
 iL : Ln X 4 "count"
 oQ : Ln X 5 "names"
 jx : Ln X 6 "ways"
 AA : Ln X 7 "source"
 eu : Ln X 8 "at"
 qI : Ln X 9 "name"
 oO : Ln X 10 "asks"
 jK : Ln X 11 "deeds"
 bX : Ln X 12 "cell"
 gC : Ln X 13 "target"
 gT : Ln X 14 "near"
 jy : Ln X 15 "mode"
 dm : Gl X "len"
 aL : Gl X "_law_cell"
 ez : Gl X "sorted"
 bS : Gl X "range"
 qJ : Gl X "_law_name"
 Ii : Gl X "_law_asks"
 El : Gl X "_law_deeds"
 gn : Gl X "_law_inner"
 dw : X.mg "len" = none
 cO : Fc X CL "_law_cell" 1 2 fG bu eY
 eB : X.mg "sorted" = none
 bT : X.mg "range" = none
 KP : Fc X CL "_law_name" 2 2 qC lI qD
 aby : Fc X CL "_law_asks" 3 4 vK qH vN
 zv : Fc X CL "_law_deeds" 3 3 nS iZ nT
 iS : Fc X CL "_law_inner" 1 2 gk dX fH
theorem abz {X : Cx} {CL : Str -> Addr} {b : Bx} (E : abw X CL) (s es n) (h : qK (s, es, n)) :
   aC X CL b Ek ["script", "elders", "boxes", "many", "count", "names", "ways", "source", "at", "name", "asks", "deeds", "cell", "target", "near", "mode"] (vQ (s, es, n)) (vR (s, es, n)) := by
 dsimp only [aC, qK, vQ, vR] at h ⊢
 obtain ⟨hs, e0, e1, hn⟩ := h
 refine aI E.g E.gG (aK (dW (amc ..) E.dw (aB E.aR) E.dm) (t2 := .sh (.int (es.length : Nat))) rfl) ?_
 refine aI E.g E.iL (aK (bN (ah (c_ ((s, 36)) E.cO E.aL (ai (aB E.aF) (ai (ah aj) aD)) (by dsimp only [bu]; exact (⟨by omega, by omega, hs⟩)) rfl)) (ah aj) (by decide)) (t2 := .sh (.int (Ay s))) rfl) ?_
 have c62 := nP s (k := 62) (by omega)
 refine aI E.g E.oQ (aK (dQ (ah aj) (ah (bN (ah (c_ ((s, 62)) E.cO E.aL (ai (aB E.aF) (ai (ah aj) aD)) (by dsimp only [bu]; exact (⟨by omega, by omega, hs⟩)) rfl)) (ah aj) (by decide)))) (t2 := .sh (.int (1 + aA s 62 % 3))) rfl) ?_
 have n0 := amB (aA s 62) (show (3 : Int) ≠ 0 by decide)
 have n1 := amt (aA s 62) (show (0 : Int) < 3 by decide)
 have k0 : 0 <= Ay s := amB (aA s 36) (show (9 : Int) ≠ 0 by decide)
 have k1 : Ay s < 9 := amt (aA s 36) (show (0 : Int) < 9 by decide)
 have hsl := Dg s es.length
 have hsm : ∀ {x : Int}, x ∈ j3 s es.length -> 0 <= x /\ x < es.length := fun h => Df e0 h
 refine aI E.g E.jx (dN cZ (amO _)) ?_
 have hit : (((bO 0 (Ay s).toNat).filter fun _ => true).map fun d => T.sh (.int (aA s (37 + d.uW) % (es.length : Nat)))) = ((((List.range (Ay s).toNat).map fun (k : Nat) => aA s (37 + (k : Int)) % (es.length : Nat)).map L3.D.int).map T.sh) := by
   rw [iU]
   unfold bO
   rw [amI, amI, amI]
   refine anH fun k _ => ?_
   show T.sh (.int (aA s (37 + (0 + (k : Int))) % _)) = _
   rw [ani]
   rfl
 refine d7 E.g E.AA (fun j δ => ∃ o7 o8 o9 NW NX WV QF Zo o15, δ = [some (.sh (.lst (s.map .int))), some (.sh (.lst (es.map .int))), some (.sh (.int n)), some (.sh (.int (es.length : Nat))), some (.sh (.int (Ay s))), some (.sh (.int (1 + aA s 62 % 3))), some (.lst ((((List.range j).map fun k => BX s es n k ((j3 s es.length).getD k 0)).map cE).map T.sh)), o7, o8, o9, NW, NX, WV, QF, Zo, o15])
   (dR (gf (ds := (j3 s es.length).map .int) (iR E.eB (cQ (aK (lY (p := fun _ => true) (g := fun d => T.sh (.int (aA s (37 + d.uW) % (es.length : Nat)))) (dF (.cons E.gG.1 (.inl E.abx) (.cons E.aF.1 (.inl E.qL) .nil)) (by decide +kernel)) E.g.calm (dO E.bT (aB E.iL) ((by omega)) E.bS) (.inr rfl) (fun C s0 H0 f0 b' d hd => ?D0) (amQ (bQ (by simp [bO]; omega)))) (congrArg T.lst hit))) (by simp; omega) E.ez))) ⟨_, _, _, _, _, _, _, _, _, rfl⟩ (fun j δ ⟨_, _, _, _, _, _, _, _, _, e⟩ => by subst e; exact amg rfl) ?turn ?fin
 case D0 =>
   obtain ⟨i, hi, rfl⟩ := amJ.mp hd
   have Nj : i < (Ay s).toNat := by simpa using hi
   exact ⟨rfl, fun _ => (bN (ah (c_ ((s, 37 + (0 + (i : Int)))) (kI E.cO) (jc (by decide +kernel)) (ai (ah (v_ (f9 (i := 2) rfl (by decide +kernel)))) (ai (ah (dQ (ah aj) (ah (v_ (ef (i := 0) rfl (by decide +kernel)))))) aD)) (by dsimp only [bu]; exact (⟨by omega, by omega, hs⟩)) rfl)) (ah (v_ (f9 (i := 1) rfl (by decide +kernel)))) (by omega))⟩
 case turn =>
   rintro j d δ hj ⟨o7, o8, o9, NW, NX, WV, QF, Zo, o15, rfl⟩
   obtain ⟨src, rfl, hat, ua, nG, _, _⟩ := gi hj
   obtain ⟨x0, x1⟩ := hsm ua
   have aie : (j3 s es.length).getD j 0 = src := by rw [amd, hat]; rfl
   have afb : ((((List.range j).map fun k => BX s es n k ((j3 s es.length).getD k 0)).map cE)).length = j := by simp
   have eK : ∀ x : L3.D, x = cE (BX s es n j src) -> ((((List.range j).map fun k => BX s es n k ((j3 s es.length).getD k 0)).map cE).map T.sh) ++ [T.sh x] = ((((List.range (j + 1)).map fun k => BX s es n k ((j3 s es.length).getD k 0)).map cE).map T.sh) := fun x e => by
     subst e
     rw [← aie]
     simp [ans]
   refine aI E.g E.eu (aK (dQ (ah aj) (ah (zS (ah aj) (ah (dW (afb) E.dw (vL E.jx.1) E.dm)) (.inl ⟨by decide, by decide⟩)))) (t2 := .sh (.int (200 + 12 * (j : Int)))) rfl) ?_
   generalize hw : BX s es n j src = w at eK
   have hsg : Zn s (aA s (200 + 12 * (j : Int)) % (1 + aA s 62 % 3)) = w.sign := by rw [← hw]; rfl
   have m0 := amB (aA s (200 + 12 * (j : Int))) (show (1 + aA s 62 % 3 : Int) ≠ 0 by omega)
   have m1 := amt (aA s (200 + 12 * (j : Int))) (show (0 : Int) < 1 + aA s 62 % 3 by omega)
   refine aI E.g E.qI (aK (c_ ((s, aA s (200 + 12 * (j : Int)) % (1 + aA s 62 % 3))) E.KP E.qJ (ai (aB E.aF) (ai (ah (bN (ah (c_ ((s, 200 + 12 * (j : Int))) E.cO E.aL (ai (aB E.aF) (ai (aB E.eu) aD)) (by dsimp only [bu]; exact (⟨by omega, by omega, hs⟩)) rfl)) (aB E.oQ) (by omega))) aD)) (by dsimp only [lI]; exact (⟨hs, m0, by omega⟩)) rfl) (t2 := .sh (.str w.sign)) (congrArg (fun z => T.sh (.str z)) hsg)) ?_
   have has : C9 s (200 + 12 * (j : Int) + 1) es.length n = w.asks := by rw [← hw]; rfl
   have hde : gU s (200 + 12 * (j : Int) + 4) n = w.jW := by rw [← hw]; rfl
   refine aI E.g E.oO (aK (c_ (s, 200 + 12 * (j : Int) + 1, es.length, n) E.aby E.Ii (ai (aB E.aF) (ai (ah (dQ (aB E.eu) (ah aj))) (ai (aB E.gG) (ai (aB E.fJ) aD)))) (by dsimp only [qH]; exact ⟨hs, by omega, by omega, hn, e0⟩) (show T.clean (.sh (.tup (C9 _ _ _ _))) = true from (uo _ _ _ _))) (t2 := .sh (.tup w.asks)) (congrArg (fun z => T.sh (.tup z)) has)) ?_
   refine aI E.g E.jK (aK (c_ (s, 200 + 12 * (j : Int) + 4, n) E.zv E.El (ai (aB E.aF) (ai (ah (dQ (aB E.eu) (ah aj))) (ai (aB E.fJ) aD))) (by dsimp only [iZ]; exact ⟨hs, by omega, by omega, hn⟩) (show T.clean (.sh (.tup (gU _ _ _))) = true from (iY _ _ _))) (t2 := .sh (.tup w.jW)) (congrArg (fun z => T.sh (.tup z)) hde)) ?_
   have d0 := nP s (k := 200 + 12 * (j : Int) + 7) (by omega)
   refine aI E.g E.bX (aK (c_ ((s, 200 + 12 * (j : Int) + 7)) E.cO E.aL (ai (aB E.aF) (ai (ah (dQ (aB E.eu) (ah aj))) aD)) (by dsimp only [bu]; exact (⟨by omega, by omega, hs⟩)) rfl) (t2 := .sh (.int (aA s (200 + 12 * (j : Int) + 7)))) rfl) ?_
   have WH : w.tgt = if BW s (aA s (200 + 12 * (j : Int) + 7)) then -1 else Az es src (aA s (200 + 12 * (j : Int) + 7)) := by rw [← hw]; rfl
   have hmd : w.mode = if BW s (aA s (200 + 12 * (j : Int) + 7)) then ("new" : Str) else De (aA s (200 + 12 * (j : Int) + 8)) := by rw [← hw]; rfl
   have hsr : w.src = src := by rw [← hw]; rfl
   generalize aA s (200 + 12 * (j : Int) + 7) = c at d0 WH hmd ⊢
   refine aI E.g E.gC (bN (ah (dg (aB E.bX) (ah aj) ⟨by decide, by decide⟩)) (aB E.gG) (by omega)) ?_
   refine qq (fun δ => ∃ Zo, δ = [some (.sh (.lst (s.map .int))), some (.sh (.lst (es.map .int))), some (.sh (.int n)), some (.sh (.int (es.length : Nat))), some (.sh (.int (Ay s))), some (.sh (.int (1 + aA s 62 % 3))), some (.lst ((((List.range j).map fun k => BX s es n k ((j3 s es.length).getD k 0)).map cE).map T.sh)), some (.sh (.int src)), some (.sh (.int (200 + 12 * (j : Int)))), some (.sh (.str w.sign)), some (.sh (.tup w.asks)), some (.sh (.tup w.jW)), some (.sh (.int c)), some (.sh (.int (Az es src c))), Zo, o15]) (Hs (ah (bN (aB E.bX) (ah aj) (by decide))) (ah aj)).1 (fun hp => ?_) (fun hp => ?_) ?_
   . have hp := amx hp
     have qd : 0 < (eU es (es.getD src.toNat 0)).length := List.length_pos_of_mem (rX x0 x1 rfl)
     refine aI E.g E.gT (aK (c_ ((es, es.getD src.toNat 0)) E.iS E.gn (ai (aB E.aR) (ai (aO (aB E.aR) (aB E.AA) (ck x0 x1)) aD)) ((by dsimp only [dX]; omega)) (aT _)) (t2 := T.lst (((eU es (es.getD src.toNat 0)).map .int).map T.sh)) rfl) ?_
     have yw : ((eU es (es.getD src.toNat 0)).map L3.D.int).length = (eU es (es.getD src.toNat 0)).length := by simp
     have c1 := amB (c / 4) (b := ((eU es (es.getD src.toNat 0)).length : Nat)) (by omega)
     have c2 := amt (c / 4) (b := ((eU es (es.getD src.toNat 0)).length : Nat)) (by omega)
     refine aI E.g E.gC (aK (cY (aO (vL E.gT.1) (ah (bN (ah (dg (aB E.bX) (ah aj) ⟨by decide, by decide⟩)) (ah (dW (yw) E.dw (vL E.gT.1) E.dm)) (by omega))) (ck c1 c2)) rfl) (t2 := .sh (.int (Az es src c))) (by unfold Az; rw [amo hp])) (ao ⟨_, rfl⟩)
   . have hp := amU hp
     refine ao ⟨Zo, ?_⟩
     rw [show Az es src c = c / 4 % (es.length : Nat) by unfold Az; rw [amk hp]]
     rfl
   rintro δ ⟨Zo, rfl⟩
   refine aI E.g E.jy (aK (cY (aO (cQ (gI (aG bC (aG bC (aG bC di))) (aN rfl))) (ah (bN (ah (c_ ((s, 200 + 12 * (j : Int) + 8)) E.cO E.aL (ai (aB E.aF) (ai (ah (dQ (aB E.eu) (ah aj))) aD)) (by dsimp only [bu]; exact (⟨by omega, by omega, hs⟩)) rfl)) (ah aj) (by decide))) (c5 (f := L3.D.str) (l := ["new", "near", "far"]) Str.empty (Int.emod_nonneg _ (by decide)) (Int.emod_lt_of_pos _ (by decide)))) rfl) (t2 := .sh (.str (De (aA s (200 + 12 * (j : Int) + 8))))) rfl) ?_
   refine qq (fun δ => δ = [some (.sh (.lst (s.map .int))), some (.sh (.lst (es.map .int))), some (.sh (.int n)), some (.sh (.int (es.length : Nat))), some (.sh (.int (Ay s))), some (.sh (.int (1 + aA s 62 % 3))), some (.lst ((((List.range j).map fun k => BX s es n k ((j3 s es.length).getD k 0)).map cE).map T.sh)), some (.sh (.int src)), some (.sh (.int (200 + 12 * (j : Int)))), some (.sh (.str w.sign)), some (.sh (.tup w.asks)), some (.sh (.tup w.jW)), some (.sh (.int c)), some (.sh (.int w.tgt)), Zo, some (.sh (.str w.mode))]) (kH (qp (dD (ah (bN (aB E.bX) (ah aj) (by decide))) (ah aj)).1 (fun hb => (mX (dD (ah (bN (ah (dg (ah (c_ ((s, 36)) E.cO E.aL (ai (aB E.aF) (ai (ah aj) aD)) (by dsimp only [bu]; exact (⟨by omega, by omega, hs⟩)) rfl)) (ah aj) ⟨by decide, by decide⟩)) (ah aj) (by decide))) (ah aj)).1)))) (fun hp => ?_) (fun hp => ?_) ?_
   . have hp : BW s c := by
       unfold BW
       have hp : (decide (c % 4 = 1) || decide (aA s 36 / 9 % 5 = 1)) = true := hp
       simpa using hp
     rw [amo hp] at WH hmd
     rw [WH, hmd]
     exact aI E.g E.gC (eH (ah aj)) (aI E.g E.jy bC (ao rfl))
   . have hp : ¬ BW s c := by
       unfold BW
       have hp : (decide (c % 4 = 1) || decide (aA s 36 / 9 % 5 = 1)) = false := hp
       simpa using hp
     rw [amk hp] at WH hmd
     rw [WH, hmd]
     exact ao rfl
   rintro δ rfl
   refine fD E.jx.1 rfl (fQ (aG (v_ E.AA.1) (aG (v_ E.qI.1) (aG (v_ E.oO.1) (aG (v_ E.jK.1) (aG (v_ E.gC.1) (aG (v_ E.jy.1) di)))))) (aN rfl)) rfl (by rw [amc, afb]; omega) (ao ?_)
   rw [eK _ (by unfold cE; rw [hsr])]
   exact ⟨_, _, _, _, _, _, _, _, _, rfl⟩
 case fin =>
   rintro δ ⟨o7, o8, o9, NW, NX, WV, QF, Zo, o15, rfl⟩
   rw [amc]
   exact bD (vM E.jx.1) rfl
theorem cT : jU (av Ek) ([("script", .cell), ("elders", ak), ("boxes", ak), ("many", .cell), ("count", ak), ("names", ak), ("ways", ak), ("source", ak), ("at", ak), ("name", ak), ("asks", ak), ("deeds", ak), ("cell", ak), ("target", ak), ("near", ak), ("mode", ak), ("len", az), ("_law_cell", az), ("sorted", az), ("range", az), ("_law_name", az), ("_law_asks", az), ("_law_deeds", az), ("_law_inner", az)]) = true := by decide +kernel
theorem NZ : aP ["script", "elders", "boxes", "many", "count", "names", "ways", "source", "at", "name", "asks", "deeds", "cell", "target", "near", "mode"] ["script", "elders", "boxes"] (av Ek) := aX
noncomputable def WW (s : List Int) (k : Nat) : Str × Int := (("b" : Str) ++ sI (k : Int), Ie (aA s (33 + (k : Int))))
noncomputable def SN (s : List Int) : List (Str × Int) := (List.range (aA s 32 % 4).toNat).map (WW s)
noncomputable def xR (s : List Int) : Nat := (aA s 32 % 4).toNat
noncomputable def KS (s : List Int) (q : Int) (n : Nat) : List L3.D := (List.range n).map fun (k : Nat) => .tup (gU s (q + 6 * (k : Int)) (xR s))
noncomputable def fP (s : List Int) (most : Nat) : Nat := (if 0 < kL s then max (1 + aA s 0 % (most : Int)) ((most : Int) - 1) else 1 + aA s 0 % (most : Int)).toNat
theorem N1 (s : List Int) {most : Nat} (h : 1 <= most) : 1 <= fP s most /\ fP s most <= most /\ ((fP s most : Nat) : Int) = if 0 < kL s then max (1 + aA s 0 % (most : Int)) ((most : Int) - 1) else 1 + aA s 0 % (most : Int) := by
 have a := amB (aA s 0) (b := (most : Int)) (by omega)
 have b := amt (aA s 0) (b := (most : Int)) (by omega)
 unfold fP
 split <;> omega
noncomputable def eZ (bs : List L3.D) (es : List Int) (ks : List Str) (ss : List Int) (is os ws : List L3.D) : L3.D := .tup [.lst bs, .lst (es.map .int), .lst (ks.map .str), .lst (ss.map .int), .lst is, .lst os, .lst ws]
theorem PF (s : List Int) : D.bZ ((SN s).map BR) = true := jV (fun _ => rfl) _
noncomputable abbrev zx : Stmt := top 48
noncomputable abbrev Em : Type := List Int × Nat
noncomputable def sj : Em -> List L3.D := fun (s, most) => [.lst (s.map .int), .int most]
noncomputable def sr : Em -> Prop := fun (s, most) => s.length <= 1000 /\ 1 <= most /\ most <= 30
noncomputable def su : Em -> T := fun (s, most) => (.sh (eZ ((SN s).map BR) (oG s (fP s most)) (wZ s (oG s (fP s most)) (fP s most)) (JQ s (oG s (fP s most)) (wZ s (oG s (fP s most)) (fP s most)) 16 (fP s most)) (KS s 100 (fP s most)) (KS s 103 (fP s most)) ((vP s (oG s (fP s most)) (xR s)).map cE)) : T)
structure WX (X : Cx) (CL : Str -> Addr) : Prop extends cA X where
 aF : Ln X 0 "script"
 qL : X.env.kindOf "script" = some .cell
 En : Ln X 1 "most"
 gG : Ln X 2 "many"
 aR : Ln X 3 "elders"
 eL : Ln X 4 "kinds"
 nU : Ln X 5 "starts"
 iL : Ln X 6 "count"
 N2 : X.env.kindOf "count" = some .cell
 fJ : Ln X 7 "boxes"
 N3 : Ln X 8 "ins"
 Eo : Ln X 9 "outs"
 aL : Gl X "_law_cell"
 afd : Gl X "max"
 BZ : Gl X "_law_elders"
 Ep : Gl X "_law_kinds"
 B3 : Gl X "_law_chosen"
 bS : Gl X "range"
 Ij : Gl X "_law_ways"
 cO : Fc X CL "_law_cell" 1 2 fG bu eY
 afe : X.mg "max" = none
 SQ : Fc X CL "_law_elders" 2 2 oH lF oJ
 WY : Fc X CL "_law_kinds" 2 2 sd nQ se
 SR : Fc X CL "_law_chosen" 2 4 oM lH oN
 bT : X.mg "range" = none
 abA : Fc X CL "_law_ways" 4 3 vQ qK vR
 nR : X.mg "str" = none
 Av : Fc X CL "_law_number" 1 1 lJ lK lM
 zv : Fc X CL "_law_deeds" 3 3 nS iZ nT
theorem WZ {X : Cx} {CL : Str -> Addr} {b : Bx} (E : WX X CL) (s most) (h : sr (s, most)) :
   aC X CL b zx ["script", "most", "many", "elders", "kinds", "starts", "count", "boxes", "ins", "outs"] (sj (s, most)) (su (s, most)) := by
 dsimp only [aC, sr, sj, su] at h ⊢
 obtain ⟨hs, m1, m2⟩ := h
 obtain ⟨n1, n2, n3⟩ := N1 s m1
 refine aI E.g E.gG (dQ (ah aj) (ah (bN (ah (c_ ((s, 0)) E.cO E.aL (ai (aB E.aF) (ai (ah aj) aD)) (by dsimp only [bu]; exact (⟨by omega, by omega, hs⟩)) rfl)) (aB E.En) (by omega)))) ?_
 refine qq (fun δ => δ = [some (.sh (.lst (s.map .int))), some (.sh (.int most)), some (.sh (.int (fP s most : Nat))), none, none, none, none, none, none, none]) (Hs (ah (bN (ah (dg (ah (c_ ((s, 0)) E.cO E.aL (ai (aB E.aF) (ai (ah aj) aD)) (by dsimp only [bu]; exact (⟨by omega, by omega, hs⟩)) rfl)) (ah aj) ⟨by decide, by decide⟩)) (ah aj) (by decide))) (ah aj)).1 (fun hp => ?_) (fun hp => ?_) ?_
 . have hp : 0 < kL s := amx hp
   rw [amo hp] at n3
   refine aI E.g E.gG (aK (Wb E.g E.afe E.afd (ai (aB E.gG) (ai (ah (qm (aB E.En) (ah aj))) aD))) (t2 := .sh (.int (fP s most : Nat))) ?_) (ao rfl)
   rw [n3]
   show T.sh (.int (if (most : Int) - 1 > 1 + aA s 0 % (most : Int) then (most : Int) - 1 else 1 + aA s 0 % (most : Int))) = _
   congr 2
   split <;> omega
 . have hp : ¬ 0 < kL s := amU hp
   rw [amk hp] at n3
   refine ao ?_
   rw [n3]
   rfl
 rintro δ rfl
 obtain ⟨CQ, yL⟩ := NP s n1 (by omega)
 generalize fP s most = n at n1 n2 n3 CQ yL ⊢
 refine aI E.g E.aR (aK (c_ ((s, n)) E.SQ E.BZ (ai (aB E.aF) (ai (aB E.gG) aD)) (by dsimp only [lF]; exact (⟨n1, by omega, hs⟩)) (aT _)) (t2 := T.lst (((oG s n).map .int).map T.sh)) rfl) ?_
 generalize oG s n = es at CQ yL ⊢
 refine aI E.g E.eL (aK (c_ ((s, es)) E.WY E.Ep (ai (aB E.aF) (ai (vL E.aR.1) aD)) (by dsimp only [nQ]; exact (⟨by omega, hs⟩)) (Aa _)) (t2 := T.lst (((wZ s es n).map .str).map T.sh)) (by rw [← CQ]; rfl)) ?_
 have zl := Ec s es n
 have tG := NQ s es
 rw [CQ] at tG
 generalize wZ s es n = ks at zl tG ⊢
 refine aI E.g E.nU (aK (c_ ((s, es, ks, 16)) E.SR E.B3 (ai (aB E.aF) (ai (vL E.aR.1) (ai (vL E.eL.1) (ai (ah aj) aD)))) (by dsimp only [lH]; exact (⟨by omega, hs, by omega, tG, by omega, by omega⟩)) (aT _)) (t2 := T.lst (((JQ s es ks 16 n).map .int).map T.sh)) (by rw [← CQ]; rfl)) ?_
 generalize JQ s es ks 16 n = ss
 have b0 := amB (aA s 32) (show (4 : Int) ≠ 0 by decide)
 have b1 := amt (aA s 32) (show (0 : Int) < 4 by decide)
 have hnb : aA s 32 % 4 = ((xR s : Nat) : Int) := by unfold xR; omega
 have aif : xR s < 4 := by unfold xR; omega
 refine aI E.g E.iL (aK (bN (ah (c_ ((s, 32)) E.cO E.aL (ai (aB E.aF) (ai (ah aj) aD)) (by dsimp only [bu]; exact (⟨by omega, by omega, hs⟩)) rfl)) (ah aj) (by decide)) (t2 := .sh (.int (xR s : Nat))) (congrArg (fun z => T.sh (.int z)) hnb)) ?_
 have hbx : SN s = (List.range (xR s)).map (WW s) := rfl
 rw [hbx]
 generalize aih : xR s = nb at aif hbx ⊢
 refine xC (p := fun _ => true) (gg := fun d => T.sh (BR (WW s d.uW.toNat))) E.g E.fJ (dF (.cons E.aF.1 (.inl E.qL) .nil) (by decide +kernel)) (dO E.bT (aB E.iL) (by omega) E.bS) (.inr rfl) (fun C s0 H0 f0 b' d hd => ?D0) (amQ (bQ (by simp [bO]; omega))) ?rest (by exact amg rfl) (nL ⟨_, rfl⟩)
 case D0 =>
   obtain ⟨i, hi, rfl⟩ := amJ.mp hd
   have Nj : i < nb := by simpa using hi
   have BG : (i : Int).natAbs.log2 < 1920 /\ (toString (i : Int) : Str).length <= 50 := by
     have : i = 0 \/ i = 1 \/ i = 2 := by omega
     rcases this with rfl | rfl | rfl <;> exact ⟨by decide +kernel, by decide +kernel⟩
   have ei : (0 + (i : Int)) = (i : Int) := ani _
   have et : (L3.D.int (0 + (i : Int))).uW.toNat = i := by show (0 + (i : Int)).toNat = i; omega
   refine ⟨rfl, fun _ => aK (fQ (aG (t7 (ah bC) (ah (uZ E.nR (jc (by decide +kernel)) (ah (v_ (ef (i := 0) rfl (by decide +kernel)))) ((by rw [ei]; exact BG.1)))) ((by rw [ei, sizeLine_eq]; show 1 + (toString (i : Int) : Str).length <= _; omega))) (aG (c_ (aA s (33 + (0 + (i : Int)))) (kI E.Av) (jc (by decide +kernel)) (ai (ah (c_ ((s, 33 + (0 + (i : Int)))) (kI E.cO) (jc (by decide +kernel)) (ai (ah (v_ (f9 (i := 1) rfl (by decide +kernel)))) (ai (ah (dQ (ah aj) (ah (v_ (ef (i := 0) rfl (by decide +kernel)))))) aD)) (by dsimp only [bu]; exact (⟨by omega, by omega, hs⟩)) rfl)) aD) (trivial) rfl) di)) (aN rfl)) ?_⟩
   show T.sh _ = T.sh (BR (WW s (L3.D.int (0 + (i : Int))).uW.toNat))
   rw [et]
   unfold WW BR
   rw [ei]
   rfl
 case rest =>
 have em : ((bO 0 (nb : Int).toNat).filter fun _ => true).map (fun d => T.sh (BR (WW s d.uW.toNat))) = (((List.range nb).map (WW s)).map BR).map T.sh := by
   rw [iU]
   unfold bO
   rw [amI, amI, amI, amm]
   refine anH fun k _ => ?_
   show T.sh (BR (WW s (0 + (k : Int)).toNat)) = _
   rw [show (0 + (k : Int)).toNat = k by omega]
   rfl
 rw [em]
 generalize hB : (List.range nb).map (WW s) = bs
 have afg : ∀ q : Int, ((bO 0 (n : Int).toNat).filter fun _ => true).map (fun d => T.sh (.tup (gU s (q + 6 * d.uW) nb))) = (((List.range n).map fun (k : Nat) => L3.D.tup (gU s (q + 6 * (k : Int)) nb)).map T.sh) := fun q => by
   rw [iU]
   unfold bO
   rw [amI, amI, amm]
   refine anH fun k _ => ?_
   show T.sh (.tup (gU s (q + 6 * (0 + (k : Int))) nb)) = _
   rw [ani]
   rfl
 refine xC (p := fun _ => true) (gg := fun d => T.sh (.tup (gU s (100 + 6 * d.uW) nb))) E.g E.N3 (dF (.cons E.iL.1 (.inl E.N2) (.cons E.aF.1 (.inl E.qL) .nil)) (by decide +kernel)) (dO E.bT (aB E.gG) (by omega) E.bS) (.inr rfl) (fun C s0 H0 f0 b' d hd => ?abB) (amQ (bQ (by simp [bO]; omega))) ?afh (by exact amg rfl) (nL ⟨_, rfl⟩)
 case abB =>
   obtain ⟨i, hi, rfl⟩ := amJ.mp hd
   have Nj : i < n := by simpa using hi
   exact ⟨rfl, fun _ => c_ (s, 100 + 6 * (0 + (i : Int)), nb) (kI E.zv) (jc (by decide +kernel)) (ai (ah (v_ (f9 (i := 2) rfl (by decide +kernel)))) (ai (ah (dQ (ah aj) (ah (zS (ah aj) (ah (v_ (ef (i := 0) rfl (by decide +kernel)))) (.inl ⟨by decide, by decide⟩))))) (ai (ah (v_ (f9 (i := 1) rfl (by decide +kernel)))) aD))) (by dsimp only [iZ]; exact ⟨hs, by omega, by omega, by omega⟩) (show T.clean (.sh (.tup (gU _ _ _))) = true from (iY _ _ _))⟩
 case afh =>
 rw [afg 100]
 refine xC (p := fun _ => true) (gg := fun d => T.sh (.tup (gU s (103 + 6 * d.uW) nb))) E.g E.Eo (dF (.cons E.iL.1 (.inl E.N2) (.cons E.aF.1 (.inl E.qL) .nil)) (by decide +kernel)) (dO E.bT (aB E.gG) (by omega) E.bS) (.inr rfl) (fun C s0 H0 f0 b' d hd => ?abC) (amQ (bQ (by simp [bO]; omega))) ?afi (by exact amg rfl) (nL ⟨_, rfl⟩)
 case abC =>
   obtain ⟨i, hi, rfl⟩ := amJ.mp hd
   have Nj : i < n := by simpa using hi
   exact ⟨rfl, fun _ => c_ (s, 103 + 6 * (0 + (i : Int)), nb) (kI E.zv) (jc (by decide +kernel)) (ai (ah (v_ (f9 (i := 2) rfl (by decide +kernel)))) (ai (ah (dQ (ah aj) (ah (zS (ah aj) (ah (v_ (ef (i := 0) rfl (by decide +kernel)))) (.inl ⟨by decide, by decide⟩))))) (ai (ah (v_ (f9 (i := 1) rfl (by decide +kernel)))) aD))) (by dsimp only [iZ]; exact ⟨hs, by omega, by omega, by omega⟩) (show T.clean (.sh (.tup (gU _ _ _))) = true from (iY _ _ _))⟩
 case afi =>
 rw [afg 103]
 refine bD (Nq (DJ (bY (vM E.fJ.1) (bY (vFL E.aR.1 rfl) (bY (vM E.eL.1) (bY (vM E.nU.1) (bY (vM E.N3.1) (bY (vM E.Eo.1) (bY (aK (c_ (s, es, nb) E.abA E.Ij (ai (aB E.aF) (ai (aB E.aR) (ai (aB E.iL) aD))) (by dsimp only [qK]; exact ⟨hs, by omega, by omega, by omega⟩) (c7 (KQ s es nb))) (t2 := .lst (((vP s es nb).map cE).map T.sh)) rfl) cZ))))))) (aN rfl)) ?_) rfl
 rw [T.fS, T.fL, T.fL, T.fL, T.fL, T.fL, T.fL, T.fL, T.fL, cS, cS, cS, cS, cS, cS, T.fS]
 unfold eZ KS
 rw [aih]
theorem dH : jU (av zx) ([("script", .cell), ("most", ak), ("many", ak), ("elders", ak), ("kinds", ak), ("starts", ak), ("count", .cell), ("boxes", ak), ("ins", ak), ("outs", ak), ("_law_cell", az), ("max", az), ("_law_elders", az), ("_law_kinds", az), ("_law_chosen", az), ("range", az), ("_law_ways", az)]) = true := by decide +kernel
theorem Ik : aP ["script", "most", "many", "elders", "kinds", "starts", "count", "boxes", "ins", "outs"] ["script", "most"] (av zx) := aX
noncomputable def i6 (s : List Int) : Nat := if aA s 63 % 8 = 3 then 30 else 9
theorem W0 (s : List Int) : 1 <= i6 s /\ i6 s <= 30 := by unfold i6; split <;> omega
noncomputable abbrev Er : Stmt := top 56
noncomputable abbrev KW : Type := List Int
noncomputable def vS : KW -> List L3.D := fun s => [.lst (s.map .int)]
noncomputable def vU : KW -> Prop := fun s => s.length <= 1000
noncomputable def vV : KW -> T := fun s => (.sh (.int (i6 s : Nat)) : T)
structure abD (X : Cx) (CL : Str -> Addr) : Prop extends cA X where
 aF : Ln X 0 "script"
 aL : Gl X "_law_cell"
 cO : Fc X CL "_law_cell" 1 2 fG bu eY
theorem abE {X : Cx} {CL : Str -> Addr} {b : Bx} (E : abD X CL) (s) (h : vU s) :
   aC X CL b Er ["script"] (vS s) (vV s) := by
 dsimp only [aC, vU, vS, vV] at h ⊢
 refine d9 (dD (ah (bN (ah (c_ ((s, 63)) E.cO E.aL (ai (aB E.aF) (ai (ah aj) aD)) (by dsimp only [bu]; exact (⟨by omega, by omega, h⟩)) rfl)) (ah aj) (by decide))) (ah aj)).1 (fun hp => ?_) (fun hp => ao ?_)
 . have hp : aA s 63 % 8 = 3 := amx hp
   refine bD aj ?_
   unfold i6
   rw [amo hp]
   rfl
 . have hp : ¬ aA s 63 % 8 = 3 := amU hp
   refine bD aj ?_
   unfold i6
   rw [amk hp]
   rfl
theorem N4 : jU (av Er) ([("script", ak), ("_law_cell", az)]) = true := by decide +kernel
theorem N5 : aP ["script"] ["script"] (av Er) := aX
noncomputable abbrev mz : Stmt := inClass (top 7) 0
noncomputable abbrev qM : Type := List Str × List Int × List Int
noncomputable def tP : qM -> List L3.D := fun (ks, es, ss) => [.lst (ks.map .str), .lst (es.map .int), .lst (ss.map .int)]
noncomputable def tQ : qM -> Prop := fun (ks, es, ss) => True
noncomputable def tR : qM -> List (Str × T) := fun (ks, es, ss) => (qe ks es ss : List (Str × T))
structure Il (X : Cx) (CL : Str -> Addr) : Prop extends cA X where
 m8 : Ln X 0 "self"
 eL : Ln X 1 "kinds"
 aR : Ln X 2 "elders"
 nU : Ln X 3 "starts"
 cI : Gl X "list"
 cJ : X.mg "list" = none
 fj : tY X.K (CL "Tree")
 dI : bE X.K (CL "Tree") "kinds"
 eN : bE X.K (CL "Tree") "elders"
 m9 : bE X.K (CL "Tree") "starts"
theorem Im {X : Cx} {CL : Str -> Addr} {b : Bx} (E : Il X CL) (ks : List Str) (es ss : List Int) (y : Addr) (h : True) :
   iI X CL b (jH mz) (RH ["self", "kinds", "elders", "starts"] y "Tree" [.lst (ks.map .str), .lst (es.map .int), .lst (ss.map .int)]) { nx := fun δ => δ[0]? = some (some (.pin y (.ins "Tree" (qe ks es ss)))), rt := fun _ _ => False } := by
 have hi : D.bZ (ks.map L3.D.str) = true := jV (fun _ => rfl) _
 refine uY E.fj E.dI E.m8.1 (cV E.cJ (aB E.eL) hi E.cI bH) rfl (amg rfl) ?_
 rw [jd]
 refine uY E.fj E.eN E.m8.1 (cV E.cJ (aB E.aR) (b9 _) E.cI bH) rfl (amg rfl) ?_
 rw [cU (by decide +kernel), jd]
 refine uY E.fj E.m9 E.m8.1 (cV E.cJ (aB E.nU) (b9 _) E.cI bH) rfl (amg rfl) ?_
 rw [cU (by decide +kernel), cU (by decide +kernel), jd]
 exact ao rfl
theorem jg : jU (av mz) ([("self", ak), ("kinds", ak), ("elders", ak), ("starts", ak), ("list", az)]) = true := by decide +kernel
theorem vW : aP ["self", "kinds", "elders", "starts"] ["self", "kinds", "elders", "starts"] (av mz) := aX
noncomputable abbrev kM : Stmt := inClass (top 5) 0
noncomputable abbrev oS : Type := List L3.D × List L3.D × V × List L3.D × List L3.D × List L3.D
noncomputable def qN : oS -> List L3.D := fun (bs, nm, tv, is, os, ws) => [.lst bs, .lst nm, .val tv, .lst is, .lst os, .lst ws]
noncomputable def qO : oS -> Prop := fun (bs, nm, tv, is, os, ws) => D.bZ bs = true /\ D.bZ nm = true /\ D.bZ is = true /\ D.bZ os = true /\ D.bZ ws = true
noncomputable def qP : oS -> List (Str × T) := fun (bs, nm, tv, is, os, ws) => (kD bs nm (.sh (.val tv)) is os ws : List (Str × T))
structure Es (X : Cx) (CL : Str -> Addr) : Prop extends cA X where
 m8 : Ln X 0 "self"
 fJ : Ln X 1 "boxes"
 oQ : Ln X 2 "names"
 cK : Ln X 3 "tree"
 N3 : Ln X 4 "ins"
 Eo : Ln X 5 "outs"
 jx : Ln X 6 "ways"
 cI : Gl X "list"
 cJ : X.mg "list" = none
 cg : tY X.K (CL "Chart")
 B4 : bE X.K (CL "Chart") "boxes"
 B5 : bE X.K (CL "Chart") "names"
 cX : bE X.K (CL "Chart") "tree"
 qQ : bE X.K (CL "Chart") "ins"
 oU : bE X.K (CL "Chart") "outs"
 dJ : bE X.K (CL "Chart") "ways"
theorem Et {X : Cx} {CL : Str -> Addr} {b : Bx} (E : Es X CL) (bs nm : List L3.D) (tv : V) (is os ws : List L3.D) (y : Addr) (h : D.bZ bs = true /\ D.bZ nm = true /\ D.bZ is = true /\ D.bZ os = true /\ D.bZ ws = true) :
   iI X CL b (jH kM) (RH ["self", "boxes", "names", "tree", "ins", "outs", "ways"] y "Chart" [.lst bs, .lst nm, .val tv, .lst is, .lst os, .lst ws]) { nx := fun δ => δ[0]? = some (some (.pin y (.ins "Chart" (kD bs nm (.sh (.val tv)) is os ws)))), rt := fun _ _ => False } := by
 obtain ⟨h1, h2, h3, h4, h5⟩ := h
 refine uY E.cg E.B4 E.m8.1 (cV E.cJ (aB E.fJ) h1 E.cI bH) rfl (amg rfl) ?_
 rw [jd]
 refine uY E.cg E.B5 E.m8.1 (cV E.cJ (aB E.oQ) h2 E.cI bH) rfl (amg rfl) ?_
 rw [cU (by decide +kernel), jd]
 refine uY E.cg E.cX E.m8.1 (v_ E.cK.1) rfl (amg rfl) ?_
 rw [cU (by decide +kernel), cU (by decide +kernel), jd]
 refine uY E.cg E.qQ E.m8.1 (cV E.cJ (aB E.N3) h3 E.cI bH) rfl (amg rfl) ?_
 rw [cU (by decide +kernel), cU (by decide +kernel), cU (by decide +kernel), jd]
 refine uY E.cg E.oU E.m8.1 (cV E.cJ (aB E.Eo) h4 E.cI bH) rfl (amg rfl) ?_
 rw [cU (by decide +kernel), cU (by decide +kernel), cU (by decide +kernel), cU (by decide +kernel), jd]
 refine uY E.cg E.dJ E.m8.1 (cV E.cJ (aB E.jx) h5 E.cI bH) rfl (amg rfl) ?_
 rw [cU (by decide +kernel), cU (by decide +kernel), cU (by decide +kernel), cU (by decide +kernel), cU (by decide +kernel), jd]
 exact ao rfl
theorem eO : jU (av kM) ([("self", ak), ("boxes", ak), ("names", ak), ("tree", ak), ("ins", ak), ("outs", ak), ("ways", ak), ("list", az)]) = true := by decide +kernel
theorem tS : aP ["self", "boxes", "names", "tree", "ins", "outs", "ways"] ["self", "boxes", "names", "tree", "ins", "outs", "ways"] (av kM) := aX
noncomputable def nmM (k : Nat) : Str := ("m" : Str) ++ sI (k : Int)
noncomputable def yQ (n : Nat) : List Str := (List.range n).map nmM
theorem SV (k : Nat) (h : k <= 40) : (k : Int).natAbs.log2 < 1920 /\ (toString (k : Int) : Str).length <= 50 /\ PyData.strOk (toString (k : Int) : Str) = true := by
 have h2 : ((List.range 41).all fun k => decide ((k : Int).natAbs.log2 < 1920) && decide ((toString (k : Int) : Str).length <= 50) && PyData.strOk (toString (k : Int) : Str)) = true := by decide +kernel
 have := anw.mp h2 k (anP.mpr (by omega))
 simpa [Bool.and_eq_true, and_assoc] using this
noncomputable abbrev zy : Stmt := top 49
noncomputable abbrev Eu : Type := List L3.D × List Int × List Str × List Int × List L3.D × List L3.D × List L3.D
noncomputable def sy : Eu -> List L3.D := fun (bs, es, ks, ss, is, os, ws) => [eZ bs es ks ss is os ws]
noncomputable def sA : Eu -> Prop := fun (bs, es, ks, ss, is, os, ws) => D.bZ bs = true /\ D.bZ is = true /\ D.bZ os = true /\ D.bZ ws = true /\ es.length <= 40
noncomputable def sC : Eu -> T := fun (bs, es, ks, ss, is, os, ws) => (.ins "Chart" (kD bs ((yQ es.length).map .str) (.ins "Tree" (qe ks es ss)) is os ws) : T)
structure W2 (X : Cx) (CL : Str -> Addr) : Prop extends cA X where
 aM : Ln X 0 "parts"
 oQ : Ln X 1 "names"
 cK : Ln X 2 "tree"
 bS : Gl X "range"
 dm : Gl X "len"
 abF : Gl X "Tree"
 cI : Gl X "list"
 W3 : Gl X "Chart"
 bT : X.mg "range" = none
 dw : X.mg "len" = none
 abG : Fm X CL "Tree" 1 4 tP tQ tR
 cJ : X.mg "list" = none
 W4 : Fm X CL "Chart" 1 7 qN qO qP
 nR : X.mg "str" = none
theorem W5 {X : Cx} {CL : Str -> Addr} {b : Bx} (E : W2 X CL) (bs es ks ss is os ws) (h : sA (bs, es, ks, ss, is, os, ws)) :
   aC X CL b zy ["parts", "names", "tree"] (sy (bs, es, ks, ss, is, os, ws)) (sC (bs, es, ks, ss, is, os, ws)) := by
 dsimp only [aC, sA, sy, sC] at h ⊢
 obtain ⟨ib, ii, io, iw, hl⟩ := h
 refine xC (p := fun _ => true) (gg := fun d => T.sh (.str (nmM d.uW.toNat))) E.g E.oQ (dF .nil (by decide +kernel)) (dO E.bT (ah (dW (amc ..) E.dw (aW (aB E.aM) (ah aj) rfl) E.dm)) (by omega) E.bS) (.inr rfl) (fun C s0 H0 f0 b' d hd => ?D0) (amQ (bQ (by simp [bO]; omega))) ?rest (by exact amg rfl) (nL ⟨_, rfl⟩)
 case D0 =>
   obtain ⟨i, hi, rfl⟩ := amJ.mp hd
   have Nj : i < es.length := by simpa using hi
   obtain ⟨q1, q2, _⟩ := SV i (by omega)
   have ei : (0 + (i : Int)) = (i : Int) := ani _
   have et : (L3.D.int (0 + (i : Int))).uW.toNat = i := by show (0 + (i : Int)).toNat = i; omega
   refine ⟨rfl, fun _ => aK (t7 (ah bC) (ah (uZ E.nR (jc (by decide +kernel)) (ah (v_ (ef (i := 0) rfl (by decide +kernel)))) ((by rw [ei]; exact q1)))) ((by rw [ei, anq]; show 1 + (toString (i : Int) : Str).length <= _; omega))) ?_⟩
   show T.sh _ = T.sh (.str (nmM (L3.D.int (0 + (i : Int))).uW.toNat))
   rw [et]
   unfold nmM
   rw [ei]
   rfl
 case rest =>
 have em : ((bO 0 (es.length : Int).toNat).filter fun _ => true).map (fun d => T.sh (.str (nmM d.uW.toNat))) = ((yQ es.length).map L3.D.str).map T.sh := by
   rw [iU]
   unfold bO yQ
   rw [amI, amI, amI, amm]
   refine anH fun k _ => ?_
   show T.sh (.str (nmM (0 + (k : Int)).toNat)) = _
   rw [show (0 + (k : Int)).toNat = k by omega]
   rfl
 rw [em]
 refine aI E.g E.cK (aK (mk_ (ks, es, ss) E.abG E.abF (ai (cQ (cV E.cJ (aW (aB E.aM) (ah aj) rfl) (u6 _) E.cI bH)) (ai (cQ (cV E.cJ (aW (aB E.aM) (ah aj) rfl) (b9 _) E.cI bH)) (ai (cQ (cV E.cJ (aW (aB E.aM) (ah aj) rfl) (b9 _) E.cI bH)) aD))) trivial (yx ks es ss)) (t2 := .ins "Tree" (qe ks es ss)) rfl) ?_
 exact bD (mkP (f := "tree") (HF := xH bs ((yQ es.length).map .str)) (QB := xJ is os ws) (fun v => (bs, (yQ es.length).map .str, v, is, os, ws)) E.W4 E.W3
   (HG (cQ (cV E.cJ (aW (aB E.aM) (ah aj) rfl) ib E.cI bH)) (HG (vL E.oQ.1)
     (RW (vM E.cK.1)
       (ai (cQ (cV E.cJ (aW (aB E.aM) (ah aj) rfl) ii E.cI bH)) (ai (cQ (cV E.cJ (aW (aB E.aM) (ah aj) rfl) io E.cI bH)) (ai (cQ (cV E.cJ (aW (aB E.aM) (ah aj) rfl) iw E.cI bH)) aD))))))
   (fun v => rfl) (fun v => ⟨ib, u6 _, ii, io, iw⟩) (fun v => rfl) (D7 ib (u6 _)) (D8 ii io iw)) rfl
theorem j4 : jU (av zy) ([("parts", ak), ("names", ak), ("tree", ak), ("range", az), ("len", az), ("Tree", az), ("list", az), ("Chart", az)]) = true := by decide +kernel
theorem Io : aP ["parts", "names", "tree"] ["parts"] (av zy) := aX
noncomputable abbrev zA : Stmt := top 39
noncomputable abbrev Ew : Type := List Int × List Str × List Int
noncomputable def sE : Ew -> List L3.D := fun (es, ks, ch) => [.lst (es.map .int), .lst (ks.map .str), .lst (ch.map .int)]
noncomputable def nV : Ew -> Prop := fun (es, ks, ch) => es.length <= 900 /\ 0 < es.length /\ ks.length = es.length /\ ch.length = es.length /\ dM es
noncomputable def sF : Ew -> T := fun (es, ks, ch) => (.lst (((cD (aq ks) es ch (es.length - 1)).map .int).map T.sh) : T)
structure W6 (X : Cx) (CL : Str -> Addr) : Prop extends cA X where
 aR : Ln X 0 "elders"
 eL : Ln X 1 "kinds"
 jZ : Ln X 2 "chosen"
 b8 : Ln X 3 "opens"
 iW : Ln X 4 "k"
 bR : Ln X 5 "elder"
 bS : Gl X "range"
 dm : Gl X "len"
 bT : X.mg "range" = none
 dw : X.mg "len" = none
theorem W7 {X : Cx} {CL : Str -> Addr} {b : Bx} (E : W6 X CL) (es ks ch) (h : nV (es, ks, ch)) :
   aC X CL b zA ["elders", "kinds", "chosen", "opens", "k", "elder"] (sE (es, ks, ch)) (sF (es, ks, ch)) := by
 dsimp only [aC, nV, sE, sF] at h ⊢
 obtain ⟨hl, hl0, hk, hc, ht⟩ := h
 refine aI E.g E.b8 (gI (aG aj di) (aN rfl)) ?_
 refine d7 E.g E.iW (fun j δ => ∃ o o', δ = [some (.sh (.lst (es.map .int))), some (.sh (.lst (ks.map .str))), some (.sh (.lst (ch.map .int))), some (.lst (((cD (aq ks) es ch j).map .int).map T.sh)), o, o'])
   (CB E.bT (ah aj) (ah (dW (amc ..) E.dw (aB E.aR) E.dm)) (by omega) E.bS) ⟨_, _, rfl⟩ (fun j δ ⟨_, _, e⟩ => by subst e; exact amg rfl) ?turn ?fin
 case turn =>
   rintro j d δ hj ⟨o, o', rfl⟩
   obtain ⟨rfl, nG⟩ := fW hj
   have Zq := oB (isAll := aq ks) (es := es) (ch := ch) j
   have ej : (1 + (j : Int)).toNat = j + 1 := by omega
   have ejI : (1 + (j : Int)) = ((j + 1 : Nat) : Int) := by omega
   refine aI E.g E.bR (aK (cY (aO (aB E.aR) (aB E.iW) (ck (by omega) (by omega))) rfl) (congrArg (fun z => T.sh (.int (es.getD z 0))) ej)) ?_
   have ha := ht (j + 1) (by omega)
   show iI X CL b _ _ { nx := fun δ => ∃ o o', δ = [_, _, _, some (.lst (((cD (aq ks) es ch (j + 1)).map .int).map T.sh)), o, o'], rt := _, bk := _, ct := _ }
   rw [cD]
   generalize es.getD (j + 1) 0 = x at ha ⊢
   have hx0 : x ∈ cD (aq ks) es ch j -> 0 <= x := fun hx => (gJ j hx).1
   refine d9 (kH (ja (kJ (aB E.bR) (vL E.b8.1) (rfl) rfl).1 (fun hb => (g8 (kH (qp (iB (aO (aB E.eL) (aB E.bR) (c5 Str.empty (hx0 (amx hb)) (by omega))) (ah bC)).1 (fun hb2 => (mX (dD (aO (aB E.jZ) (aB E.bR) (ck (hx0 (amx hb)) (by omega))) (aB E.iW)).1)))))))) (fun hp => ?_) (fun hp => ao (ao ?_))
   . simp only [amD, an4, amY] at hp
     refine fD E.b8.1 rfl (v_ E.iW.1) rfl (by simp; omega) (ao (ao ?_))
     rw [amo ⟨hp.1, hp.2.elim (fun z => .inl (am8 z)) (fun z => .inr (by rw [z, ejI]))⟩]
     have e1 : ((cD (aq ks) es ch j).map L3.D.int).map T.sh ++ [T.sh (.int (1 + (j : Int)))] = ((cD (aq ks) es ch j ++ [((j + 1 : Nat) : Int)]).map L3.D.int).map T.sh := by
       rw [ejI]; simp
     rw [e1]
     exact ⟨_, _, rfl⟩
   . rw [amk (fun z => by
       have : (decide (x ∈ cD (aq ks) es ch j) && (decide (ks.getD x.toNat Str.empty = "all") || decide (ch.getD x.toNat 0 = 1 + (j : Int)))) = true := by
         simp only [amD, an4, amY]
         exact ⟨z.1, z.2.elim (fun z => .inl (amx z)) (fun z => .inr (by rw [z, ejI]))⟩
       rw [this] at hp
       cases hp)]
     exact ⟨_, _, rfl⟩
 case fin =>
   rintro δ ⟨o, o', rfl⟩
   have e : (bO 1 ((es.length : Int) - 1).toNat).length = es.length - 1 := by simp [bO]
   rw [e]
   exact bD (vM E.b8.1) rfl
theorem j5 : jU (av zA) ([("elders", ak), ("kinds", ak), ("chosen", ak), ("opens", ak), ("k", ak), ("elder", ak), ("range", az), ("len", az)]) = true := by decide +kernel
theorem Ip : aP ["elders", "kinds", "chosen", "opens", "k", "elder"] ["elders", "kinds", "chosen"] (av zA) := aX
noncomputable def PJ (s es : List Int) (ks : List Str) (base : Int) (k : Nat) : Int := if ks.getD k Str.empty = "one" then (-1 :: eU es k).getD (aA s (base + k) % ((-1 :: eU es k).length : Nat)).toNat 0 else -1
noncomputable def SW (s es : List Int) (ks : List Str) (base : Int) (n : Nat) : List Int := (List.range n).map (PJ s es ks base)
theorem N6 (s es : List Int) (ks : List Str) (base : Int) (n : Nat) : (SW s es ks base n).length = n := by simp [SW]
theorem abH (s es : List Int) (ks : List Str) (base : Int) : tN ks es (SW s es ks base es.length) := by
 refine ⟨N6 _ _ _ _ _, fun k hk _ => ?_⟩
 have e : (SW s es ks base es.length).getD k 0 = PJ s es ks base k := by
   unfold SW
   rw [amd, amT, anp hk]
   rfl
 rw [e]
 unfold PJ
 split
 . have c1 := amB (aA s (base + (k : Int))) (b := ((-1 :: eU es (k : Int)).length : Nat)) (by rw [amA]; omega)
   have c2 := amt (aA s (base + (k : Int))) (b := ((-1 :: eU es (k : Int)).length : Nat)) (by rw [amA]; omega)
   rw [amd, amq (by omega)]
   have := anD (l := -1 :: eU es (k : Int)) (n := (aA s (base + (k : Int)) % ((-1 :: eU es (k : Int)).length : Nat)).toNat) (by omega)
   exact amf.mp this
 . exact .inl rfl
noncomputable abbrev vX : Stmt := top 38
noncomputable abbrev AF : Type := List Int × List Int × List Str × Int
noncomputable def oV : AF -> List L3.D := fun (s, es, ks, base) => [.lst (s.map .int), .lst (es.map .int), .lst (ks.map .str), .int base]
noncomputable def lN : AF -> Prop := fun (s, es, ks, base) => es.length <= 900 /\ s.length <= 1000 /\ ks.length = es.length /\ 0 <= base /\ base <= 5000
noncomputable def oW : AF -> T := fun (s, es, ks, base) => (.lst (((SW s es ks base es.length).map .int).map T.sh) : T)
structure SX (X : Cx) (CL : Str -> Addr) : Prop extends cA X where
 aF : Ln X 0 "script"
 aR : Ln X 1 "elders"
 eL : Ln X 2 "kinds"
 KH : Ln X 3 "base"
 bw : Ln X 4 "memory"
 iW : Ln X 5 "k"
 gT : Ln X 6 "near"
 bS : Gl X "range"
 dm : Gl X "len"
 gn : Gl X "_law_inner"
 aL : Gl X "_law_cell"
 bT : X.mg "range" = none
 dw : X.mg "len" = none
 iS : Fc X CL "_law_inner" 1 2 gk dX fH
 cO : Fc X CL "_law_cell" 1 2 fG bu eY
theorem SY {X : Cx} {CL : Str -> Addr} {b : Bx} (E : SX X CL) (s es ks base) (h : lN (s, es, ks, base)) :
   aC X CL b vX ["script", "elders", "kinds", "base", "memory", "k", "near"] (oV (s, es, ks, base)) (oW (s, es, ks, base)) := by
 dsimp only [aC, lN, oV, oW] at h ⊢
 obtain ⟨hl, hs, hk, b0, b1⟩ := h
 refine aI E.g E.bw (dN cZ (amO _)) ?_
 refine d7 E.g E.iW (fun j δ => ∃ o o', δ = [some (.sh (.lst (s.map .int))), some (.sh (.lst (es.map .int))), some (.sh (.lst (ks.map .str))), some (.sh (.int base)), some (.lst (((SW s es ks base j).map .int).map T.sh)), o, o'])
   (dO E.bT (ah (dW (amc ..) E.dw (aB E.aR) E.dm)) (by omega) E.bS) ⟨_, _, rfl⟩ (fun j δ ⟨_, _, e⟩ => by subst e; exact amg rfl) ?turn ?fin
 case turn =>
   rintro j d δ hj ⟨o, o', rfl⟩
   obtain ⟨rfl, nG⟩ := fW hj
   rw [ani]
   have xF := N6 s es ks base j
   have hil := zc es (j : Int)
   have eK : ∀ x : Int, x = PJ s es ks base j -> ((SW s es ks base j).map L3.D.int).map T.sh ++ [T.sh (.int x)] = ((SW s es ks base (j + 1)).map L3.D.int).map T.sh := fun x e => by
     subst e
     simp [SW, ans]
   refine aI E.g E.gT (oq (ds := [.int (-1)]) (Np := (eU es (j : Int)).map .int) (cQ (ds := [.int (-1)]) (dN (bY (eH (ah aj)) cZ) (aN rfl))) (cQ (c_ ((es, (j : Int))) E.iS E.gn (ai (aB E.aR) (ai (aB E.iW) aD)) ((by dsimp only [dX]; omega)) (aT _))) rfl (b9 _) (Nat.le_of_lt (bQ (by simp; omega)))) ?_
   have er : ([L3.D.int (-1)] ++ (eU es (j : Int)).map L3.D.int) = ((-1) :: eU es j).map L3.D.int := rfl
   rw [er]
   have yw : (((-1) :: eU es (j : Int)).map L3.D.int).length = ((-1) :: eU es (j : Int)).length := by rw [amc]
   have afa : 0 < ((-1) :: eU es (j : Int)).length := by simp
   refine d9 (iB (aO (aB E.eL) (aB E.iW) (c5 Str.empty (by omega) (by omega))) (ah bC)).1 (fun hp => ?_) (fun hp => ?_)
   . have e : ks.getD j Str.empty = "one" := amx hp
     have c1 := amB (aA s (base + (j : Int))) (b := (((-1) :: eU es (j : Int)).length : Nat)) (by omega)
     have c2 := amt (aA s (base + (j : Int))) (b := (((-1) :: eU es (j : Int)).length : Nat)) (by omega)
     refine fD E.bw.1 rfl (cY (aO (vL E.gT.1) (ah (bN (ah (c_ ((s, base + (j : Int))) E.cO E.aL (ai (aB E.aF) (ai (ah (dQ (aB E.KH) (aB E.iW))) aD)) (by dsimp only [bu]; exact (⟨by omega, by omega, by omega⟩)) rfl)) (ah (dW (yw) E.dw (vL E.gT.1) E.dm)) (by omega))) (ck c1 c2)) rfl) rfl (by simp; omega) (ao (ao ?_))
     rw [eK _ (by unfold PJ; rw [amo e])]
     exact ⟨_, _, rfl⟩
   . have e : ¬ ks.getD j Str.empty = "one" := amU hp
     refine fD E.bw.1 rfl (eH (ah aj)) rfl (by simp; omega) (ao (ao ?_))
     rw [eK _ (by unfold PJ; rw [amk e])]
     exact ⟨_, _, rfl⟩
 case fin =>
   rintro δ ⟨o, o', rfl⟩
   have e : (bO 0 (es.length : Int).toNat).length = es.length := by simp [bO]
   rw [e]
   exact bD (vM E.bw.1) rfl
theorem fY : jU (av vX) ([("script", ak), ("elders", ak), ("kinds", ak), ("base", ak), ("memory", ak), ("k", ak), ("near", ak), ("range", az), ("len", az), ("_law_inner", az), ("_law_cell", az)]) = true := by decide +kernel
theorem Dh : aP ["script", "elders", "kinds", "base", "memory", "k", "near"] ["script", "elders", "kinds", "base"] (av vX) := aX
noncomputable def KY (s : List Int) (t : List Int) (k : Nat) : List Int := t.set (k % 8) (t.getD (k % 8) 0 + s.getD k 0)
noncomputable def QG (s : List Int) (j : Nat) : List Int := (List.range j).foldl (KY s) (List.replicate (min s.length 8) 0)
theorem Ex (s : List Int) : ∀ j, (QG s j).length = min s.length 8
 | 0 => by simp [QG]
 | j + 1 => by
   have := Ex s j
   unfold QG at this ⊢
   rw [ans, an8]
   exact (anU ..).trans this
theorem S6 (s : List Int) (j : Nat) : QG s (j + 1) = KY s (QG s j) j := by
 unfold QG
 rw [ans, an8]
 rfl
noncomputable def oX (s : List Int) (n : Nat) : List Int := if n < 10 then s else QG s s.length
theorem KZ (s : List Int) (n : Nat) : (oX s n).length <= s.length := by
 unfold oX
 split
 . exact amu _
 . rw [Ex]; omega
noncomputable abbrev zB : Stmt := top 57
noncomputable abbrev Ey : Type := List Int × Nat
noncomputable def sG : Ey -> List L3.D := fun (s, n) => [.lst (s.map .int), .int n]
noncomputable def sH : Ey -> Prop := fun (s, n) => s.length <= 1000
noncomputable def sJ : Ey -> T := fun (s, n) => (.lst (((oX s n).map .int).map T.sh) : T)
structure W8 (X : Cx) (CL : Str -> Addr) : Prop extends cA X where
 aF : Ln X 0 "script"
 gG : Ln X 1 "many"
 iW : Ln X 2 "k"
 sL : Ln X 3 "turns"
 cI : Gl X "list"
 bS : Gl X "range"
 afj : Gl X "min"
 dm : Gl X "len"
 cJ : X.mg "list" = none
 bT : X.mg "range" = none
 afk : X.mg "min" = none
 dw : X.mg "len" = none
theorem W9 {X : Cx} {CL : Str -> Addr} {b : Bx} (E : W8 X CL) (s n) (h : sH (s, n)) :
   aC X CL b zB ["script", "many", "k", "turns"] (sG (s, n)) (sJ (s, n)) := by
 dsimp only [aC, sH, sG, sJ] at h ⊢
 refine d9 (aeD (aB E.gG) (ah aj)).1 (fun hp => ?_) (fun hp => ao ?_)
 . have hp := amx hp
   refine bD (cV E.cJ (aB E.aF) (b9 _) E.cI bH) ?_
   unfold oX
   rw [amo (by omega)]
 have hp := amU hp
 show iI X CL b _ _ { nx := _, rt := fun v__ _ => v__ = T.lst (((oX s n).map .int).map T.sh), bk := _, ct := _ }
 rw [show oX s n = QG s s.length by unfold oX; rw [amk (by omega)]]
 have aij : (if (8 : Int) < ((s.length : Nat) : Int) then (8 : Int) else ((s.length : Nat) : Int)) = ((min s.length 8 : Nat) : Int) := by split <;> omega
 refine xC (p := fun _ => true) (gg := fun _ => T.sh (.int 0)) E.g E.sL (dF .nil (by decide +kernel)) (dO E.bT (CG (ah (Wa E.g E.afk E.afj (ai (ah (dW (amc ..) E.dw (aB E.aF) E.dm)) (ai (ah aj) aD)))) (congrArg L3.D.int aij)) (by omega) E.bS) (.inr rfl) (fun C s0 H0 f0 b' d hd => ⟨rfl, fun _ => aj⟩) (amQ (bQ (by simp [bO]; omega))) ?rest (by exact amg rfl) (nL ⟨_, rfl⟩)
 have em : ((bO 0 ((min s.length 8 : Nat) : Int).toNat).filter fun _ => true).map (fun _ => T.sh (.int 0)) = ((QG s 0).map L3.D.int).map T.sh := by
   rw [iU]
   unfold bO QG
   rw [amI, amm]
   show List.map _ _ = ((List.replicate (min s.length 8) (0 : Int)).map L3.D.int).map T.sh
   rw [List.map_replicate, List.map_replicate, List.eq_replicate_iff]
   refine ⟨by simp, fun x hx => ?_⟩
   obtain ⟨k, _, rfl⟩ := amJ.mp hx
   rfl
 rw [em]
 refine d7 E.g E.iW (fun j δ => ∃ o, δ = [some (.sh (.lst (s.map .int))), some (.sh (.int n)), o, some (.lst (((QG s j).map .int).map T.sh))])
   (dO E.bT (ah (dW (amc ..) E.dw (aB E.aF) E.dm)) (by omega) E.bS) ⟨_, rfl⟩ (fun j δ ⟨_, e⟩ => by subst e; exact amg rfl) ?turn ?fin
 case turn =>
   rintro j d δ hj ⟨o, rfl⟩
   obtain ⟨rfl, nG⟩ := fW hj
   rw [ani]
   have hjs : j < s.length := by omega
   have hl := Ex s j
   have k0 : ((j : Int) % 8).toNat = j % 8 := by omega
   have k1 : j % 8 < min s.length 8 := by omega
   refine RB E.sL.1 (aK (dQ (aO (vL E.sL.1) (ah (bN (aB E.iW) (ah aj) (by decide))) (ck (by omega) (by omega))) (aO (aB E.aF) (aB E.iW) (ck (by omega) (by omega)))) (t2 := .sh (.int ((QG s j).getD (j % 8) 0 + s.getD j 0))) (by rw [k0]; rfl)) (ah (bN (aB E.iW) (ah aj) (by decide))) rfl (Kc (by omega) (by rw [amc, amc]; omega)) (ao ⟨some (.sh (.int j)), ?_⟩)
   rw [k0, S6]
   unfold KY
   rw [aoo, aoo]
   rfl
 case fin =>
   rintro δ ⟨o, rfl⟩
   have e : (bO 0 (s.length : Int).toNat).length = s.length := by simp [bO]
   rw [e]
   exact bD (vM E.sL.1) rfl
theorem j6 : jU (av zB) ([("script", ak), ("many", ak), ("k", ak), ("turns", ak), ("list", az), ("range", az), ("min", az), ("len", az)]) = true := by decide +kernel
theorem Iq : aP ["script", "many", "k", "turns"] ["script", "many"] (av zB) := aX
noncomputable abbrev mC : Stmt := top 40
noncomputable abbrev qR : Type := List Int × Int × Int
noncomputable def fM : qR -> List L3.D := fun (es, m, u) => [.lst (es.map .int), .int m, .int u]
noncomputable def cM : qR -> Prop := fun (es, m, u) => dM es /\ 0 <= m /\ m < es.length /\ -1 <= u
noncomputable def fN : qR -> T := fun (es, m, u) => (.sh (.bl (decide (u = -1) || decide (u ∈ aY es m))) : T)
structure Ir (X : Cx) (CL : Str -> Addr) : Prop extends cA X where
 aR : Ln X 0 "elders"
 bf : Ln X 1 "mood"
 gq : Ln X 2 "upper"
 eu : Ln X 3 "at"
theorem Iu {X : Cx} {CL : Str -> Addr} {b : Bx} (E : Ir X CL) (es m u) (h : cM (es, m, u)) :
   aC X CL b mC ["elders", "mood", "upper", "at"] (fM (es, m, u)) (fN (es, m, u)) := by
 dsimp only [aC, cM, fM, fN] at h ⊢
 obtain ⟨ht, h0, h1, hu⟩ := h
 have hm := ht.at h0 h1
 refine aI E.g E.eu (cY (aO (aB E.aR) (aB E.bf) (ck (by omega) (by omega))) rfl) ?_
 refine za E.g (fun n δ => ∃ k : Int, δ = [some (.sh (.lst (es.map .int))), some (.sh (.int m)), some (.sh (.int u)), some (.sh (.int k))] /\ -1 <= k /\ k < es.length /\ k < n /\ ((u = -1 \/ u ∈ aY es m) ↔ (u = -1 \/ u = k \/ (0 <= k /\ u ∈ aY es k)))) (es.length + 1)
   ⟨es.getD m.toNat 0, rfl, hm.1, by omega, by omega, ?i0⟩ ?_
 case i0 =>
   have e := c6 ht h0 h1
   generalize es.getD m.toNat 0 = k at hm e
   rw [e]
   by_cases hk : k = -1
   . rw [amo hk]
     constructor
     . rintro (z | z)
       . exact .inl z
       . cases z
     . rintro (z | z | ⟨z, _⟩)
       . exact .inl z
       . exact .inl (z.trans hk)
       . omega
   . rw [amk hk, amf]
     constructor
     . rintro (z | z | z)
       . exact .inl z
       . exact .inr (.inl z)
       . exact .inr (.inr ⟨by omega, z⟩)
     . rintro (z | z | ⟨_, z⟩)
       . exact .inl z
       . exact .inr (.inl z)
       . exact .inr (.inr z)
 rintro n δ ⟨k, rfl, k0, k1, k2, k3⟩
 refine ⟨_, _, (Hs (aB E.eu) (aB E.gq)).1, fun hp => ?_, fun hp => ?_⟩
 . have hk : u < k := amx hp
   have ha := ht.at (k := k) (by omega) k1
   cases n with
   | zero => omega
   | succ n =>
     refine aI E.g E.eu (cY (aO (aB E.aR) (aB E.eu) (ck (by omega) (by omega))) rfl) (ao ⟨n, aoc _, es.getD k.toNat 0, rfl, ha.1, by omega, by omega, ?_⟩)
     rw [k3]
     have e := c6 ht (m := k) (by omega) k1
     generalize es.getD k.toNat 0 = q at ha e
     rw [e]
     by_cases hq : q = -1
     . rw [amo hq]
       constructor
       . rintro (z | z | ⟨_, z⟩)
         . exact .inl z
         . omega
         . cases z
       . rintro (z | z | ⟨z, _⟩)
         . exact .inl z
         . exact .inl (z.trans hq)
         . omega
     . rw [amk hq, amf]
       constructor
       . rintro (z | z | ⟨_, z | z⟩)
         . exact .inl z
         . omega
         . exact .inr (.inl z)
         . exact .inr (.inr ⟨by omega, z⟩)
       . rintro (z | z | ⟨_, z⟩)
         . exact .inl z
         . exact .inr (.inr ⟨by omega, .inl z⟩)
         . exact .inr (.inr ⟨by omega, .inr z⟩)
 . have hk : ¬ u < k := amU hp
   refine bD (dD (aB E.eu) (aB E.gq)).2 ?_
   show T.sh (.bl _) = T.sh (.bl _)
   congr 2
   rw [← Bool.decide_or, decide_eq_decide, k3]
   constructor
   . intro z; exact .inr (.inl z.symm)
   . rintro (z | z | ⟨z0, z⟩)
     . omega
     . exact z.symm
     . have := aZ ht (m := k) z0 k1 z
       omega
theorem kN : jU (av mC) ([("elders", ak), ("mood", ak), ("upper", ak), ("at", ak)]) = true := by decide +kernel
theorem vY : aP ["elders", "mood", "upper", "at"] ["elders", "mood", "upper"] (av mC) := aX
noncomputable def upL (es : List Int) (k : Int) : List Int := if k = -1 then [] else k :: aY es k
noncomputable abbrev vZ : Stmt := top 51
noncomputable abbrev AG : Type := List L3.D × List Int × List Str × List Int × List L3.D × List L3.D × List cR × Int
noncomputable def jz : AG -> List L3.D := fun (bs, es, ks, ss, is, os, ws, i) => [eZ bs es ks ss is os (ws.map cE), .int i]
noncomputable def fO : AG -> Prop := fun (bs, es, ks, ss, is, os, ws, i) => dM es /\ ks.length = es.length /\ (0 <= i /\ i < ws.length) /\ (0 <= (cW ws i).src /\ (cW ws i).src < es.length) /\ 0 <= (cW ws i).tgt /\ (cW ws i).tgt < es.length
noncomputable def jA : AG -> T := fun (bs, es, ks, ss, is, os, ws, i) => (.sh (.int (eV ks es (cW ws i))) : T)
structure S7 (X : Cx) (CL : Str -> Addr) : Prop extends cA X where
 aM : Ln X 0 "parts"
 bA : Ln X 1 "number"
 fK : Ln X 2 "way"
 eu : Ln X 3 "at"
 gE : Gl X "_law_within"
 f6 : Fc X CL "_law_within" 1 3 fM cM fN
theorem S8 {X : Cx} {CL : Str -> Addr} {b : Bx} (E : S7 X CL) (bs es ks ss is os ws i) (h : fO (bs, es, ks, ss, is, os, ws, i)) :
   aC X CL b vZ ["parts", "number", "way", "at"] (jz (bs, es, ks, ss, is, os, ws, i)) (jA (bs, es, ks, ss, is, os, ws, i)) := by
 dsimp only [aC, fO, jz, jA] at h ⊢
 obtain ⟨ht, hk, ⟨i0, i1⟩, ⟨s0, s1⟩, t0, t1⟩ := h
 refine aI E.g E.fK (aK (DL (zV (v_ E.aM.1) (ah aj) rfl) (aB E.bA) (c5 (f := cE) w0 i0 i1)) (t2 := .sh (cE (cW ws i))) rfl) ?_
 generalize cW ws i = w at s0 s1 t0 t1 ⊢
 have hm := ht.at s0 s1
 refine aI E.g E.eu (aK (cY (aO (aW (aB E.aM) (ah aj) rfl) (aW (aB E.fK) (ah aj) (cy (j := 0) rfl)) (ck s0 s1)) rfl) (t2 := .sh (.int (es.getD w.src.toNat 0))) rfl) ?_
 refine za E.g (fun n δ => ∃ k : Int, δ = [some (.sh (eZ bs es ks ss is os (ws.map cE))), some (.sh (.int i)), some (.sh (cE w)), some (.sh (.int k))] /\ -1 <= k /\ k < es.length /\ k < n /\ eV ks es w = ((upL es k).find? (fun x => aS ks x && decide (x ∈ aY es w.tgt))).getD (-1)) (es.length + 1)
   ⟨es.getD w.src.toNat 0, rfl, hm.1, by omega, by omega, ?i0⟩ ?_
 case i0 =>
   unfold eV DW
   rw [c6 ht s0 s1]
   rfl
 rintro n δ ⟨k, rfl, k0, k1, k2, k3⟩
 by_cases hk1 : k = -1
 . subst hk1
   refine ⟨_, _, kH (ja (q := false) (kC (aB E.eu) (ah (eH (ah aj)))).1 (fun hq => by simp at hq)), fun hp => by simp at hp, fun _ => ?_⟩
   refine bD (v_ E.eu.1) ?_
   rw [k3]
   rfl
 . have ha := ht.at (k := k) (by omega) k1
   refine ⟨_, _, kH (ja (kC (aB E.eu) (ah (eH (ah aj)))).1 (fun _ => g8 (xq (kH (ja (iB (aO (aW (aB E.aM) (ah aj) rfl) (aB E.eu) (c5 Str.empty (by omega) (by omega))) (ah bC)).1 (fun _ => g8 (fZ (aK (c_ (es, w.tgt, k) E.f6 E.gE (ai (aW (aB E.aM) (ah aj) rfl) (ai (aW (aB E.fK) (ah aj) (cy (j := 4) rfl)) (ai (aB E.eu) aD))) (by dsimp only [cM]; exact ⟨ht, t0, t1, by omega⟩) rfl) (t2 := .sh (.bl (decide (k = -1) || decide (k ∈ aY es w.tgt)))) rfl)))))))), fun hp => ?_, fun hp => ?_⟩
   . have hp : ((!decide (k = -1)) && !(aS ks k && (decide (k = -1) || decide (k ∈ aY es w.tgt)))) = true := hp
     rw [amN hk1, aoz, Bool.not_false, aoi, anl] at hp
     cases n with
     | zero => omega
     | succ n =>
       refine aI E.g E.eu (aK (cY (aO (aW (aB E.aM) (ah aj) rfl) (aB E.eu) (ck (by omega) k1)) rfl) (t2 := .sh (.int (es.getD k.toNat 0))) rfl) (ao ⟨n, aoc _, es.getD k.toNat 0, rfl, ha.1, by omega, by omega, ?_⟩)
       rw [k3]
       unfold upL
       rw [amk hk1, List.find?_cons, hp, c6 ht (by omega) k1]
   . have hp : ((!decide (k = -1)) && !(aS ks k && (decide (k = -1) || decide (k ∈ aY es w.tgt)))) = false := hp
     rw [amN hk1, aoz, Bool.not_false, aoi, aon] at hp
     refine bD (v_ E.eu.1) ?_
     rw [k3]
     unfold upL
     rw [amk hk1, List.find?_cons, hp]
     rfl
theorem nW : jU (av vZ) ([("parts", ak), ("number", ak), ("way", ak), ("at", ak), ("_law_within", az)]) = true := by decide +kernel
theorem Di : aP ["parts", "number", "way", "at"] ["parts", "number"] (av vZ) := aX
noncomputable def PL (es : List Int) (u v : Int) : Bool := !(decide (u = v) || (decide (u = -1) || decide (v = -1))) && !((decide (v = -1) || decide (v ∈ aY es u)) || (decide (u = -1) || decide (u ∈ aY es v)))
theorem Xa {es : List Int} {u v : Int} : PL es u v = true ↔ Ap es u v := by
 unfold PL Ap
 simp only [amD, anl, anM, ana]
 constructor
 . rintro ⟨⟨a, b, c⟩, ⟨_, d⟩, _, e⟩
   exact ⟨b, c, a, e, d⟩
 . rintro ⟨b, c, a, e, d⟩
   exact ⟨⟨a, b, c⟩, ⟨c, d⟩, b, e⟩
noncomputable def AH (ks : List Str) (es : List Int) (ws : List cR) (so : List Int) (i : Int) : Bool := !gP ws i || so.all fun j => !gP ws j || PL es (eV ks es (cW ws i)) (eV ks es (cW ws j))
theorem S9 {α : Type} {p : α -> Bool} {l : List α} (h : ∀ (j : Nat) (x : α), l[j]? = some x -> p x = true) : l.all p = true := anw.mpr fun x hx => by
 obtain ⟨j, hj, e⟩ := List.getElem_of_mem hx
 exact h j x (by rw [amq hj, e])
theorem Xb {α : Type} {p : α -> Bool} {l : List α} {j : Nat} {x : α} (h : l[j]? = some x) (hx : p x = false) : l.all p = false := List.all_eq_false.mpr ⟨x, anv h, by rw [hx]; decide⟩
noncomputable abbrev Ez : Stmt := top 52
noncomputable abbrev K0 : Type := List L3.D × List Int × List Str × List Int × List L3.D × List L3.D × List cR × List Int × Int
noncomputable def v5 : K0 -> List L3.D := fun (bs, es, ks, ss, is, os, ws, so, i) => [eZ bs es ks ss is os (ws.map cE), .lst (so.map .int), .int i]
noncomputable def qS : K0 -> Prop := fun (bs, es, ks, ss, is, os, ws, so, i) => dM es /\ ks.length = es.length /\ (∀ w ∈ ws, Zi es.length w) /\ (0 <= i /\ i < ws.length) /\ ∀ j ∈ so, 0 <= j /\ j < ws.length
noncomputable def v7 : K0 -> T := fun (bs, es, ks, ss, is, os, ws, so, i) => (.sh (.bl (AH ks es ws so i)) : T)
structure abI (X : Cx) (CL : Str -> Addr) : Prop extends cA X where
 aM : Ln X 0 "parts"
 iD : Ln X 1 "some"
 bA : Ln X 2 "number"
 eu : Ln X 3 "at"
 mF : Ln X 4 "other"
 gT : Ln X 5 "near"
 jB : Gl X "_law_top"
 gE : Gl X "_law_within"
 nX : Fc X CL "_law_top" 2 2 jz fO jA
 f6 : Fc X CL "_law_within" 1 3 fM cM fN
theorem abJ {X : Cx} {CL : Str -> Addr} {b : Bx} (E : abI X CL) (bs es ks ss is os ws so i) (h : qS (bs, es, ks, ss, is, os, ws, so, i)) :
   aC X CL b Ez ["parts", "some", "number", "at", "other", "near"] (v5 (bs, es, ks, ss, is, os, ws, so, i)) (v7 (bs, es, ks, ss, is, os, ws, so, i)) := by
 dsimp only [aC, qS, v5, v7] at h ⊢
 obtain ⟨ht, hk, hw, ⟨i0, i1⟩, hs⟩ := h
 have afl : ∀ j : Int, (0 <= j /\ j < ws.length) -> gP ws j = true -> 0 <= (cW ws j).tgt /\ (cW ws j).tgt < es.length := fun j hj hT => by
   have := (hw _ (mh hj.1 hj.2)).2.1
   unfold gP at hT
   rcases this with z | z
   . rw [z] at hT
     simp at hT
   . exact z
 have afm : ∀ j : Int, (0 <= j /\ j < ws.length) -> gP ws j = true -> -1 <= eV ks es (cW ws j) /\ eV ks es (cW ws j) < es.length := fun j hj hT => by
   have win := hw _ (mh hj.1 hj.2)
   rcases DX (bB := aS ks) (b := (cW ws j).tgt) ht win.1.1 win.1.2 with z | z
   . unfold eV
     rw [z.1]
     omega
   . have := aZ ht win.1.1 win.1.2 z.1
     unfold eV
     omega
 refine d9 (dD (aW (aO (aW (aB E.aM) (ah aj) rfl) (aB E.bA) (c5 (f := cE) w0 i0 i1)) (ah aj) (cy (j := 4) rfl)) (ah (eH (ah aj)))).1 (fun hp => ?_) (fun hp => ao ?_)
 . have hp : (cW ws i).tgt = -1 := amx hp
   refine bD lB ?_
   unfold AH gP
   rw [hp]
   rfl
 have hp : ¬ (cW ws i).tgt = -1 := amU hp
 have hTi : gP ws i = true := by
   unfold gP
   rw [amN hp]
   rfl
 have bi := afl i ⟨i0, i1⟩ hTi
 have ti := afm i ⟨i0, i1⟩ hTi
 have hre : AH ks es ws so i = so.all fun j => !gP ws j || PL es (eV ks es (cW ws i)) (eV ks es (cW ws j)) := by
   unfold AH
   rw [hTi]
   rfl
 rw [hre]
 refine aI E.g E.eu (aK (c_ (bs, es, ks, ss, is, os, ws, i) E.nX E.jB (ai (aB E.aM) (ai (aB E.bA) aD)) (by dsimp only [fO]; exact ⟨ht, hk, ⟨i0, i1⟩, (hw _ (mh i0 i1)).1, bi⟩) rfl) (t2 := .sh (.int (eV ks es (cW ws i)))) rfl) ?_
 generalize eV ks es (cW ws i) = u at ti ⊢
 refine d7 E.g E.mF (fun j δ => (∀ (q : Nat) (x : Int), q < j -> so[q]? = some x -> (!gP ws x || PL es u (eV ks es (cW ws x))) = true) /\ ∃ o4 o5, δ = [some (.sh (eZ bs es ks ss is os (ws.map cE))), some (.sh (.lst (so.map .int))), some (.sh (.int i)), some (.sh (.int u)), o4, o5])
   (dR (v_ E.iD.1)) ⟨fun q x hq => by omega, _, _, rfl⟩ (fun j δ ⟨_, _, _, e⟩ => by subst e; exact amg rfl) ?turn ?fin
 case turn =>
   rintro j d δ hj ⟨Tc, o4, o5, rfl⟩
   obtain ⟨x, rfl, hx, ua, nG, _, _⟩ := gi hj
   have Td := hs x ua
   have step : ∀ {δ : List (Option T)}, (!gP ws x || PL es u (eV ks es (cW ws x))) = true -> (∃ o4 o5, δ = [some (.sh (eZ bs es ks ss is os (ws.map cE))), some (.sh (.lst (so.map .int))), some (.sh (.int i)), some (.sh (.int u)), o4, o5]) -> ((∀ (q : Nat) (x : Int), q < j + 1 -> so[q]? = some x -> (!gP ws x || PL es u (eV ks es (cW ws x))) = true) /\ ∃ o4 o5, δ = [some (.sh (eZ bs es ks ss is os (ws.map cE))), some (.sh (.lst (so.map .int))), some (.sh (.int i)), some (.sh (.int u)), o4, o5]) := fun h1 h2 => ⟨fun q y hq hy => by
     by_cases e : q = j
     . subst e
       rw [hx] at hy
       cases hy
       exact h1
     . exact Tc q y (by omega) hy, h2⟩
   refine d9 (kC (aW (aO (aW (aB E.aM) (ah aj) rfl) (aB E.mF) (c5 (f := cE) w0 Td.1 Td.2)) (ah aj) (cy (j := 4) rfl)) (ah (eH (ah aj)))).1 (fun hp => ?_) (fun hp => ao (ao ?_))
   . have hTx : gP ws x = true := hp
     have bx := afl x Td hTx
     have tx := afm x Td hTx
     refine aI E.g E.gT (aK (c_ (bs, es, ks, ss, is, os, ws, x) E.nX E.jB (ai (aB E.aM) (ai (aB E.mF) aD)) (by dsimp only [fO]; exact ⟨ht, hk, Td, (hw _ (mh Td.1 Td.2)).1, bx⟩) rfl) (t2 := .sh (.int (eV ks es (cW ws x)))) rfl) ?_
     generalize hv : eV ks es (cW ws x) = v at tx step ⊢
     have bad : PL es u v = false -> so.all (fun j => !gP ws j || PL es u (eV ks es (cW ws j))) = false := fun e => Xb hx (by rw [hTx, hv, e]; rfl)
     refine d9 (kH (qp (dD (aB E.eu) (aB E.gT)).1 (fun hb => (qp (dD (aB E.eu) (ah (eH (ah aj)))).1 (fun hb2 => (mX (dD (aB E.gT) (ah (eH (ah aj)))).1)))))) (fun hq => ?_) (fun hq => ao ?_)
     . refine bD lB ?_
       rw [bad (by unfold PL; rw [hq]; rfl)]
     . have Qx : (decide (u = v) || (decide (u = -1) || decide (v = -1))) = false := hq
       simp only [anM, ana] at hq
       refine d9 (kH (qp (fZ (aK (c_ (es, u, v) E.f6 E.gE (ai (aW (aB E.aM) (ah aj) rfl) (ai (aB E.eu) (ai (aB E.gT) aD))) (by dsimp only [cM]; exact ⟨ht, by omega, by omega, by omega⟩) rfl) (t2 := .sh (.bl (decide (v = -1) || decide (v ∈ aY es u)))) rfl)) (fun _ => mX (fZ (aK (c_ (es, v, u) E.f6 E.gE (ai (aW (aB E.aM) (ah aj) rfl) (ai (aB E.gT) (ai (aB E.eu) aD))) (by dsimp only [cM]; exact ⟨ht, by omega, by omega, by omega⟩) rfl) (t2 := .sh (.bl (decide (u = -1) || decide (u ∈ aY es v)))) rfl))))) (fun hr => ?_) (fun hr => ao (ao (ao ?_)))
       . refine bD lB ?_
         rw [bad (by unfold PL; rw [hr, Bool.not_true, aoq])]
       . refine step ?_ ⟨_, _, rfl⟩
         unfold PL
         rw [Qx, hr]
         simp
   . have hTx : gP ws x = false := hp
     exact step (by rw [hTx]; rfl) ⟨_, _, rfl⟩
 case fin =>
   rintro δ ⟨Tc, o4, o5, rfl⟩
   refine bD lB ?_
   rw [S9 fun q x hx => Tc q x (by rw [amc]; exact (amH.mp hx).1) hx]
theorem mG : jU (av Ez) ([("parts", ak), ("some", ak), ("number", ak), ("at", ak), ("other", ak), ("near", ak), ("_law_top", az), ("_law_within", az)]) = true := by decide +kernel
theorem N7 : aP ["parts", "some", "number", "at", "other", "near"] ["parts", "some", "number"] (av Ez) := aX
noncomputable def Te (ws : List cR) (c : Int) (k : Nat) : Int := (c + (k : Int)) % (ws.length : Nat)
noncomputable def EA (ks : List Str) (es : List Int) (ws : List cR) (ops : List Int) (c : Int) (acc : List Int) (k : Nat) : List Int := if ((cW ws (Te ws c k)).src ∈ ops /\ ¬ c / (7 + Te ws c k) % 5 = 1) /\ AH ks es ws acc (Te ws c k) = true then acc ++ [Te ws c k] else acc
noncomputable def Iv (ks : List Str) (es : List Int) (ws : List cR) (ops : List Int) (c : Int) (j : Nat) : List Int := (List.range j).foldl (EA ks es ws ops c) []
theorem Iw (ks : List Str) (es : List Int) (ws : List cR) (ops : List Int) (c : Int) (j : Nat) : Iv ks es ws ops c (j + 1) = EA ks es ws ops c (Iv ks es ws ops c j) j := by
 unfold Iv
 rw [ans, an8]
 rfl
theorem EB (ws : List cR) (so : List Int) (i : Int) : eX ws (so ++ [i]) = eX ws so ++ (if gP ws i = true then [cW ws i] else []) := by
 unfold eX
 rw [anh, amR]
 congr 1
 by_cases h : gP ws i = true
 . rw [amo h]; simp [h]
 . rw [amk h]; simp [h]
theorem EC (ks : List Str) (es : List Int) {ws : List cR} (ops : List Int) (c : Int) (hw : 0 < ws.length) : ∀ j : Nat, (Iv ks es ws ops c j).length <= j /\ (∀ i ∈ Iv ks es ws ops c j, (0 <= i /\ i < ws.length) /\ (cW ws i).src ∈ ops) /\ (eX ws (Iv ks es ws ops c j)).Pairwise (fun a d => Ap es (eV ks es a) (eV ks es d))
 | 0 => ⟨amu _, (fun i hi => by cases hi), by unfold eX; exact .nil⟩
 | j + 1 => by
   obtain ⟨h1, h2, h3⟩ := EC ks es ops c hw j
   rw [Iw]
   unfold EA
   split
   . rename_i hg
     have m0 : 0 <= Te ws c j := amB _ (by omega)
     have m1 : Te ws c j < ws.length := amt _ (by omega)
     refine ⟨by rw [amj, anf]; omega, fun i hi => ?_, ?_⟩
     . rcases amn.mp hi with hi | hi
       . exact h2 i hi
       . rw [anm] at hi
         subst hi
         exact ⟨⟨m0, m1⟩, hg.1.1⟩
     . rw [EB]
       split
       . rename_i hT
         refine aof.mpr ⟨h3, anu _ _, fun a ha d hd => ?_⟩
         rw [anm] at hd
         subst hd
         have hf := hg.2
         unfold AH at hf
         rw [hT] at hf
         have hf : (Iv ks es ws ops c j).all (fun q => !gP ws q || PL es (eV ks es (cW ws (Te ws c j))) (eV ks es (cW ws q))) = true := hf
         obtain ⟨q, hq, rfl⟩ := amJ.mp ha
         obtain ⟨q1, q2⟩ := amK.mp hq
         have := anw.mp hf q q1
         rw [q2] at this
         exact (Xa.mp this).symm
       . rw [amF]
         exact h3
   . exact ⟨by omega, h2, h3⟩
theorem Tf {ks : List Str} {es : List Int} {ws : List cR} (ops : List Int) (c : Int) (hl : ws.length <= 8) : qA ks es ws ops (sortI (Iv ks es ws ops c ws.length)) := by
 by_cases hw : 0 < ws.length
 . obtain ⟨h1, h2, h3⟩ := EC ks es ops c hw ws.length
   refine ⟨fun i hi => h2 i (k9.mp hi), by rw [g9]; omega, ?_⟩
   have hp : (eX ws (sortI (Iv ks es ws ops c ws.length))).Perm (eX ws (Iv ks es ws ops c ws.length)) := ((sortI_perm _).filter _).map _
   exact (hp.pairwise_iff fun h => Ap.symm h).mpr h3
 . have e : ws.length = 0 := by omega
   rw [e]
   exact ⟨(fun i hi => by cases hi), amO _, .nil⟩
noncomputable abbrev zC : Stmt := top 53
noncomputable abbrev ED : Type := List L3.D × List Int × List Str × List Int × List L3.D × List L3.D × List cR × List Int × Int
noncomputable def sM : ED -> List L3.D := fun (bs, es, ks, ss, is, os, ws, ops, c) => [eZ bs es ks ss is os (ws.map cE), .lst (ops.map .int), .int c]
noncomputable def nY : ED -> Prop := fun (bs, es, ks, ss, is, os, ws, ops, c) => dM es /\ ks.length = es.length /\ (∀ w ∈ ws, Zi es.length w) /\ ws.length <= 8
noncomputable def sN : ED -> T := fun (bs, es, ks, ss, is, os, ws, ops, c) => (.lst (((sortI (Iv ks es ws ops c ws.length)).map .int).map T.sh) : T)
structure Xc (X : Cx) (CL : Str -> Addr) : Prop extends cA X where
 aM : Ln X 0 "parts"
 b8 : Ln X 1 "opens"
 bX : Ln X 2 "cell"
 iD : Ln X 3 "some"
 iL : Ln X 4 "count"
 iW : Ln X 5 "k"
 bA : Ln X 6 "number"
 dm : Gl X "len"
 bS : Gl X "range"
 Iz : Gl X "_law_free"
 ez : Gl X "sorted"
 dw : X.mg "len" = none
 bT : X.mg "range" = none
 abK : Fc X CL "_law_free" 3 3 v5 qS v7
 eB : X.mg "sorted" = none
theorem Xd {X : Cx} {CL : Str -> Addr} {b : Bx} (E : Xc X CL) (bs es ks ss is os ws ops c) (h : nY (bs, es, ks, ss, is, os, ws, ops, c)) :
   aC X CL b zC ["parts", "opens", "cell", "some", "count", "k", "number"] (sM (bs, es, ks, ss, is, os, ws, ops, c)) (sN (bs, es, ks, ss, is, os, ws, ops, c)) := by
 dsimp only [aC, nY, sM, sN] at h ⊢
 obtain ⟨ht, hk, hw, hl⟩ := h
 refine aI E.g E.iD (dN cZ (amO _)) ?_
 refine aI E.g E.iL (dW (amc ..) E.dw (aW (aB E.aM) (ah aj) rfl) E.dm) ?_
 refine d7 E.g E.iW (fun j δ => ∃ o5 o6, δ = [some (.sh (eZ bs es ks ss is os (ws.map cE))), some (.sh (.lst (ops.map .int))), some (.sh (.int c)), some (.lst (((Iv ks es ws ops c j).map .int).map T.sh)), some (.sh (.int (ws.length : Nat))), o5, o6])
   (dO E.bT (aB E.iL) (by omega) E.bS) ⟨_, _, rfl⟩ (fun j δ ⟨_, _, e⟩ => by subst e; exact amg rfl) ?turn ?fin
 case turn =>
   rintro j d δ hj ⟨o5, o6, rfl⟩
   obtain ⟨rfl, nG⟩ := fW hj
   rw [ani]
   have nG : j < ws.length := by omega
   obtain ⟨h1, h2, h3⟩ := EC ks es ops c (by omega : 0 < ws.length) j
   have m0 : 0 <= Te ws c j := amB _ (by omega)
   have m1 : Te ws c j < ws.length := amt _ (by omega)
   refine aI E.g E.bA (aK (bN (ah (dQ (aB E.bX) (aB E.iW))) (aB E.iL) (by omega)) (t2 := .sh (.int (Te ws c j))) rfl) ?_
   show iI X CL b _ _ { nx := fun δ => ∃ o5 o6, δ = [_, _, _, some (.lst (((Iv ks es ws ops c (j + 1)).map .int).map T.sh)), _, o5, o6], rt := _, bk := _, ct := _ }
   rw [Iw]
   unfold EA
   generalize Iv ks es ws ops c j = so at h1 h2 h3 ⊢
   generalize Te ws c j = i at m0 m1 ⊢
   refine d9 (kH (ja (kJ (l := ops) (aW (aO (aW (aB E.aM) (ah aj) rfl) (aB E.bA) (c5 (f := cE) w0 m0 m1)) (ah aj) (cy (j := 0) rfl)) (aB E.b8) rfl rfl).1 (fun _ => g8 (kC (ah (bN (ah (dg (aB E.bX) (ah (dQ (ah aj) (aB E.bA))) (⟨by omega, by omega⟩))) (ah aj) (by decide))) (ah aj)).1))) (fun hp => ?_) (fun hp => ao (ao ?_))
   . simp only [amD, anl, amY, ana] at hp
     refine d9 (fZ (aK (c_ (bs, es, ks, ss, is, os, ws, so, i) E.abK E.Iz (ai (aB E.aM) (ai (vL E.iD.1) (ai (aB E.bA) aD))) (by dsimp only [qS]; exact ⟨ht, hk, hw, ⟨m0, m1⟩, fun q hq => (h2 q hq).1⟩) rfl) (t2 := .sh (.bl (AH ks es ws so i))) rfl)) (fun hq => ?_) (fun hq => ao (ao (ao ?_)))
     . refine fD E.iD.1 rfl (v_ E.bA.1) rfl (by simp; omega) (ao (ao (ao ?_)))
       rw [amo ⟨hp, hq⟩]
       refine ⟨some (.sh (.int j)), some (.sh (.int i)), ?_⟩
       rw [amR, amR]
       rfl
     . rw [amk (fun z => by rw [z.2] at hq; cases hq)]
       exact ⟨_, _, rfl⟩
   . rw [amk (fun z => by
       have : (decide ((cW ws i).src ∈ ops) && !decide (c / (7 + i) % 5 = 1)) = true := by
         simp only [amD, anl, amY, ana]
         exact z.1
       have hp : (decide ((cW ws i).src ∈ ops) && !decide (c / (7 + i) % 5 = 1)) = false := hp
       rw [this] at hp
       cases hp)]
     exact ⟨_, _, rfl⟩
 case fin =>
   rintro δ ⟨o5, o6, rfl⟩
   have e : (bO 0 ((ws.length : Nat) : Int).toNat).length = ws.length := by simp [bO]
   rw [e]
   have Zr : (Iv ks es ws ops c ws.length).length < 64 := by
     by_cases hz : 0 < ws.length
     . have := (EC ks es ops c hz ws.length).1
       omega
     . have e : ws.length = 0 := by omega
       rw [e]
       exact (show ([] : List Int).length < 64 by decide)
   exact bD (iR E.eB (vL E.iD.1) (Zr) E.ez) rfl
theorem gW : jU (av zC) ([("parts", ak), ("opens", ak), ("cell", ak), ("some", ak), ("count", ak), ("k", ak), ("number", ak), ("len", az), ("range", az), ("_law_free", az), ("sorted", az)]) = true := by decide +kernel
theorem IA : aP ["parts", "opens", "cell", "some", "count", "k", "number"] ["parts", "opens", "cell"] (av zC) := aX
noncomputable abbrev EE : Stmt := top 54
noncomputable abbrev K1 : Type := List L3.D × List Int × List Str × List Int × List L3.D × List L3.D × List cR × List Int × List Int
noncomputable def v8 : K1 -> List L3.D := fun (bs, es, ks, ss, is, os, ws, ops, so) => [eZ bs es ks ss is os (ws.map cE), .lst (ops.map .int), .lst (so.map .int)]
noncomputable def qT : K1 -> Prop := fun (bs, es, ks, ss, is, os, ws, ops, so) => dM es /\ ks.length = es.length /\ (∀ w ∈ ws, Zi es.length w) /\ (∀ i ∈ so, 0 <= i /\ i < ws.length) /\ (ops.length <= 1000 /\ ∀ x ∈ ops, 0 <= x /\ x < es.length) /\ ((eX ws so).flatMap fun w => jX es ops (eV ks es w)).length < 64
noncomputable def v9 : K1 -> T := fun (bs, es, ks, ss, is, os, ws, ops, so) => (.lst (((gO ks es ops (eX ws so)).map .int).map T.sh) : T)
structure abL (X : Cx) (CL : Str -> Addr) : Prop extends cA X where
 aM : Ln X 0 "parts"
 EF : X.env.kindOf "parts" = some .cell
 b8 : Ln X 1 "opens"
 iD : Ln X 2 "some"
 uq : Ln X 3 "lost"
 bA : Ln X 4 "number"
 eu : Ln X 5 "at"
 aim : X.env.kindOf "at" = some .cell
 jB : Gl X "_law_top"
 ez : Gl X "sorted"
 nX : Fc X CL "_law_top" 2 2 jz fO jA
 eB : X.mg "sorted" = none
 f6 : Fc X CL "_law_within" 1 3 fM cM fN
theorem abM {X : Cx} {CL : Str -> Addr} {b : Bx} (E : abL X CL) (bs es ks ss is os ws ops so) (h : qT (bs, es, ks, ss, is, os, ws, ops, so)) :
   aC X CL b EE ["parts", "opens", "some", "lost", "number", "at"] (v8 (bs, es, ks, ss, is, os, ws, ops, so)) (v9 (bs, es, ks, ss, is, os, ws, ops, so)) := by
 dsimp only [aC, qT, v8, v9] at h ⊢
 obtain ⟨ht, hk, hw, hs, ⟨Zq, G5⟩, Zt⟩ := h
 have PN : ∀ l : List cR, (l.flatMap fun w => ops.filter (qw es (eV ks es w))).Perm (l.flatMap fun w => jX es ops (eV ks es w)) := fun l => (HV l).symm
 have afp : ∀ j, ((eX ws (so.take j)).flatMap fun w => ops.filter (qw es (eV ks es w))).length < 64 := fun j => by
   rw [(PN _).length_eq]
   refine ant ?_ Zt
   have h2 := anC j so
   have : eX ws so = eX ws (so.take j) ++ eX ws (so.drop j) := by
     unfold eX
     rw [← amR, ← anh, h2]
   rw [this, amW, amj]
   omega
 refine aI E.g E.uq (dN cZ (amO _)) ?_
 refine d7 E.g E.bA (fun j δ => ∃ o4 o5, δ = [some (.sh (eZ bs es ks ss is os (ws.map cE))), some (.sh (.lst (ops.map .int))), some (.sh (.lst (so.map .int))), some (.lst ((((eX ws (so.take j)).flatMap fun w => ops.filter (qw es (eV ks es w))).map .int).map T.sh)), o4, o5])
   (dR (v_ E.iD.1)) ⟨_, _, rfl⟩ (fun j δ ⟨_, _, e⟩ => by subst e; exact amg rfl) ?turn ?fin
 case turn =>
   rintro j d δ hj ⟨o4, o5, rfl⟩
   obtain ⟨i, rfl, _, hi, nG, _, tF⟩ := gi hj
   obtain ⟨i0, i1⟩ := hs i hi
   have qg := afp j
   have win := hw _ (mh i0 i1)
   rw [tF, EB]
   generalize eX ws (so.take j) = gs at qg ⊢
   refine d9 (kC (aW (aO (aW (aB E.aM) (ah aj) rfl) (aB E.bA) (c5 (f := cE) w0 i0 i1)) (ah aj) (cy (j := 4) rfl)) (ah (eH (ah aj)))).1 (fun hp => ?_) (fun hp => ao (ao ?_))
   . have hT : gP ws i = true := hp
     have WH : 0 <= (cW ws i).tgt /\ (cW ws i).tgt < es.length := by
       rcases win.2.1 with z | z
       . unfold gP at hT
         rw [z] at hT
         simp at hT
       . exact z
     rw [amo hT]
     refine aI E.g E.eu (aK (c_ (bs, es, ks, ss, is, os, ws, i) E.nX E.jB (ai (aB E.aM) (ai (aB E.bA) aD)) (by dsimp only [fO]; exact ⟨ht, hk, ⟨i0, i1⟩, win.1, WH⟩) rfl) (t2 := .sh (.int (eV ks es (cW ws i)))) rfl) ?_
     have ain : -1 <= eV ks es (cW ws i) := by
       rcases DX (bB := aS ks) (b := (cW ws i).tgt) ht win.1.1 win.1.2 with z | z
       . unfold eV; rw [z.1]; omega
       . have := aZ ht win.1.1 win.1.2 z.1
         unfold eV; omega
     have AI : (((ops.map L3.D.int).filter (fun d => qw es (eV ks es (cW ws i)) d.uW)).map fun d => T.sh d) = ((ops.filter (qw es (eV ks es (cW ws i)))).map L3.D.int).map T.sh := by
       rw [anE, amI]
       exact (amI ..).symm
     have hfo : (ops.filter (qw es (eV ks es (cW ws i)))).length <= ops.length := ank _ _
     refine CN E.uq.1 rfl (aK (lY (p := fun d => qw es (eV ks es (cW ws i)) d.uW) (g := fun d => T.sh d) (dF (.cons E.eu.1 (.inl E.aim) (.cons E.aM.1 (.inl E.EF) .nil)) (by decide +kernel)) E.g.calm (dR (v_ E.b8.1)) (.inr rfl) (fun C s0 H0 f0 b' d hd => ?D0) (amQ (bQ (by simp; omega)))) (congrArg T.lst AI)) rfl (by simp only [amc]; omega) (ao (ao ⟨some (.sh (.int i)), some (.sh (.int (eV ks es (cW ws i)))), ?_⟩))
     case D0 =>
       obtain ⟨m, hm, rfl⟩ := amJ.mp hd
       exact ⟨fZ (c_ (es, m, eV ks es (cW ws i)) (kI E.f6) (jc (by decide +kernel)) (ai (aW (ah (v_ (f9 (i := 2) rfl (by decide +kernel)))) (ah aj) rfl) (ai (ah (v_ (ef (i := 0) rfl (by decide +kernel)))) (ai (ah (v_ (f9 (i := 1) rfl (by decide +kernel)))) aD))) (by dsimp only [cM]; exact ⟨ht, (G5 m hm).1, (G5 m hm).2, ain⟩) rfl), fun _ => (v_ (ef (i := 0) rfl (by decide +kernel)))⟩
     rw [amW]
     simp only [ane, List.flatMap_nil, amF, amR]
     rfl
   . have hT : ¬ gP ws i = true := by
       have : gP ws i = false := hp
       rw [this]
       decide
     rw [amk hT, amF]
     exact ⟨_, _, rfl⟩
 case fin =>
   rintro δ ⟨o4, o5, rfl⟩
   have qg := afp so.length
   rw [amP] at qg
   rw [amc, amP]
   refine bD (z9 E.eB (vL E.uq.1) qg E.ez) ?_
   rw [rZ (PN _)]
   rfl
theorem jL : jU (av EE) ([("parts", .cell), ("opens", ak), ("some", ak), ("lost", ak), ("number", ak), ("at", .cell), ("_law_top", az), ("sorted", az)]) = true := by decide +kernel
theorem N8 : aP ["parts", "opens", "some", "lost", "number", "at"] ["parts", "opens", "some"] (av EE) := aX
noncomputable abbrev mH : Stmt := top 50
noncomputable abbrev qU : Type := List L3.D × List Int × List Str × List Int × List L3.D × List L3.D × List cR × Int
noncomputable def jM : qU -> List L3.D := fun (bs, es, ks, ss, is, os, ws, m) => [eZ bs es ks ss is os (ws.map cE), .int m]
noncomputable def iH : qU -> Prop := fun (bs, es, ks, ss, is, os, ws, m) => dM es /\ ks.length = es.length /\ es.length <= 1000 /\ 0 <= m /\ m < es.length /\ ∀ w ∈ ws, -1 <= w.tgt
noncomputable def jN : qU -> T := fun (bs, es, ks, ss, is, os, ws, m) => (.sh (.bl (cH ks es ws m)) : T)
structure IB (X : Cx) (CL : Str -> Addr) : Prop extends cA X where
 aM : Ln X 0 "parts"
 bf : Ln X 1 "mood"
 fK : Ln X 2 "way"
 gE : Gl X "_law_within"
 f6 : Fc X CL "_law_within" 1 3 fM cM fN
theorem IC {X : Cx} {CL : Str -> Addr} {b : Bx} (E : IB X CL) (bs es ks ss is os ws m) (h : iH (bs, es, ks, ss, is, os, ws, m)) :
   aC X CL b mH ["parts", "mood", "way"] (jM (bs, es, ks, ss, is, os, ws, m)) (jN (bs, es, ks, ss, is, os, ws, m)) := by
 dsimp only [aC, iH, jM, jN] at h ⊢
 obtain ⟨ht, hk, hl, m0, m1, hw1⟩ := h
 refine d9 (zU (aO (aW (aB E.aM) (ah aj) rfl) (aB E.bf) (c5 Str.empty m0 (by omega))) (ah bC)).1 (fun hp => ?_) (fun hp => ao ?_)
 . refine bD lB ?_
   have : aS ks m = false := by
     rw [anl] at hp
     exact hp
   show T.sh (.bl false) = T.sh (.bl (cH ks es ws m))
   unfold cH
   rw [this]
   rfl
 have tG : aS ks m = true := by
   rw [aon] at hp
   exact hp
 have hre : cH ks es ws m = ws.any (qy es m) := by unfold cH; rw [tG]; rfl
 rw [hre]
 refine d7 E.g E.fK (fun j δ => (∀ i x, i < j -> ws[i]? = some x -> qy es m x = false) /\ ∃ o, δ = [some (.sh (eZ bs es ks ss is os (ws.map cE))), some (.sh (.int m)), o])
   (dR (zV (v_ E.aM.1) (ah aj) rfl)) ⟨fun i x hi => by omega, _, rfl⟩ (fun j δ ⟨_, _, e⟩ => by subst e; exact amg rfl) ?turn ?fin
 case turn =>
   rintro j d δ hj ⟨Tc, o, rfl⟩
   obtain ⟨w, rfl, hw, ua, nG, _, _⟩ := gi hj
   refine d9 (kH (ja (zU (aW (aB E.fK) (ah aj) (cy (j := 5) rfl)) (ah bC)).1 (fun _ => g8 (dD (aW (aB E.fK) (ah aj) (cy (j := 4) rfl)) (aB E.bf)).1))) (fun hp => ?_) (fun hp => ao ?_)
   . refine bD lB ?_
     rw [vC hw (by unfold qy; rw [hp]; rfl)]
   refine d9 (kH (ja (iB (aW (aB E.fK) (ah aj) (cy (j := 5) rfl)) (ah bC)).1 (fun _ => g8 (fZ (c_ (es, m, w.tgt) E.f6 E.gE (ai (aW (aB E.aM) (ah aj) rfl) (ai (aB E.bf) (ai (aW (aB E.fK) (ah aj) (cy (j := 4) rfl)) aD))) (by dsimp only [cM]; exact ⟨ht, m0, m1, hw1 w ua⟩) rfl))))) (fun hq => ?_) (fun hq => ao (ao ?_))
   . refine bD lB ?_
     have hq : (decide (w.mode = "far") && (decide (w.tgt = -1) || decide (w.tgt ∈ aY es m))) = true := hq
     rw [vC hw (by unfold qy; rw [hq, Bool.or_true])]
   . have hq : (decide (w.mode = "far") && (decide (w.tgt = -1) || decide (w.tgt ∈ aY es m))) = false := hq
     refine ⟨fun i x hi hx => ?_, _, rfl⟩
     by_cases e : i = j
     . subst e
       rw [hw] at hx
       cases hx
       unfold qy
       rw [hp, hq]
       rfl
     . exact Tc i x (by omega) hx
 case fin =>
   rintro δ ⟨Tc, o, rfl⟩
   refine bD lB ?_
   rw [any_none fun i x hx => Tc i x (by rw [amc]; exact (amH.mp hx).1) hx]
theorem kO : jU (av mH) ([("parts", ak), ("mood", ak), ("way", ak), ("_law_within", az)]) = true := by decide +kernel
theorem wc : aP ["parts", "mood", "way"] ["parts", "mood"] (av mH) := aX
noncomputable abbrev kP : Stmt := top 41
noncomputable abbrev oY : Type := List Int × List Str × List Int × List Int × Int × Nat × Str
noncomputable def jh : oY -> List L3.D := fun (es, ks, ss, mem, u, tg, mode) => [.lst (es.map .int), .lst (ks.map .str), .lst (ss.map .int), .lst (mem.map .int), .int u, .int tg, .str mode]
noncomputable def gX : oY -> Prop := fun (es, ks, ss, mem, u, tg, mode) => es.length <= 900 /\ ks.length = es.length /\ ss.length = es.length /\ mem.length = es.length /\ tg < es.length /\ dM es /\ (u = -1 \/ u ∈ aY es tg) /\ mZ mode
noncomputable def ji : oY -> T := fun (es, ks, ss, mem, u, tg, mode) => (.lst ((((wY (aq ks) es ss mem (bK mode) (cu mode) (Ag es u tg) tg es.length).1).map .int).map T.sh) : T)
structure EG (X : Cx) (CL : Str -> Addr) : Prop extends cA X where
 aR : Ln X 0 "elders"
 eL : Ln X 1 "kinds"
 nU : Ln X 2 "starts"
 bw : Ln X 3 "memory"
 gq : Ln X 4 "upper"
 gC : Ln X 5 "target"
 jy : Ln X 6 "mode"
 xS : Ln X 7 "lane"
 bP : Ln X 8 "found"
 EH : Ln X 9 "deep"
 iW : Ln X 10 "k"
 bR : Ln X 11 "elder"
 EI : Ln X 12 "goes"
 K2 : Ln X 13 "goal"
 bS : Gl X "range"
 dm : Gl X "len"
 bT : X.mg "range" = none
 dw : X.mg "len" = none
theorem EJ {X : Cx} {CL : Str -> Addr} {b : Bx} (E : EG X CL) (es ks ss mem u tg mode) (h : gX (es, ks, ss, mem, u, tg, mode)) :
   aC X CL b kP ["elders", "kinds", "starts", "memory", "upper", "target", "mode", "lane", "found", "deep", "k", "elder", "goes", "goal"] (jh (es, ks, ss, mem, u, tg, mode)) (ji (es, ks, ss, mem, u, tg, mode)) := by
 dsimp only [aC, gX, jh, ji] at h ⊢
 obtain ⟨hl, hk, hs, hm, yw, ht, hu, QH⟩ := h
 have hun : (bK mode || cu mode) = !decide (mode = "new") := by
   unfold bK cu
   rcases QH with e | e | e <;> rw [e] <;> decide +kernel
 refine aI E.g E.xS (gI (aG (v_ E.gC.1) di) (aN rfl)) ?_
 have xF : (aY es (tg : Int)).length <= es.length + 1 := ve _ _ _
 have afq : ∀ i, i <= (aY es (tg : Int)).length -> ((tg : Int) :: (aY es (tg : Int)).take i).getD (((tg : Int) :: (aY es (tg : Int)).take i).length - 1) 0 = wX es tg i := fun i hi => by
   unfold wX
   rw [amA, aod, Nat.min_eq_left hi, Nat.add_sub_cancel, amd, amd]
   cases i with
   | zero => rfl
   | succ i =>
     rw [anO, anO, List.getElem?_take_of_lt (by omega)]
 have afr : ∀ i, i <= (aY es (tg : Int)).length -> 0 <= wX es tg i /\ wX es tg i < es.length := fun i hi => by
   rcases DZ (es := es) (m := (tg : Int)) hi with z | z
   . omega
   . have := aZ ht (m := (tg : Int)) (by omega) (by omega) z
     omega
 have aa8 : es.getD (wX es tg (aY es (tg : Int)).length).toNat 0 = -1 := Nz ht (tg + 1) (by omega) (by omega) (by omega)
 refine za E.g (fun n δ => ∃ i, δ = [some (.sh (.lst (es.map .int))), some (.sh (.lst (ks.map .str))), some (.sh (.lst (ss.map .int))), some (.sh (.lst (mem.map .int))), some (.sh (.int u)), some (.sh (.int tg)), some (.sh (.str mode)), some (.lst ((((tg : Int) :: (aY es (tg : Int)).take i).map .int).map T.sh)), none, none, none, none, none, none] /\ i + n = (aY es (tg : Int)).length /\ ∀ x ∈ (aY es (tg : Int)).take i, x ≠ u) (aY es (tg : Int)).length
   ⟨0, rfl, by omega, fun x hx => by simp at hx⟩ ?_
 rintro n δ ⟨i, rfl, tM, qd⟩
 have hi : i <= (aY es (tg : Int)).length := by omega
 have hub := afr i hi
 have hla := afq i hi
 have atl : zP ((((tg : Int) :: (aY es (tg : Int)).take i)).map L3.D.int) (-1) = some (.int (wX es tg i)) := by
   rw [Wo (by simp), hla]
 refine ⟨_, _, (kC (aO (aB E.aR) (aO (vL E.xS.1) (ah (eH (ah aj))) (atl)) (ck hub.1 hub.2)) (aB E.gq)).1, fun hp => ?_, fun hp => ?_⟩
 . have hp : ¬ es.getD (wX es tg i).toNat 0 = u := by simpa using hp
   have qg : i < (aY es (tg : Int)).length := by
     by_cases e : i = (aY es (tg : Int)).length
     . exfalso
       subst e
       rw [aa8] at hp
       rcases hu with z | z
       . exact hp z.symm
       . rw [amP] at qd
         exact qd u z rfl
     . omega
   obtain ⟨_, hnx⟩ := vf ht (tg + 1) (m := (tg : Int)) (n := i) (by omega) (by omega) (by omega) qg
   have hgi : wX es tg (i + 1) = (aY es (tg : Int))[i] := by
     unfold wX
     rw [amd, anO, amq qg]
     rfl
   refine fD E.xS.1 rfl (cY (aO (aB E.aR) (aO (vL E.xS.1) (ah (eH (ah aj))) (atl)) (ck hub.1 hub.2)) rfl) rfl (by simp; omega) (ao ⟨n - 1, by omega, i + 1, ?_, by omega, ?_⟩)
   . rw [hnx, hgi]
     have e1 : ((((tg : Int) :: (aY es (tg : Int)).take i).map L3.D.int).map T.sh) ++ [T.sh (.int (aY es (tg : Int))[i])] = (((tg : Int) :: (aY es (tg : Int)).take (i + 1)).map L3.D.int).map T.sh := by
       have e0 : (aY es (tg : Int)).take (i + 1) = (aY es (tg : Int)).take i ++ [(aY es (tg : Int))[i]] := by rw [anV, amq qg]; rfl
       rw [e0]
       simp only [am6, amR, List.map_nil, amE]
     rw [e1]
     rfl
   . intro x hx
     rw [anV, amq qg] at hx
     rcases amn.mp hx with z | z
     . exact qd x z
     . have : x = (aY es (tg : Int))[i] := by simpa using z
       rw [this, ← hgi, ← hnx]
       exact hp
 . have hp : es.getD (wX es tg i).toNat 0 = u := by simpa using hp
   have afs : (tg : Int) :: (aY es (tg : Int)).take i = Ag es u tg := by
     unfold Ag
     congr 1
     have h2 := anC i (aY es (tg : Int))
     conv => rhs; rw [← h2]
     rw [List.takeWhile_append_of_pos (fun y hy => by simpa using qd y hy)]
     by_cases e : i < (aY es (tg : Int)).length
     . obtain ⟨_, hnx⟩ := vf ht (tg + 1) (m := (tg : Int)) (n := i) (by omega) (by omega) (by omega) e
       have hgi : wX es tg (i + 1) = (aY es (tg : Int))[i] := by
         unfold wX
         rw [amd, anO, amq e]
         rfl
       rw [anY e, List.takeWhile_cons, amk (by rw [← hgi, ← hnx, hp]; simp), amF]
     . rw [List.drop_of_length_le (by omega)]
       simp
   rw [afs]
   generalize Ag es u tg = dS
   refine aI E.g E.bP (dN cZ (amO _)) ?_
   refine aI E.g E.EH (dN cZ (amO _)) ?_
   generalize hen : wY (aq ks) es ss mem (bK mode) (cu mode) dS tg = en
   have aft : ∀ k, _ := fun k => HP (isAll := aq ks) (es := es) (ss := ss) (mem := mem) (far := bK mode) (near := cu mode) (dS := dS) (t := tg) k
   rw [hen] at aft
   have en0 : en 0 = ([], []) := by rw [← hen]; rfl
   have enS : ∀ k, en (k + 1) = if Pj (aq ks) es ss mem (bK mode) (cu mode) dS tg (en k) k = true then ((en k).1 ++ [(k : Int)], if (k : Int) = tg \/ es.getD k 0 ∈ (en k).2 then (en k).2 ++ [(k : Int)] else (en k).2) else en k := fun k => by rw [← hen]; rfl
   refine d7 E.g E.iW (fun j δ => ∃ NW NX WV QF, δ = [some (.sh (.lst (es.map .int))), some (.sh (.lst (ks.map .str))), some (.sh (.lst (ss.map .int))), some (.sh (.lst (mem.map .int))), some (.sh (.int u)), some (.sh (.int tg)), some (.sh (.str mode)), some (.lst ((dS.map .int).map T.sh)), some (.lst (((en j).1.map .int).map T.sh)), some (.lst (((en j).2.map .int).map T.sh)), NW, NX, WV, QF])
     (dO E.bT (ah (dW (amc ..) E.dw (aB E.aR) E.dm)) (by omega) E.bS) ⟨_, _, _, _, by rw [en0]; rfl⟩ (fun j δ ⟨_, _, _, _, e⟩ => by subst e; exact amg rfl) ?turn ?fin
   case turn =>
     rintro j d δ hj ⟨NW, NX, WV, QF, rfl⟩
     obtain ⟨rfl, nG⟩ := fW hj
     rw [ani]
     obtain ⟨b1, b2, _, b4, b5⟩ := aft j
     have hE := ht j (by omega)
     show iI X CL b _ _ { nx := fun δ => ∃ NW NX WV QF, δ = [_, _, _, _, _, _, _, _, some (.lst (((en (j + 1)).1.map .int).map T.sh)), some (.lst (((en (j + 1)).2.map .int).map T.sh)), NW, NX, WV, QF], rt := _, bk := _, ct := _ }
     rw [enS j]
     cases hej : en j with
     | mk F Dp =>
       rw [hej] at b1 b2 b4 b5
       dsimp only at b1 b2 b4 b5 ⊢
       refine aI E.g E.bR (aK (cY (aO (aB E.aR) (aB E.iW) (ck (by omega) (by omega))) rfl) (congrArg (fun z => T.sh (.int (es.getD z 0))) (amm j))) ?_
       unfold Pj
       dsimp only
       generalize es.getD j 0 = x at hE ⊢
       have hx0 : x ∈ F -> 0 <= x := fun z => (b1 x z).1
       refine aI E.g E.EI (kJ (l := dS) (aB E.iW) (vL E.xS.1) rfl rfl).2 ?_
       generalize hG : (decide ((j : Int) ∈ dS) || (decide (x ∈ F) && (aq ks x || (decide (fF ss mem ((decide (x = tg) && (bK mode || cu mode)) || (decide (x ∈ Dp) && bK mode)) x = j) && (decide (x = tg) || !decide (x ∈ dS)))))) = G
       refine qq (fun δ => ∃ QF, δ = [some (.sh (.lst (es.map .int))), some (.sh (.lst (ks.map .str))), some (.sh (.lst (ss.map .int))), some (.sh (.lst (mem.map .int))), some (.sh (.int u)), some (.sh (.int tg)), some (.sh (.str mode)), some (.lst ((dS.map .int).map T.sh)), some (.lst ((F.map .int).map T.sh)), some (.lst ((Dp.map .int).map T.sh)), some (.sh (.int j)), some (.sh (.int x)), some (.sh (.bl G)), QF]) (kH (ja (xq (fZ (v_ E.EI.1))) (fun hb => (g8 (kJ (aB E.bR) (vL E.bP.1) rfl rfl).1)))) (fun hq => ?_) (fun hq => ?_) ?_
       . rw [amD, anl, amY] at hq
         have hx := hx0 hq.2
         refine aI E.g E.K2 (cY (aO (aB E.nU) (aB E.bR) (ck (by omega) (by omega))) rfl) ?_
         refine qq (fun δ => δ = [some (.sh (.lst (es.map .int))), some (.sh (.lst (ks.map .str))), some (.sh (.lst (ss.map .int))), some (.sh (.lst (mem.map .int))), some (.sh (.int u)), some (.sh (.int tg)), some (.sh (.str mode)), some (.lst ((dS.map .int).map T.sh)), some (.lst ((F.map .int).map T.sh)), some (.lst ((Dp.map .int).map T.sh)), some (.sh (.int j)), some (.sh (.int x)), some (.sh (.bl (decide ((j : Int) ∈ dS)))), some (.sh (.int (fF ss mem ((decide (x = tg) && (bK mode || cu mode)) || (decide (x ∈ Dp) && bK mode)) x)))]) (kH (qp (kH (ja (dD (aB E.bR) (aB E.gC)).1 (fun hb => (g8 (zU (aB E.jy) (ah bC)).1)))) (fun hb => (mX (kH (ja (kJ (aB E.bR) (vL E.EH.1) rfl rfl).1 (fun hb2 => (g8 (iB (aB E.jy) (ah bC)).1)))))))) (fun hr => ?_) (fun hr => ?_) ?_
         . have hr : ((decide (x = tg) && (bK mode || cu mode)) || (decide (x ∈ Dp) && bK mode)) = true := by rw [hun]; exact hr
           refine d9 (kC (aO (aB E.bw) (aB E.bR) (ck (by omega) (by omega))) (ah (eH (ah aj)))).1 (fun hz => ?_) (fun hz => ao (ao ?_))
           . refine aI E.g E.K2 (cY (aO (aB E.bw) (aB E.bR) (ck (by omega) (by omega))) rfl) (ao (ao ?_))
             have e : fF ss mem ((decide (x = tg) && (bK mode || cu mode)) || (decide (x ∈ Dp) && bK mode)) x = mem.getD x.toNat 0 := by
               unfold fF
               rw [if_pos ⟨hr, by simpa using hz⟩]
             rw [e]
             rfl
           . have e : fF ss mem ((decide (x = tg) && (bK mode || cu mode)) || (decide (x ∈ Dp) && bK mode)) x = ss.getD x.toNat 0 := by
               unfold fF
               rw [if_neg (fun z => z.2 (by simpa using hz))]
             rw [e]
             rfl
         . have hr : ((decide (x = tg) && (bK mode || cu mode)) || (decide (x ∈ Dp) && bK mode)) = false := by rw [hun]; exact hr
           refine ao ?_
           have e : fF ss mem ((decide (x = tg) && (bK mode || cu mode)) || (decide (x ∈ Dp) && bK mode)) x = ss.getD x.toNat 0 := by
             unfold fF
             rw [amk (fun z => by rw [hr] at z; cases z.1)]
           rw [e]
           rfl
         rintro δ rfl
         generalize fF ss mem ((decide (x = tg) && (bK mode || cu mode)) || (decide (x ∈ Dp) && bK mode)) x = g at hG ⊢
         refine aI E.g E.EI (Rm (iB (aO (aB E.eL) (aB E.bR) (c5 Str.empty hx (by omega))) (ah bC)).2 (fun hb => (xr (DK (dD (aB E.K2) (aB E.iW)).2 (fun hb2 => (xr (Rm (dD (aB E.bR) (aB E.gC)).2 (fun hb3 => (xr (u5 (aB E.bR) (vL E.xS.1) rfl rfl).2))))))))) (ao ?_)
         rw [hq.1, am8 hq.2, aoz, aoi] at hG
         rw [← hG]
         exact ⟨_, rfl⟩
       . have e : G = decide ((j : Int) ∈ dS) := by
           rw [← hG]
           by_cases h1 : (j : Int) ∈ dS
           . rw [am8 h1]; rfl
           . rw [amN h1] at hq ⊢
             have h2 : decide (x ∈ F) = false := by simpa using hq
             rw [h2]
             rfl
         rw [e]
         exact ao ⟨_, rfl⟩
       rintro δ ⟨QF, rfl⟩
       refine d9 (fZ (v_ E.EI.1)) (fun hg => ?_) (fun hg => ao (ao ?_))
       . rw [amo hg]
         refine fD E.bP.1 rfl (v_ E.iW.1) rfl (by simp; omega) ?_
         have e1 : ((F.map L3.D.int).map T.sh) ++ [T.sh (.int (j : Int))] = ((F ++ [(j : Int)]).map L3.D.int).map T.sh := by simp
         have e2 : ((Dp.map L3.D.int).map T.sh) ++ [T.sh (.int (j : Int))] = ((Dp ++ [(j : Int)]).map L3.D.int).map T.sh := by simp
         refine d9 (kH (qp (dD (aB E.iW) (aB E.gC)).1 (fun hb => (mX (kJ (aB E.bR) (vL E.EH.1) rfl rfl).1)))) (fun hd => ?_) (fun hd => ao (ao (ao ?_)))
         . rw [an4, amY, amY] at hd
           refine fD E.EH.1 rfl (v_ E.iW.1) rfl (by simp; omega) (ao (ao (ao ?_)))
           dsimp only
           rw [amo hd, ← e1, ← e2]
           exact ⟨_, _, _, _, rfl⟩
         . rw [anM, ana, ana] at hd
           dsimp only
           rw [amk (fun z => z.elim hd.1 hd.2), ← e1]
           exact ⟨_, _, _, _, rfl⟩
       . rw [amk (by rw [hg]; decide)]
         exact ⟨_, _, _, _, rfl⟩
   case fin =>
     rintro δ ⟨NW, NX, WV, QF, rfl⟩
     have e : (bO 0 (es.length : Int).toNat).length = es.length := by simp [bO]
     rw [e]
     exact bD (vM E.bP.1) (by rw [← hen])
theorem bL : jU (av kP) ([("elders", ak), ("kinds", ak), ("starts", ak), ("memory", ak), ("upper", ak), ("target", ak), ("mode", ak), ("lane", ak), ("found", ak), ("deep", ak), ("k", ak), ("elder", ak), ("goes", ak), ("goal", ak), ("range", az), ("len", az)]) = true := by decide +kernel
theorem tT : aP ["elders", "kinds", "starts", "memory", "upper", "target", "mode", "lane", "found", "deep", "k", "elder", "goes", "goal"] ["elders", "kinds", "starts", "memory", "upper", "target", "mode"] (av kP) := aX
noncomputable def Xe (ks : List Str) (es ss mem : List Int) (w : cR) : List Int := (wY (aq ks) es ss mem (bK w.mode) (cu w.mode) (Ag es (eV ks es w) w.tgt.toNat) w.tgt.toNat es.length).1
theorem Dj {ks : List Str} {es ss mem ops : List Int} (hT : dZ (aQ ks) (aq ks) es ss mem) : ∀ {gs : List cR}, (∀ w ∈ gs, Goes ks es ops w) -> (gs.flatMap (Xe ks es ss mem)).Perm (gs.flatMap (CW ks es ss mem))
 | [], _ => .refl _
 | w :: gs, h => by
   rw [ane, ane]
   have gw := h w ame
   refine List.Perm.append (HR hT (by have := gw.1; omega) gw.up (fun x => Sd.trans (vh hT.pre.1 (by omega) (by have := gw.1; omega) gw.up x))) (Dj hT fun v hv => h v (ami _ hv))
noncomputable abbrev EK : Stmt := top 55
noncomputable abbrev K3 : Type := List L3.D × List Int × List Str × List Int × List (List L3.D) × List (List L3.D) × List cR × List Int × List Int × List Int
noncomputable def wg : K3 -> List L3.D := fun (bs, es, ks, ss, is, os, ws, ch, mem, so) => [eZ bs es ks ss (is.map .tup) (os.map .tup) (ws.map cE), .lst ((cD (aq ks) es ch (es.length - 1)).map .int), .lst (mem.map .int), .lst (so.map .int)]
noncomputable def wk : K3 -> Prop := fun (bs, es, ks, ss, is, os, ws, ch, mem, so) => iJ ks es ss is os ws /\ (ch.length = es.length /\ uf (aS ks) es ch) /\ tN ks es mem /\ qA ks es ws (cD (aq ks) es ch (es.length - 1)) so
noncomputable def wm : K3 -> T := fun (bs, es, ks, ss, is, os, ws, ch, mem, so) => (.sh (.tup [.lst (xP ks es ss is os ws mem (cD (aq ks) es ch (es.length - 1)) so), .lst ((Pr ks es ss (BU ks es ws mem (cD (aq ks) es ch (es.length - 1)) (eX ws so)) (cD (aq ks) es ch (es.length - 1)) (eX ws so)).map .int), .lst ((BU ks es ws mem (cD (aq ks) es ch (es.length - 1)) (eX ws so)).map .int)]) : T)
structure abN (X : Cx) (CL : Str -> Addr) : Prop extends cA X where
 aM : Ln X 0 "parts"
 b8 : Ln X 1 "opens"
 EL : X.env.kindOf "opens" = some .cell
 bw : Ln X 2 "memory"
 iD : Ln X 3 "some"
 ek : Ln X 4 "rows"
 eG : Ln X 5 "behind"
 uq : Ln X 6 "lost"
 abO : X.env.kindOf "lost" = some .cell
 bf : Ln X 7 "mood"
 Dk : Ln X 8 "new"
 bA : Ln X 9 "number"
 fK : Ln X 10 "way"
 eu : Ln X 11 "at"
 cI : Gl X "list"
 IE : Gl X "_law_gone"
 B6 : Gl X "_law_heeded"
 gn : Gl X "_law_inner"
 jB : Gl X "_law_top"
 AJ : Gl X "_law_entered"
 ez : Gl X "sorted"
 cJ : X.mg "list" = none
 abP : Fc X CL "_law_gone" 3 3 v8 qT v9
 IG : Fc X CL "_law_heeded" 2 2 jM iH jN
 iS : Fc X CL "_law_inner" 1 2 gk dX fH
 nX : Fc X CL "_law_top" 2 2 jz fO jA
 ER : Fc X CL "_law_entered" 1 7 jh gX ji
 eB : X.mg "sorted" = none
theorem abQ {X : Cx} {CL : Str -> Addr} {b : Bx} (E : abN X CL) (bs es ks ss is os ws ch mem so) (h : wk (bs, es, ks, ss, is, os, ws, ch, mem, so)) :
   aC X CL b EK ["parts", "opens", "memory", "some", "rows", "behind", "lost", "mood", "new", "number", "way", "at"] (wg (bs, es, ks, ss, is, os, ws, ch, mem, so)) (wm (bs, es, ks, ss, is, os, ws, ch, mem, so)) := by
 dsimp only [aC, wk, wg, wm] at h ⊢
 obtain ⟨hC, ⟨xF, hc⟩, hm, hs⟩ := h
 have ht := hC.pre.1
 have n0 := hC.n0
 have n1 := hC.n1
 have Kf := hs.goes hC
 have K4 := hs.win hC
 have hwi := hs.i
 have hsl := hs.l
 have Xf := hs.ap
 have G5 : ∀ x ∈ cD (aq ks) es ch (es.length - 1), 0 <= x /\ x < es.length := fun x hx => HX n0 hx
 have Wg := gS (isAll := aq ks) (es := es) (ch := ch) (es.length - 1)
 have Zq := oB (isAll := aq ks) (es := es) (ch := ch) (es.length - 1)
 obtain ⟨zm, _, _, _, Zu⟩ := Am hC.kd (hC.tree (C2 hC hc xF hm (eX ws so))) n0 xF hc Xf Kf
 have Tg := C2 hC hc xF hm (eX ws so)
 have Ve := Zj (ws := ws) hC hc xF hm.1 (eX ws so)
 have hbT := hC.tree Tg
 obtain ⟨f1, f2⟩ := Ak (ks := ks) ht Wg G5 Xf
 obtain ⟨g1, g2⟩ := xK (ks := ks) ht Wg G5 Xf
 obtain ⟨c1, c2, c3⟩ := Al hbT Xf Kf
 have hgO : ∀ x ∈ gO ks es (cD (aq ks) es ch (es.length - 1)) (eX ws so), x ∈ cD (aq ks) es ch (es.length - 1) := fun x hx => (vp.mp hx).1
 have Xg : ∀ x ∈ gO ks es (cD (aq ks) es ch (es.length - 1)) (eX ws so), 0 <= x /\ x < es.length := fun x hx => G5 x (hgO x hx)
 have afv : ∀ x ∈ gO ks es (cD (aq ks) es ch (es.length - 1)) (eX ws so), aS ks x = true -> tL es (cD (aq ks) es ch (es.length - 1)) x ≠ [] /\ (tL es (cD (aq ks) es ch (es.length - 1)) x).getD 0 0 = ch.getD x.toNat 0 := fun x hx ho => by
   obtain ⟨x0, x1⟩ := Xg x hx
   obtain ⟨q, rfl⟩ : ∃ q : Nat, x = q := ⟨x.toNat, by omega⟩
   rw [amm]
   exact HS ht hC.kd hc (by omega) ho (hgO _ hx)
 have aio : ∀ x ∈ gO ks es (cD (aq ks) es ch (es.length - 1)) (eX ws so), cH ks es ws x = true -> (BU ks es ws mem (cD (aq ks) es ch (es.length - 1)) (eX ws so)).getD x.toNat 0 = ch.getD x.toNat 0 := fun x hx hh => by
   obtain ⟨x0, x1⟩ := Xg x hx
   rw [Ve, zj _ _ (fun e he => by rw [hm.1]; exact Xg e (amK.mp he).1) x.toNat (by rw [hm.1]; omega), amo]
   have e : ((x.toNat : Nat) : Int) = x := by omega
   rw [e]
   refine ⟨amK.mpr ⟨hx, hh⟩, ?_⟩
   unfold cH at hh
   exact (Bool.and_eq_true_iff.mp hh).1
 have hwr : ∀ j, (vt ws (so.take j)).length <= 3 * j := fun j => by
   have := (vA (ws := ws) (n := es.length) (some := so.take j) fun x hx => K4 x (aoe hx)).1
   have h2 : (so.take j).length <= j := by simp; omega
   omega
 have hpf := Dj (ss := ss) (mem := BU ks es ws mem (cD (aq ks) es ch (es.length - 1)) (eX ws so)) hbT Kf
 unfold xP
 generalize aip : cD (aq ks) es ch (es.length - 1) = ops at *
 refine aI E.g E.ek (dN cZ (amO _)) ?_
 refine aI E.g E.eG (cV E.cJ (aB E.bw) (b9 _) E.cI bH) ?_
 refine aI E.g E.uq (gf (ds := (gO ks es ops (eX ws so)).map .int) (aK (c_ (bs, es, ks, ss, is.map .tup, os.map .tup, ws, ops, so) E.abP E.IE (ai (aB E.aM) (ai (aB E.b8) (ai (aB E.iD) aD))) (by dsimp only [qT]; exact ⟨ht, hC.kl, hC.wo, fun i hi => (hwi i hi).1, ⟨by omega, G5⟩, by omega⟩) (aT _)) rfl)) ?_
 generalize hG : gO ks es ops (eX ws so) = gone at *
 generalize hB : BU ks es ws mem ops (eX ws so) = bh at *
 refine d7 E.g E.bf (fun j δ => ∃ o7, δ = [some (.sh (eZ bs es ks ss (is.map .tup) (os.map .tup) (ws.map cE))), some (.sh (.lst (ops.map .int))), some (.sh (.lst (mem.map .int))), some (.sh (.lst (so.map .int))), some (.lst ((xN (cH ks es ws) os mem bh (gone.take j)).map T.sh)), some (.lst (((ud (aS ks) ch mem ((gone.take j).filter (cH ks es ws))).map .int).map T.sh)), some (.sh (.lst (gone.map .int))), o7, none, none, none, none])
   (dR (v_ E.uq.1)) ⟨_, rfl⟩ (fun j δ ⟨_, e⟩ => by subst e; exact amg rfl) ?turn ?fin
 case turn =>
   rintro j d δ hj ⟨o7, rfl⟩
   obtain ⟨m, rfl, _, hmm, nG, _, tF⟩ := gi hj
   obtain ⟨m0, m1⟩ := Xg m hmm
   have Zr := (vz (vq := cH ks es ws) (mem := mem) (bh := bh) hC.or (gone.take j)).1
   have htl : (gone.take j).length <= j := by simp; omega
   obtain ⟨r1, r2⟩ := hC.or.get m.toNat
   have aiq := hC.ol
   have yw := hm.1
   rw [tF, CZ, anh]
   have air := vg (aS ks) ch ((gone.take j).filter (cH ks es ws)) mem
   generalize xN (cH ks es ws) os mem bh (gone.take j) = rs at Zr ⊢
   generalize (gone.take j).filter (cH ks es ws) = hd at air ⊢
   refine fD E.ek.1 rfl (fQ (aG bC (aG (v_ E.bf.1) di)) (aN rfl)) rfl (by rw [amc]; omega) ?_
   refine qq (fun δ => δ = [some (.sh (eZ bs es ks ss (is.map .tup) (os.map .tup) (ws.map cE))), some (.sh (.lst (ops.map .int))), some (.sh (.lst (mem.map .int))), some (.sh (.lst (so.map .int))), some (.lst ((rs ++ (L3.D.tup [.str "out", .int m] :: (if cH ks es ws m = true then [L3.D.tup [.str "keep", .int m, .int (mem.getD m.toNat 0), .int (bh.getD m.toNat 0)]] else []))).map T.sh)), some (.lst (((ud (aS ks) ch mem (hd ++ [m].filter (cH ks es ws))).map .int).map T.sh)), some (.sh (.lst (gone.map .int))), some (.sh (.int m)), none, none, none, none])
     (fZ (aK (c_ (bs, es, ks, ss, is.map .tup, os.map .tup, ws, m) E.IG E.B6 (ai (aB E.aM) (ai (aB E.bf) aD)) (by dsimp only [iH]; exact ⟨ht, hC.kl, by omega, m0, m1, fun w hw => by rcases (hC.wo w hw).2.1 with z | z <;> omega⟩) rfl) (t2 := .sh (.bl (cH ks es ws m))) rfl)) (fun hp => ?_) (fun hp => ?_) ?_
   . have tG : aS ks m = true := by
       unfold cH at hp
       exact (Bool.and_eq_true_iff.mp hp).1
     obtain ⟨q1, q2⟩ := afv m hmm tG
     have hbm := aio m hmm hp
     have AI : ((((eU es m).map L3.D.int).filter (fun d => decide (d.uW ∈ ops))).map fun d => T.sh d) = ((tL es ops m).map L3.D.int).map T.sh := by
       unfold tL
       rw [anE, amI]
       exact (amI ..).symm
     have hil := zc es m
     have hnl : 0 < (tL es ops m).length := List.length_pos_iff.mpr q1
     have BG : ud (aS ks) ch mem (hd ++ [m].filter (cH ks es ws)) = (ud (aS ks) ch mem hd).set m.toNat (ch.getD m.toNat 0) := by
       rw [show [m].filter (cH ks es ws) = [m] by simp [hp], Ph]
       unfold setStep
       rw [amo tG]
     rw [amo hp, BG, hbm]
     have afy : (ud (aS ks) ch mem hd).length = es.length := by omega
     generalize ud (aS ks) ch mem hd = sf at afy ⊢
     refine RB E.eG.1 (aK (cY (aO (cQ (aK (lY (p := fun d => decide (d.uW ∈ ops)) (g := fun d => T.sh d) (dF (.cons E.b8.1 (.inl E.EL) .nil) (by decide +kernel)) E.g.calm (dR (gf (aK (c_ (es, m) E.iS E.gn (ai (aW (aB E.aM) (ah aj) rfl) (ai (aB E.bf) aD)) (show es.length <= 1000 by omega) (aT _)) (t2 := .lst (((eU es m).map .int).map T.sh)) rfl))) (.inr rfl) (fun C s0 H0 f0 b' d hd => ?D0) (amQ (bQ (by simp; omega)))) (congrArg T.lst AI))) (ah aj) (ck (by omega) (by omega))) rfl) (t2 := .sh (.int (ch.getD m.toNat 0))) (congrArg (fun z => T.sh (.int z)) q2)) (aB E.bf) rfl (Kc m0 (by rw [amc, amc]; omega)) ?_
     case D0 =>
       obtain ⟨x, hx, rfl⟩ := amJ.mp hd
       exact ⟨(kJ (l := ops) (ah (v_ (ef (i := 0) rfl (by decide +kernel)))) (ah (v_ (f9 (i := 1) rfl (by decide +kernel)))) rfl rfl).1, fun _ => (v_ (ef (i := 0) rfl (by decide +kernel)))⟩
     rw [show ((sf.map L3.D.int).map T.sh).set m.toNat (T.sh (.int (ch.getD m.toNat 0))) = ((sf.set m.toNat (ch.getD m.toNat 0)).map L3.D.int).map T.sh by rw [aoo, aoo]]
     have afz : (sf.set m.toNat (ch.getD m.toNat 0)).getD m.toNat 0 = ch.getD m.toNat 0 := by
       rw [amd, anR (by omega)]
       rfl
     have hl3 : (sf.set m.toNat (ch.getD m.toNat 0)).length = es.length := by rw [anU]; exact afy
     generalize sf.set m.toNat (ch.getD m.toNat 0) = sg at afz hl3 ⊢
     refine fD E.ek.1 rfl (fQ (aG bC (aG (v_ E.bf.1) (aG (cY (aO (aB E.bw) (aB E.bf) (ck m0 (by omega))) rfl) (aG (aK (cY (aO (vL E.eG.1) (aB E.bf) (ck m0 (by omega))) rfl) (congrArg (fun z => T.sh (.int z)) afz)) di)))) (aN rfl)) rfl (by rw [amj, amc]; simp; omega) (ao ?_)
     simp
   . rw [amk (by rw [hp]; decide), show [m].filter (cH ks es ws) = [] by simp [hp], amF]
     refine ao ?_
     simp
   rintro δ rfl
   have zl : (if cH ks es ws m = true then [L3.D.tup [.str "keep", .int m, .int (mem.getD m.toNat 0), .int (bh.getD m.toNat 0)]] else []).length <= 1 := by split <;> simp
   generalize (if cH ks es ws m = true then [L3.D.tup [.str "keep", .int m, .int (mem.getD m.toNat 0), .int (bh.getD m.toNat 0)]] else []) = kr at zl ⊢
   refine xB E.ek.1 rfl (aO (aW (aB E.aM) (ah aj) rfl) (aB E.bf) (c5 (f := L3.D.tup) [] m0 (by omega))) r2 rfl (by rw [amc, amj, amA]; omega) (ao ⟨some (.sh (.int m)), ?_⟩)
   simp
 case fin =>
 rintro δ ⟨o7, rfl⟩
 rw [amc, amP, ← Ve]
 obtain ⟨o1, o2⟩ := vz (vq := cH ks es ws) (mem := mem) (bh := bh) hC.or gone
 obtain ⟨w1, w2⟩ := vA (n := es.length) K4
 generalize hO : xN (cH ks es ws) os mem bh gone = oR at o1 o2 ⊢
 refine aI E.g E.Dk (dN cZ (amO _)) ?_
 have PN : ∀ j, ((eX ws (so.take j)).flatMap (Xe ks es ss bh)).length <= es.length := fun j => by
   have h2 := anC j so
   have e : eX ws so = eX ws (so.take j) ++ eX ws (so.drop j) := by
     unfold eX
     rw [← amR, ← anh, h2]
   have hle := hpf.length_eq
   rw [e, amW, amj] at hle
   rw [e] at c2
   omega
 refine d7 E.g E.bA (fun j δ => ∃ o9 NW NX, δ = [some (.sh (eZ bs es ks ss (is.map .tup) (os.map .tup) (ws.map cE))), some (.sh (.lst (ops.map .int))), some (.sh (.lst (mem.map .int))), some (.sh (.lst (so.map .int))), some (.lst ((oR ++ vt ws (so.take j)).map T.sh)), some (.lst ((bh.map .int).map T.sh)), some (.sh (.lst (gone.map .int))), o7, some (.lst ((((eX ws (so.take j)).flatMap (Xe ks es ss bh)).map .int).map T.sh)), o9, NW, NX])
   (dR (v_ E.iD.1)) ⟨none, none, none, by rw [List.take_zero]; simp [vt, eX]⟩ (fun j δ ⟨_, _, _, e⟩ => by subst e; exact amg rfl) ?HY ?fin2
 case HY =>
   rintro j d δ hj ⟨o9, NW, NX, rfl⟩
   obtain ⟨i, rfl, _, hi, nG, _, tF⟩ := gi hj
   obtain ⟨⟨i0, i1⟩, Si⟩ := hwi i hi
   have win := K4 i hi
   have hwj := hwr j
   have hfj := PN j
   have Ti := PN (j + 1)
   have ais : gP ws i = true -> Goes ks es ops (cW ws i) := fun hT => Kf _ (amJ.mpr ⟨i, amK.mpr ⟨hi, hT⟩, rfl⟩)
   rw [tF, C1, EB]
   rw [tF, EB] at Ti
   have d1 := win.2.2.2.1
   refine aI E.g E.fK (aK (DL (zV (v_ E.aM.1) (ah aj) rfl) (aB E.bA) (c5 (f := cE) w0 i0 i1)) (t2 := .sh (cE (cW ws i))) rfl) ?_
   generalize vt ws (so.take j) = wr at hwj ⊢
   generalize eX ws (so.take j) = gs at hfj Ti ⊢
   refine fD E.ek.1 rfl (fQ (aG bC (aG (v_ E.bA.1) di)) (aN rfl)) rfl (by rw [amc, amj]; omega) ?_
   refine xB E.ek.1 rfl (aW (aB E.fK) (ah aj) (cy (j := 3) rfl)) win.2.2.2.2.1 rfl (by rw [amj, amc, amj, anf]; show _ + (cW ws i).jW.length <= _; omega) ?_
   have er : (oR ++ wr).map T.sh ++ [T.sh (.tup [.str "way", .int i])] ++ (cW ws i).jW.map T.sh = (oR ++ (wr ++ (L3.D.tup [.str "way", .int i] :: (cW ws i).jW))).map T.sh := by simp
   rw [er]
   refine d9 (kC (aW (aB E.fK) (ah aj) (cy (j := 4) rfl)) (ah (eH (ah aj)))).1 (fun hp => ?_) (fun hp => ao (ao ?_))
   . have hT : gP ws i = true := hp
     have gw := ais hT
     have etg : ((cW ws i).tgt.toNat : Int) = (cW ws i).tgt := by have := gw.1; omega
     rw [amo hT] at Ti ⊢
     rw [amW, amj] at Ti
     simp only [ane, List.flatMap_nil, amF] at Ti
     refine aI E.g E.eu (aK (c_ (bs, es, ks, ss, is.map .tup, os.map .tup, ws, i) E.nX E.jB (ai (aB E.aM) (ai (aB E.bA) aD)) (by dsimp only [fO]; exact ⟨ht, hC.kl, ⟨i0, i1⟩, win.1, gw.1⟩) rfl) (t2 := .sh (.int (eV ks es (cW ws i)))) rfl) ?_
     refine CN E.Dk.1 rfl (aK (c_ (es, ks, ss, bh, eV ks es (cW ws i), (cW ws i).tgt.toNat, (cW ws i).mode) E.ER E.AJ (ai (aW (aB E.aM) (ah aj) rfl) (ai (aW (aB E.aM) (ah aj) rfl) (ai (aW (aB E.aM) (ah aj) rfl) (ai (vL E.eG.1) (ai (aB E.eu) (ai (CG (aW (aB E.fK) (ah aj) (cy (j := 4) rfl)) (congrArg L3.D.int etg.symm)) (ai (aW (aB E.fK) (ah aj) (cy (j := 5) rfl)) aD))))))) (by dsimp only [gX]; exact ⟨by omega, hC.kl, hC.sl, Tg.1, by have := gw.1; omega, ht, gw.up, win.2.2.1⟩) (aT _)) (t2 := .lst (((Xe ks es ss bh (cW ws i)).map .int).map T.sh)) rfl) rfl (by simp only [List.length_map]; omega) (ao (ao ⟨some (.sh (.int i)), some (.sh (cE (cW ws i))), some (.sh (.int (eV ks es (cW ws i)))), ?_⟩))
     rw [amW]
     simp only [ane, List.flatMap_nil, amF, amR, aml]
     rfl
   . have hT : ¬ gP ws i = true := by
       have : gP ws i = false := hp
       rw [this]
       decide
     rw [amk hT, amF]
     exact ⟨_, _, _, rfl⟩
 case fin2 =>
 rintro δ ⟨o9, NW, NX, rfl⟩
 rw [amc, amP]
 have hfs := PN so.length
 rw [amP] at hfs
 refine aI E.g E.Dk (aK (iR E.eB (vL E.Dk.1) (by omega) E.ez) (t2 := .lst (((lV ks es ss bh (eX ws so)).map .int).map T.sh)) (by rw [rZ hpf]; rfl)) ?_
 have abR : (lV ks es ss bh (eX ws so)).length <= es.length := by unfold lV; rw [g9]; exact c2
 have hcm : ∀ x ∈ lV ks es ss bh (eX ws so), 0 <= x /\ x < is.length := fun x hx => by
   rw [hC.il]
   exact (c3 x (k9.mp hx)).1
 unfold Pr
 rw [hG]
 generalize lV ks es ss bh (eX ws so) = come at Zu abR hcm ⊢
 refine d7 E.g E.bf (fun j δ => ∃ o7, δ = [some (.sh (eZ bs es ks ss (is.map .tup) (os.map .tup) (ws.map cE))), some (.sh (.lst (ops.map .int))), some (.sh (.lst (mem.map .int))), some (.sh (.lst (so.map .int))), some (.lst ((oR ++ vt ws so ++ inR is (come.take j)).map T.sh)), some (.lst ((bh.map .int).map T.sh)), some (.sh (.lst (gone.map .int))), o7, some (.sh (.lst (come.map .int))), o9, NW, NX])
   (dR (vFL E.Dk.1 rfl)) ⟨o7, by rw [List.take_zero]; simp [inR]⟩ (fun j δ ⟨_, e⟩ => by subst e; exact amg rfl) ?afA ?aiu
 case afA =>
   rintro j d δ hj ⟨o, rfl⟩
   obtain ⟨m, rfl, _, hmm, nG, _, tF⟩ := gi hj
   obtain ⟨m0, m1⟩ := hcm m hmm
   have Zr := (D9 hC.ir (come.take j)).1
   have htl : (come.take j).length <= j := by simp; omega
   obtain ⟨r1, r2⟩ := hC.ir.get m.toNat
   refine fD E.ek.1 rfl (fQ (aG bC (aG (v_ E.bf.1) di)) (aN rfl)) rfl (by rw [amc, amj, amj]; omega) ?_
   refine xB E.ek.1 rfl (aO (aW (aB E.aM) (ah aj) rfl) (aB E.bf) (c5 (f := L3.D.tup) [] m0 m1)) r2 rfl (by rw [amj, amc, amj, amj, anf]; omega) (ao ⟨some (.sh (.int m)), ?_⟩)
   rw [tF, HW]
   simp
 case aiu =>
   rintro δ ⟨o, rfl⟩
   rw [amc, amP]
   have AI : ((((ops.map L3.D.int).filter (fun d => !decide (d.uW ∈ gone))).map fun d => T.sh d)) = ((ops.filter (fun x => !decide (x ∈ gone))).map L3.D.int).map T.sh := by
     rw [anE, amI]
     exact (amI ..).symm
   have hfo : (ops.filter (fun x => !decide (x ∈ gone))).length <= ops.length := ank _ _
   refine bD (Nq (DJ (bY (vM E.ek.1) (bY (iR (l := ops.filter (fun x => !decide (x ∈ gone)) ++ come) E.eB (cQ (aK (oq (ds := (ops.filter (fun x => !decide (x ∈ gone))).map .int) (Np := come.map .int) (cQ (aK (lY (p := fun d => !decide (d.uW ∈ gone)) (g := fun d => T.sh d) (dF (.cons E.uq.1 (.inl E.abO) .nil) (by decide +kernel)) E.g.calm (dR (v_ E.b8.1)) (.inr rfl) (fun C s0 H0 f0 b' d hd => ?abS) (amQ (bQ (by simp; omega)))) (congrArg T.lst AI))) (aB E.Dk) (b9 _) (b9 _) (amQ (bQ (by simp only [amc]; omega)))) (t2 := .lst (((ops.filter (fun x => !decide (x ∈ gone)) ++ come).map .int).map T.sh)) (by rw [← amR]))) (by omega) E.ez) (bY (vM E.eG.1) cZ))) (aN rfl)) ?fS) rfl
   case abS =>
     obtain ⟨i, hi, rfl⟩ := amJ.mp hd
     exact ⟨(u5 (l := gone) (ah (v_ (ef (i := 0) rfl (by decide +kernel)))) (ah (v_ (f9 (i := 1) rfl (by decide +kernel)))) rfl rfl).1, fun _ => (v_ (ef (i := 0) rfl (by decide +kernel)))⟩
   case fS =>
     rw [T.fS, T.fL, T.fL, T.fL, T.fL, cS, cS, cS]
theorem dY : jU (av EK) ([("parts", ak), ("opens", .cell), ("memory", ak), ("some", ak), ("rows", ak), ("behind", ak), ("lost", .cell), ("mood", ak), ("new", ak), ("number", ak), ("way", ak), ("at", ak), ("list", az), ("_law_gone", az), ("_law_heeded", az), ("_law_inner", az), ("_law_top", az), ("_law_entered", az), ("sorted", az)]) = true := by decide +kernel
theorem N9 : aP ["parts", "opens", "memory", "some", "rows", "behind", "lost", "mood", "new", "number", "way", "at"] ["parts", "opens", "memory", "some"] (av EK) := aX
noncomputable abbrev zE : Stmt := top 8
noncomputable abbrev EV : Type := List Str × List Int × List Int × Int
noncomputable def lg : EV -> List L3.D := fun (ks, es, ss, m) => [eo ks es ss, .int m]
noncomputable def jC : EV -> Prop := fun (ks, es, ss, m) => dM es /\ 0 <= m /\ m < es.length /\ es.length <= 1000
noncomputable def lq : EV -> T := fun (ks, es, ss, m) => (.lst (((aY es m).map .int).map T.sh) : T)
structure Xh (X : Cx) (CL : Str -> Addr) : Prop extends cA X where
 cK : Ln X 0 "tree"
 bf : Ln X 1 "mood"
 bP : Ln X 2 "found"
 bR : Ln X 3 "elder"
 fj : tY X.K (CL "Tree")
 eN : bE X.K (CL "Tree") "elders"
theorem Xi {X : Cx} {CL : Str -> Addr} {b : Bx} (E : Xh X CL) (ks es ss m) (h : jC (ks, es, ss, m)) :
   aC X CL b zE ["tree", "mood", "found", "elder"] (lg (ks, es, ss, m)) (lq (ks, es, ss, m)) := by
 dsimp only [aC, jC, lg, lq] at h ⊢
 obtain ⟨ht, h0, h1, hlen⟩ := h
 refine aI E.g E.bP (dN cZ (amO _)) ?_
 refine aI E.g E.bR (cY (aO (gb E.fj E.eN (aB E.cK) lZ) (aB E.bf) (ck h0 h1)) rfl) ?_
 have hm := ht.at h0 h1
 refine za E.g (fun n δ => ∃ (k : Int) (l : List Int), δ = [some (.sh (eo ks es ss)), some (.sh (.int m)), some (.lst ((l.map .int).map T.sh)), some (.sh (.int k))] /\ -1 <= k /\ k < n /\ k < es.length /\ l ++ yO n es k = aY es m /\ l.length + n <= es.length + 1) (es.length + 1)
   ⟨es.getD m.toNat 0, [], rfl, hm.1, by omega, by omega, rfl, by simp⟩ ?_
 rintro n δ ⟨k, l, rfl, k0, k1, k2, k3, k4⟩
 refine ⟨_, _, (kC (aB E.bR) (ah (eH (ah aj)))).1, fun hp => ?_, fun hp => ?_⟩
 . have hk : ¬ k = -1 := by simpa using hp
   have ha := ht.at (k := k) (by omega) k2
   cases n with
   | zero => omega
   | succ n =>
     refine fD E.bP.1 rfl (v_ E.bR.1) rfl (by simp; omega) ?_
     refine aI E.g E.bR (cY (aO (gb E.fj E.eN (aB E.cK) lZ) (aB E.bR) (ck (by omega) k2)) rfl) ?_
     refine ao ⟨n, aoc _, es.getD k.toNat 0, l ++ [k], ?_, ha.1, by omega, by omega, ?_, by simp; omega⟩
     . show [_, _, some (T.lst (((l.map D.int).map T.sh) ++ [T.sh (.int k)])), _] = _
       simp
     . rw [← k3, yO, amk hk, aml]
       rfl
 . have hk : k = -1 := by simpa using hp
   subst hk
   have e : l = aY es m := by
     rw [← k3]
     cases n with
     | zero => rw [yO, amF]
     | succ n => rw [yO, amo rfl, amF]
   subst e
   exact bD (vM E.bP.1) rfl
theorem wu : jU (av zE) ([("tree", ak), ("mood", ak), ("found", ak), ("elder", ak)]) = true := by decide +kernel
theorem II : aP ["tree", "mood", "found", "elder"] ["tree", "mood"] (av zE) := aX
noncomputable abbrev wA : Stmt := top 9
noncomputable abbrev AK : Type := List Str × List Int × List Int × Int × Int
noncomputable def jD : AK -> List L3.D := fun (ks, es, ss, m, o) => [eo ks es ss, .int m, .int o]
noncomputable def gu : AK -> Prop := fun (ks, es, ss, m, o) => dM es /\ 0 <= m /\ m < es.length /\ es.length <= 1000
noncomputable def jE : AK -> T := fun (ks, es, ss, m, o) => (.sh (.bl (decide (o = -1) || decide (o ∈ aY es m))) : T)
structure Tj (X : Cx) (CL : Str -> Addr) : Prop extends cA X where
 cK : Ln X 0 "tree"
 bf : Ln X 1 "mood"
 mF : Ln X 2 "other"
 oZ : Gl X "above"
 wB : Fc X CL "above" 1 2 lg jC lq
theorem Tp {X : Cx} {CL : Str -> Addr} {b : Bx} (E : Tj X CL) (ks es ss m o) (h : gu (ks, es, ss, m, o)) :
   aC X CL b wA ["tree", "mood", "other"] (jD (ks, es, ss, m, o)) (jE (ks, es, ss, m, o)) := by
 dsimp only [aC, gu, jD, jE] at h ⊢
 exact bD (Rm (dD (aB E.mF) (ah (eH (ah aj)))).2 (fun _ => xr (kJ (l := aY es m) (aB E.mF) (cQ (c_ (ks, es, ss, m) E.wB E.oZ (ai (aB E.cK) (ai (aB E.bf) aD)) h (aT _))) rfl rfl).2)) rfl
theorem sP : jU (av wA) ([("tree", ak), ("mood", ak), ("other", ak), ("above", az)]) = true := by decide +kernel
theorem Dl : aP ["tree", "mood", "other"] ["tree", "mood", "other"] (av wA) := aX
noncomputable abbrev EW : Stmt := top 21
noncomputable abbrev K5 : Type := List Str × List Int × List Int × List Int × Int
noncomputable def wC : K5 -> List L3.D := fun (ks, es, ss, ops, u) => [eo ks es ss, .lst (ops.map .int), .int u]
noncomputable def qV : K5 -> Prop := fun (ks, es, ss, ops, u) => dM es /\ es.length <= 1000 /\ ops.length <= 1000 /\ ∀ m ∈ ops, 0 <= m /\ m < es.length
noncomputable def wF : K5 -> T := fun (ks, es, ss, ops, u) => (.lst (((jX es ops u).map .int).map T.sh) : T)
structure abT (X : Cx) (CL : Str -> Addr) : Prop extends cA X where
 cK : Ln X 0 "tree"
 abU : X.env.kindOf "tree" = some .cell
 b8 : Ln X 1 "opens"
 gq : Ln X 2 "upper"
 Xj : X.env.kindOf "upper" = some .cell
 pe : Gl X "reversed"
 pA : X.mg "reversed" = none
 qW : Fc X CL "within" 2 3 jD gu jE
theorem abV {X : Cx} {CL : Str -> Addr} {b : Bx} (E : abT X CL) (ks es ss ops u) (h : qV (ks, es, ss, ops, u)) :
   aC X CL b EW ["tree", "opens", "upper"] (wC (ks, es, ss, ops, u)) (wF (ks, es, ss, ops, u)) := by
 dsimp only [aC, qV, wC, wF] at h ⊢
 obtain ⟨ht, hl, ho, hm⟩ := h
 refine bD (lY (p := fun d => decide (u = -1) || decide (u ∈ aY es d.uW)) (g := fun d => T.sh d) (dF (.cons E.cK.1 (.inl E.abU) (.cons E.gq.1 (.inl E.Xj) .nil)) (by decide +kernel)) E.g.calm
   (aaV E.pA (v_ E.b8.1) E.pe) (.inr rfl) (fun C s0 H0 f0 b' d hd => ?D0) (amQ (bQ (by simp; omega)))) ?eq
 case D0 =>
   obtain ⟨i, hi, rfl⟩ := amJ.mp (anK.mp hd)
   have Nj := hm i hi
   exact ⟨fZ (c_ (ks, es, ss, i, u) (kI E.qW) (jc (by decide +kernel)) (ai (ah (v_ (f9 (i := 1) rfl (by decide +kernel)))) (ai (ah (v_ (ef (i := 0) rfl (by decide +kernel)))) (ai (ah (v_ (f9 (i := 2) rfl (by decide +kernel)))) aD))) (by dsimp only [gu]; exact ⟨ht, by omega, by omega, hl⟩) rfl), fun _ => v_ (ef (i := 0) rfl (by decide +kernel))⟩
 case eq =>
   refine congrArg T.lst ?_
   unfold jX
   rw [← List.map_reverse, anE, List.filter_reverse]
   rfl
theorem sQ : jU (av EW) ([("tree", .cell), ("opens", ak), ("upper", .cell), ("reversed", az)]) = true := by decide +kernel
theorem Oa : aP ["tree", "opens", "upper"] ["tree", "opens", "upper"] (av EW) := aX
noncomputable abbrev Ob : Stmt := top 13
noncomputable abbrev Tq : Type := List Str × List Int × List Int × Int × Int
noncomputable def zF : Tq -> List L3.D := fun (ks, es, ss, a, c) => [eo ks es ss, .int a, .int c]
noncomputable def wG : Tq -> Prop := fun (ks, es, ss, a, c) => dM es /\ es.length <= 1000 /\ ks.length = es.length /\ (0 <= a /\ a < es.length) /\ 0 <= c /\ c < es.length
noncomputable def zG : Tq -> T := fun (ks, es, ss, a, c) => (.sh (.int (DW (aS ks) es a c)) : T)
structure afB (X : Cx) (CL : Str -> Addr) : Prop extends cA X where
 cK : Ln X 0 "tree"
 C7 : Ln X 1 "one"
 mF : Ln X 2 "other"
 gq : Ln X 3 "upper"
 oZ : Gl X "above"
 qX : Gl X "within"
 wB : Fc X CL "above" 1 2 lg jC lq
 qW : Fc X CL "within" 2 3 jD gu jE
 fj : tY X.K (CL "Tree")
 dI : bE X.K (CL "Tree") "kinds"
theorem afC {X : Cx} {CL : Str -> Addr} {b : Bx} (E : afB X CL) (ks es ss a c) (h : wG (ks, es, ss, a, c)) :
   aC X CL b Ob ["tree", "one", "other", "upper"] (zF (ks, es, ss, a, c)) (zG (ks, es, ss, a, c)) := by
 dsimp only [aC, wG, zF, zG] at h ⊢
 obtain ⟨ht, hl, hk, ⟨a0, a1⟩, c0, c1⟩ := h
 refine d7 E.g E.gq (fun j δ => ∃ o, (∀ x ∈ (aY es a).take j, (aS ks x && decide (x ∈ aY es c)) = false) /\ δ = [some (.sh (eo ks es ss)), some (.sh (.int a)), some (.sh (.int c)), o])
   (dR (gf (c_ (_, _, _, _) E.wB E.oZ (ai (aB E.cK) (ai (aB E.C7) aD)) (by dsimp only [jC]; exact (⟨ht, a0, a1, hl⟩)) (aT _)))) ⟨_, fun x hx => by simp at hx, rfl⟩ (fun j δ ⟨_, _, e⟩ => by subst e; exact Nat.le_of_ble_eq_true rfl) ?turn ?fin
 case turn =>
   rintro j d δ hj ⟨o, qd, rfl⟩
   rw [amT] at hj
   cases hx : (aY es a)[j]? with
   | none => rw [hx] at hj; cases hj
   | some x =>
     rw [hx] at hj
     cases hj
     have hxm : x ∈ aY es a := anv hx
     have Td := aZ ht a0 a1 hxm
     have nG : j < (aY es a).length := (amH.mp hx).1
     have tF : (aY es a).take (j + 1) = (aY es a).take j ++ [x] := by rw [anV, hx]; rfl
     refine d9 (kH (ja (iB (aO (gb E.fj E.dI (aB E.cK) lD) (aB E.gq) (c5 Str.empty (by omega) (by omega))) (ah bC)).1 (fun hb => (g8 (fZ (c_ (_, _, _, _, _) E.qW E.qX (ai (aB E.cK) (ai (aB E.mF) (ai (aB E.gq) aD))) (by dsimp only [gu]; exact (⟨ht, c0, c1, hl⟩)) rfl)))))) (fun hp => ?_) (fun hp => ao (ao ⟨_, ?_, rfl⟩))
     . refine bD (v_ E.gq.1) ?_
       have hp2 : (aS ks x && decide (x ∈ aY es c)) = true := by
         have : decide (x = -1) = false := amN (by omega)
         rw [this, aoz] at hp
         exact hp
       have : (aY es a).find? (fun x => aS ks x && decide (x ∈ aY es c)) = some x := by
         have Qy : aY es a = (aY es a).take j ++ x :: (aY es a).drop (j + 1) := by
           have h2 := anC j (aY es a)
           rw [anY nG] at h2
           have : (aY es a)[j] = x := (amH.mp hx).2
           rw [this] at h2
           exact h2.symm
         conv => lhs; rw [Qy]
         rw [List.find?_append, List.find?_eq_none.mpr (fun y hy => by rw [qd y hy]; decide), List.find?_cons, hp2]
         rfl
       show _ = T.sh (.int (DW (aS ks) es a c))
       unfold DW
       rw [this]
       rfl
     . intro y hy
       rw [tF] at hy
       rcases amn.mp hy with hy | hy
       . exact qd y hy
       . have e : y = x := by simpa using hy
         subst e
         have : decide (y = -1) = false := amN (by omega)
         rw [this, aoz] at hp
         exact hp
 case fin =>
   rintro δ ⟨o, qd, rfl⟩
   rw [amc, amP] at qd
   refine bD (eH (ah aj)) ?_
   show _ = T.sh (.int (DW (aS ks) es a c))
   unfold DW
   rw [List.find?_eq_none.mpr (fun y hy => by rw [qd y hy]; decide)]
   rfl
theorem xT : jU (av Ob) ([("tree", ak), ("one", ak), ("other", ak), ("upper", ak), ("above", az), ("within", az)]) = true := by decide +kernel
theorem Tr : aP ["tree", "one", "other", "upper"] ["tree", "one", "other"] (av Ob) := aX
noncomputable abbrev sR : Stmt := top 16
noncomputable abbrev xU : Type := List L3.D × List L3.D × List Str × List Int × List Int × List L3.D × List L3.D × List cR × Int
noncomputable def j7 : xU -> List L3.D := fun (bs, nm, ks, es, ss, is, os, ws, i) => [gF bs nm (eo ks es ss) is os (ws.map cE), .int i]
noncomputable def gY : xU -> Prop := fun (bs, nm, ks, es, ss, is, os, ws, i) => dM es /\ es.length <= 1000 /\ ks.length = es.length /\ (0 <= i /\ i < ws.length) /\ (0 <= (cW ws i).src /\ (cW ws i).src < es.length) /\ 0 <= (cW ws i).tgt /\ (cW ws i).tgt < es.length
noncomputable def j8 : xU -> T := fun (bs, nm, ks, es, ss, is, os, ws, i) => (.sh (.int (eV ks es (cW ws i))) : T)
structure PR (X : Cx) (CL : Str -> Addr) : Prop extends cA X where
 bM : Ln X 0 "chart"
 bA : Ln X 1 "number"
 fK : Ln X 2 "way"
 Tt : Gl X "top"
 Tv : Gl X "SOURCE"
 j9 : Gl X "TARGET"
 afE : Fc X CL "top" 3 3 zF wG zG
 Tw : ∃ u, X.mg "SOURCE" = some (.int 0 u)
 kg : ∃ u, X.mg "TARGET" = some (.int 4 u)
 cg : tY X.K (CL "Chart")
 dJ : bE X.K (CL "Chart") "ways"
 cX : bE X.K (CL "Chart") "tree"
theorem PV {X : Cx} {CL : Str -> Addr} {b : Bx} (E : PR X CL) (bs nm ks es ss is os ws i) (h : gY (bs, nm, ks, es, ss, is, os, ws, i)) :
   aC X CL b sR ["chart", "number", "way"] (j7 (bs, nm, ks, es, ss, is, os, ws, i)) (j8 (bs, nm, ks, es, ss, is, os, ws, i)) := by
 dsimp only [aC, gY, j7, j8] at h ⊢
 obtain ⟨ht, hl, hk, ⟨i0, i1⟩, hs, ht2⟩ := h
 refine aI E.g E.fK (aK (DL (DR E.cg E.dJ (v_ E.bM.1) lE) (aB E.bA) (c5 (f := cE) w0 i0 i1)) (t2 := .sh (cE (cW ws i))) rfl) ?_
 exact bD (c_ (ks, es, ss, (cW ws i).src, (cW ws i).tgt) E.afE E.Tt (ai (gb E.cg E.cX (aB E.bM) jw) (ai (aW (aB E.fK) (ah (iF E.Tw E.Tv)) (cy (j := 0) rfl)) (ai (aW (aB E.fK) (ah (iF E.kg E.j9)) (cy (j := 4) rfl)) aD))) (by dsimp only [wG]; exact ⟨ht, hl, hk, hs, ht2⟩) rfl) rfl
theorem jF : jU (av sR) ([("chart", ak), ("number", ak), ("way", ak), ("top", az), ("SOURCE", az), ("TARGET", az)]) = true := by decide +kernel
theorem AO : aP ["chart", "number", "way"] ["chart", "number"] (av sR) := aX
noncomputable abbrev pB : Stmt := top 26
noncomputable abbrev ur : Type := List L3.D × List L3.D × List Str × List Int × List Int × List L3.D × List L3.D × List cR × List Int × List Int
noncomputable def kQ : ur -> List L3.D := fun (bs, nm, ks, es, ss, is, os, ws, ops, gs) => [gF bs nm (eo ks es ss) is os (ws.map cE), .lst (ops.map .int), .lst (gs.map .int)]
noncomputable def jj : ur -> Prop := fun (bs, nm, ks, es, ss, is, os, ws, ops, gs) => dM es /\ es.length <= 1000 /\ ks.length = es.length /\ ops.length <= 1000 /\ (∀ m ∈ ops, 0 <= m /\ m < es.length) /\ (∀ i ∈ gs, (0 <= i /\ i < ws.length) /\ (0 <= (cW ws i).src /\ (cW ws i).src < es.length) /\ 0 <= (cW ws i).tgt /\ (cW ws i).tgt < es.length) /\ ((gs.map (cW ws)).flatMap fun w => jX es ops (eV ks es w)).length < 64
noncomputable def kR : ur -> T := fun (bs, nm, ks, es, ss, is, os, ws, ops, gs) => (.lst (((gO ks es ops (gs.map (cW ws))).map .int).map T.sh) : T)
structure K6 (X : Cx) (CL : Str -> Addr) : Prop extends cA X where
 bM : Ln X 0 "chart"
 b8 : Ln X 1 "opens"
 kT : Ln X 2 "going"
 kF : Ln X 3 "gone"
 bA : Ln X 4 "number"
 K7 : Gl X "left"
 n5 : Gl X "way_top"
 ez : Gl X "sorted"
 abW : Fc X CL "left" 3 3 wC qV wF
 xV : Fc X CL "way_top" 4 2 j7 gY j8
 eB : X.mg "sorted" = none
 cg : tY X.K (CL "Chart")
 cX : bE X.K (CL "Chart") "tree"
theorem K8 {X : Cx} {CL : Str -> Addr} {b : Bx} (E : K6 X CL) (bs nm ks es ss is os ws ops gs) (h : jj (bs, nm, ks, es, ss, is, os, ws, ops, gs)) :
   aC X CL b pB ["chart", "opens", "going", "gone", "number"] (kQ (bs, nm, ks, es, ss, is, os, ws, ops, gs)) (kR (bs, nm, ks, es, ss, is, os, ws, ops, gs)) := by
 dsimp only [aC, jj, kQ, kR] at h ⊢
 obtain ⟨ht, hl, hk, Zq, ho, hg, Zt⟩ := h
 refine aI E.g E.kF (dN cZ (amO _)) ?_
 refine d7 E.g E.bA (fun j δ => ∃ o, δ = [some (.sh (gF bs nm (eo ks es ss) is os (ws.map cE))), some (.sh (.lst (ops.map .int))), some (.sh (.lst (gs.map .int))), some (.lst (((((gs.take j).map (cW ws)).flatMap fun w => jX es ops (eV ks es w)).map .int).map T.sh)), o])
   (dR (v_ E.kT.1)) ⟨_, rfl⟩ (fun j δ ⟨_, e⟩ => by subst e; exact amg rfl) ?turn ?fin
 case turn =>
   rintro j d δ hj ⟨o, rfl⟩
   obtain ⟨i, rfl, _, hi, nG, _, tF⟩ := gi hj
   obtain ⟨⟨i0, i1⟩, hs, ht2⟩ := hg i hi
   have qg : (((gs.take j).map (cW ws)).flatMap fun w => jX es ops (eV ks es w)).length < 64 := by
     rw [aox]
     exact ant (m5 _ _) Zt
   have hll : (jX es ops (eV ks es (cW ws i))).length <= 1000 := by
     unfold jX
     rw [anx]
     exact am0 (ank _ _) Zq
   refine CN E.kF.1 rfl (aK (c_ (ks, es, ss, ops, eV ks es (cW ws i)) E.abW E.K7 (ai (gb E.cg E.cX (aB E.bM) jw) (ai (aB E.b8) (ai (ah (aK (c_ (bs, nm, ks, es, ss, is, os, ws, i) E.xV E.n5 (ai (aB E.bM) (ai (aB E.bA) aD)) (by dsimp only [gY]; exact ⟨ht, hl, hk, ⟨i0, i1⟩, hs, ht2⟩) rfl) (t2 := .sh (.int (eV ks es (cW ws i)))) rfl)) aD))) (by dsimp only [qV]; exact ⟨ht, hl, Zq, ho⟩) (aT _)) (t2 := .lst (((jX es ops (eV ks es (cW ws i))).map .int).map T.sh)) rfl) rfl (by simp only [List.length_map]; omega) (ao ⟨some (.sh (.int i)), ?_⟩)
   rw [tF, amR, amW]
   simp
 case fin =>
   rintro δ ⟨o, rfl⟩
   rw [amc, amP]
   exact bD (z9 E.eB (vL E.kF.1) Zt E.ez) rfl
theorem f7 : jU (av pB) ([("chart", ak), ("opens", ak), ("going", ak), ("gone", ak), ("number", ak), ("left", az), ("way_top", az), ("sorted", az)]) = true := by decide +kernel
theorem yz : aP ["chart", "opens", "going", "gone", "number"] ["chart", "opens", "going"] (av pB) := aX
noncomputable abbrev kU : Stmt := top 22
noncomputable abbrev pC : Type := List Str × List Int × List Int × List Int × List Int × List Int
noncomputable def jk : pC -> List L3.D := fun (ks, es, ss, mem, ops, dG) => [eo ks es ss, .lst (mem.map .int), .lst (ops.map .int), .lst (dG.map .int)]
noncomputable def gZ : pC -> Prop := fun (ks, es, ss, mem, ops, dG) => dM es /\ ks.length = es.length /\ mem.length = es.length /\ (∀ m ∈ ops, 0 <= m /\ m < es.length) /\ (∀ m ∈ dG, 0 <= m /\ m < es.length)
noncomputable def jl : pC -> T := fun (ks, es, ss, mem, ops, dG) => (.lst (((JM (aS ks) es dG mem ops).map .int).map T.sh) : T)
structure EX (X : Cx) (CL : Str -> Addr) : Prop extends cA X where
 cK : Ln X 0 "tree"
 bw : Ln X 1 "memory"
 b8 : Ln X 2 "opens"
 Xk : Ln X 3 "moods"
 eG : Ln X 4 "behind"
 bf : Ln X 5 "mood"
 bR : Ln X 6 "elder"
 cI : Gl X "list"
 cJ : X.mg "list" = none
 fj : tY X.K (CL "Tree")
 eN : bE X.K (CL "Tree") "elders"
 dI : bE X.K (CL "Tree") "kinds"
theorem EY {X : Cx} {CL : Str -> Addr} {b : Bx} (E : EX X CL) (ks es ss mem ops dG) (h : gZ (ks, es, ss, mem, ops, dG)) :
   aC X CL b kU ["tree", "memory", "opens", "moods", "behind", "mood", "elder"] (jk (ks, es, ss, mem, ops, dG)) (jl (ks, es, ss, mem, ops, dG)) := by
 dsimp only [aC, gZ, jk, jl] at h ⊢
 obtain ⟨ht, hk, hm, ho, QH⟩ := h
 refine aI E.g E.eG (cV E.cJ (aB E.bw) (b9 _) E.cI bH) ?_
 refine d7 E.g E.bf (fun j δ => ∃ o5 o6, δ = [some (.sh (eo ks es ss)), some (.sh (.lst (mem.map .int))), some (.sh (.lst (ops.map .int))), some (.sh (.lst (dG.map .int))), some (.lst (((JM (aS ks) es dG mem (ops.take j)).map .int).map T.sh)), o5, o6])
   (dR (v_ E.b8.1)) ⟨_, _, rfl⟩ (fun j δ ⟨_, _, e⟩ => by subst e; exact amg rfl) ?turn ?fin
 case turn =>
   rintro j d δ hj ⟨o5, o6, rfl⟩
   obtain ⟨x, rfl, _, hxm, _, _, tF⟩ := gi hj
   have Td := ho x hxm
   have hl := zg (aS ks) es dG (ops.take j) mem
   refine aI E.g E.bR (cY (aO (gb E.fj E.eN (aB E.cK) lZ) (aB E.bf) (ck (by omega) (by omega))) rfl) ?_
   show iI X CL b _ _ { nx := fun δ => ∃ o5 o6, δ = [_, _, _, _, some (.lst (((JM (aS ks) es dG mem (ops.take (j + 1))).map .int).map T.sh)), o5, o6], rt := _, bk := _, ct := _ }
   rw [tF, R5]
   unfold mY
   generalize es.getD x.toNat 0 = q
   generalize JM (aS ks) es dG mem (ops.take j) = acc at hl ⊢
   refine d9 (kH (ja (kJ (aB E.bR) (aB E.Xk) (rfl) rfl).1 (fun hb => (g8 (iB (aO (gb E.fj E.dI (aB E.cK) lD) (aB E.bR) (c5 Str.empty (QH q (amx hb)).1 (by have := QH q (amx hb); omega))) (ah bC)).1)))) (fun hp => ?_) (fun hp => ao (ao ?_))
   . rw [amD, amY] at hp
     have hq := QH q hp.1
     have hlen : ((acc.map L3.D.int).map T.sh).length = acc.length := by simp
     refine RB E.eG.1 (v_ E.bf.1) (aB E.bR) rfl (Kc hq.1 (by rw [hlen]; omega)) (ao (ao ?_))
     rw [amo (show q ∈ dG /\ aS ks q = true from hp), aoo, aoo]
     exact ⟨_, _, rfl⟩
   . rw [amk (fun z => by
       have : (decide (q ∈ dG) && decide (ks.getD q.toNat Str.empty = "one")) = true := by
         rw [amD, amY]; exact z
       rw [this] at hp
       cases hp)]
     exact ⟨_, _, rfl⟩
 case fin =>
   rintro δ ⟨o5, o6, rfl⟩
   rw [amc, amP]
   exact bD (vM E.eG.1) rfl
theorem eS : jU (av kU) ([("tree", ak), ("memory", ak), ("opens", ak), ("moods", ak), ("behind", ak), ("mood", ak), ("elder", ak), ("list", az)]) = true := by decide +kernel
theorem tU : aP ["tree", "memory", "opens", "moods", "behind", "mood", "elder"] ["tree", "memory", "opens", "moods"] (av kU) := aX
noncomputable abbrev EZ : Stmt := top 12
noncomputable abbrev K9 : Type := List Str × List Int × List Int × Int × Int
noncomputable def wH : K9 -> List L3.D := fun (ks, es, ss, u, m) => [eo ks es ss, .int u, .int m]
noncomputable def wI : K9 -> Prop := fun (ks, es, ss, u, m) => dM es /\ 0 <= m /\ m < es.length /\ es.length <= 1000
noncomputable def qY : K9 -> T := fun (ks, es, ss, u, m) => (.lst (((bU es u m).map .int).map T.sh) : T)
structure abX (X : Cx) (CL : Str -> Addr) : Prop extends cA X where
 cK : Ln X 0 "tree"
 gq : Ln X 1 "upper"
 bf : Ln X 2 "mood"
 kW : Ln X 3 "steps"
 bR : Ln X 4 "elder"
 oZ : Gl X "above"
 cI : Gl X "list"
 pe : Gl X "reversed"
 wB : Fc X CL "above" 1 2 lg jC lq
 cJ : X.mg "list" = none
 pA : X.mg "reversed" = none
theorem abY {X : Cx} {CL : Str -> Addr} {b : Bx} (E : abX X CL) (ks es ss u m) (h : wI (ks, es, ss, u, m)) :
   aC X CL b EZ ["tree", "upper", "mood", "steps", "elder"] (wH (ks, es, ss, u, m)) (qY (ks, es, ss, u, m)) := by
 dsimp only [aC, wI, wH, qY] at h ⊢
 have h' := h
 obtain ⟨ht, h0, h1, hlen⟩ := h
 have xF : (aY es m).length <= es.length + 1 := ve _ _ _
 refine aI E.g E.kW (gI (aG (v_ E.bf.1) di) (aN rfl)) ?_
 refine d7 E.g E.bR (fun j δ => ∃ o, (∀ x ∈ (aY es m).take j, x ≠ u) /\ δ = [some (.sh (eo ks es ss)), some (.sh (.int u)), some (.sh (.int m)), some (.lst (((m :: (aY es m).take j).map .int).map T.sh)), o])
   (dR (gf (c_ (_, _, _, _) E.wB E.oZ (ai (aB E.cK) (ai (aB E.bf) aD)) (h') (aT _)))) ⟨_, fun x hx => by simp at hx, rfl⟩ (fun j δ ⟨_, _, e⟩ => by subst e; exact amg rfl) ?turn ?fin
 case turn =>
   rintro j d δ hj ⟨o, qd, rfl⟩
   rw [amT] at hj
   cases hx : (aY es m)[j]? with
   | none => rw [hx] at hj; cases hj
   | some x =>
     rw [hx] at hj
     cases hj
     have nG : j < (aY es m).length := (amH.mp hx).1
     have tF : (aY es m).take (j + 1) = (aY es m).take j ++ [x] := by rw [anV, hx]; rfl
     refine d9 (dD (aB E.bR) (aB E.gq)).1 (fun hp => Wc ?brk) (fun hp => ao ?_)
     case brk =>
       have e : x = u := amx hp
       have etw : (aY es m).takeWhile (fun x => decide (x ≠ u)) = (aY es m).take j := by
         have Qy : aY es m = (aY es m).take j ++ x :: (aY es m).drop (j + 1) := by
           have h2 := anC j (aY es m)
           rw [anY nG] at h2
           have : (aY es m)[j] = x := (amH.mp hx).2
           rw [this] at h2
           exact h2.symm
         conv => lhs; rw [Qy]
         rw [List.takeWhile_append_of_pos (fun y hy => by simpa using qd y hy), List.takeWhile_cons, if_neg (by simp [e]), List.append_nil]
       refine bD (z7 E.g E.cJ E.pA (vL E.kW.1) (b9 _) E.cI E.pe) ?_
       show _ = T.lst (((bU es u m).map L3.D.int).map T.sh)
       unfold bU
       rw [etw]
       simp only [List.map_reverse]
     . have e : ¬ x = u := amU hp
       refine fD E.kW.1 rfl (v_ E.bR.1) rfl (by simp; omega) (ao ?_)
       have eh : (((m :: (aY es m).take j).map L3.D.int).map T.sh) ++ [T.sh (.int x)] = ((m :: (aY es m).take (j + 1)).map L3.D.int).map T.sh := by rw [tF]; simp
       rw [eh]
       refine ⟨_, fun y hy => ?_, rfl⟩
       rw [tF] at hy
       rcases amn.mp hy with hy | hy
       . exact qd y hy
       . have : y = x := by simpa using hy
         rw [this]; exact e
 case fin =>
   rintro δ ⟨o, qd, rfl⟩
   refine bD (z7 E.g E.cJ E.pA (vL E.kW.1) (b9 _) E.cI E.pe) ?_
   show _ = T.lst (((bU es u m).map L3.D.int).map T.sh)
   rw [amc, amP] at qd ⊢
   try dsimp only at qd ⊢
   unfold bU
   have etw : (aY es m).takeWhile (fun x => decide (x ≠ u)) = aY es m := by
     have := List.takeWhile_append_of_pos (p := fun x => decide (x ≠ u)) (l₁ := aY es m) (l₂ := []) (fun y hy => by simpa using qd y hy)
     simpa using this
   rw [etw]
   simp only [List.map_reverse]
theorem mJ : jU (av EZ) ([("tree", ak), ("upper", ak), ("mood", ak), ("steps", ak), ("elder", ak), ("above", az), ("list", az), ("reversed", az)]) = true := by decide +kernel
theorem Oc : aP ["tree", "upper", "mood", "steps", "elder"] ["tree", "upper", "mood"] (av EZ) := aX
noncomputable abbrev zH : Stmt := top 10
noncomputable abbrev E1 : Type := List Str × List Int × List Int × Int
noncomputable def n6 : E1 -> List L3.D := fun (ks, es, ss, m) => [eo ks es ss, .int m]
noncomputable def jG : E1 -> Prop := fun (ks, es, ss, m) => es.length <= 1000
noncomputable def n8 : E1 -> T := fun (ks, es, ss, m) => (.lst (((eU es m).map .int).map T.sh) : T)
structure Xl (X : Cx) (CL : Str -> Addr) : Prop extends cA X where
 cK : Ln X 0 "tree"
 bf : Ln X 1 "mood"
 KD : X.env.kindOf "mood" = some .cell
 IJ : Gl X "enumerate"
 IK : X.mg "enumerate" = none
 fj : tY X.K (CL "Tree")
 eN : bE X.K (CL "Tree") "elders"
theorem Xm {X : Cx} {CL : Str -> Addr} {b : Bx} (E : Xl X CL) (ks es ss m) (h : jG (ks, es, ss, m)) :
   aC X CL b zH ["tree", "mood"] (n6 (ks, es, ss, m)) (n8 (ks, es, ss, m)) := by
 dsimp only [aC, jG, n6, n8] at h ⊢
 refine bD (zY (parts := part2) (p := fun d => decide (d.at2.uW = m)) (g := fun d => T.sh d.at1) (Wj (xs := ["place", "elder"]) (.cons E.bf.1 (.inl E.KD) .nil) (by decide +kernel)) E.g.calm
   (RV (f := L3.D.int) (l := es) 0 E.IK (DR E.fj E.eN (v_ E.cK.1) lZ) E.IJ) (.inr rfl) (fun C s0 H0 f0 b' => ⟨Wd (by show List.Nodup (["place", "elder", "mood"] : List Str); decide +kernel) E.g.calm (Kh rfl (by decide +kernel)) (Kh rfl (by decide +kernel)), fun d hd => ?D0⟩) (by rw [amc, aow]; exact amQ (bQ h))) (congrArg T.lst (RZ es m))
 case D0 =>
   obtain ⟨i, hi, rfl⟩ := amJ.mp hd
   exact ⟨_, rfl, rfl, (dD (ah (v_ (ef (i := 1) rfl (by decide +kernel)))) (ah (v_ (f9 (i := 2) rfl (by decide +kernel))))).1, fun _ => v_ (ef (i := 0) rfl (by decide +kernel))⟩
theorem wJ : jU (av zH) ([("tree", ak), ("mood", .cell), ("enumerate", az)]) = true := by decide +kernel
theorem IL : aP ["tree", "mood"] ["tree", "mood"] (av zH) := aX
noncomputable abbrev mK : Stmt := top 19
noncomputable abbrev qZ : Type := List Str × List Int × List Int × List Int × Nat × Str
noncomputable def jO : qZ -> List L3.D := fun (ks, es, ss, mem, m, mode) => [eo ks es ss, .lst (mem.map .int), .int m, .str mode]
noncomputable def jP : qZ -> Prop := fun (ks, es, ss, mem, m, mode) => es.length <= 900 /\ ks.length = es.length /\ ss.length = es.length /\ mem.length = es.length /\ m < es.length /\ mZ mode /\ ∀ k : Nat, k < es.length -> aQ ks k = true \/ aq ks k = true \/ ks.getD k Str.empty = "one"
noncomputable def jQ : qZ -> T := fun (ks, es, ss, mem, m, mode) => (.lst (((G4 (aQ ks) (aq ks) es ss mem (bK mode || cu mode) m).map .int).map T.sh) : T)
structure IQ (X : Cx) (CL : Str -> Addr) : Prop extends cA X where
 cK : Ln X 0 "tree"
 bw : Ln X 1 "memory"
 bf : Ln X 2 "mood"
 jy : Ln X 3 "mode"
 qB : Ln X 4 "kind"
 wK : Gl X "inner"
 E2 : Fc X CL "inner" 1 2 n6 jG n8
 fj : tY X.K (CL "Tree")
 dI : bE X.K (CL "Tree") "kinds"
 m9 : bE X.K (CL "Tree") "starts"
theorem IU {X : Cx} {CL : Str -> Addr} {b : Bx} (E : IQ X CL) (ks es ss mem m mode) (h : jP (ks, es, ss, mem, m, mode)) :
   aC X CL b mK ["tree", "memory", "mood", "mode", "kind"] (jO (ks, es, ss, mem, m, mode)) (jQ (ks, es, ss, mem, m, mode)) := by
 dsimp only [aC, jP, jO, jQ] at h ⊢
 obtain ⟨hl, hk, hs, hm, yw, QH, hkd⟩ := h
 refine aI E.g E.qB (cY (aO (gb E.fj E.dI (aB E.cK) lD) (aB E.bf) (c5 Str.empty (by omega) (by omega))) rfl) ?_
 refine d9 (iB (aB E.qB) (ah bC)).1 (fun hp => ?_) (fun hp => ao ?_)
 . refine bD (dN cZ (amO _)) ?_
   unfold G4
   rw [amo (show aQ ks m = true from hp)]
   rfl
 refine d9 (iB (aB E.qB) (ah bC)).1 (fun hq => ?_) (fun hq => ao ?_)
 . refine bD (c_ ((ks, es, ss, (m : Int))) E.E2 E.wK (ai (aB E.cK) (ai (aB E.bf) aD)) ((by dsimp only [jG]; omega)) (aT _)) ?_
   unfold G4
   rw [amk (show ¬ aQ ks m = true from fun z => by rw [show aQ ks m = false from hp] at z; cases z), amo (show aq ks m = true from hq)]
   rfl
 have key : G4 (aQ ks) (aq ks) es ss mem (bK mode || cu mode) m = [fF ss mem (bK mode || cu mode) m] := by
   unfold G4
   rw [amk (show ¬ aQ ks m = true from fun z => by rw [show aQ ks m = false from hp] at z; cases z), amk (show ¬ aq ks m = true from fun z => by rw [show aq ks m = false from hq] at z; cases z)]
 rw [key]
 have hu : (bK mode || cu mode) = !decide (mode = "new") := by
   unfold bK cu
   rcases QH with e | e | e <;> rw [e] <;> decide +kernel
 refine d9 (kH (qp (iB (aB E.jy) (ah bC)).1 (fun hb => (mX (dD (aO (aB E.bw) (aB E.bf) (ck (by omega) (by omega))) (ah (eH (ah aj)))).1)))) (fun hr => ?_) (fun hr => ao ?_)
 . refine bD (gI (aG (cY (aO (gb E.fj E.m9 (aB E.cK) HL) (aB E.bf) (ck (by omega) (by omega))) rfl) di) (aN rfl)) ?_
   have e : fF ss mem (bK mode || cu mode) m = ss.getD (m : Int).toNat 0 := by
     unfold fF
     rw [amk (fun z => by
       rw [hu] at z
       simp only [an4, amY] at hr
       rcases hr with w | w
       . rw [am8 w] at z; cases z.1
       . exact z.2 w)]
   rw [e]
   rfl
 . refine bD (gI (aG (cY (aO (aB E.bw) (aB E.bf) (ck (by omega) (by omega))) rfl) di) (aN rfl)) ?_
   have e : fF ss mem (bK mode || cu mode) m = mem.getD (m : Int).toNat 0 := by
     unfold fF
     simp only [anM, ana] at hr
     rw [amo ⟨by rw [hu, amN hr.1]; rfl, hr.2⟩]
   rw [e]
   rfl
theorem ia : jU (av mK) ([("tree", ak), ("memory", ak), ("mood", ak), ("mode", ak), ("kind", ak), ("inner", az)]) = true := by decide +kernel
theorem wL : aP ["tree", "memory", "mood", "mode", "kind"] ["tree", "memory", "mood", "mode"] (av mK) := aX
noncomputable abbrev wM : Stmt := top 18
noncomputable abbrev AQ : Type := List Str × List Int × List Int × List Int × Nat × Str
noncomputable def lO : AQ -> List L3.D := fun (ks, es, ss, mem, m, mode) => [eo ks es ss, .lst (mem.map .int), .int m, .str mode]
noncomputable def g5 (dd : Nat) : AQ -> Prop := fun (ks, es, ss, mem, m, mode) => (es.length <= 900 /\ ks.length = es.length /\ ss.length = es.length /\ mem.length = es.length /\ m < es.length /\ mZ mode /\ ∀ k : Nat, k < es.length -> aQ ks k = true \/ aq ks k = true \/ ks.getD k Str.empty = "one") /\ dZ (aQ ks) (aq ks) es ss mem /\ es.length <= m + dd + 1
noncomputable def lP : AQ -> T := fun (ks, es, ss, mem, m, mode) => (.lst (((JN ks es ss mem mode m).map .int).map T.sh) : T)
structure Tz (X : Cx) (CL : Str -> Addr) (dd : Nat) : Prop extends cA X where
 cK : Ln X 0 "tree"
 bw : Ln X 1 "memory"
 bf : Ln X 2 "mood"
 jy : Ln X 3 "mode"
 bP : Ln X 4 "found"
 Dm : Ln X 5 "further"
 sS : Ln X 6 "place"
 q8 : Gl X "opened_in"
 lQ : Gl X "opened"
 IV : Fc X CL "opened_in" 2 4 jO jP jQ
 wN : ∀ d', d' < dd -> Fc X CL "opened" (3 + d') 4 lO (g5 d') lP
theorem TF {X : Cx} {CL : Str -> Addr} {b : Bx} {dd : Nat} (E : Tz X CL dd) (ks es ss mem m mode) (h : g5 dd (ks, es, ss, mem, m, mode)) :
   aC X CL b wM ["tree", "memory", "mood", "mode", "found", "further", "place"] (lO (ks, es, ss, mem, m, mode)) (lP (ks, es, ss, mem, m, mode)) := by
 dsimp only [aC, g5, lO, lP] at h ⊢
 obtain ⟨tM, hT, hdd⟩ := h
 have aiw := tM
 obtain ⟨hl, hk, hs, hm, yw, QH, hkd⟩ := tM
 have WC : JN ks es ss mem mode m = (m : Int) :: (G4 (aQ ks) (aq ks) es ss mem (bK mode || cu mode) m).flatMap (fun p => i7 (aQ ks) (aq ks) es ss mem (bK mode) es.length false p) := by
   unfold JN
   rw [HN hT es.length (es.length + 1) yw (by omega) (by omega), i7]
 rw [WC]
 refine aI E.g E.bP (gI (aG (v_ E.bf.1) di) (aN rfl)) ?_
 refine aI E.g E.Dm (aaJ (t := .sh (.str (if bK mode = true then "far" else "new"))) (iB (aB E.jy) (ah bC)).1 (fun hq => aK bC (by rw [amo (show bK mode = true from hq)])) (fun hq => aK bC (by rw [amk (show ¬ bK mode = true from fun z => by rw [show bK mode = false from hq] at z; cases z)]))) ?_
 have hfm : mZ (if bK mode = true then "far" else "new") := by
   split
   . exact .inr (.inr rfl)
   . exact .inl rfl
 have hff : bK (if bK mode = true then "far" else "new") = bK mode := by
   cases e : bK mode with
   | true => rw [amo rfl]; decide +kernel
   | false => rw [amk (by decide)]; decide +kernel
 have ZK : cu (if bK mode = true then "far" else "new") = false := by
   cases e : bK mode with
   | true => rw [amo rfl]; decide +kernel
   | false => rw [amk (by decide)]; decide +kernel
 generalize hfu : (if bK mode = true then ("far" : Str) else "new") = fu at hfm hff ZK ⊢
 have hoi : ∀ p ∈ G4 (aQ ks) (aq ks) es ss mem (bK mode || cu mode) m, p ∈ eU es m := fun p hp => nO hT yw hp
 have OS := D3 hT (far := bK mode) (near := cu mode) (d := es.length + 1) yw
 rw [i7] at OS
 generalize aiy : G4 (aQ ks) (aq ks) es ss mem (bK mode || cu mode) m = ois at hoi OS ⊢
 refine d7 E.g E.sS (fun j δ => ∃ o, δ = [some (.sh (eo ks es ss)), some (.sh (.lst (mem.map .int))), some (.sh (.int m)), some (.sh (.str mode)), some (.lst ((((m : Int) :: (ois.take j).flatMap (fun p => i7 (aQ ks) (aq ks) es ss mem (bK mode) es.length false p)).map .int).map T.sh)), some (.sh (.str fu)), o])
   (dR (gf (aK (t2 := T.lst ((ois.map L3.D.int).map T.sh)) (c_ ((ks, es, ss, mem, m, mode)) E.IV E.q8 (ai (aB E.cK) (ai (aB E.bw) (ai (aB E.bf) (ai (aB E.jy) aD)))) (aiw) (aT _)) (by rw [← aiy]; rfl)))) ⟨_, rfl⟩ (fun j δ ⟨_, e⟩ => by subst e; exact amg rfl) ?turn ?fin
 case turn =>
   rintro j d δ hj ⟨o, rfl⟩
   obtain ⟨p, rfl, _, hpm, nG, _, tF⟩ := gi hj
   have hb := b6 hT.pre (hoi p hpm)
   obtain ⟨q, rfl⟩ : ∃ q : Nat, p = q := ⟨p.toNat, by omega⟩
   have hql := D3 hT (far := bK mode) (near := false) (d := es.length) (k := q) (by omega)
   have hpl : (((m : Int) :: (ois.take j).flatMap (fun p => i7 (aQ ks) (aq ks) es ss mem (bK mode) es.length false p)).length) <= es.length := by
     refine am0 ?_ OS
     rw [amA, amA]
     refine Nat.succ_le_succ ?_
     have h2 := anC j ois
     conv => rhs; rw [← h2]
     rw [amW, amj]
     omega
   refine CN E.bP.1 rfl (c_ (ks, es, ss, mem, q, fu) (E.wN (dd - 1) (by omega)) E.lQ (ai (aB E.cK) (ai (aB E.bw) (ai (aB E.sS) (ai (aB E.Dm) aD)))) (by dsimp only [g5]; exact ⟨⟨hl, hk, hs, hm, by omega, hfm, hkd⟩, hT, by omega⟩) (aT _)) rfl ?len (ao ?_)
   case len =>
     rw [amc, amc, amc, amc]
     show _ + (i7 (aQ ks) (aq ks) es ss mem (bK fu) es.length (cu fu) q).length <= _
     rw [hff, ZK]
     omega
   have eh : (((m : Int) :: (ois.take j).flatMap (fun p => i7 (aQ ks) (aq ks) es ss mem (bK mode) es.length false p)).map L3.D.int).map T.sh ++ ((JN ks es ss mem fu q).map L3.D.int).map T.sh = (((m : Int) :: (ois.take (j + 1)).flatMap (fun p => i7 (aQ ks) (aq ks) es ss mem (bK mode) es.length false p)).map L3.D.int).map T.sh := by
     unfold JN
     rw [hff, ZK, tF, amW, ← amR, ← amR]
     simp
   rw [eh]
   exact ⟨_, rfl⟩
 case fin =>
   rintro δ ⟨o, rfl⟩
   rw [amc, amP]
   exact bD (vM E.bP.1) rfl
theorem ic : jU (av wM) ([("tree", ak), ("memory", ak), ("mood", ak), ("mode", ak), ("found", ak), ("further", ak), ("place", ak), ("opened_in", az), ("opened", az)]) = true := by decide +kernel
theorem Dn : aP ["tree", "memory", "mood", "mode", "found", "further", "place"] ["tree", "memory", "mood", "mode"] (av wM) := aX
noncomputable abbrev sU : Stmt := top 20
noncomputable abbrev xW : Type := List Str × List Int × List Int × List Int × Int × Nat × Str
noncomputable def mL : xW -> List L3.D := fun (ks, es, ss, mem, u, tg, mode) => [eo ks es ss, .lst (mem.map .int), .int u, .int tg, .str mode]
noncomputable def kh : xW -> Prop := fun (ks, es, ss, mem, u, tg, mode) => (es.length <= 900 /\ ks.length = es.length /\ ss.length = es.length /\ mem.length = es.length /\ tg < es.length /\ mZ mode /\ ∀ k : Nat, k < es.length -> aQ ks k = true \/ aq ks k = true \/ ks.getD k Str.empty = "one") /\ dZ (aQ ks) (aq ks) es ss mem /\ es.length <= 41 /\ (u = -1 \/ u ∈ aY es tg)
noncomputable def mO : xW -> T := fun (ks, es, ss, mem, u, tg, mode) => (.lst (((sortI (Vi (aQ ks) (aq ks) es ss mem (bK mode) (cu mode) u tg)).map .int).map T.sh) : T)
structure PX (X : Cx) (CL : Str -> Addr) : Prop extends cA X where
 cK : Ln X 0 "tree"
 bw : Ln X 1 "memory"
 gq : Ln X 2 "upper"
 gC : Ln X 3 "target"
 jy : Ln X 4 "mode"
 kW : Ln X 5 "steps"
 bP : Ln X 6 "found"
 Ao : Ln X 7 "step"
 sS : Ln X 8 "place"
 La : Gl X "road"
 lQ : Gl X "opened"
 wK : Gl X "inner"
 ez : Gl X "sorted"
 ab0 : Fc X CL "road" 2 3 wH wI qY
 wN : Fc X CL "opened" 43 4 lO (g5 40) lP
 E2 : Fc X CL "inner" 1 2 n6 jG n8
 eB : X.mg "sorted" = none
 fj : tY X.K (CL "Tree")
 dI : bE X.K (CL "Tree") "kinds"
theorem PY {X : Cx} {CL : Str -> Addr} {b : Bx} (E : PX X CL) (ks es ss mem u tg mode) (h : kh (ks, es, ss, mem, u, tg, mode)) :
   aC X CL b sU ["tree", "memory", "upper", "target", "mode", "steps", "found", "step", "place"] (mL (ks, es, ss, mem, u, tg, mode)) (mO (ks, es, ss, mem, u, tg, mode)) := by
 dsimp only [aC, kh, mL, mO] at h ⊢
 obtain ⟨tM, hT, h41, hu⟩ := h
 obtain ⟨hl, hk, hs, hm, yw, QH, hkd⟩ := tM
 have ht := hT.pre.1
 have hpj : dM es /\ (0 : Int) <= tg /\ (tg : Int) < es.length /\ es.length <= 1000 := ⟨ht, by omega, by omega, by omega⟩
 refine aI E.g E.kW (c_ ((ks, es, ss, u, (tg : Int))) E.ab0 E.La (ai (aB E.cK) (ai (aB E.gq) (ai (aB E.gC) aD))) (hpj) (aT _)) ?_
 rw [show qY (ks, es, ss, u, (tg : Int)) = T.lst (((bU es u tg).map .int).map T.sh) from rfl]
 have li := vh ht (u := u) (t := (tg : Int)) (by omega) (by omega) hu
 have hrl : (bU es u tg).length <= es.length + 2 := by
   unfold bU
   rw [anx, amA]
   have h1 := (an5 (l := aY es (tg : Int)) (fun x => decide (x ≠ u))).length_le
   have h2 : (aY es (tg : Int)).length <= es.length + 1 := ve _ _ _
   omega
 have hdl : (bU es u tg).dropLast.length <= es.length + 2 := by rw [List.length_dropLast]; omega
 have WC : ∀ (far near : Bool) (k : Nat), k < es.length -> (i7 (aQ ks) (aq ks) es ss mem far es.length near k).length <= 41 := fun far near k hk => am0 (D3 hT hk) h41
 have alv : (JN ks es ss mem mode tg).length <= 41 := WC _ _ tg yw
 have Wt : ∀ p : Int, JN ks es ss mem "new" p = i7 (aQ ks) (aq ks) es ss mem false es.length false p := fun p => by
   unfold JN
   rw [show bK "new" = false by decide +kernel, show cu "new" = false by decide +kernel]
 have TH : cutD ((bU es u tg).map L3.D.int) none (some (-1)) = (bU es u tg).dropLast.map L3.D.int := by rw [RC, Pk]
 refine aI E.g E.bP (aK (t2 := T.lst (((((bU es u tg).dropLast ++ JN ks es ss mem mode tg)).map L3.D.int).map T.sh)) (oq (cQ (uX (vL E.kW.1) (b9 _) yZ (y9 (ah (eH (ah aj)))))) (cQ (c_ ((ks, es, ss, mem, tg, mode)) E.wN E.lQ (ai (aB E.cK) (ai (aB E.bw) (ai (aB E.gC) (ai (aB E.jy) aD)))) (by dsimp only [g5]; exact (⟨⟨hl, hk, hs, hm, yw, QH, hkd⟩, hT, by omega⟩)) (aT _))) ((by rw [TH]; exact b9 _)) (b9 _) (Nat.le_of_lt (bQ (by rw [TH, List.length_map, List.length_map]; exact (show (bU es u tg).dropLast.length + (JN ks es ss mem mode tg).length <= 1000 by omega))))) (by rw [TH, ← List.map_append])) ?_
 generalize hF : (fun s : Int => ((eU es s).filter (fun p => !decide (p ∈ bU es u tg))).flatMap (fun p => i7 (aQ ks) (aq ks) es ss mem false es.length false p)) = F
 have hFl : ∀ s : Int, (F s).length <= 41 * 41 := fun s => by
   rw [← hF]
   have h1 : ((eU es s).filter (fun p => !decide (p ∈ bU es u tg))).length <= 41 := am0 (ank _ _) (am0 (zc es s) h41)
   refine am0 (vn (c := 41) fun p hp => ?_) (Nat.mul_le_mul_right _ h1)
   have hb := jI (amK.mp hp).1
   obtain ⟨q, rfl⟩ : ∃ q : Nat, p = q := ⟨p.toNat, by omega⟩
   exact WC _ _ q (by omega)
 have hFF : ∀ l : List Int, l.length <= 44 -> (l.flatMap F).length <= 44 * (41 * 41) := fun l h => am0 (vn (c := 41 * 41) fun p _ => hFl p) (Nat.mul_le_mul_right _ h)
 have afG : Vi (aQ ks) (aq ks) es ss mem (bK mode) (cu mode) u tg = (bU es u tg).dropLast ++ JN ks es ss mem mode tg ++ ((bU es u tg).dropLast.filter (fun s => aq ks s)).flatMap F := by
   rw [← hF]
   rfl
 have Zv := HR hT (far := bK mode) (near := cu mode) yw hu (dS := bU es u tg) li
 have hpl := Zv.length_eq
 have hpb := (HP (isAll := aq ks) (es := es) (ss := ss) (mem := mem) (far := bK mode) (near := cu mode) (dS := bU es u tg) (t := tg) es.length).2.2.2.1
 rw [hpl] at hpb
 rw [afG] at hpb ⊢
 clear afG Zv hpl
 have hdm : ∀ s ∈ (bU es u tg).dropLast, 0 <= s /\ s < es.length := fun s hs => by
   have := iC ht yw ((li s).mp (rY ht yw hs).1)
   omega
 have hrm : ∀ s : Int, s ∈ bU es u tg ↔ s ∈ bU es u tg := fun _ => Iff.rfl
 generalize lA : (bU es u tg).dropLast ++ JN ks es ss mem mode tg = base at hpb ⊢
 have hbl : base.length <= 100 := by
   rw [← lA, amj]
   omega
 generalize hdr : (bU es u tg).dropLast = dr at hdl hdm hpb TH ⊢
 refine d7 E.g E.Ao (fun j δ => ∃ o7 o8, δ = [some (.sh (eo ks es ss)), some (.sh (.lst (mem.map .int))), some (.sh (.int u)), some (.sh (.int tg)), some (.sh (.str mode)), some (.lst (((bU es u tg).map .int).map T.sh)), some (.lst (((base ++ ((dr.take j).filter (fun s => aq ks s)).flatMap F).map .int).map T.sh)), o7, o8])
   (dR (gf (aK (t2 := T.lst ((dr.map L3.D.int).map T.sh)) (uX (vL E.kW.1) (b9 _) yZ (y9 (ah (eH (ah aj))))) (by rw [TH])))) ⟨_, _, by simp; rfl⟩ (fun j δ ⟨_, _, e⟩ => by subst e; exact amg rfl) ?turn ?fin
 case turn =>
   rintro j d δ hj ⟨o7, o8, rfl⟩
   obtain ⟨x, rfl, _, hxm, nG, _, tF⟩ := gi hj
   have Td := hdm x hxm
   have PN : ((dr.take j).filter (fun s => aq ks s)).length <= 44 := am0 (ank _ _) (by rw [aod]; omega)
   have aly := hFF _ PN
   refine d9 (iB (aO (gb E.fj E.dI (aB E.cK) lD) (aB E.Ao) (c5 Str.empty Td.1 (by omega))) (ah bC)).1 (fun hp => ?_) (fun hp => ao (ao ?_))
   . have hp : aq ks x = true := hp
     have etk : ((dr.take (j + 1)).filter (fun s => aq ks s)).flatMap F = ((dr.take j).filter (fun s => aq ks s)).flatMap F ++ F x := by
       rw [tF, anh, aou hp, an2, amW]
       simp
     show iI X CL b _ _ { nx := fun δ => iI X CL b _ δ { nx := fun δ => ∃ o7 o8, δ = [_, _, _, _, _, _, some (.lst (((base ++ ((dr.take (j + 1)).filter (fun s => aq ks s)).flatMap F).map .int).map T.sh)), o7, o8], rt := _, bk := _, ct := _ }, rt := _, bk := _, ct := _ }
     rw [etk, ← aml]
     generalize hcu : base ++ ((dr.take j).filter (fun s => aq ks s)).flatMap F = cur
     have xF : cur.length <= 100 + 44 * (41 * 41) := by rw [← hcu, amj]; omega
     have eF : F x = ((eU es x).filter (fun p => !decide (p ∈ bU es u tg))).flatMap (fun p => i7 (aQ ks) (aq ks) es ss mem false es.length false p) := by rw [← hF]
     have hil := zc es x
     refine d7 E.g E.sS (fun i δ => ∃ o8, δ = [some (.sh (eo ks es ss)), some (.sh (.lst (mem.map .int))), some (.sh (.int u)), some (.sh (.int tg)), some (.sh (.str mode)), some (.lst (((bU es u tg).map .int).map T.sh)), some (.lst (((cur ++ (((eU es x).take i).filter (fun p => !decide (p ∈ bU es u tg))).flatMap (fun p => i7 (aQ ks) (aq ks) es ss mem false es.length false p)).map .int).map T.sh)), some (.sh (.int x)), o8])
       (dR (gf (c_ ((ks, es, ss, x)) E.E2 E.wK (ai (aB E.cK) (ai (aB E.Ao) aD)) ((by dsimp only [jG]; omega)) (aT _)))) ⟨_, by simp; rfl⟩ (fun j δ ⟨_, e⟩ => by subst e; exact Nat.le_of_ble_eq_true rfl) ?HY ?fin2
     case HY =>
       rintro i d δ hi ⟨o8, rfl⟩
       obtain ⟨p, rfl, _, hpm, aiz, _, ab1⟩ := gi hi
       try dsimp only at hpm aiz ab1
       have hb := jI hpm
       obtain ⟨q, rfl⟩ : ∃ q : Nat, p = q := ⟨p.toNat, by omega⟩
       have yL : ((((eU es x).take i).filter (fun p => !decide (p ∈ bU es u tg))).flatMap (fun p => i7 (aQ ks) (aq ks) es ss mem false es.length false p)).length <= 41 * 41 := by
         have h1 : (((eU es x).take i).filter (fun p => !decide (p ∈ bU es u tg))).length <= 41 := am0 (ank _ _) (by rw [aod]; omega)
         refine am0 (vn (c := 41) fun p hp => ?_) (Nat.mul_le_mul_right _ h1)
         have hb := jI (aoe (amK.mp hp).1)
         obtain ⟨q, rfl⟩ : ∃ q : Nat, p = q := ⟨p.toNat, by omega⟩
         exact WC _ _ q (by omega)
       refine d9 (u5 (l := bU es u tg) (aB E.sS) (vL E.kW.1) rfl rfl).1 (fun hq => ?_) (fun hq => ao (ao ?_))
       . refine CN E.bP.1 rfl (aK (t2 := T.lst (((JN ks es ss mem "new" q).map .int).map T.sh)) (c_ ((ks, es, ss, mem, q, ("new" : Str))) E.wN E.lQ (ai (aB E.cK) (ai (aB E.bw) (ai (aB E.sS) (ai (ah bC) aD)))) (by dsimp only [g5]; exact (⟨⟨hl, hk, hs, hm, by omega, .inl rfl, hkd⟩, hT, by omega⟩)) (aT _)) rfl) rfl ?len (ao (ao ?_))
         case len =>
           show _ + (((JN ks es ss mem "new" q).map L3.D.int).map T.sh).length <= _
           have := WC false false q (by omega)
           rw [Wt]
           simp only [amc, amj]
           omega
         have e1 : (((cur ++ (((eU es x).take i).filter (fun p => !decide (p ∈ bU es u tg))).flatMap (fun p => i7 (aQ ks) (aq ks) es ss mem false es.length false p)).map L3.D.int).map T.sh) ++ (((JN ks es ss mem "new" q).map L3.D.int).map T.sh) = ((cur ++ (((eU es x).take (i + 1)).filter (fun p => !decide (p ∈ bU es u tg))).flatMap (fun p => i7 (aQ ks) (aq ks) es ss mem false es.length false p)).map L3.D.int).map T.sh := by
           rw [ab1, anh, aou (p := fun p => !decide (p ∈ bU es u tg)) hq, an2, amW, Wt, ← aml, ← amR, ← amR]
           simp
         rw [show ((((cur ++ (((eU es x).take i).filter (fun p => !decide (p ∈ bU es u tg))).flatMap (fun p => i7 (aQ ks) (aq ks) es ss mem false es.length false p)).map L3.D.int).map T.sh) ++ (((JN ks es ss mem "new" q).map L3.D.int).map T.sh)) = _ from e1]
         exact ⟨_, rfl⟩
       . have e1 : (((eU es x).take i).filter (fun p => !decide (p ∈ bU es u tg))).flatMap (fun p => i7 (aQ ks) (aq ks) es ss mem false es.length false p) = (((eU es x).take (i + 1)).filter (fun p => !decide (p ∈ bU es u tg))).flatMap (fun p => i7 (aQ ks) (aq ks) es ss mem false es.length false p) := by
           rw [ab1, anh, aot (p := fun p => !decide (p ∈ bU es u tg)) (by rw [hq]; decide), an2, amF]
         rw [e1]
         exact ⟨_, rfl⟩
     case fin2 =>
       rintro δ ⟨o8, rfl⟩
       rw [amc, amP]
       refine ao (ao ?_)
       dsimp only
       rw [eF]
       exact ⟨_, _, rfl⟩
   . have hp : aq ks x = false := hp
     have e1 : ((dr.take j).filter (fun s => aq ks s)).flatMap F = ((dr.take (j + 1)).filter (fun s => aq ks s)).flatMap F := by
       rw [tF, anh, aot (p := fun s => aq ks s) (by rw [hp]; decide), an2, amF]
     rw [e1]
     exact ⟨_, _, rfl⟩
 case fin =>
   rintro δ ⟨o7, o8, rfl⟩
   rw [amc, amP]
   exact bD (iR E.eB (vL E.bP.1) (by omega) E.ez) rfl
theorem dU : jU (av sU) ([("tree", ak), ("memory", ak), ("upper", ak), ("target", ak), ("mode", ak), ("steps", ak), ("found", ak), ("step", ak), ("place", ak), ("road", az), ("opened", az), ("inner", az), ("sorted", az)]) = true := by decide +kernel
theorem AU : aP ["tree", "memory", "upper", "target", "mode", "steps", "found", "step", "place"] ["tree", "memory", "upper", "target", "mode"] (av sU) := aX
noncomputable abbrev jR : Stmt := top 27
noncomputable abbrev ng : Type := List L3.D × List L3.D × List Str × List Int × List Int × List L3.D × List L3.D × List cR × List Int × List Int
noncomputable def iM : ng -> List L3.D := fun (bs, nm, ks, es, ss, is, os, ws, mem, gs) => [gF bs nm (eo ks es ss) is os (ws.map cE), .lst (mem.map .int), .lst (gs.map .int)]
noncomputable def gD : ng -> Prop := fun (bs, nm, ks, es, ss, is, os, ws, mem, gs) => (es.length <= 40 /\ ks.length = es.length /\ ss.length = es.length /\ mem.length = es.length /\ ∀ k : Nat, k < es.length -> aQ ks k = true \/ aq ks k = true \/ ks.getD k Str.empty = "one") /\ dZ (aQ ks) (aq ks) es ss mem /\ (∀ i ∈ gs, (0 <= i /\ i < ws.length) /\ (0 <= (cW ws i).src /\ (cW ws i).src < es.length) /\ (0 <= (cW ws i).tgt /\ (cW ws i).tgt < es.length) /\ mZ (cW ws i).mode /\ (eV ks es (cW ws i) = -1 \/ eV ks es (cW ws i) ∈ aY es (cW ws i).tgt.toNat)) /\ ((gs.map (cW ws)).flatMap (CW ks es ss mem)).length < 64
noncomputable def iN : ng -> T := fun (bs, nm, ks, es, ss, is, os, ws, mem, gs) => (.lst (((lV ks es ss mem (gs.map (cW ws))).map .int).map T.sh) : T)
structure B7 (X : Cx) (CL : Str -> Addr) : Prop extends cA X where
 bM : Ln X 0 "chart"
 bw : Ln X 1 "memory"
 kT : Ln X 2 "going"
 pD : Ln X 3 "come"
 bA : Ln X 4 "number"
 fK : Ln X 5 "way"
 xX : Gl X "entered"
 n5 : Gl X "way_top"
 j9 : Gl X "TARGET"
 E3 : Gl X "MODE"
 ez : Gl X "sorted"
 PZ : Fc X CL "entered" 44 5 mL kh mO
 xV : Fc X CL "way_top" 4 2 j7 gY j8
 kg : ∃ u, X.mg "TARGET" = some (.int 4 u)
 E4 : ∃ u, X.mg "MODE" = some (.int 5 u)
 eB : X.mg "sorted" = none
 cg : tY X.K (CL "Chart")
 dJ : bE X.K (CL "Chart") "ways"
 cX : bE X.K (CL "Chart") "tree"
theorem B8 {X : Cx} {CL : Str -> Addr} {b : Bx} (E : B7 X CL) (bs nm ks es ss is os ws mem gs) (h : gD (bs, nm, ks, es, ss, is, os, ws, mem, gs)) :
   aC X CL b jR ["chart", "memory", "going", "come", "number", "way"] (iM (bs, nm, ks, es, ss, is, os, ws, mem, gs)) (iN (bs, nm, ks, es, ss, is, os, ws, mem, gs)) := by
 dsimp only [aC, gD, iM, iN] at h ⊢
 obtain ⟨⟨hl, hk, hsl, yw, hkd⟩, hT, hg, Zt⟩ := h
 have ht := hT.pre.1
 have PN : ∀ l : List cR, (l.flatMap fun w => sortI (CW ks es ss mem w)).length = (l.flatMap (CW ks es ss mem)).length := fun l => (xM l).length_eq
 refine aI E.g E.pD (dN cZ (amO _)) ?_
 refine d7 E.g E.bA (fun j δ => ∃ o o', δ = [some (.sh (gF bs nm (eo ks es ss) is os (ws.map cE))), some (.sh (.lst (mem.map .int))), some (.sh (.lst (gs.map .int))), some (.lst (((((gs.take j).map (cW ws)).flatMap fun w => sortI (CW ks es ss mem w)).map .int).map T.sh)), o, o'])
   (dR (v_ E.kT.1)) ⟨_, _, rfl⟩ (fun j δ ⟨_, _, e⟩ => by subst e; exact amg rfl) ?turn ?fin
 case turn =>
   rintro j d δ hj ⟨o, o', rfl⟩
   obtain ⟨i, rfl, _, hi, nG, _, tF⟩ := gi hj
   obtain ⟨⟨i0, i1⟩, hs, ht2, QH, hup⟩ := hg i hi
   have qg : (((gs.take j).map (cW ws)).flatMap fun w => sortI (CW ks es ss mem w)).length < 64 := by
     rw [PN, aox]
     exact ant (m5 _ _) Zt
   have aiA : (((gs.take (j + 1)).map (cW ws)).flatMap fun w => sortI (CW ks es ss mem w)).length < 64 := by
     rw [PN, aox]
     exact ant (m5 _ _) Zt
   have e2 : ((gs.take (j + 1)).map (cW ws)).flatMap (fun w => sortI (CW ks es ss mem w)) = (((gs.take j).map (cW ws)).flatMap fun w => sortI (CW ks es ss mem w)) ++ sortI (CW ks es ss mem (cW ws i)) := by
     rw [tF, amR, amW]
     simp
   rw [e2, amj] at aiA
   have etg : ((cW ws i).tgt.toNat : Int) = (cW ws i).tgt := by omega
   refine aI E.g E.fK (aK (DL (DR E.cg E.dJ (v_ E.bM.1) lE) (aB E.bA) (c5 (f := cE) w0 i0 i1)) (t2 := .sh (cE (cW ws i))) rfl) ?_
   refine CN E.pD.1 rfl (aK (c_ (ks, es, ss, mem, eV ks es (cW ws i), (cW ws i).tgt.toNat, (cW ws i).mode) E.PZ E.xX (ai (gb E.cg E.cX (aB E.bM) jw) (ai (aB E.bw) (ai (ah (aK (c_ (bs, nm, ks, es, ss, is, os, ws, i) E.xV E.n5 (ai (aB E.bM) (ai (aB E.bA) aD)) (by dsimp only [gY]; exact ⟨ht, by omega, hk, ⟨i0, i1⟩, hs, ht2⟩) rfl) (t2 := .sh (.int (eV ks es (cW ws i)))) rfl)) (ai (CG (aW (aB E.fK) (ah (iF E.kg E.j9)) (cy (j := 4) rfl)) (congrArg L3.D.int etg.symm)) (ai (aW (aB E.fK) (ah (iF E.E4 E.E3)) (cy (j := 5) rfl)) aD))))) (by dsimp only [kh]; exact ⟨⟨by omega, hk, hsl, yw, by omega, QH, hkd⟩, hT, by omega, hup⟩) (aT _)) (t2 := .lst (((sortI (CW ks es ss mem (cW ws i))).map .int).map T.sh)) rfl) rfl (by simp only [List.length_map]; omega) (ao ⟨some (.sh (.int i)), some (.sh (cE (cW ws i))), ?_⟩)
   rw [e2]
   simp
 case fin =>
   rintro δ ⟨o, o', rfl⟩
   rw [amc, amP]
   refine bD (iR E.eB (vL E.pD.1) (by rw [PN]; exact Zt) E.ez) ?_
   rw [rZ (xM _)]
   rfl
theorem cL : jU (av jR) ([("chart", ak), ("memory", ak), ("going", ak), ("come", ak), ("number", ak), ("way", ak), ("entered", az), ("way_top", az), ("TARGET", az), ("MODE", az), ("sorted", az)]) = true := by decide +kernel
theorem rg : aP ["chart", "memory", "going", "come", "number", "way"] ["chart", "memory", "going"] (av jR) := aX
noncomputable abbrev wO : Stmt := top 24
noncomputable abbrev AV : Type := List L3.D × List L3.D × List Str × List Int × List Int × List L3.D × List L3.D × List cR × Int
noncomputable def lR : AV -> List L3.D := fun (bs, nm, ks, es, ss, is, os, ws, m) => [gF bs nm (eo ks es ss) is os (ws.map cE), .int m]
noncomputable def iT : AV -> Prop := fun (bs, nm, ks, es, ss, is, os, ws, m) => dM es /\ ks.length = es.length /\ es.length <= 1000 /\ 0 <= m /\ m < es.length
noncomputable def lS : AV -> T := fun (bs, nm, ks, es, ss, is, os, ws, m) => (.sh (.bl (cH ks es ws m)) : T)
structure TJ (X : Cx) (CL : Str -> Addr) : Prop extends cA X where
 bM : Ln X 0 "chart"
 bf : Ln X 1 "mood"
 fK : Ln X 2 "way"
 E3 : Gl X "MODE"
 j9 : Gl X "TARGET"
 qX : Gl X "within"
 E4 : ∃ u, X.mg "MODE" = some (.int 5 u)
 kg : ∃ u, X.mg "TARGET" = some (.int 4 u)
 qW : Fc X CL "within" 2 3 jD gu jE
 cg : tY X.K (CL "Chart")
 fj : tY X.K (CL "Tree")
 dJ : bE X.K (CL "Chart") "ways"
 dI : bE X.K (CL "Tree") "kinds"
 cX : bE X.K (CL "Chart") "tree"
theorem TL {X : Cx} {CL : Str -> Addr} {b : Bx} (E : TJ X CL) (bs nm ks es ss is os ws m) (h : iT (bs, nm, ks, es, ss, is, os, ws, m)) :
   aC X CL b wO ["chart", "mood", "way"] (lR (bs, nm, ks, es, ss, is, os, ws, m)) (lS (bs, nm, ks, es, ss, is, os, ws, m)) := by
 dsimp only [aC, iT, lR, lS] at h ⊢
 obtain ⟨ht, hk, hl, m0, m1⟩ := h
 refine d9 (zU (aO (gb E.fj E.dI (gb E.cg E.cX (aB E.bM) jw) lD) (aB E.bf) (c5 Str.empty m0 (by omega))) (ah bC)).1 (fun hp => ?_) (fun hp => ao ?_)
 . refine bD lB ?_
   have : aS ks m = false := by
     rw [anl] at hp
     exact hp
   show T.sh (.bl false) = T.sh (.bl (cH ks es ws m))
   unfold cH
   rw [this]
   rfl
 have tG : aS ks m = true := by
   rw [aon] at hp
   exact hp
 have hre : cH ks es ws m = ws.any (qy es m) := by unfold cH; rw [tG]; rfl
 rw [hre]
 refine d7 E.g E.fK (fun j δ => (∀ i x, i < j -> ws[i]? = some x -> qy es m x = false) /\ ∃ o, δ = [some (.sh (gF bs nm (eo ks es ss) is os (ws.map cE))), some (.sh (.int m)), o])
   (dR (DR E.cg E.dJ (v_ E.bM.1) lE)) ⟨fun i x hi => by omega, _, rfl⟩ (fun j δ ⟨_, _, e⟩ => by subst e; exact amg rfl) ?turn ?fin
 case turn =>
   rintro j d δ hj ⟨Tc, o, rfl⟩
   obtain ⟨w, rfl, hw, _, nG, _, _⟩ := gi hj
   refine d9 (kH (ja (zU (aW (aB E.fK) (ah (iF E.E4 E.E3)) (cy (j := 5) rfl)) (ah bC)).1 (fun _ => g8 (dD (aW (aB E.fK) (ah (iF E.kg E.j9)) (cy (j := 4) rfl)) (aB E.bf)).1))) (fun hp => ?_) (fun hp => ao ?_)
   . refine bD lB ?_
     rw [vC hw (by unfold qy; rw [hp]; rfl)]
   refine d9 (kH (ja (iB (aW (aB E.fK) (ah (iF E.E4 E.E3)) (cy (j := 5) rfl)) (ah bC)).1 (fun _ => g8 (fZ (c_ (ks, es, ss, m, w.tgt) E.qW E.qX (ai (gb E.cg E.cX (aB E.bM) jw) (ai (aB E.bf) (ai (aW (aB E.fK) (ah (iF E.kg E.j9)) (cy (j := 4) rfl)) aD))) (by dsimp only [gu]; exact ⟨ht, m0, m1, hl⟩) rfl))))) (fun hq => ?_) (fun hq => ao (ao ?_))
   . refine bD lB ?_
     have hq : (decide (w.mode = "far") && (decide (w.tgt = -1) || decide (w.tgt ∈ aY es m))) = true := hq
     rw [vC hw (by unfold qy; rw [hq, Bool.or_true])]
   . have hq : (decide (w.mode = "far") && (decide (w.tgt = -1) || decide (w.tgt ∈ aY es m))) = false := hq
     refine ⟨fun i x hi hx => ?_, _, rfl⟩
     by_cases e : i = j
     . subst e
       rw [hw] at hx
       cases hx
       unfold qy
       rw [hp, hq]
       rfl
     . exact Tc i x (by omega) hx
 case fin =>
   rintro δ ⟨Tc, o, rfl⟩
   refine bD lB ?_
   rw [any_none fun i x hx => Tc i x (by rw [amc]; exact (amH.mp hx).1) hx]
theorem lu : jU (av wO) ([("chart", ak), ("mood", ak), ("way", ak), ("MODE", az), ("TARGET", az), ("within", az)]) = true := by decide +kernel
theorem Dq : aP ["chart", "mood", "way"] ["chart", "mood"] (av wO) := aX
noncomputable abbrev pF : Stmt := top 28
noncomputable abbrev uv : Type := List L3.D × List L3.D × List Str × List Int × List Int × List L3.D × List (List L3.D) × List cR × List Int × List Int × List Int
noncomputable def kX : uv -> List L3.D := fun (bs, nm, ks, es, ss, is, os, ws, gone, mem, bh) => [gF bs nm (eo ks es ss) is (os.map .tup) (ws.map cE), .lst (gone.map .int), .lst (mem.map .int), .lst (bh.map .int)]
noncomputable def jm : uv -> Prop := fun (bs, nm, ks, es, ss, is, os, ws, gone, mem, bh) => dM es /\ es.length <= 1000 /\ ks.length = es.length /\ os.length = es.length /\ mem.length = es.length /\ bh.length = es.length /\ qz os /\ gone.length <= 1000 /\ ∀ m ∈ gone, 0 <= m /\ m < es.length
noncomputable def kY : uv -> T := fun (bs, nm, ks, es, ss, is, os, ws, gone, mem, bh) => (.lst ((xN (cH ks es ws) os mem bh gone).map T.sh) : T)
structure Lb (X : Cx) (CL : Str -> Addr) : Prop extends cA X where
 bM : Ln X 0 "chart"
 kF : Ln X 1 "gone"
 bw : Ln X 2 "memory"
 eG : Ln X 3 "behind"
 ek : Ln X 4 "rows"
 bf : Ln X 5 "mood"
 AW : Gl X "heeded"
 AX : Fc X CL "heeded" 3 2 lR iT lS
 cg : tY X.K (CL "Chart")
 oU : bE X.K (CL "Chart") "outs"
theorem Lc {X : Cx} {CL : Str -> Addr} {b : Bx} (E : Lb X CL) (bs nm ks es ss is os ws gone mem bh) (h : jm (bs, nm, ks, es, ss, is, os, ws, gone, mem, bh)) :
   aC X CL b pF ["chart", "gone", "memory", "behind", "rows", "mood"] (kX (bs, nm, ks, es, ss, is, os, ws, gone, mem, bh)) (kY (bs, nm, ks, es, ss, is, os, ws, gone, mem, bh)) := by
 dsimp only [aC, jm, kX, kY] at h ⊢
 obtain ⟨ht, hl, hk, Zq, yw, hbl, hr, hgl, hg⟩ := h
 refine aI E.g E.ek (dN cZ (amO _)) ?_
 refine d7 E.g E.bf (fun j δ => ∃ o, δ = [some (.sh (gF bs nm (eo ks es ss) is (os.map .tup) (ws.map cE))), some (.sh (.lst (gone.map .int))), some (.sh (.lst (mem.map .int))), some (.sh (.lst (bh.map .int))), some (.lst ((xN (cH ks es ws) os mem bh (gone.take j)).map T.sh)), o])
   (dR (v_ E.kF.1)) ⟨_, rfl⟩ (fun j δ ⟨_, e⟩ => by subst e; exact amg rfl) ?turn ?fin
 case turn =>
   rintro j d δ hj ⟨o, rfl⟩
   obtain ⟨m, rfl, _, hm, nG, _, tF⟩ := gi hj
   obtain ⟨m0, m1⟩ := hg m hm
   have Zr := (vz (vq := cH ks es ws) (mem := mem) (bh := bh) hr (gone.take j)).1
   have htl : (gone.take j).length <= j := by simp; omega
   obtain ⟨g1, g2⟩ := hr.get m.toNat
   rw [tF, CZ]
   generalize xN (cH ks es ws) os mem bh (gone.take j) = rs at Zr ⊢
   refine fD E.ek.1 rfl (fQ (aG bC (aG (v_ E.bf.1) di)) (aN rfl)) rfl (by rw [amc]; omega) ?_
   refine qq (fun δ => δ = [some (.sh (gF bs nm (eo ks es ss) is (os.map .tup) (ws.map cE))), some (.sh (.lst (gone.map .int))), some (.sh (.lst (mem.map .int))), some (.sh (.lst (bh.map .int))), some (.lst ((rs ++ (L3.D.tup [.str "out", .int m] :: (if cH ks es ws m = true then [L3.D.tup [.str "keep", .int m, .int (mem.getD m.toNat 0), .int (bh.getD m.toNat 0)]] else []))).map T.sh)), some (.sh (.int m))])
     (fZ (aK (c_ (bs, nm, ks, es, ss, is, os.map .tup, ws, m) E.AX E.AW (ai (aB E.bM) (ai (aB E.bf) aD)) (by dsimp only [iT]; exact ⟨ht, hk, hl, m0, m1⟩) rfl) (t2 := .sh (.bl (cH ks es ws m))) rfl)) (fun hp => ?_) (fun hp => ?_) ?_
   . rw [amo hp]
     refine fD E.ek.1 rfl (fQ (aG bC (aG (v_ E.bf.1) (aG (cY (aO (aB E.bw) (aB E.bf) (ck m0 (by omega))) rfl) (aG (cY (aO (aB E.eG) (aB E.bf) (ck m0 (by omega))) rfl) di)))) (aN rfl)) rfl (by rw [amj, amc]; simp; omega) (ao ?_)
     simp
   . rw [amk (by rw [hp]; decide)]
     refine ao ?_
     simp
   rintro δ rfl
   have zl : (if cH ks es ws m = true then [L3.D.tup [.str "keep", .int m, .int (mem.getD m.toNat 0), .int (bh.getD m.toNat 0)]] else []).length <= 1 := by split <;> simp
   generalize (if cH ks es ws m = true then [L3.D.tup [.str "keep", .int m, .int (mem.getD m.toNat 0), .int (bh.getD m.toNat 0)]] else []) = kr at zl ⊢
   refine xB E.ek.1 rfl (aO (gb E.cg E.oU (aB E.bM) Kv) (aB E.bf) (c5 (f := L3.D.tup) [] m0 (by omega))) g2 rfl (by rw [amc, amj, amA]; omega) (ao ⟨some (.sh (.int m)), ?_⟩)
   simp
 case fin =>
   rintro δ ⟨o, rfl⟩
   rw [amc, amP]
   exact bD (vM E.ek.1) rfl
theorem g6 : jU (av pF) ([("chart", ak), ("gone", ak), ("memory", ak), ("behind", ak), ("rows", ak), ("mood", ak), ("heeded", az)]) = true := by decide +kernel
theorem yC : aP ["chart", "gone", "memory", "behind", "rows", "mood"] ["chart", "gone", "memory", "behind"] (av pF) := aX
noncomputable abbrev pG : Stmt := top 29
noncomputable abbrev uw : Type := List L3.D × List L3.D × L3.D × List L3.D × List L3.D × List cR × Nat × List Int
noncomputable def kZ : uw -> List L3.D := fun (bs, nm, tr, is, os, ws, n, sel) => [gF bs nm tr is os (ws.map cE), .lst (sel.map .int)]
noncomputable def jn : uw -> Prop := fun (bs, nm, tr, is, os, ws, n, sel) => sel.length <= 1000 /\ (∀ i ∈ sel, (0 <= i /\ i < ws.length) /\ Zi n (cW ws i))
noncomputable def k6 : uw -> T := fun (bs, nm, tr, is, os, ws, n, sel) => (.lst ((vt ws sel).map T.sh) : T)
structure Ld (X : Cx) (CL : Str -> Addr) : Prop extends cA X where
 bM : Ln X 0 "chart"
 jx : Ln X 1 "ways"
 ek : Ln X 2 "rows"
 bA : Ln X 3 "number"
 Xn : Gl X "DEEDS"
 Xo : ∃ u, X.mg "DEEDS" = some (.int 3 u)
 cg : tY X.K (CL "Chart")
 dJ : bE X.K (CL "Chart") "ways"
theorem Le {X : Cx} {CL : Str -> Addr} {b : Bx} (E : Ld X CL) (bs nm tr is os ws n sel) (h : jn (bs, nm, tr, is, os, ws, n, sel)) :
   aC X CL b pG ["chart", "ways", "rows", "number"] (kZ (bs, nm, tr, is, os, ws, n, sel)) (k6 (bs, nm, tr, is, os, ws, n, sel)) := by
 dsimp only [aC, jn, kZ, k6] at h ⊢
 obtain ⟨hl, hs⟩ := h
 refine aI E.g E.ek (dN cZ (amO _)) ?_
 refine d7 E.g E.bA (fun j δ => ∃ o, δ = [Option.some (.sh (gF bs nm tr is os (ws.map cE))), Option.some (.sh (.lst (sel.map .int))), Option.some (.lst ((vt ws (sel.take j)).map T.sh)), o])
   (dR (v_ E.jx.1)) ⟨_, rfl⟩ (fun j δ ⟨_, e⟩ => by subst e; exact amg rfl) ?turn ?fin
 case turn =>
   rintro j d δ hj ⟨o, rfl⟩
   obtain ⟨i, rfl, _, hi, nG, _, tF⟩ := gi hj
   obtain ⟨⟨i0, i1⟩, hw⟩ := hs i hi
   have Zr := (vA (ws := ws) (n := n) (some := sel.take j) (fun x hx => (hs x (aoe hx)).2)).1
   have htl : (sel.take j).length <= j := by simp; omega
   have d1 := hw.2.2.2.1
   refine fD E.ek.1 rfl (fQ (aG bC (aG (v_ E.bA.1) di)) (aN rfl)) rfl (by rw [amc]; omega) ?_
   refine xB E.ek.1 rfl (aW (aO (gb E.cg E.dJ (aB E.bM) lE) (aB E.bA) (c5 (f := cE) w0 i0 i1)) (ah (iF E.Xo E.Xn)) (cy (j := 3) rfl)) hw.2.2.2.2.1 rfl (by rw [amj, amc, anf]; show _ + 1 + (cW ws i).jW.length <= _; omega) (ao ⟨Option.some (.sh (.int i)), ?_⟩)
   rw [tF, C1, amR, am6, aml]
   rfl
 case fin =>
   rintro δ ⟨o, rfl⟩
   rw [amc, amP]
   exact bD (vM E.ek.1) rfl
theorem ki : jU (av pG) ([("chart", ak), ("ways", ak), ("rows", ak), ("number", ak), ("DEEDS", az)]) = true := by decide +kernel
theorem yE : aP ["chart", "ways", "rows", "number"] ["chart", "ways"] (av pG) := aX
noncomputable abbrev sV : Stmt := top 30
noncomputable abbrev xY : Type := List L3.D × List L3.D × L3.D × List (List L3.D) × List L3.D × List L3.D × List Int
noncomputable def mP : xY -> List L3.D := fun (bs, nm, tr, is, os, ws, come) => [gF bs nm tr (is.map .tup) os ws, .lst (come.map .int)]
noncomputable def ko : xY -> Prop := fun (bs, nm, tr, is, os, ws, come) => qz is /\ come.length <= 1000 /\ ∀ m ∈ come, 0 <= m /\ m < is.length
noncomputable def mQ : xY -> T := fun (bs, nm, tr, is, os, ws, come) => (.lst ((inR is come).map T.sh) : T)
structure P0 (X : Cx) (CL : Str -> Addr) : Prop extends cA X where
 bM : Ln X 0 "chart"
 pD : Ln X 1 "come"
 ek : Ln X 2 "rows"
 bf : Ln X 3 "mood"
 cg : tY X.K (CL "Chart")
 qQ : bE X.K (CL "Chart") "ins"
theorem P1 {X : Cx} {CL : Str -> Addr} {b : Bx} (E : P0 X CL) (bs nm tr is os ws come) (h : ko (bs, nm, tr, is, os, ws, come)) :
   aC X CL b sV ["chart", "come", "rows", "mood"] (mP (bs, nm, tr, is, os, ws, come)) (mQ (bs, nm, tr, is, os, ws, come)) := by
 dsimp only [aC, ko, mP, mQ] at h ⊢
 obtain ⟨hr, hl, hc⟩ := h
 refine aI E.g E.ek (dN cZ (amO _)) ?_
 refine d7 E.g E.bf (fun j δ => ∃ o, δ = [some (.sh (gF bs nm tr (is.map .tup) os ws)), some (.sh (.lst (come.map .int))), some (.lst ((inR is (come.take j)).map T.sh)), o])
   (dR (v_ E.pD.1)) ⟨_, rfl⟩ (fun j δ ⟨_, e⟩ => by subst e; exact amg rfl) ?turn ?fin
 case turn =>
   rintro j d δ hj ⟨o, rfl⟩
   obtain ⟨m, rfl, _, hm, nG, _, tF⟩ := gi hj
   obtain ⟨m0, m1⟩ := hc m hm
   have Zr := (D9 hr (come.take j)).1
   have htl : (come.take j).length <= j := by simp; omega
   obtain ⟨g1, g2⟩ := hr.get m.toNat
   refine fD E.ek.1 rfl (fQ (aG bC (aG (v_ E.bf.1) di)) (aN rfl)) rfl (by rw [amc]; omega) ?_
   refine xB E.ek.1 rfl (aO (gb E.cg E.qQ (aB E.bM) Pq) (aB E.bf) (c5 (f := L3.D.tup) [] m0 m1)) g2 rfl (by rw [amj, amc, anf]; omega) (ao ⟨some (.sh (.int m)), ?_⟩)
   rw [tF, HW, amR, am6, aml]
   rfl
 case fin =>
   rintro δ ⟨o, rfl⟩
   rw [amc, amP]
   exact bD (vM E.ek.1) rfl
theorem pH : jU (av sV) ([("chart", ak), ("come", ak), ("rows", ak), ("mood", ak)]) = true := by decide +kernel
theorem AY : aP ["chart", "come", "rows", "mood"] ["chart", "come"] (av sV) := aX
noncomputable abbrev k7 : Stmt := top 15
noncomputable abbrev pI : Type := List L3.D × List L3.D × L3.D × List L3.D × List L3.D × List cR × Int
noncomputable def jo : pI -> List L3.D := fun (bs, nm, tr, is, os, ws, i) => [gF bs nm tr is os (ws.map cE), .int i]
noncomputable def g7 : pI -> Prop := fun (bs, nm, tr, is, os, ws, i) => 0 <= i /\ i < ws.length
noncomputable def jq : pI -> T := fun (bs, nm, tr, is, os, ws, i) => (.sh (.bl (gP ws i)) : T)
structure E5 (X : Cx) (CL : Str -> Addr) : Prop extends cA X where
 bM : Ln X 0 "chart"
 bA : Ln X 1 "number"
 j9 : Gl X "TARGET"
 kg : ∃ u, X.mg "TARGET" = some (.int 4 u)
 cg : tY X.K (CL "Chart")
 dJ : bE X.K (CL "Chart") "ways"
theorem E6 {X : Cx} {CL : Str -> Addr} {b : Bx} (E : E5 X CL) (bs nm tr is os ws i) (h : g7 (bs, nm, tr, is, os, ws, i)) :
   aC X CL b k7 ["chart", "number"] (jo (bs, nm, tr, is, os, ws, i)) (jq (bs, nm, tr, is, os, ws, i)) := by
 dsimp only [aC, g7, jo, jq] at h ⊢
 obtain ⟨h0, h1⟩ := h
 exact bD (kC (aW (aO (gb E.cg E.dJ (aB E.bM) lE) (aB E.bA) (c5 (f := cE) w0 h0 h1)) (ah (iF E.kg E.j9)) (cy (j := 4) rfl)) (ah (eH (ah aj)))).2 rfl
theorem nh : jU (av k7) ([("chart", ak), ("number", ak), ("TARGET", az)]) = true := by decide +kernel
theorem tV : aP ["chart", "number"] ["chart", "number"] (av k7) := aX
noncomputable abbrev zI : Stmt := top 25
noncomputable abbrev E7 : Type := List L3.D × List L3.D × List Str × List Int × List Int × List (List L3.D) × List (List L3.D) × List cR × List Int × List Int × List Int
noncomputable def sW : E7 -> List L3.D := fun (bs, nm, ks, es, ss, is, os, ws, ch, mem, so) => [gF bs nm (eo ks es ss) (is.map .tup) (os.map .tup) (ws.map cE), .lst ((cD (aq ks) es ch (es.length - 1)).map .int), .lst (mem.map .int), .lst (so.map .int)]
noncomputable def sX : E7 -> Prop := fun (bs, nm, ks, es, ss, is, os, ws, ch, mem, so) => iJ ks es ss is os ws /\ (ch.length = es.length /\ uf (aS ks) es ch) /\ tN ks es mem /\ qA ks es ws (cD (aq ks) es ch (es.length - 1)) so
noncomputable def n9 : E7 -> T := fun (bs, nm, ks, es, ss, is, os, ws, ch, mem, so) => (.tup [.lst ((xP ks es ss is os ws mem (cD (aq ks) es ch (es.length - 1)) so).map T.sh), .lst (((Pr ks es ss (BU ks es ws mem (cD (aq ks) es ch (es.length - 1)) (eX ws so)) (cD (aq ks) es ch (es.length - 1)) (eX ws so)).map .int).map T.sh), .lst (((BU ks es ws mem (cD (aq ks) es ch (es.length - 1)) (eX ws so)).map .int).map T.sh)] : T)
structure Xp (X : Cx) (CL : Str -> Addr) : Prop extends cA X where
 bM : Ln X 0 "chart"
 zJ : X.env.kindOf "chart" = some .cell
 b8 : Ln X 1 "opens"
 bw : Ln X 2 "memory"
 jx : Ln X 3 "ways"
 kT : Ln X 4 "going"
 kF : Ln X 5 "gone"
 Lf : X.env.kindOf "gone" = some .cell
 eG : Ln X 6 "behind"
 pD : Ln X 7 "come"
 aF : Ln X 8 "script"
 ux : Gl X "all_left"
 pJ : Gl X "remembered"
 ni : Gl X "all_entered"
 uy : Gl X "out_rows"
 uz : Gl X "way_rows"
 xZ : Gl X "in_rows"
 ez : Gl X "sorted"
 Lg : Fc X CL "all_left" 5 3 kQ jj kR
 E8 : Fc X CL "remembered" 1 4 jk gZ jl
 B9 : Fc X CL "all_entered" 45 3 iM gD iN
 Lh : Fc X CL "out_rows" 4 4 kX jm kY
 Li : Fc X CL "way_rows" 1 2 kZ jn k6
 P4 : Fc X CL "in_rows" 1 2 mP ko mQ
 eB : X.mg "sorted" = none
 E9 : Fc X CL "has_target" 1 2 jo g7 jq
 AX : Fc X CL "heeded" 3 2 lR iT lS
 cg : tY X.K (CL "Chart")
 cX : bE X.K (CL "Chart") "tree"
theorem Xq {X : Cx} {CL : Str -> Addr} {b : Bx} (E : Xp X CL) (bs nm ks es ss is os ws ch mem so) (h : sX (bs, nm, ks, es, ss, is, os, ws, ch, mem, so)) :
   aC X CL b zI ["chart", "opens", "memory", "ways", "going", "gone", "behind", "come", "script"] (sW (bs, nm, ks, es, ss, is, os, ws, ch, mem, so)) (n9 (bs, nm, ks, es, ss, is, os, ws, ch, mem, so)) := by
 dsimp only [aC, sX, sW, n9] at h ⊢
 obtain ⟨hC, ⟨xF, hc⟩, hm, hs⟩ := h
 have ht := hC.pre.1
 have n0 := hC.n0
 have n1 := hC.n1
 have Kf := hs.goes hC
 have K4 := hs.win hC
 have hwi := hs.i
 have hsl := hs.l
 have Xf := hs.ap
 have G5 : ∀ x ∈ cD (aq ks) es ch (es.length - 1), 0 <= x /\ x < es.length := fun x hx => HX n0 hx
 have Wg := gS (isAll := aq ks) (es := es) (ch := ch) (es.length - 1)
 have Zq := oB (isAll := aq ks) (es := es) (ch := ch) (es.length - 1)
 obtain ⟨zm, _, _, _, Zu⟩ := Am hC.kd (hC.tree (C2 hC hc xF hm (eX ws so))) n0 xF hc Xf Kf
 have Tg := C2 hC hc xF hm (eX ws so)
 have hbT := hC.tree Tg
 obtain ⟨f1, f2⟩ := Ak (ks := ks) ht Wg G5 Xf
 obtain ⟨g1, g2⟩ := xK (ks := ks) ht Wg G5 Xf
 obtain ⟨c1, c2, c3⟩ := Al hbT Xf Kf
 have Xg : ∀ x ∈ gO ks es (cD (aq ks) es ch (es.length - 1)) (eX ws so), 0 <= x /\ x < es.length := fun x hx => G5 x (vp.mp hx).1
 have hgs : (so.filter (gP ws)).map (cW ws) = eX ws so := rfl
 have tM : ∀ i ∈ so.filter (gP ws), (0 <= i /\ i < ws.length) /\ (0 <= (cW ws i).src /\ (cW ws i).src < es.length) /\ (0 <= (cW ws i).tgt /\ (cW ws i).tgt < es.length) /\ mZ (cW ws i).mode /\ (eV ks es (cW ws i) = -1 \/ eV ks es (cW ws i) ∈ aY es (cW ws i).tgt.toNat) := fun i hi => by
   have h1 := (amK.mp hi).1
   have w := K4 i h1
   have g := Kf (cW ws i) (amJ.mpr ⟨i, hi, rfl⟩)
   exact ⟨(hwi i h1).1, w.1, g.1, w.2.2.1, g.up⟩
 unfold xP
 generalize aip : cD (aq ks) es ch (es.length - 1) = ops at *
 refine xC (p := fun d => gP ws d.uW) (gg := fun d => T.sh d) E.g E.kT (dF (.cons E.bM.1 (.inl E.zJ) .nil) (by decide +kernel)) (dR (v_ E.jx.1)) (.inr rfl) (fun C s0 H0 f0 b' d hd => ?abB) (amQ (bQ (by simp; omega))) ?rest (by exact amg rfl) (nL ⟨_, rfl⟩)
 case abB =>
   obtain ⟨i, hi, rfl⟩ := amJ.mp hd
   exact ⟨fZ (c_ (bs, nm, eo ks es ss, is.map .tup, os.map .tup, ws, i) (kI E.E9) (jc (by decide +kernel)) (ai (ah (v_ (f9 (i := 1) rfl (by decide +kernel)))) (ai (ah (v_ (ef (i := 0) rfl (by decide +kernel)))) aD)) (by dsimp only [g7]; exact (hwi i hi).1) rfl), fun _ => (v_ (ef (i := 0) rfl (by decide +kernel)))⟩
 case rest =>
 have ab2 : (((so.map L3.D.int).filter (fun d => gP ws d.uW)).map fun d => T.sh d) = ((so.filter (gP ws)).map L3.D.int).map T.sh := by
   rw [anE, amI]
   exact (amI ..).symm
 rw [ab2]
 refine aI E.g E.kF (gf (ds := (gO ks es ops (eX ws so)).map .int) (aK (c_ (bs, nm, ks, es, ss, is.map .tup, os.map .tup, ws, ops, so.filter (gP ws)) E.Lg E.ux (ai (aB E.bM) (ai (aB E.b8) (ai (vL E.kT.1) aD))) (by dsimp only [jj]; exact ⟨ht, by omega, hC.kl, by omega, G5, fun i hi => ⟨(tM i hi).1, (tM i hi).2.1, (tM i hi).2.2.1⟩, by rw [hgs]; omega⟩) (aT _)) rfl)) ?_
 have PN : ((gO ks es ops (eX ws so)).filter (cH ks es ws)).length <= es.length := am0 (ank _ _) g2
 refine aI E.g E.eG (aK (c_ (ks, es, ss, mem, ops, (gO ks es ops (eX ws so)).filter (cH ks es ws)) E.E8 E.pJ (ai (gb E.cg E.cX (aB E.bM) jw) (ai (aB E.bw) (ai (aB E.b8) (ai (cQ (aK (lY (p := fun d => cH ks es ws d.uW) (g := fun d => T.sh d) (dF (.cons E.bM.1 (.inl E.zJ) .nil) (by decide +kernel)) E.g.calm (dR (v_ E.kF.1)) (.inr rfl) (fun C s0 H0 f0 b' d hd => ?abC) (amQ (bQ (by simp; omega)))) (t2 := .lst ((((gO ks es ops (eX ws so)).filter (cH ks es ws)).map .int).map T.sh)) (by
   refine congrArg T.lst ?_
   rw [anE, amI]
   exact (List.map_map ..).symm))) aD)))) (by dsimp only [gZ]; exact ⟨ht, hC.kl, hm.1, G5, fun x hx => Xg x (List.mem_filter.mp hx).1⟩) (aT _)) (t2 := .lst (((BU ks es ws mem ops (eX ws so)).map .int).map T.sh)) rfl) ?_
 case abC =>
   obtain ⟨i, hi, rfl⟩ := amJ.mp hd
   exact ⟨fZ (c_ (bs, nm, ks, es, ss, is.map .tup, os.map .tup, ws, i) (kI E.AX) (jc (by decide +kernel)) (ai (ah (v_ (f9 (i := 1) rfl (by decide +kernel)))) (ai (ah (v_ (ef (i := 0) rfl (by decide +kernel)))) aD)) (by dsimp only [iT]; exact ⟨ht, hC.kl, by omega, (Xg i hi).1, (Xg i hi).2⟩) rfl), fun _ => (v_ (ef (i := 0) rfl (by decide +kernel)))⟩
 generalize hB : BU ks es ws mem ops (eX ws so) = bh at *
 refine aI E.g E.pD (aK (c_ (bs, nm, ks, es, ss, is.map .tup, os.map .tup, ws, bh, so.filter (gP ws)) E.B9 E.ni (ai (aB E.bM) (ai (vL E.eG.1) (ai (vL E.kT.1) aD))) (by dsimp only [gD]; exact ⟨⟨n1, hC.kl, hC.sl, Tg.1, hC.kinds⟩, hbT, tM, by rw [hgs]; omega⟩) (aT _)) (t2 := .lst (((lV ks es ss bh (eX ws so)).map .int).map T.sh)) rfl) ?_
 obtain ⟨o1, o2⟩ := vz (vq := cH ks es ws) (mem := mem) (bh := bh) hC.or (gO ks es ops (eX ws so))
 obtain ⟨w1, w2⟩ := vA (n := es.length) K4
 have abR : (lV ks es ss bh (eX ws so)).length <= es.length := by unfold lV; rw [g9]; exact c2
 have hcm : ∀ x ∈ lV ks es ss bh (eX ws so), 0 <= x /\ x < is.length := fun x hx => by
   rw [hC.il]
   exact (c3 x (k9.mp hx)).1
 obtain ⟨i1, i2⟩ := D9 hC.ir (lV ks es ss bh (eX ws so))
 refine aI E.g E.aF (oq (cQ (oq (cQ (aK (c_ (bs, nm, ks, es, ss, is.map .tup, os, ws, gO ks es ops (eX ws so), mem, bh) E.Lh E.uy (ai (aB E.bM) (ai (aB E.kF) (ai (aB E.bw) (ai (vL E.eG.1) aD)))) (by dsimp only [jm]; exact ⟨ht, by omega, hC.kl, hC.ol, hm.1, Tg.1, hC.or, by omega, Xg⟩) (c7 o2)) (t2 := .lst ((xN (cH ks es ws) os mem bh (gO ks es ops (eX ws so))).map T.sh)) rfl))
   (cQ (aK (c_ (bs, nm, eo ks es ss, is.map .tup, os.map .tup, ws, es.length, so) E.Li E.uz (ai (aB E.bM) (ai (aB E.jx) aD)) (by dsimp only [jn]; exact ⟨by omega, fun i hi => ⟨(hwi i hi).1, K4 i hi⟩⟩) (c7 w2)) (t2 := .lst ((vt ws so).map T.sh)) rfl)) o2 w2 (Nat.le_of_lt (bQ (by omega)))))
   (cQ (aK (c_ (bs, nm, eo ks es ss, is, os.map .tup, ws.map cE, lV ks es ss bh (eX ws so)) E.P4 E.xZ (ai (aB E.bM) (ai (vL E.pD.1) aD)) (by dsimp only [ko]; exact ⟨hC.ir, by omega, hcm⟩) (c7 i2)) (t2 := .lst ((inR is (lV ks es ss bh (eX ws so))).map T.sh)) rfl)) (vv o2 w2) i2 (Nat.le_of_lt (bQ (by rw [List.length_append]; omega)))) ?_
 have AI : ((((ops.map L3.D.int).filter (fun d => !decide (d.uW ∈ gO ks es ops (eX ws so)))).map fun d => T.sh d)) = ((ops.filter (fun x => !decide (x ∈ gO ks es ops (eX ws so)))).map L3.D.int).map T.sh := by
   rw [anE, amI]
   exact (amI ..).symm
 have hfo : (ops.filter (fun x => !decide (x ∈ gO ks es ops (eX ws so)))).length <= ops.length := ank _ _
 refine bD (DJ (bY (vM E.aF.1) (bY (aK (iR E.eB (cQ (aK (oq (ds := (ops.filter (fun x => !decide (x ∈ gO ks es ops (eX ws so)))).map .int) (Np := (lV ks es ss bh (eX ws so)).map .int) (cQ (aK (lY (p := fun d => !decide (d.uW ∈ gO ks es ops (eX ws so))) (g := fun d => T.sh d) (dF (.cons E.kF.1 (.inl E.Lf) .nil) (by decide +kernel)) E.g.calm (dR (v_ E.b8.1)) (.inr rfl) (fun C s0 H0 f0 b' d hd => ?abS) (amQ (bQ (by simp; omega)))) (congrArg T.lst AI))) (vL E.pD.1) (b9 _) (b9 _) (amQ (bQ (by simp only [amc]; omega)))) (t2 := .lst (((ops.filter (fun x => !decide (x ∈ gO ks es ops (eX ws so))) ++ lV ks es ss bh (eX ws so)).map .int).map T.sh)) (by rw [← amR]))) (by omega) E.ez) (t2 := .lst (((Pr ks es ss bh ops (eX ws so)).map .int).map T.sh)) rfl) (bY (vM E.eG.1) cZ))) (aN rfl)) rfl
 case abS =>
   obtain ⟨i, hi, rfl⟩ := amJ.mp hd
   exact ⟨(u5 (l := gO ks es ops (eX ws so)) (ah (v_ (ef (i := 0) rfl (by decide +kernel)))) (ah (v_ (f9 (i := 1) rfl (by decide +kernel)))) rfl rfl).1, fun _ => (v_ (ef (i := 0) rfl (by decide +kernel)))⟩
theorem dP : jU (av zI) ([("chart", .cell), ("opens", ak), ("memory", ak), ("ways", ak), ("going", ak), ("gone", .cell), ("behind", ak), ("come", ak), ("script", ak), ("all_left", az), ("remembered", az), ("all_entered", az), ("out_rows", az), ("way_rows", az), ("in_rows", az), ("sorted", az)]) = true := by decide +kernel
theorem IW : aP ["chart", "opens", "memory", "ways", "going", "gone", "behind", "come", "script"] ["chart", "opens", "memory", "ways"] (av zI) := aX
noncomputable def Sm : Nat -> L3.D -> Prop
 | _, .int _ => True
 | _, .str _ => True
 | n + 1, .lst ds => ds.length <= 1000 /\ ∀ d ∈ ds, Sm n d
 | n + 1, .tup ds => ds.length <= 1000 /\ ∀ d ∈ ds, Sm n d
 | _, _ => False
theorem Fb {ds : List L3.D} {j : Nat} (h : j < ds.length) : zP ds (j : Int) = some ds[j] := cy (amq h)
noncomputable abbrev s_same : Stmt := top 33
noncomputable abbrev Lj : Type := L3.D
noncomputable def rm : Lj -> List L3.D := fun d => [d, d]
noncomputable def lT (dd : Nat) : Lj -> Prop := fun d => Sm dd d
noncomputable def rq : Lj -> T := fun d => (.sh (.bl true) : T)
structure ab3 (X : Cx) (CL : Str -> Addr) (dd : Nat) : Prop extends cA X where
 bP : Ln X 0 "found"
 gK : Ln X 1 "due"
 iW : Ln X 2 "k"
 bI : Gl X "isinstance"
 vH : Gl X "str"
 C4 : Gl X "int"
 g_bool : Gl X "bool"
 cI : Gl X "list"
 mq : Gl X "tuple"
 dm : Gl X "len"
 bS : Gl X "range"
 ku : Gl X "_law_same"
 bJ : X.mg "isinstance" = none
 nR : X.mg "str" = none
 C5 : X.mg "int" = none
 ab4 : X.mg "bool" = none
 cJ : X.mg "list" = none
 mw : X.mg "tuple" = none
 dw : X.mg "len" = none
 bT : X.mg "range" = none
 AZ : ∀ d', d' < dd -> Fc X CL "_law_same" (1 + d') 2 rm (lT d') rq
theorem ab5 {X : Cx} {CL : Str -> Addr} {b : Bx} {dd : Nat} (E : ab3 X CL dd) (d) (h : lT dd d) :
   aC X CL b s_same ["found", "due", "k"] (rm d) (rq d) := by
 dsimp only [aC, lT, rm, rq] at h ⊢
 cases d with
 | int i =>
   refine d9 (fZ (isS E.bJ E.nR E.bI E.vH (aB E.gK))) (fun hp => absurd hp (by decide)) (fun _ => ao ?_)
   refine d9 (fZ (isI E.bJ E.C5 E.bI E.C4 (aB E.gK))) (fun hp => ?_) (fun hp => absurd hp (by decide))
   refine bD (DK (isI E.bJ E.C5 E.bI E.C4 (aB E.bP)) (fun hb => (DK (aaI (isB E.bJ E.ab4 E.bI E.g_bool (aB E.bP))) (fun hb2 => (xr (dD (aB E.bP) (aB E.gK)).2))))) ?_
   simp
 | str x =>
   refine d9 (fZ (isS E.bJ E.nR E.bI E.vH (aB E.gK))) (fun hp => ?_) (fun hp => absurd hp (by decide))
   refine bD (DK (isS E.bJ E.nR E.bI E.vH (aB E.bP)) (fun hb => (xr (iB (aB E.bP) (aB E.gK)).2))) ?_
   simp
 | lst ds =>
   obtain ⟨n, rfl⟩ : ∃ n, dd = n + 1 := by
     cases dd with
     | zero => exact absurd h (by intro z; cases z)
     | succ n => exact ⟨n, rfl⟩
   obtain ⟨hl, hd⟩ : ds.length <= 1000 /\ ∀ d ∈ ds, Sm n d := h
   refine d9 (fZ (isS E.bJ E.nR E.bI E.vH (aB E.gK))) (fun hp => absurd hp (by decide)) (fun _ => ao ?_)
   refine d9 (fZ (isI E.bJ E.C5 E.bI E.C4 (aB E.gK))) (fun hp => absurd hp (by decide)) (fun _ => ao ?_)
   refine d9 (kH (qp (DQ (ah (isL E.bJ E.cJ E.bI E.cI (aB E.gK))) (ah (isL E.bJ E.cJ E.bI E.cI (aB E.bP)))).1 (fun _ => mX (DQ (ah (isT E.bJ E.mw E.bI E.mq (aB E.gK))) (ah (isT E.bJ E.mw E.bI E.mq (aB E.bP)))).1))) (fun hp => absurd hp (by decide)) (fun _ => ao ?_)
   refine d9 (kC (ah (yX E.dw (aB E.bP) E.dm)) (ah (yX E.dw (aB E.gK) E.dm))).1 (fun hp => by simp at hp) (fun _ => ao ?_)
   refine d7 E.g E.iW (fun j δ => ∃ o, δ = [some (.sh (.lst ds)), some (.sh (.lst ds)), o])
     (dO E.bT (ah (yX E.dw (aB E.gK) E.dm)) (by omega) E.bS) ⟨_, rfl⟩ (fun j δ ⟨_, e⟩ => by subst e; exact amg rfl) ?turn ?fin
   case turn =>
     rintro j d δ hj ⟨o, rfl⟩
     obtain ⟨rfl, nG⟩ := fW hj
     have nG : j < ds.length := by omega
     rw [ani]
     refine d9 (xq (fZ (c_ ds[j] (E.AZ n (by omega)) E.ku (ai (aO (aB E.bP) (aB E.iW) (Fb nG)) (ai (aO (aB E.gK) (aB E.iW) (Fb nG)) aD)) (by dsimp only [lT]; exact hd _ (List.getElem_mem _)) rfl))) (fun hp => by cases hp) (fun _ => ao (ao ⟨_, rfl⟩))
   case fin =>
     rintro δ ⟨o, rfl⟩
     exact bD lB rfl
 | tup ds =>
   obtain ⟨n, rfl⟩ : ∃ n, dd = n + 1 := by
     cases dd with
     | zero => exact absurd h (by intro z; cases z)
     | succ n => exact ⟨n, rfl⟩
   obtain ⟨hl, hd⟩ : ds.length <= 1000 /\ ∀ d ∈ ds, Sm n d := h
   refine d9 (fZ (isS E.bJ E.nR E.bI E.vH (aB E.gK))) (fun hp => absurd hp (by decide)) (fun _ => ao ?_)
   refine d9 (fZ (isI E.bJ E.C5 E.bI E.C4 (aB E.gK))) (fun hp => absurd hp (by decide)) (fun _ => ao ?_)
   refine d9 (kH (qp (DQ (ah (isL E.bJ E.cJ E.bI E.cI (aB E.gK))) (ah (isL E.bJ E.cJ E.bI E.cI (aB E.bP)))).1 (fun _ => mX (DQ (ah (isT E.bJ E.mw E.bI E.mq (aB E.gK))) (ah (isT E.bJ E.mw E.bI E.mq (aB E.bP)))).1))) (fun hp => absurd hp (by decide)) (fun _ => ao ?_)
   refine d9 (kC (ah (DM E.dw (aB E.bP) E.dm)) (ah (DM E.dw (aB E.gK) E.dm))).1 (fun hp => by simp at hp) (fun _ => ao ?_)
   refine d7 E.g E.iW (fun j δ => ∃ o, δ = [some (.sh (.tup ds)), some (.sh (.tup ds)), o])
     (dO E.bT (ah (DM E.dw (aB E.gK) E.dm)) (by omega) E.bS) ⟨_, rfl⟩ (fun j δ ⟨_, e⟩ => by subst e; exact amg rfl) ?turn ?fin
   case turn =>
     rintro j d δ hj ⟨o, rfl⟩
     obtain ⟨rfl, nG⟩ := fW hj
     have nG : j < ds.length := by omega
     rw [ani]
     refine d9 (xq (fZ (c_ ds[j] (E.AZ n (by omega)) E.ku (ai (aW (aB E.bP) (aB E.iW) (Fb nG)) (ai (aW (aB E.gK) (aB E.iW) (Fb nG)) aD)) (by dsimp only [lT]; exact hd _ (List.getElem_mem _)) rfl))) (fun hp => by cases hp) (fun _ => ao (ao ⟨_, rfl⟩))
   case fin =>
     rintro δ ⟨o, rfl⟩
     exact bD lB rfl
 | non => exact absurd h (by intro z; cases dd <;> cases z)
 | bl _ => exact absurd h (by intro z; cases dd <;> cases z)
 | ins _ _ => exact absurd h (by intro z; cases dd <;> cases z)
 | any => exact absurd h (by intro z; cases dd <;> cases z)
 | BH _ => exact absurd h (by intro z; cases dd <;> cases z)
 | dct _ => exact absurd h (by intro z; cases dd <;> cases z)
 | val _ => exact absurd h (by intro z; cases dd <;> cases z)
theorem iO : jU (av s_same) ([("found", ak), ("due", ak), ("k", ak), ("isinstance", az), ("str", az), ("int", az), ("bool", az), ("list", az), ("tuple", az), ("len", az), ("range", az), ("_law_same", az)]) = true := by decide +kernel
theorem Od : aP ["found", "due", "k"] ["found", "due"] (av s_same) := aX
theorem Sm.mono : ∀ {n m : Nat} {d : L3.D}, Sm n d -> n <= m -> Sm m d
 | _, 0, .int _, _, _ => trivial
 | _, 0, .str _, _, _ => trivial
 | _, _ + 1, .int _, _, _ => trivial
 | _, _ + 1, .str _, _, _ => trivial
 | 0, _, .lst _, h, _ => by cases h
 | 0, _, .tup _, h, _ => by cases h
 | n + 1, m + 1, .lst ds, h, e => ⟨h.1, fun d hd => Sm.mono (h.2 d hd) (by omega)⟩
 | n + 1, m + 1, .tup ds, h, e => ⟨h.1, fun d hd => Sm.mono (h.2 d hd) (by omega)⟩
 | n + 1, 0, .lst ds, h, e => absurd e (by omega)
 | n + 1, 0, .tup ds, h, e => absurd e (by omega)
 | 0, _, .non, h, _ => by cases h
 | _ + 1, _, .non, h, _ => by cases h
 | 0, _, .bl _, h, _ => by cases h
 | _ + 1, _, .bl _, h, _ => by cases h
 | 0, _, .ins _ _, h, _ => by cases h
 | _ + 1, _, .ins _ _, h, _ => by cases h
 | 0, _, .any, h, _ => by cases h
 | _ + 1, _, .any, h, _ => by cases h
 | 0, _, .BH _, h, _ => by cases h
 | _ + 1, _, .BH _, h, _ => by cases h
 | 0, _, .dct _, h, _ => by cases h
 | _ + 1, _, .dct _, h, _ => by cases h
 | 0, _, .val _, h, _ => by cases h
 | _ + 1, _, .val _, h, _ => by cases h
theorem Fd {bs nm is os ws : List L3.D} {t : T} (h1 : D.bZ bs = true) (h2 : D.bZ nm = true) (h3 : t.clean = true) (h4 : D.bZ is = true) (h5 : D.bZ os = true) (h6 : D.bZ ws = true) : T.cj (kD bs nm t is os ws) = true := by
 unfold kD xH xJ
 rw [amE, amE, List.nil_append, T.cj, T.cj, T.cj, T.cj, T.cj, T.cj, T.cj, c7 h1, c7 h2, h3, c7 h4, c7 h5, c7 h6]
 rfl
theorem IX (c : Int) (n : Nat) : Sm 1 (vJ c n) := ⟨by show 2 <= 1000; decide, fun d hd => by
 simp only [amf, amL, an6] at hd
 rcases hd with rfl | rfl <;> trivial⟩
theorem IY (s : List Int) (n : Nat) (c : Int) : Sm 2 (vO s n c) := by
 unfold vO
 split
 . refine ⟨by show 2 <= 1000; decide, fun d hd => ?_⟩
   simp only [amf, amL, an6] at hd
   rcases hd with rfl | rfl <;> trivial
 . split
   . refine ⟨by show 3 <= 1000; decide, fun d hd => ?_⟩
     simp only [amf, amL, an6] at hd
     rcases hd with rfl | rfl | rfl
     . trivial
     . trivial
     . exact IX _ _
   . refine ⟨by show 3 <= 1000; decide, fun d hd => ?_⟩
     simp only [amf, amL, an6] at hd
     rcases hd with rfl | rfl | rfl
     . trivial
     . trivial
     . exact IX _ _
theorem TN {s es : List Int} (n : Nat) (he : 1 <= es.length) : (vP s es n).length <= 8 /\ ∀ w ∈ vP s es n, Zi es.length w /\ ∀ d ∈ w.jW, Sm 2 d := by
 refine ⟨by unfold vP; rw [amc, aow]; exact Dg _ _, fun w hw => ?_⟩
 obtain ⟨k, hk, rfl⟩ := amJ.mp hw
 have hk := anP.mp hk
 have Si : (j3 s es.length).getD k 0 ∈ j3 s es.length := by
   rw [amd, amq hk]
   exact anD _
 have hb := Df he Si
 generalize (j3 s es.length).getD k 0 = src at hb
 refine ⟨⟨hb, ?_, ?_, Ax _ _ _, iY _ _ _, uo _ _ _ _⟩, fun d hd => ?_⟩
 . show (if _ then (-1 : Int) else Az es src _) = -1 \/ (0 <= (if _ then (-1 : Int) else Az es src _) /\ (if _ then (-1 : Int) else Az es src _) < ((es.length : Nat) : Int))
   split
   . exact .inl rfl
   . refine .inr ?_
     unfold Az
     split
     . have hm := rX hb.1 hb.2 rfl
       have qd : 0 < (eU es (es.getD src.toNat 0)).length := List.length_pos_of_mem hm
       have c1 := amB (aA s (200 + 12 * (k : Int) + 7) / 4) (b := ((eU es (es.getD src.toNat 0)).length : Nat)) (by omega)
       have c2 := amt (aA s (200 + 12 * (k : Int) + 7) / 4) (b := ((eU es (es.getD src.toNat 0)).length : Nat)) (by omega)
       have hx : ∀ q : Nat, q < (eU es (es.getD src.toNat 0)).length -> 0 <= (eU es (es.getD src.toNat 0)).getD q 0 /\ (eU es (es.getD src.toNat 0)).getD q 0 < es.length := fun q hq => by
         rw [amd, amq hq]
         have := jI (anD hq)
         exact ⟨this.1, this.2.1⟩
       exact hx _ (by omega)
     . have c1 := amB (aA s (200 + 12 * (k : Int) + 7) / 4) (b := (es.length : Nat)) (by omega)
       have c2 := amt (aA s (200 + 12 * (k : Int) + 7) / 4) (b := (es.length : Nat)) (by omega)
       exact ⟨c1, c2⟩
 . show mZ (if _ then ("new" : Str) else De _)
   split
   . exact .inl rfl
   . have hmc : ∀ c : Int, mZ (De c) := fun c => by
       unfold De
       have c1 := amB c (show (3 : Int) ≠ 0 by decide)
       have c2 := amt c (show (0 : Int) < 3 by decide)
       have : (c % 3).toNat = 0 \/ (c % 3).toNat = 1 \/ (c % 3).toNat = 2 := by omega
       rcases this with e | e | e <;> rw [e]
       . exact .inl rfl
       . exact .inr (.inl rfl)
       . exact .inr (.inr rfl)
     exact hmc _
 . obtain ⟨j, _, rfl⟩ := amJ.mp hd
   exact IY _ _ _
theorem Oe (s : List Int) (q : Int) (n : Nat) : ∃ is : List (List L3.D), KS s q n = is.map .tup /\ is.length = n /\ ∀ l ∈ is, l.length <= 2 /\ D.bZ l = true /\ ∀ d ∈ l, Sm 2 d := by
 refine ⟨(List.range n).map fun (k : Nat) => gU s (q + 6 * (k : Int)) (xR s), by unfold KS; rw [amI]; rfl, by simp, fun l hl => ?_⟩
 obtain ⟨k, _, rfl⟩ := amJ.mp hl
 refine ⟨Ax _ _ _, iY _ _ _, fun d hd => ?_⟩
 obtain ⟨j, _, rfl⟩ := amJ.mp hd
 exact IY _ _ _
noncomputable def x6 (is : List (List L3.D)) : Prop := ∀ l ∈ is, ∀ d ∈ l, Sm 2 d
theorem x6.get {is : List (List L3.D)} (h : x6 is) (k : Nat) : ∀ d ∈ is.getD k [], Sm 2 d := fun d hd => by
 by_cases hk : k < is.length
 . rw [amd, amq hk] at hd
   exact h _ (anD _) d hd
 . rw [amd, anB (by omega)] at hd
   cases hd
theorem zK {ds : List L3.D} (hl : ds.length <= 1000) (h : ∀ d ∈ ds, (∃ i, d = .int i) \/ ∃ x, d = .str x) : Sm 2 (.tup ds) := ⟨hl, fun d hd => by
 rcases h d hd with ⟨i, rfl⟩ | ⟨x, rfl⟩ <;> trivial⟩
theorem ab6 {ks : List Str} {es ss : List Int} {is os : List (List L3.D)} {ws : List cR} {mem ops so : List Int} (hi : x6 is) (ho : x6 os) (hw : ∀ i ∈ so, ∀ d ∈ (cW ws i).jW, Sm 2 d) : ∀ d ∈ xP ks es ss is os ws mem ops so, Sm 2 d := fun d hd => by
 unfold xP at hd
 rcases amn.mp hd with hd | hd
 . rcases amn.mp hd with hd | hd
   . obtain ⟨m, _, hm⟩ := am2.mp hd
     rcases amf.mp hm with rfl | hm
     . exact zK (by show 2 <= 1000; decide) fun d hd => by
         simp only [amf, amL, an6] at hd
         rcases hd with rfl | rfl
         . exact .inr ⟨_, rfl⟩
         . exact .inl ⟨_, rfl⟩
     . rcases amn.mp hm with hm | hm
       . split at hm
         . rw [anm] at hm
           subst hm
           exact zK (by show 4 <= 1000; decide) fun d hd => by
             simp only [amf, amL, an6] at hd
             rcases hd with rfl | rfl | rfl | rfl
             . exact .inr ⟨_, rfl⟩
             . exact .inl ⟨_, rfl⟩
             . exact .inl ⟨_, rfl⟩
             . exact .inl ⟨_, rfl⟩
         . cases hm
       . exact ho.get _ d hm
   . obtain ⟨m, TQ, hm⟩ := am2.mp hd
     rcases amf.mp hm with rfl | hm
     . exact zK (by show 2 <= 1000; decide) fun d hd => by
         simp only [amf, amL, an6] at hd
         rcases hd with rfl | rfl
         . exact .inr ⟨_, rfl⟩
         . exact .inl ⟨_, rfl⟩
     . exact hw m TQ d hm
 . obtain ⟨m, _, hm⟩ := am2.mp hd
   rcases amf.mp hm with rfl | hm
   . exact zK (by show 2 <= 1000; decide) fun d hd => by
       simp only [amf, amL, an6] at hd
       rcases hd with rfl | rfl
       . exact .inr ⟨_, rfl⟩
       . exact .inl ⟨_, rfl⟩
   . exact hi.get _ d hm
theorem TR (n : Nat) : (List.replicate n [L3.D.int (-1)]).flatten = (List.replicate n (-1 : Int)).map L3.D.int := by
 induction n with
 | zero => rfl
 | succ n ih => rw [ano, anN, ih, ano]; rfl
theorem wQ {n : Nat} {l : List Int} (hl : l.length <= 1000) : Sm (n + 1) (.lst (l.map .int)) := ⟨by rw [amc]; exact hl, fun d hd => by
 obtain ⟨i, _, rfl⟩ := amJ.mp hd
 cases n <;> trivial⟩
theorem Xr {ks : List Str} {es ss : List Int} {is os : List (List L3.D)} {ws : List cR} {ch mem so : List Int} (hC : iJ ks es ss is os ws) (hc : uf (aS ks) es ch) (xF : ch.length = es.length) (hm : tN ks es mem) (hs : qA ks es ws (cD (aq ks) es ch (es.length - 1)) so) :
   (xP ks es ss is os ws mem (cD (aq ks) es ch (es.length - 1)) so).length <= 900 /\ D.bZ (xP ks es ss is os ws mem (cD (aq ks) es ch (es.length - 1)) so) = true := by
 have G5 : ∀ x ∈ cD (aq ks) es ch (es.length - 1), 0 <= x /\ x < es.length := fun x hx => HX hC.n0 hx
 have g := (xK (ks := ks) hC.pre.1 (gS (isAll := aq ks) (es := es) (ch := ch) (es.length - 1)) G5 hs.ap).2
 have c := (Al (hC.tree (C2 hC hc xF hm (eX ws so))) hs.ap (hs.goes hC)).2.1
 have n1 := hC.n1
 have sl := hs.l
 obtain ⟨o1, o2⟩ := vz (vq := cH ks es ws) (mem := mem) (bh := BU ks es ws mem (cD (aq ks) es ch (es.length - 1)) (eX ws so)) hC.or (gO ks es (cD (aq ks) es ch (es.length - 1)) (eX ws so))
 obtain ⟨w1, w2⟩ := vA (n := es.length) (hs.win hC)
 obtain ⟨i1, i2⟩ := D9 hC.ir (lV ks es ss (BU ks es ws mem (cD (aq ks) es ch (es.length - 1)) (eX ws so)) (eX ws so))
 have abR : (lV ks es ss (BU ks es ws mem (cD (aq ks) es ch (es.length - 1)) (eX ws so)) (eX ws so)).length <= es.length := by unfold lV; rw [g9]; exact c
 unfold xP
 refine ⟨?_, vv (vv o2 w2) i2⟩
 rw [amj, amj]
 omega
noncomputable abbrev Og : Stmt := top 58
noncomputable abbrev TV : Type := List Int
noncomputable def sY : TV -> List L3.D := fun a => [.lst (a.map .int)]
noncomputable def sZ : TV -> Prop := fun a => a.length <= 63
noncomputable def tu : TV -> T := fun a => (.sh (.bl true) : T)
structure afH (X : Cx) (CL : Str -> Addr) : Prop extends cA X where
 aF : Ln X 0 "script"
 aM : Ln X 1 "parts"
 bM : Ln X 2 "chart"
 b8 : Ln X 3 "opens"
 bw : Ln X 4 "memory"
 bX : Ln X 5 "cell"
 iD : Ln X 6 "some"
 gK : Ln X 7 "due"
 rA : Ln X 8 "handed"
 bP : Ln X 9 "found"
 Fe : Gl X "_law_parts"
 IZ : Gl X "_law_most"
 Ff : Gl X "_law_chart"
 Fg : Gl X "_law_opens"
 dm : Gl X "len"
 aL : Gl X "_law_cell"
 Ca : Gl X "_law_memory"
 Fi : Gl X "_law_turns"
 Fj : Gl X "_law_going"
 I0 : Gl X "_law_move"
 cI : Gl X "list"
 Fl : Gl X "moved"
 ku : Gl X "_law_same"
 Xs : Fc X CL "_law_parts" 5 2 sj sr su
 ab7 : Fc X CL "_law_most" 2 1 vS vU vV
 Xu : Fc X CL "_law_chart" 3 1 sy sA sC
 Xv : Fc X CL "_law_opens" 1 3 sE nV sF
 dw : X.mg "len" = none
 cO : Fc X CL "_law_cell" 1 2 fG bu eY
 TX : Fc X CL "_law_memory" 2 4 oV lN oW
 Xw : Fc X CL "_law_turns" 1 2 sG sH sJ
 Xx : Fc X CL "_law_going" 4 3 sM nY sN
 ab8 : Fc X CL "_law_move" 4 4 wg wk wm
 cJ : X.mg "list" = none
 Xy : Fc X CL "moved" 46 4 sW sX n9
 AZ : Fc X CL "_law_same" 9 2 rm (lT 8) rq
theorem afI {X : Cx} {CL : Str -> Addr} {b : Bx} (E : afH X CL) (a) (h : sZ a) :
   aC X CL b Og ["script", "parts", "chart", "opens", "memory", "cell", "some", "due", "handed", "found"] (sY a) (tu a) := by
 dsimp only [aC, sZ, sY, tu] at h ⊢
 have hs : a.length <= 1000 := by omega
 obtain ⟨q1, q2⟩ := W0 a
 refine aI E.g E.aM (aK (cF (a, i6 a) E.Xs E.Fe (bY (v_ E.aF.1) (bY (aK (c_ a E.ab7 E.IZ (ai (aB E.aF) aD) hs rfl) (t2 := .sh (.int (i6 a : Nat))) rfl) cZ)) ⟨hs, q1, q2⟩) (t2 := .sh (eZ ((SN a).map BR) (oG a (fP a (i6 a))) (wZ a (oG a (fP a (i6 a))) (fP a (i6 a))) (JQ a (oG a (fP a (i6 a))) (wZ a (oG a (fP a (i6 a))) (fP a (i6 a))) 16 (fP a (i6 a))) (KS a 100 (fP a (i6 a))) (KS a 103 (fP a (i6 a))) ((vP a (oG a (fP a (i6 a))) (xR a)).map cE))) rfl) ?_
 obtain ⟨n1, n2, _⟩ := N1 a (most := i6 a) q1
 generalize fP a (i6 a) = n at n1 n2 ⊢
 obtain ⟨CQ, yL⟩ := NP a n1 (by omega)
 generalize oG a n = es at CQ yL ⊢
 have ht := yL.1
 have zl := Ec a es n
 have ym := Sw a es
 have tG := NQ a es
 rw [CQ] at ym tG
 generalize wZ a es n = ks at zl ym tG ⊢
 have hsl := NR a es ks 16 n
 have afJ : ∀ k : Nat, k < n -> aS ks k = true -> (JQ a es ks 16 n).getD k 0 ∈ eU es k := fun k hk e => by
   have := WR (s := a) (base := 16) tG (by omega : k < es.length) (by have := amx e; rwa [amm] at this)
   rwa [CQ] at this
 generalize JQ a es ks 16 n = ss at hsl afJ ⊢
 obtain ⟨is, his, hil, hir⟩ := Oe a 100 n
 obtain ⟨os, Wg, Zq, hor⟩ := Oe a 103 n
 rw [his, Wg]
 have ib := PF a
 generalize (SN a).map BR = bs at ib ⊢
 obtain ⟨OS, hwo⟩ := TN (s := a) (es := es) (xR a) (by omega)
 generalize vP a es (xR a) = ws at OS hwo ⊢
 have hC : iJ ks es ss is os ws := ⟨by omega, by omega, by omega, by omega, by omega, by omega, (fun k hk => ym k (by omega)), yL, (fun k hk e => afJ k (by omega) e), (fun l hl => ⟨(hir l hl).1, (hir l hl).2.1⟩), (fun l hl => ⟨(hor l hl).1, (hor l hl).2.1⟩), (fun w hw => (hwo w hw).1), OS⟩
 have sI : x6 is := fun l hl => (hir l hl).2.2
 have sO : x6 os := fun l hl => (hor l hl).2.2
 have ii : D.bZ (is.map L3.D.tup) = true := lX fun d hd => by
   obtain ⟨l, hl, rfl⟩ := amJ.mp hd
   exact (hir l hl).2.1
 have io : D.bZ (os.map L3.D.tup) = true := lX fun d hd => by
   obtain ⟨l, hl, rfl⟩ := amJ.mp hd
   exact (hor l hl).2.1
 have iw : D.bZ (ws.map cE) = true := lX fun d hd => by
   obtain ⟨w, hw, rfl⟩ := amJ.mp hd
   have := (hwo w hw).1
   show (true && (true && (D.bZ w.asks && (D.bZ w.jW && (true && (true && true)))))) = true
   rw [this.2.2.2.2.1, this.2.2.2.2.2]
   rfl
 refine aI E.g E.bM (aK (c_ (bs, es, ks, ss, is.map .tup, os.map .tup, ws.map cE) E.Xu E.Ff (ai (aB E.aM) aD) ⟨ib, ii, io, iw, show es.length <= 40 by omega⟩ (by
   show T.cj (kD _ _ _ _ _ _) = true
   exact Fd ib (u6 _) (yx ks es ss) ii io iw)) (t2 := .ins "Chart" (kD bs ((yQ es.length).map .str) (.ins "Tree" (qe ks es ss)) (is.map .tup) (os.map .tup) (ws.map cE))) rfl) ?_
 have HK : T.fS (T.ins "Chart" (kD bs ((yQ es.length).map .str) (.ins "Tree" (qe ks es ss)) (is.map .tup) (os.map .tup) (ws.map cE))) = gF bs ((yQ es.length).map .str) (eo ks es ss) (is.map .tup) (os.map .tup) (ws.map cE) := by rw [Kw, Pg]
 refine aI E.g E.b8 (gf (ds := (cD (aq ks) es ss (es.length - 1)).map .int) (aK (c_ (es, ks, ss) E.Xv E.Fg (ai (aW (aB E.aM) (ah aj) rfl) (ai (aW (aB E.aM) (ah aj) rfl) (ai (aW (aB E.aM) (ah aj) rfl) aD))) (by dsimp only [nV]; exact ⟨by omega, by omega, by omega, by omega, ht⟩) (aT _)) rfl)) ?_
 refine aI E.g E.bw (gf (ds := (List.replicate es.length (-1 : Int)).map .int) (aK (Wu (ds := [.int (-1)]) (cQ (ds := [.int (-1)]) (gI (aG (eH (ah aj)) di) (aN rfl))) (ah (dW (amc ..) E.dw (aW (aB E.aM) (ah aj) rfl) E.dm)) rfl (by omega) (by omega) (by rw [anq]; simp; omega)) (by rw [amm, TR]))) ?_
 have hm0 : tN ks es (List.replicate es.length (-1 : Int)) := ⟨anA .., fun k hk _ => .inl (by
   rw [amd, aos, amo hk]
   rfl)⟩
 refine qq (fun δ => ∃ mem, tN ks es mem /\ δ = [some (.sh (.lst (a.map .int))), some (.sh (eZ bs es ks ss (is.map .tup) (os.map .tup) (ws.map cE))), some (.ins "Chart" (kD bs ((yQ es.length).map .str) (.ins "Tree" (qe ks es ss)) (is.map .tup) (os.map .tup) (ws.map cE))), some (.sh (.lst ((cD (aq ks) es ss (es.length - 1)).map .int))), some (.sh (.lst (mem.map .int))), none, none, none, none, none]) (dD (ah (bN (ah (c_ ((a, 61)) E.cO E.aL (ai (aB E.aF) (ai (ah aj) aD)) (by dsimp only [bu]; exact (⟨by omega, by omega, hs⟩)) rfl)) (ah aj) (by decide))) (ah aj)).1 (fun hp => ?_) (fun hp => ?_) ?_
 . exact aI E.g E.bw (gf (ds := (SW a es ks 48 es.length).map .int) (aK (c_ (a, es, ks, 48) E.TX E.Ca (ai (aB E.aF) (ai (aW (aB E.aM) (ah aj) rfl) (ai (aW (aB E.aM) (ah aj) rfl) (ai (ah aj) aD)))) (by dsimp only [lN]; exact ⟨by omega, hs, by omega, by omega, by omega⟩) (aT _)) rfl)) (ao ⟨_, abH a es ks 48, rfl⟩)
 . exact ao ⟨_, hm0, rfl⟩
 rintro δ ⟨aiC, hm0, rfl⟩
 have htl := KZ a n
 have hc0 : uf (aS ks) es ss := hC.st
 refine d7 E.g E.bX (fun j δ => ∃ ch mem o5 o6 o7 o8 o9, (ch.length = es.length /\ uf (aS ks) es ch) /\ tN ks es mem /\ δ = [some (.sh (.lst (a.map .int))), some (.sh (eZ bs es ks ss (is.map .tup) (os.map .tup) (ws.map cE))), some (.ins "Chart" (kD bs ((yQ es.length).map .str) (.ins "Tree" (qe ks es ss)) (is.map .tup) (os.map .tup) (ws.map cE))), some (.sh (.lst ((cD (aq ks) es ch (es.length - 1)).map .int))), some (.sh (.lst (mem.map .int))), o5, o6, o7, o8, o9])
   (dR (gf (ds := (0 :: oX a n).map .int) (oq (ds := [.int 0]) (Np := (oX a n).map .int) (cQ (ds := [.int 0]) (dN (bY aj cZ) (aN rfl))) (cQ (c_ (a, n) E.Xw E.Fi (ai (aB E.aF) (ai (CG (ah (dW (amc ..) E.dw (aW (aB E.aM) (ah aj) rfl) E.dm)) (congrArg (fun z : Nat => L3.D.int z) CQ)) aD)) hs (aT _))) rfl (b9 _) (amQ (bQ (by simp; omega)))))) ⟨ss, aiC, _, _, _, _, _, ⟨hC.sl, hc0⟩, hm0, rfl⟩ (fun j δ ⟨_, _, _, _, _, _, _, _, _, e⟩ => by subst e; exact amg rfl) ?turn ?fin
 case turn =>
   rintro j d δ hj ⟨ch, mem, o5, o6, o7, o8, o9, ⟨xF, hc⟩, hm, rfl⟩
   obtain ⟨c, rfl, _, _, _, _, _⟩ := gi hj
   have TQ := Tf (ks := ks) (es := es) (cD (aq ks) es ch (es.length - 1)) c OS
   refine aI E.g E.iD (gf (ds := (sortI (Iv ks es ws (cD (aq ks) es ch (es.length - 1)) c ws.length)).map .int) (aK (c_ (bs, es, ks, ss, is.map .tup, os.map .tup, ws, cD (aq ks) es ch (es.length - 1), c) E.Xx E.Fj (ai (aB E.aM) (ai (aB E.b8) (ai (aB E.bX) aD))) (by dsimp only [nY]; exact ⟨ht, by omega, hC.wo, OS⟩) (aT _)) rfl)) ?_
   generalize sortI (Iv ks es ws (cD (aq ks) es ch (es.length - 1)) c ws.length) = so at TQ ⊢
   obtain ⟨sl1, sl2⟩ := Xr hC hc xF hm TQ
   have hsm := ab6 (ks := ks) (es := es) (ss := ss) (mem := mem) (ops := cD (aq ks) es ch (es.length - 1)) sI sO (fun i hi => (hwo _ (mh (TQ.i i hi).1.1 (TQ.i i hi).1.2)).2)
   have Tg := C2 hC hc xF hm (eX ws so)
   obtain ⟨zm, aiD, ZL, hoe, _⟩ := Am hC.kd (hC.tree Tg) hC.n0 xF hc TQ.ap (TQ.goes hC)
   have alG := oB (isAll := aq ks) (es := es) (ch := ch) (es.length - 1)
   have aiq := oB (isAll := aq ks) (es := es) (ch := zm) (es.length - 1)
   have alH := TQ.l
   refine aI E.g E.gK (aK (cF (bs, es, ks, ss, is, os, ws, ch, mem, so) E.ab8 E.I0 (bY (v_ E.aM.1) (bY (v_ E.b8.1) (bY (v_ E.bw.1) (bY (v_ E.iD.1) cZ)))) ⟨hC, ⟨xF, hc⟩, hm, TQ⟩) (t2 := .sh (.tup [.lst (xP ks es ss is os ws mem (cD (aq ks) es ch (es.length - 1)) so), .lst ((cD (aq ks) es zm (es.length - 1)).map .int), .lst ((BU ks es ws mem (cD (aq ks) es ch (es.length - 1)) (eX ws so)).map .int)])) (by rw [← hoe]; rfl)) ?_
   refine aI E.g E.rA (dN (bY (cV E.cJ (aB E.b8) (b9 _) E.cI bH) (bY (cV E.cJ (aB E.bw) (b9 _) E.cI bH) (bY (cV E.cJ (aB E.iD) (b9 _) E.cI bH) cZ))) (aN rfl)) ?_
   have frH : T.fS (.lst [.lst (((cD (aq ks) es ch (es.length - 1)).map L3.D.int).map T.sh), .lst ((mem.map L3.D.int).map T.sh), .lst ((so.map L3.D.int).map T.sh)]) = .lst [.lst ((cD (aq ks) es ch (es.length - 1)).map .int), .lst (mem.map .int), .lst (so.map .int)] := by
     rw [T.fS, T.fL, T.fL, T.fL, T.fL, cS, cS, cS]
   have cB : T.clean (.tup [.lst ((xP ks es ss is os ws mem (cD (aq ks) es ch (es.length - 1)) so).map T.sh), .lst (((cD (aq ks) es zm (es.length - 1)).map L3.D.int).map T.sh), .lst (((BU ks es ws mem (cD (aq ks) es ch (es.length - 1)) (eX ws so)).map L3.D.int).map T.sh)]) = true := by
     rw [T.clean, T.iA, T.iA, T.iA, T.iA, c7 sl2, aT, aT]
     rfl
   have rB : n9 (bs, (yQ es.length).map .str, ks, es, ss, is, os, ws, ch, mem, so) = .tup [.lst ((xP ks es ss is os ws mem (cD (aq ks) es ch (es.length - 1)) so).map T.sh), .lst (((cD (aq ks) es zm (es.length - 1)).map L3.D.int).map T.sh), .lst (((BU ks es ws mem (cD (aq ks) es ch (es.length - 1)) (eX ws so)).map L3.D.int).map T.sh)] := by
     rw [← hoe]
     rfl
   refine aI E.g E.bP (aK (c_ (bs, (yQ es.length).map .str, ks, es, ss, is, os, ws, ch, mem, so) E.Xy E.Fl (ai (vE E.bM.1 rfl HK) (ai (aO (vE E.rA.1 rfl frH) (ah aj) rfl) (ai (aO (vE E.rA.1 rfl frH) (ah aj) rfl) (ai (aO (vE E.rA.1 rfl frH) (ah aj) rfl) aD)))) ⟨hC, ⟨xF, hc⟩, hm, TQ⟩ (by rw [rB]; exact cB)) rB) ?_
   generalize hsc : xP ks es ss is os ws mem (cD (aq ks) es ch (es.length - 1)) so = scr at sl1 sl2 hsm cB ⊢
   generalize alI : BU ks es ws mem (cD (aq ks) es ch (es.length - 1)) (eX ws so) = bh at Tg cB ⊢
   have frF : T.fS (.tup [.lst (scr.map T.sh), .lst (((cD (aq ks) es zm (es.length - 1)).map L3.D.int).map T.sh), .lst ((bh.map L3.D.int).map T.sh)]) = .tup [.lst scr, .lst ((cD (aq ks) es zm (es.length - 1)).map .int), .lst (bh.map .int)] := by
     rw [T.fS, T.fL, T.fL, T.fL, T.fL, cS, cS, cS]
   have hbl := Tg.1
   have yw := hm.1
   have hSm : Sm 8 (.tup [.lst scr, .lst ((cD (aq ks) es zm (es.length - 1)).map .int), .lst (bh.map .int)]) := by
     refine ⟨by show 3 <= 1000; decide, fun d hd => ?_⟩
     simp only [amf, amL, an6] at hd
     rcases hd with rfl | rfl | rfl
     . exact ⟨by omega, fun d hd => (hsm d hd).mono (amg rfl)⟩
     . exact wQ (by omega)
     . exact wQ (by omega)
   have aiE : Sm 8 (.lst [.lst ((cD (aq ks) es ch (es.length - 1)).map .int), .lst (mem.map .int), .lst (so.map .int)]) := by
     refine ⟨by show 3 <= 1000; decide, fun d hd => ?_⟩
     simp only [amf, amL, an6] at hd
     rcases hd with rfl | rfl | rfl
     . exact wQ (by omega)
     . exact wQ (by omega)
     . exact wQ (by omega)
   refine d9 (xq (fZ (c_ (L3.D.tup [.lst scr, .lst ((cD (aq ks) es zm (es.length - 1)).map .int), .lst (bh.map .int)]) E.AZ E.ku (ai (vE E.bP.1 rfl frF) (ai (aB E.gK) aD)) hSm rfl))) (fun hp => by cases hp) (fun _ => ao ?_)
   refine Nk 1 E.bP.1 rfl rfl aj rfl rfl (by rw [amc, amc]; omega) ?_
   refine Nk 2 E.bP.1 rfl rfl aj rfl rfl (by rw [amc, amc]; omega) ?_
   refine d9 (xq (fZ (c_ (L3.D.lst [.lst ((cD (aq ks) es ch (es.length - 1)).map .int), .lst (mem.map .int), .lst (so.map .int)]) E.AZ E.ku (ai (vE E.rA.1 rfl frH) (ai (cQ (ds := [.lst ((cD (aq ks) es ch (es.length - 1)).map .int), .lst (mem.map .int), .lst (so.map .int)]) (dN (bY (v_ E.b8.1) (bY (v_ E.bw.1) (bY (v_ E.iD.1) cZ))) (aN rfl))) aD)) aiE rfl))) (fun hp => by cases hp) (fun _ => ao ?_)
   refine aI E.g E.b8 (zV (v_ E.gK.1) (ah aj) rfl) ?_
   refine aI E.g E.bw (zV (v_ E.gK.1) (ah aj) rfl) (ao ⟨zm, bh, _, _, _, _, _, ⟨aiD, ZL⟩, Tg, rfl⟩)
 case fin =>
   rintro δ ⟨ch, mem, o5, o6, o7, o8, o9, _, _, rfl⟩
   exact bD lB rfl
theorem e7 : jU (av Og) ([("script", ak), ("parts", ak), ("chart", ak), ("opens", ak), ("memory", ak), ("cell", ak), ("some", ak), ("due", ak), ("handed", ak), ("found", ak), ("_law_parts", az), ("_law_most", az), ("_law_chart", az), ("_law_opens", az), ("len", az), ("_law_cell", az), ("_law_memory", az), ("_law_turns", az), ("_law_going", az), ("_law_move", az), ("list", az), ("moved", az), ("_law_same", az)]) = true := by decide +kernel
theorem TY : aP ["script", "parts", "chart", "opens", "memory", "cell", "some", "due", "handed", "found"] ["script"] (av Og) := aX
noncomputable def cl (au ay : Addr) : Str -> Addr := fun c => if c = "Chart" then au else if c = "Tree" then ay else 0
theorem jr {au ay : Addr} : cl au ay "Chart" = au := by unfold cl; rw [amo rfl]
theorem tD {au ay : Addr} : cl au ay "Tree" = ay := by unfold cl; rw [amk (by decide +kernel)]; rw [amo rfl]
theorem ab9 {au ay : Addr} {x : Str} (h : Nh x = true) : cl au ay x = 0 := by unfold cl; rw [amk (fun e => by rw [e] at h; exact absurd h (by decide +kernel))]; rw [amk (fun e => by rw [e] at h; exact absurd h (by decide +kernel))]
noncomputable def afK {α : Type} : Nat -> (List α -> Prop) -> Prop
 | 0, P => P []
 | n + 1, P => ∀ a, afK n fun r => P (a :: r)
theorem bG {α : Type} {n : Nat} {P : List α -> Prop} (h : afK n P) : ∀ us : List α, us.length = n -> P us := by
 intro us hl
 induction us generalizing n P with
 | nil => subst hl; exact h
 | cons a r ih => subst hl; exact ih (P := fun r => P (a :: r)) (h a) rfl
theorem all_mk {l : PySem.W.OpenLaw} {w : World} {K : PySem.W.Frag} {h : Heap} {mg : Str -> Option Value} {fa Lk A0 Fo uA A1 Lp A2 Lq Lr Fp Ls Fq Lv mR k8 Ft Fv A3 Fw rC A4 Lw Fx Lx rD pK Ly Fy A5 Lz T3 x8 uB pL LC Fz rE A6 x9 nj A7 uC uD yb pM FD LD Zw au ay : Addr} (XX : K.In h) (G : h.Ns mainGlobals mg) (hfa : mg "law" = some (.ref fa))
   {acd T4 Xz LJ T5 ace T6 acf acg XA ach XC aci Ja FE XD XE T7 XF Jb T8 acj XG ack Jc FG acm oZ qX K7 Tt n5 ux pJ La wK q8 lQ xX ni AW uy uz xZ FH Fl g_same Zx : FuncData}
   (FI : PySem.W.nsIn K mainGlobals "Chart" = some (some (.ref au))) (A8 : PySem.W.plainGet K au Str.empty = true) (A9 : PySem.W.hasDictIn K au = true) (Ba : PySem.W.plainOver K au = true) (Bb : PySem.W.findIn K (.ref au) "__setattr__" = some (some (.builtin "object.__setattr__"))) (Bc : PySem.W.makesIn K au = true) (Bd : PySem.W.keepIn K (.ref au) = true)
   (nu : PySem.W.findIn K (.ref au) "boxes" = some none)
   (ny : PySem.W.findIn K (.ref au) "names" = some none)
   (pN : PySem.W.findIn K (.ref au) "tree" = some none)
   (rG : PySem.W.findIn K (.ref au) "ins" = some none)
   (pO : PySem.W.findIn K (.ref au) "outs" = some none)
   (pP : PySem.W.findIn K (.ref au) "ways" = some none)
   (LK : PySem.W.nsIn K mainGlobals "Tree" = some (some (.ref ay))) (FJ : PySem.W.plainGet K ay Str.empty = true) (FL : PySem.W.hasDictIn K ay = true) (FN : PySem.W.plainOver K ay = true) (FP : PySem.W.findIn K (.ref ay) "__setattr__" = some (some (.builtin "object.__setattr__"))) (FQ : PySem.W.makesIn K ay = true) (FT : PySem.W.keepIn K (.ref ay) = true)
   (pQ : PySem.W.findIn K (.ref ay) "kinds" = some none)
   (nA : PySem.W.findIn K (.ref ay) "elders" = some none)
   (nB : PySem.W.findIn K (.ref ay) "starts" = some none)
   (LN : PySem.W.nsIn K mainGlobals "_law_cell" = some (some (.ref Lk))) (LQ : jv K "_law_cell" "_law_cell" Ea Lk acd)
   (Be : PySem.W.nsIn K mainGlobals "_law_elders" = some (some (.ref A0))) (Bf : jv K "_law_elders" "_law_elders" vD A0 T4)
   (FU : PySem.W.nsIn K mainGlobals "_law_kinds" = some (some (.ref Fo))) (FW : jv K "_law_kinds" "_law_kinds" zq Fo Xz)
   (uE : PySem.W.nsIn K mainGlobals "_law_inner" = some (some (.ref uA))) (uF : jv K "_law_inner" "_law_inner" oK uA LJ)
   (Bg : PySem.W.nsIn K mainGlobals "_law_chosen" = some (some (.ref A1))) (Bh : jv K "_law_chosen" "_law_chosen" vG A1 T5)
   (LR : PySem.W.nsIn K mainGlobals "_law_name" = some (some (.ref Lp))) (LV : jv K "_law_name" "_law_name" Ef Lp ace)
   (Bj : PySem.W.nsIn K mainGlobals "_law_number" = some (some (.ref A2))) (Bk : jv K "_law_number" "_law_number" vI A2 T6)
   (LW : PySem.W.nsIn K mainGlobals "_law_term" = some (some (.ref Lq))) (LX : jv K "_law_term" "_law_term" Eg Lq acf)
   (LY : PySem.W.nsIn K mainGlobals "_law_asks" = some (some (.ref Lr))) (LZ : jv K "_law_asks" "_law_asks" Ei Lr acg)
   (FY : PySem.W.nsIn K mainGlobals "_law_deeds" = some (some (.ref Fp))) (FZ : jv K "_law_deeds" "_law_deeds" zu Fp XA)
   (L0 : PySem.W.nsIn K mainGlobals "_law_ways" = some (some (.ref Ls))) (L4 : jv K "_law_ways" "_law_ways" Ek Ls ach)
   (F0 : PySem.W.nsIn K mainGlobals "_law_parts" = some (some (.ref Fq))) (F2 : jv K "_law_parts" "_law_parts" zx Fq XC)
   (L5 : PySem.W.nsIn K mainGlobals "_law_most" = some (some (.ref Lv))) (L6 : jv K "_law_most" "_law_most" Er Lv aci)
   (rH : PySem.W.findIn K (.ref ay) "__init__" = some (some (.ref mR))) (rJ : PySem.W.isFn K (.ref mR) = true) (yF : jv K "__init__" "Tree.__init__" mz mR Ja)
   (pR : PySem.W.findIn K (.ref au) "__init__" = some (some (.ref k8))) (pS : PySem.W.isFn K (.ref k8) = true) (wR : jv K "__init__" "Chart.__init__" kM k8 FE)
   (F3 : PySem.W.nsIn K mainGlobals "_law_chart" = some (some (.ref Ft))) (F4 : jv K "_law_chart" "_law_chart" zy Ft XD)
   (F5 : PySem.W.nsIn K mainGlobals "_law_opens" = some (some (.ref Fv))) (F6 : jv K "_law_opens" "_law_opens" zA Fv XE)
   (Bl : PySem.W.nsIn K mainGlobals "_law_memory" = some (some (.ref A3))) (Bm : jv K "_law_memory" "_law_memory" vX A3 T7)
   (F7 : PySem.W.nsIn K mainGlobals "_law_turns" = some (some (.ref Fw))) (F8 : jv K "_law_turns" "_law_turns" zB Fw XF)
   (rK : PySem.W.nsIn K mainGlobals "_law_within" = some (some (.ref rC))) (rL : jv K "_law_within" "_law_within" mC rC Jb)
   (Bo : PySem.W.nsIn K mainGlobals "_law_top" = some (some (.ref A4))) (Bp : jv K "_law_top" "_law_top" vZ A4 T8)
   (L7 : PySem.W.nsIn K mainGlobals "_law_free" = some (some (.ref Lw))) (L8 : jv K "_law_free" "_law_free" Ez Lw acj)
   (F9 : PySem.W.nsIn K mainGlobals "_law_going" = some (some (.ref Fx))) (Ga : jv K "_law_going" "_law_going" zC Fx XG)
   (Ma : PySem.W.nsIn K mainGlobals "_law_gone" = some (some (.ref Lx))) (Mb : jv K "_law_gone" "_law_gone" EE Lx ack)
   (rM : PySem.W.nsIn K mainGlobals "_law_heeded" = some (some (.ref rD))) (rN : jv K "_law_heeded" "_law_heeded" mH rD Jc)
   (pT : PySem.W.nsIn K mainGlobals "_law_entered" = some (some (.ref pK))) (pU : jv K "_law_entered" "_law_entered" kP pK FG)
   (Mf : PySem.W.nsIn K mainGlobals "_law_move" = some (some (.ref Ly))) (Mg : jv K "_law_move" "_law_move" EK Ly acm)
   (Gb : PySem.W.nsIn K mainGlobals "above" = some (some (.ref Fy))) (Gd : jv K "above" "above" zE Fy oZ)
   (Bq : PySem.W.nsIn K mainGlobals "within" = some (some (.ref A5))) (Br : jv K "within" "within" wA A5 qX)
   (Mh : PySem.W.nsIn K mainGlobals "left" = some (some (.ref Lz))) (Mi : jv K "left" "left" EW Lz K7)
   (T9 : PySem.W.nsIn K mainGlobals "top" = some (some (.ref T3))) (Ua : jv K "top" "top" Ob T3 Tt)
   (yc : PySem.W.nsIn K mainGlobals "way_top" = some (some (.ref x8))) (yd : jv K "way_top" "way_top" sR x8 n5)
   (uG : PySem.W.nsIn K mainGlobals "all_left" = some (some (.ref uB))) (uH : jv K "all_left" "all_left" pB uB ux)
   (pV : PySem.W.nsIn K mainGlobals "remembered" = some (some (.ref pL))) (pW : jv K "remembered" "remembered" kU pL pJ)
   (Mj : PySem.W.nsIn K mainGlobals "road" = some (some (.ref LC))) (Ml : jv K "road" "road" EZ LC La)
   (Ge : PySem.W.nsIn K mainGlobals "inner" = some (some (.ref Fz))) (Gf : jv K "inner" "inner" zH Fz wK)
   (rO : PySem.W.nsIn K mainGlobals "opened_in" = some (some (.ref rE))) (rP : jv K "opened_in" "opened_in" mK rE q8)
   (Bs : PySem.W.nsIn K mainGlobals "opened" = some (some (.ref A6))) (wU : jv K "opened" "opened" wM A6 lQ)
   (ye : PySem.W.nsIn K mainGlobals "entered" = some (some (.ref x9))) (yf : jv K "entered" "entered" sU x9 xX)
   (nE : PySem.W.nsIn K mainGlobals "all_entered" = some (some (.ref nj))) (nF : jv K "all_entered" "all_entered" jR nj ni)
   (Bt : PySem.W.nsIn K mainGlobals "heeded" = some (some (.ref A7))) (Bu : jv K "heeded" "heeded" wO A7 AW)
   (uI : PySem.W.nsIn K mainGlobals "out_rows" = some (some (.ref uC))) (uJ : jv K "out_rows" "out_rows" pF uC uy)
   (uK : PySem.W.nsIn K mainGlobals "way_rows" = some (some (.ref uD))) (uL : jv K "way_rows" "way_rows" pG uD uz)
   (yg : PySem.W.nsIn K mainGlobals "in_rows" = some (some (.ref yb))) (yh : jv K "in_rows" "in_rows" sV yb xZ)
   (pX : PySem.W.nsIn K mainGlobals "has_target" = some (some (.ref pM))) (pY : jv K "has_target" "has_target" k7 pM FH)
   (Gg : PySem.W.nsIn K mainGlobals "moved" = some (some (.ref FD))) (Gh : jv K "moved" "moved" zI FD Fl)
   (Mm : PySem.W.nsIn K mainGlobals "_law_same" = some (some (.ref LD))) (Gi : jv K "_law_same" "_law_same" s_same LD g_same)
   (Oh : PySem.W.nsIn K mainGlobals "law" = some (some (.ref Zw))) (Ub : jv K "law" "law" Og Zw Zx)
   (Uc : PySem.W.nsIn K mainGlobals "len" = some none)
   (Gj : PySem.W.nsIn K mainGlobals "range" = some none)
   (Ud : PySem.W.nsIn K mainGlobals "int" = some none)
   (Ue : PySem.W.nsIn K mainGlobals "str" = some none)
   (Gk : PySem.W.nsIn K mainGlobals "tuple" = some none)
   (Bv : PySem.W.nsIn K mainGlobals "sorted" = some none)
   (Ug : PySem.W.nsIn K mainGlobals "max" = some none)
   (Mp : PySem.W.nsIn K mainGlobals "list" = some none)
   (Uh : PySem.W.nsIn K mainGlobals "min" = some none)
   (uM : PySem.W.nsIn K mainGlobals "reversed" = some none)
   {P5 : Tok} (Bw : PySem.W.nsIn K mainGlobals "SOURCE" = some (some (.int 0 P5)))
   {P6 : Tok} (By : PySem.W.nsIn K mainGlobals "TARGET" = some (some (.int 4 P6)))
   (rQ : PySem.W.nsIn K mainGlobals "enumerate" = some none)
   {XH : Tok} (Mq : PySem.W.nsIn K mainGlobals "MODE" = some (some (.int 5 XH)))
   {Ui : Tok} (Gm : PySem.W.nsIn K mainGlobals "DEEDS" = some (some (.int 3 Ui)))
   (pZ : PySem.W.nsIn K mainGlobals "isinstance" = some none)
   (y_bool : PySem.W.nsIn K mainGlobals "bool" = some none)
   : ∃ fd : FuncData, (∀ (s : Shared) (v : Value), BindsTo s fd ⟨[v], []⟩ [("script", v)]) /\ ∀ base : Heap, K.In base -> base.Ns mainGlobals mg -> cC l.prog w K mg base iE 47 fa fd ["script"] (jt K (fun _ => 0) 1 sY sZ tu) := by
 have e := hfa.symm.trans (amr XX G Oh)
 cases e
 have acn := amr XX G LN
 have aco := LQ.binds (ps := ["script", "k"]) fun _ _ _ _ _ _ => by refine bG ?_; exact fun _ _ => rfl
 have Uj := amr XX G Be
 have Uk := Bf.binds (ps := ["script", "many"]) fun _ _ _ _ _ _ => by refine bG ?_; exact fun _ _ => rfl
 have XI := amr XX G FU
 have XJ := FW.binds (ps := ["script", "elders"]) fun _ _ _ _ _ _ => by refine bG ?_; exact fun _ _ => rfl
 have Mr := amr XX G uE
 have Ms := uF.binds (ps := ["elders", "mood"]) fun _ _ _ _ _ _ => by refine bG ?_; exact fun _ _ => rfl
 have Ul := amr XX G Bg
 have Um := Bh.binds (ps := ["script", "elders", "kinds", "base"]) fun _ _ _ _ _ _ => by refine bG ?_; exact fun _ _ _ _ => rfl
 have acp := amr XX G LR
 have acq := LV.binds (ps := ["script", "k"]) fun _ _ _ _ _ _ => by refine bG ?_; exact fun _ _ => rfl
 have Uo := amr XX G Bj
 have Up := Bk.binds (ps := ["cell"]) fun _ _ _ _ _ _ => by refine bG ?_; exact fun _ => rfl
 have acr := amr XX G LW
 have acs := LX.binds (ps := ["cell", "boxes"]) fun _ _ _ _ _ _ => by refine bG ?_; exact fun _ _ => rfl
 have acu := amr XX G LY
 have acv := LZ.binds (ps := ["script", "at", "many", "boxes"]) fun _ _ _ _ _ _ => by refine bG ?_; exact fun _ _ _ _ => rfl
 have XM := amr XX G FY
 have XO := FZ.binds (ps := ["script", "at", "boxes"]) fun _ _ _ _ _ _ => by refine bG ?_; exact fun _ _ _ => rfl
 have acw := amr XX G L0
 have acy := L4.binds (ps := ["script", "elders", "boxes"]) fun _ _ _ _ _ _ => by refine bG ?_; exact fun _ _ _ => rfl
 have XQ := amr XX G F0
 have XR := F2.binds (ps := ["script", "most"]) fun _ _ _ _ _ _ => by refine bG ?_; exact fun _ _ => rfl
 have acz := amr XX G L5
 have acA := L6.binds (ps := ["script"]) fun _ _ _ _ _ _ => by refine bG ?_; exact fun _ => rfl
 have Jd := yF.binds (ps := ["self", "kinds", "elders", "starts"]) fun _ _ _ _ _ _ => by refine bG ?_; exact fun _ _ _ _ => rfl
 have Gn := wR.binds (ps := ["self", "boxes", "names", "tree", "ins", "outs", "ways"]) fun _ _ _ _ _ _ => by refine bG ?_; exact fun _ _ _ _ _ _ _ => rfl
 have XS := amr XX G F3
 have XT := F4.binds (ps := ["parts"]) fun _ _ _ _ _ _ => by refine bG ?_; exact fun _ => rfl
 have XU := amr XX G F5
 have XW := F6.binds (ps := ["elders", "kinds", "chosen"]) fun _ _ _ _ _ _ => by refine bG ?_; exact fun _ _ _ => rfl
 have Uq := amr XX G Bl
 have Ur := Bm.binds (ps := ["script", "elders", "kinds", "base"]) fun _ _ _ _ _ _ => by refine bG ?_; exact fun _ _ _ _ => rfl
 have XY := amr XX G F7
 have XZ := F8.binds (ps := ["script", "many"]) fun _ _ _ _ _ _ => by refine bG ?_; exact fun _ _ => rfl
 have Je := amr XX G rK
 have Jf := rL.binds (ps := ["elders", "mood", "upper"]) fun _ _ _ _ _ _ => by refine bG ?_; exact fun _ _ _ => rfl
 have Us := amr XX G Bo
 have Ut := Bp.binds (ps := ["parts", "number"]) fun _ _ _ _ _ _ => by refine bG ?_; exact fun _ _ => rfl
 have acB := amr XX G L7
 have acC := L8.binds (ps := ["parts", "some", "number"]) fun _ _ _ _ _ _ => by refine bG ?_; exact fun _ _ _ => rfl
 have X3 := amr XX G F9
 have X4 := Ga.binds (ps := ["parts", "opens", "cell"]) fun _ _ _ _ _ _ => by refine bG ?_; exact fun _ _ _ => rfl
 have acD := amr XX G Ma
 have acE := Mb.binds (ps := ["parts", "opens", "some"]) fun _ _ _ _ _ _ => by refine bG ?_; exact fun _ _ _ => rfl
 have Jg := amr XX G rM
 have Jh := rN.binds (ps := ["parts", "mood"]) fun _ _ _ _ _ _ => by refine bG ?_; exact fun _ _ => rfl
 have Gp := amr XX G pT
 have Gq := pU.binds (ps := ["elders", "kinds", "starts", "memory", "upper", "target", "mode"]) fun _ _ _ _ _ _ => by refine bG ?_; exact fun _ _ _ _ _ _ _ => rfl
 have acF := amr XX G Mf
 have acG := Mg.binds (ps := ["parts", "opens", "memory", "some"]) fun _ _ _ _ _ _ => by refine bG ?_; exact fun _ _ _ _ => rfl
 have X5 := amr XX G Gb
 have X6 := Gd.binds (ps := ["tree", "mood"]) fun _ _ _ _ _ _ => by refine bG ?_; exact fun _ _ => rfl
 have Uu := amr XX G Bq
 have Uv := Br.binds (ps := ["tree", "mood", "other"]) fun _ _ _ _ _ _ => by refine bG ?_; exact fun _ _ _ => rfl
 have acH := amr XX G Mh
 have acI := Mi.binds (ps := ["tree", "opens", "upper"]) fun _ _ _ _ _ _ => by refine bG ?_; exact fun _ _ _ => rfl
 have afL := amr XX G T9
 have afM := Ua.binds (ps := ["tree", "one", "other"]) fun _ _ _ _ _ _ => by refine bG ?_; exact fun _ _ _ => rfl
 have P7 := amr XX G yc
 have P8 := yd.binds (ps := ["chart", "number"]) fun _ _ _ _ _ _ => by refine bG ?_; exact fun _ _ => rfl
 have Mt := amr XX G uG
 have Mu := uH.binds (ps := ["chart", "opens", "going"]) fun _ _ _ _ _ _ => by refine bG ?_; exact fun _ _ _ => rfl
 have Gr := amr XX G pV
 have Gs := pW.binds (ps := ["tree", "memory", "opens", "moods"]) fun _ _ _ _ _ _ => by refine bG ?_; exact fun _ _ _ _ => rfl
 have acJ := amr XX G Mj
 have acK := Ml.binds (ps := ["tree", "upper", "mood"]) fun _ _ _ _ _ _ => by refine bG ?_; exact fun _ _ _ => rfl
 have X7 := amr XX G Ge
 have X8 := Gf.binds (ps := ["tree", "mood"]) fun _ _ _ _ _ _ => by refine bG ?_; exact fun _ _ => rfl
 have Ji := amr XX G rO
 have Jj := rP.binds (ps := ["tree", "memory", "mood", "mode"]) fun _ _ _ _ _ _ => by refine bG ?_; exact fun _ _ _ _ => rfl
 have Jk := amr XX G Bs
 have Jl := wU.binds (ps := ["tree", "memory", "mood", "mode"]) fun _ _ _ _ _ _ => by refine bG ?_; exact fun _ _ _ _ => rfl
 have P9 := amr XX G ye
 have Qa := yf.binds (ps := ["tree", "memory", "upper", "target", "mode"]) fun _ _ _ _ _ _ => by refine bG ?_; exact fun _ _ _ _ _ => rfl
 have Cb := amr XX G nE
 have Cd := nF.binds (ps := ["chart", "memory", "going"]) fun _ _ _ _ _ _ => by refine bG ?_; exact fun _ _ _ => rfl
 have Uw := amr XX G Bt
 have Ux := Bu.binds (ps := ["chart", "mood"]) fun _ _ _ _ _ _ => by refine bG ?_; exact fun _ _ => rfl
 have Mv := amr XX G uI
 have Mw := uJ.binds (ps := ["chart", "gone", "memory", "behind"]) fun _ _ _ _ _ _ => by refine bG ?_; exact fun _ _ _ _ => rfl
 have Mx := amr XX G uK
 have My := uL.binds (ps := ["chart", "ways"]) fun _ _ _ _ _ _ => by refine bG ?_; exact fun _ _ => rfl
 have Qc := amr XX G yg
 have Qd := yh.binds (ps := ["chart", "come"]) fun _ _ _ _ _ _ => by refine bG ?_; exact fun _ _ => rfl
 have Gu := amr XX G pX
 have Gv := pY.binds (ps := ["chart", "number"]) fun _ _ _ _ _ _ => by refine bG ?_; exact fun _ _ => rfl
 have X9 := amr XX G Gg
 have Yb := Gh.binds (ps := ["chart", "opens", "memory", "ways"]) fun _ _ _ _ _ _ => by refine bG ?_; exact fun _ _ _ _ => rfl
 have Uy := amr XX G Mm
 have Uz := Gi.binds (ps := ["found", "due"]) fun _ _ _ _ _ _ => by refine bG ?_; exact fun _ _ => rfl
 have ajI := amr XX G Oh
 have ajJ := Ub.binds (ps := ["script"]) fun _ _ _ _ _ _ => by refine bG ?_; exact fun _ => rfl
 have Yc := amr XX G FI
 have cg : tY K au := ⟨A8, A9, Ba, Bb⟩
 have jS : tY K ((cl au ay) "Chart") := by rw [jr]; exact cg
 have Ce : bE K ((cl au ay) "Chart") "boxes" := by rw [jr]; exact nu
 have Cg : bE K ((cl au ay) "Chart") "names" := by rw [jr]; exact ny
 have ig : bE K ((cl au ay) "Chart") "tree" := by rw [jr]; exact pN
 have yG : bE K ((cl au ay) "Chart") "ins" := by rw [jr]; exact rG
 have wV : bE K ((cl au ay) "Chart") "outs" := by rw [jr]; exact pO
 have iu : bE K ((cl au ay) "Chart") "ways" := by rw [jr]; exact pP
 have acL := amr XX G LK
 have fj : tY K ay := ⟨FJ, FL, FN, FP⟩
 have rR : tY K ((cl au ay) "Tree") := by rw [tD]; exact fj
 have iy : bE K ((cl au ay) "Tree") "kinds" := by rw [tD]; exact pQ
 have jT : bE K ((cl au ay) "Tree") "elders" := by rw [tD]; exact nA
 have tW : bE K ((cl au ay) "Tree") "starts" := by rw [tD]; exact nB
 have mS := am9 XX G Uc
 have gy := am9 XX G Gj
 have Zy := am9 XX G Ud
 have Oi := am9 XX G Ue
 have Gw := am9 XX G Gk
 have kB := am9 XX G Bv
 have afN := am9 XX G Ug
 have qa := am9 XX G Mp
 have afO := am9 XX G Uh
 have BD := am9 XX G uM
 have UA : ∃ u, mg "SOURCE" = some (.int 0 u) := ⟨_, amr XX G Bw⟩
 have wW : ∃ u, mg "TARGET" = some (.int 4 u) := ⟨_, amr XX G By⟩
 have Jm := am9 XX G rQ
 have UB : ∃ u, mg "MODE" = some (.int 5 u) := ⟨_, amr XX G Mq⟩
 have Yd : ∃ u, mg "DEEDS" = some (.int 3 u) := ⟨_, amr XX G Gm⟩
 have Gy := am9 XX G pZ
 have acM := am9 XX G y_bool
 refine ⟨Zx, ?bind, fun base _ _ => ?_⟩
 case bind =>
   obtain ⟨oc, od, kV, doc, pm, an, fV, ct, VC, rfl, lk, oh⟩ := Ub.ex
   exact fun s v => .of_eq rfl
 have acN : cC l.prog w K mg base iE 1 Lk _ ["script", "k"] (jt K (cl au ay) 2 fG bu eY) := bq LQ NK fun fV Ar outer s H E b a hr hp => by
   obtain ⟨p0, p1⟩ := a; refine abk ?_ p0 p1 hp
   exact ⟨⟨⟨NK.nd, rfl, rfl⟩, hr.units⟩, aU zo 0, aU zo 1, aU zo 2, cN zo 3, mS⟩
 have lU := cP acN acn LQ.kp aco
 have UC : cC l.prog w K mg base iE 2 A0 _ ["script", "many"] (jt K (cl au ay) 2 oH lF oJ) := bq Bf C3 fun fV Ar outer s H E b a hr hp => by
   obtain ⟨p0, p1⟩ := a; refine Ss ?_ p0 p1 hp
   exact ⟨⟨⟨C3.nd, rfl, rfl⟩, hr.units⟩, aU fk 0, aU fk 1, aU fk 2, aU fk 3, aU fk 4, aU fk 5, aU fk 6, aU fk 7, aU fk 8, cN fk 9, cN fk 10, cN fk 11, cz lU hr, gy, mS⟩
 have UD := cP UC Uj Bf.kp Uk
 have Ye : cC l.prog w K mg base iE 2 Fo _ ["script", "elders"] (jt K (cl au ay) 2 sd nQ se) := bq FW HZ fun fV Ar outer s H E b a hr hp => by
   obtain ⟨p0, p1⟩ := a; refine WQ ?_ p0 p1 hp
   exact ⟨⟨⟨HZ.nd, rfl, rfl⟩, hr.units⟩, aU iG 0, aU iG 1, aU iG 2, aU iG 3, aU iG 4, aU iG 5, cN iG 6, cN iG 7, cN iG 8, cN iG 9, cz lU hr, gy, mS, Zy⟩
 have Yg := cP Ye XI FW.kp XJ
 have Mz : cC l.prog w K mg base iE 1 uA _ ["elders", "mood"] (jt K (cl au ay) 2 gk dX fH) := bq uF yy fun fV Ar outer s H E b a hr hp => by
   obtain ⟨p0, p1⟩ := a; refine KG ?_ p0 p1 hp
   exact ⟨⟨⟨yy.nd, rfl, rfl⟩, hr.units⟩, HK iX 0, e9 iX 0 rfl, HK iX 1, e9 iX 1 rfl, cN iX 2, cN iX 3, gy, mS⟩
 have qb := cP Mz Mr uF.kp Ms
 have UE : cC l.prog w K mg base iE 2 A1 _ ["script", "elders", "kinds", "base"] (jt K (cl au ay) 4 oM lH oN) := bq Bh C6 fun fV Ar outer s H E b a hr hp => by
   obtain ⟨p0, p1, p2, p3⟩ := a; refine Sy ?_ p0 p1 p2 p3 hp
   exact ⟨⟨⟨C6.nd, rfl, rfl⟩, hr.units⟩, aU fX 0, aU fX 1, aU fX 2, aU fX 3, aU fX 4, aU fX 5, aU fX 6, cN fX 7, cN fX 8, cN fX 9, cN fX 10, gy, mS, cz qb hr, cz lU hr⟩
 have UG := cP UE Ul Bh.kp Um
 have acO : cC l.prog w K mg base iE 2 Lp _ ["script", "k"] (jt K (cl au ay) 2 qC lI qD) := bq LV NS fun fV Ar outer s H E b a hr hp => by
   obtain ⟨p0, p1⟩ := a; refine abq ?_ p0 p1 hp
   exact ⟨⟨⟨NS.nd, rfl, rfl⟩, hr.units⟩, aU mj 0, aU mj 1, aU mj 2, aU mj 3, aU mj 4, aU mj 5, cN mj 6, cN mj 7, cz lU hr, Oi⟩
 have UH := cP acO acp LV.kp acq
 have UI : cC l.prog w K mg base iE 1 A2 _ ["cell"] (jt K (cl au ay) 1 lJ lK lM) := bq Bk C8 fun fV Ar outer s H E b a hr hp => by
   refine SJ ?_ a hp
   exact ⟨⟨⟨C8.nd, rfl, rfl⟩, hr.units⟩, aU PB 0⟩
 have Jo := cP UI Uo Bk.kp Up
 have acP : cC l.prog w K mg base iE 2 Lq _ ["cell", "boxes"] (jt K (cl au ay) 2 qE qF qG) := bq LX NT fun fV Ar outer s H E b a hr hp => by
   obtain ⟨p0, p1⟩ := a; refine abt ?_ p0 p1 hp
   exact ⟨⟨⟨NT.nd, rfl, rfl⟩, hr.units⟩, aU Eh 0, aU Eh 1, cN Eh 2, cz Jo hr⟩
 have UJ := cP acP acr LX.kp acs
 have acQ : cC l.prog w K mg base iE 3 Lr _ ["script", "at", "many", "boxes"] (jt K (cl au ay) 4 vK qH vN) := bq LZ NV fun fV Ar outer s H E b a hr hp => by
   obtain ⟨p0, p1, p2, p3⟩ := a; refine abv ?_ p0 p1 p2 p3 hp
   exact ⟨⟨⟨NV.nd, rfl, rfl⟩, hr.units⟩, aU iK 0, aU iK 1, aU iK 2, aU iK 3, aU iK 4, aU iK 5, aU iK 6, aU iK 7, cN iK 8, cN iK 9, cN iK 10, cN iK 11, gy, cz lU hr, cz UJ hr, Gw⟩
 have acR := cP acQ acu LZ.kp acv
 have Yh : cC l.prog w K mg base iE 3 Fp _ ["script", "at", "boxes"] (jt K (cl au ay) 3 nS iZ nT) := bq FZ Ih fun fV Ar outer s H E b a hr hp => by
   obtain ⟨p0, p1, p2⟩ := a; refine WU ?_ p0 p1 p2 hp
   exact ⟨⟨⟨Ih.nd, rfl, rfl⟩, hr.units⟩, aU gB 0, aU gB 1, aU gB 2, aU gB 3, aU gB 4, aU gB 5, aU gB 6, cN gB 7, cN gB 8, cN gB 9, cN gB 10, cN gB 11, gy, cz lU hr, cz UH hr, cz UJ hr, Gw⟩
 have Oj := cP Yh XM FZ.kp XO
 have acS : cC l.prog w K mg base iE 4 Ls _ ["script", "elders", "boxes"] (jt K (cl au ay) 3 vQ qK vR) := bq L4 NZ fun fV Ar outer s H E b a hr hp => by
   obtain ⟨p0, p1, p2⟩ := a; refine abz ?_ p0 p1 p2 hp
   exact ⟨⟨⟨NZ.nd, rfl, rfl⟩, hr.units⟩, HK cT 0, e9 cT 0 rfl, aU cT 1, aU cT 2, HK cT 3, e9 cT 3 rfl, aU cT 4, aU cT 5, aU cT 6, aU cT 7, aU cT 8, aU cT 9, aU cT 10, aU cT 11, aU cT 12, aU cT 13, aU cT 14, aU cT 15, cN cT 16, cN cT 17, cN cT 18, cN cT 19, cN cT 20, cN cT 21, cN cT 22, cN cT 23, mS, cz lU hr, kB, gy, cz UH hr, cz acR hr, cz Oj hr, cz qb hr⟩
 have acT := cP acS acw L4.kp acy
 have Yi : cC l.prog w K mg base iE 5 Fq _ ["script", "most"] (jt K (cl au ay) 2 sj sr su) := bq F2 Ik fun fV Ar outer s H E b a hr hp => by
   obtain ⟨p0, p1⟩ := a; refine WZ ?_ p0 p1 hp
   exact ⟨⟨⟨Ik.nd, rfl, rfl⟩, hr.units⟩, HK dH 0, e9 dH 0 rfl, aU dH 1, aU dH 2, aU dH 3, aU dH 4, aU dH 5, HK dH 6, e9 dH 6 rfl, aU dH 7, aU dH 8, aU dH 9, cN dH 10, cN dH 11, cN dH 12, cN dH 13, cN dH 14, cN dH 15, cN dH 16, cz lU hr, afN, cz UD hr, cz Yg hr, cz UG hr, gy, cz acT hr, Oi, cz Jo hr, cz Oj hr⟩
 have Yj := cP Yi XQ F2.kp XR
 have acU : cC l.prog w K mg base iE 2 Lv _ ["script"] (jt K (cl au ay) 1 vS vU vV) := bq L6 N5 fun fV Ar outer s H E b a hr hp => by
   refine abE ?_ a hp
   exact ⟨⟨⟨N5.nd, rfl, rfl⟩, hr.units⟩, aU N4 0, cN N4 1, cz lU hr⟩
 have acV := cP acU acz L6.kp acA
 have Jp : cC l.prog w K mg base iE 1 mR _ ["self", "kinds", "elders", "starts"] (spI K (cl au ay) "Tree" 4 tP tQ tR) := Nn yF vW fun fV Ar outer s H E b a y hr hp => by
   obtain ⟨p0, p1, p2⟩ := a; refine Im ?_ p0 p1 p2 y hp
   exact ⟨⟨⟨vW.nd, rfl, rfl⟩, hr.units⟩, aU jg 0, aU jg 1, aU jg 2, aU jg 3, cN jg 4, qa, rR, iy, jT, tW⟩
 have Gz : cC l.prog w K mg base iE 1 k8 _ ["self", "boxes", "names", "tree", "ins", "outs", "ways"] (spI K (cl au ay) "Chart" 7 qN qO qP) := Nn wR tS fun fV Ar outer s H E b a y hr hp => by
   obtain ⟨p0, p1, p2, p3, p4, p5⟩ := a; refine Et ?_ p0 p1 p2 p3 p4 p5 y hp
   exact ⟨⟨⟨tS.nd, rfl, rfl⟩, hr.units⟩, aU eO 0, aU eO 1, aU eO 2, aU eO 3, aU eO 4, aU eO 5, aU eO 6, cN eO 7, qa, jS, Ce, Cg, ig, yG, wV, iu⟩
 have Yk : cC l.prog w K mg base iE 3 Ft _ ["parts"] (jt K (cl au ay) 1 sy sA sC) := bq F4 Io fun fV Ar outer s H E b a hr hp => by
   obtain ⟨p0, p1, p2, p3, p4, p5, p6⟩ := a; refine W5 ?_ p0 p1 p2 p3 p4 p5 p6 hp
   exact ⟨⟨⟨Io.nd, rfl, rfl⟩, hr.units⟩, aU j4 0, aU j4 1, aU j4 2, cN j4 3, cN j4 4, cN j4 5, cN j4 6, cN j4 7, gy, mS, ⟨⟨_, _, _, by rw [tD]; exact ⟨FQ, rH, rJ, FT⟩, Jp, by rw [tD]; exact acL, Jd⟩, hr.mono (by decide)⟩, qa, ⟨⟨_, _, _, by rw [jr]; exact ⟨Bc, pR, pS, Bd⟩, Gz, by rw [jr]; exact Yc, Gn⟩, hr.mono (by decide)⟩, Oi⟩
 have Yl := cP Yk XS F4.kp XT
 have Ym : cC l.prog w K mg base iE 1 Fv _ ["elders", "kinds", "chosen"] (jt K (cl au ay) 3 sE nV sF) := bq F6 Ip fun fV Ar outer s H E b a hr hp => by
   obtain ⟨p0, p1, p2⟩ := a; refine W7 ?_ p0 p1 p2 hp
   exact ⟨⟨⟨Ip.nd, rfl, rfl⟩, hr.units⟩, aU j5 0, aU j5 1, aU j5 2, aU j5 3, aU j5 4, aU j5 5, cN j5 6, cN j5 7, gy, mS⟩
 have Yn := cP Ym XU F6.kp XW
 have UK : cC l.prog w K mg base iE 2 A3 _ ["script", "elders", "kinds", "base"] (jt K (cl au ay) 4 oV lN oW) := bq Bm Dh fun fV Ar outer s H E b a hr hp => by
   obtain ⟨p0, p1, p2, p3⟩ := a; refine SY ?_ p0 p1 p2 p3 hp
   exact ⟨⟨⟨Dh.nd, rfl, rfl⟩, hr.units⟩, aU fY 0, aU fY 1, aU fY 2, aU fY 3, aU fY 4, aU fY 5, aU fY 6, cN fY 7, cN fY 8, cN fY 9, cN fY 10, gy, mS, cz qb hr, cz lU hr⟩
 have UL := cP UK Uq Bm.kp Ur
 have Yo : cC l.prog w K mg base iE 1 Fw _ ["script", "many"] (jt K (cl au ay) 2 sG sH sJ) := bq F8 Iq fun fV Ar outer s H E b a hr hp => by
   obtain ⟨p0, p1⟩ := a; refine W9 ?_ p0 p1 hp
   exact ⟨⟨⟨Iq.nd, rfl, rfl⟩, hr.units⟩, aU j6 0, aU j6 1, aU j6 2, aU j6 3, cN j6 4, cN j6 5, cN j6 6, cN j6 7, qa, gy, afO, mS⟩
 have Yp := cP Yo XY F8.kp XZ
 have Jq : cC l.prog w K mg base iE 1 rC _ ["elders", "mood", "upper"] (jt K (cl au ay) 3 fM cM fN) := bq rL vY fun fV Ar outer s H E b a hr hp => by
   obtain ⟨p0, p1, p2⟩ := a; refine Iu ?_ p0 p1 p2 hp
   exact ⟨⟨⟨vY.nd, rfl, rfl⟩, hr.units⟩, aU kN 0, aU kN 1, aU kN 2, aU kN 3⟩
 have mU := cP Jq Je rL.kp Jf
 have UM : cC l.prog w K mg base iE 2 A4 _ ["parts", "number"] (jt K (cl au ay) 2 jz fO jA) := bq Bp Di fun fV Ar outer s H E b a hr hp => by
   obtain ⟨p0, p1, p2, p3, p4, p5, p6, p7⟩ := a; refine S8 ?_ p0 p1 p2 p3 p4 p5 p6 p7 hp
   exact ⟨⟨⟨Di.nd, rfl, rfl⟩, hr.units⟩, aU nW 0, aU nW 1, aU nW 2, aU nW 3, cN nW 4, cz mU hr⟩
 have BE := cP UM Us Bp.kp Ut
 have acW : cC l.prog w K mg base iE 3 Lw _ ["parts", "some", "number"] (jt K (cl au ay) 3 v5 qS v7) := bq L8 N7 fun fV Ar outer s H E b a hr hp => by
   obtain ⟨p0, p1, p2, p3, p4, p5, p6, p7, p8⟩ := a; refine abJ ?_ p0 p1 p2 p3 p4 p5 p6 p7 p8 hp
   exact ⟨⟨⟨N7.nd, rfl, rfl⟩, hr.units⟩, aU mG 0, aU mG 1, aU mG 2, aU mG 3, aU mG 4, aU mG 5, cN mG 6, cN mG 7, cz BE hr, cz mU hr⟩
 have acX := cP acW acB L8.kp acC
 have Yq : cC l.prog w K mg base iE 4 Fx _ ["parts", "opens", "cell"] (jt K (cl au ay) 3 sM nY sN) := bq Ga IA fun fV Ar outer s H E b a hr hp => by
   obtain ⟨p0, p1, p2, p3, p4, p5, p6, p7, p8⟩ := a; refine Xd ?_ p0 p1 p2 p3 p4 p5 p6 p7 p8 hp
   exact ⟨⟨⟨IA.nd, rfl, rfl⟩, hr.units⟩, aU gW 0, aU gW 1, aU gW 2, aU gW 3, aU gW 4, aU gW 5, aU gW 6, cN gW 7, cN gW 8, cN gW 9, cN gW 10, mS, gy, cz acX hr, kB⟩
 have Yr := cP Yq X3 Ga.kp X4
 have acY : cC l.prog w K mg base iE 3 Lx _ ["parts", "opens", "some"] (jt K (cl au ay) 3 v8 qT v9) := bq Mb N8 fun fV Ar outer s H E b a hr hp => by
   obtain ⟨p0, p1, p2, p3, p4, p5, p6, p7, p8⟩ := a; refine abM ?_ p0 p1 p2 p3 p4 p5 p6 p7 p8 hp
   exact ⟨⟨⟨N8.nd, rfl, rfl⟩, hr.units⟩, HK jL 0, e9 jL 0 rfl, aU jL 1, aU jL 2, aU jL 3, aU jL 4, HK jL 5, e9 jL 5 rfl, cN jL 6, cN jL 7, cz BE hr, kB, cz mU hr⟩
 have acZ := cP acY acD Mb.kp acE
 have Jr : cC l.prog w K mg base iE 2 rD _ ["parts", "mood"] (jt K (cl au ay) 2 jM iH jN) := bq rN wc fun fV Ar outer s H E b a hr hp => by
   obtain ⟨p0, p1, p2, p3, p4, p5, p6, p7⟩ := a; refine IC ?_ p0 p1 p2 p3 p4 p5 p6 p7 hp
   exact ⟨⟨⟨wc.nd, rfl, rfl⟩, hr.units⟩, aU kO 0, aU kO 1, aU kO 2, cN kO 3, cz mU hr⟩
 have Js := cP Jr Jg rN.kp Jh
 have GA : cC l.prog w K mg base iE 1 pK _ ["elders", "kinds", "starts", "memory", "upper", "target", "mode"] (jt K (cl au ay) 7 jh gX ji) := bq pU tT fun fV Ar outer s H E b a hr hp => by
   obtain ⟨p0, p1, p2, p3, p4, p5, p6⟩ := a; refine EJ ?_ p0 p1 p2 p3 p4 p5 p6 hp
   exact ⟨⟨⟨tT.nd, rfl, rfl⟩, hr.units⟩, aU bL 0, aU bL 1, aU bL 2, aU bL 3, aU bL 4, aU bL 5, aU bL 6, aU bL 7, aU bL 8, aU bL 9, aU bL 10, aU bL 11, aU bL 12, aU bL 13, cN bL 14, cN bL 15, gy, mS⟩
 have GB := cP GA Gp pU.kp Gq
 have ac0 : cC l.prog w K mg base iE 4 Ly _ ["parts", "opens", "memory", "some"] (jt K (cl au ay) 4 wg wk wm) := bq Mg N9 fun fV Ar outer s H E b a hr hp => by
   obtain ⟨p0, p1, p2, p3, p4, p5, p6, p7, p8, p9⟩ := a; refine abQ ?_ p0 p1 p2 p3 p4 p5 p6 p7 p8 p9 hp
   exact ⟨⟨⟨N9.nd, rfl, rfl⟩, hr.units⟩, aU dY 0, HK dY 1, e9 dY 1 rfl, aU dY 2, aU dY 3, aU dY 4, aU dY 5, HK dY 6, e9 dY 6 rfl, aU dY 7, aU dY 8, aU dY 9, aU dY 10, aU dY 11, cN dY 12, cN dY 13, cN dY 14, cN dY 15, cN dY 16, cN dY 17, cN dY 18, qa, cz acZ hr, cz Js hr, cz qb hr, cz BE hr, cz GB hr, kB⟩
 have ac1 := cP ac0 acF Mg.kp acG
 have Ys : cC l.prog w K mg base iE 1 Fy _ ["tree", "mood"] (jt K (cl au ay) 2 lg jC lq) := bq Gd II fun fV Ar outer s H E b a hr hp => by
   obtain ⟨p0, p1, p2, p3⟩ := a; refine Xi ?_ p0 p1 p2 p3 hp
   exact ⟨⟨⟨II.nd, rfl, rfl⟩, hr.units⟩, aU wu 0, aU wu 1, aU wu 2, aU wu 3, rR, jT⟩
 have GC := cP Ys X5 Gd.kp X6
 have UN : cC l.prog w K mg base iE 2 A5 _ ["tree", "mood", "other"] (jt K (cl au ay) 3 jD gu jE) := bq Br Dl fun fV Ar outer s H E b a hr hp => by
   obtain ⟨p0, p1, p2, p3, p4⟩ := a; refine Tp ?_ p0 p1 p2 p3 p4 hp
   exact ⟨⟨⟨Dl.nd, rfl, rfl⟩, hr.units⟩, aU sP 0, aU sP 1, aU sP 2, cN sP 3, cz GC hr⟩
 have BF := cP UN Uu Br.kp Uv
 have ac2 : cC l.prog w K mg base iE 3 Lz _ ["tree", "opens", "upper"] (jt K (cl au ay) 3 wC qV wF) := bq Mi Oa fun fV Ar outer s H E b a hr hp => by
   obtain ⟨p0, p1, p2, p3, p4⟩ := a; refine abV ?_ p0 p1 p2 p3 p4 hp
   exact ⟨⟨⟨Oa.nd, rfl, rfl⟩, hr.units⟩, HK sQ 0, e9 sQ 0 rfl, aU sQ 1, HK sQ 2, e9 sQ 2 rfl, cN sQ 3, BD, cz BF hr⟩
 have ac3 := cP ac2 acH Mi.kp acI
 have afP : cC l.prog w K mg base iE 3 T3 _ ["tree", "one", "other"] (jt K (cl au ay) 3 zF wG zG) := bq Ua Tr fun fV Ar outer s H E b a hr hp => by
   obtain ⟨p0, p1, p2, p3, p4⟩ := a; refine afC ?_ p0 p1 p2 p3 p4 hp
   exact ⟨⟨⟨Tr.nd, rfl, rfl⟩, hr.units⟩, aU xT 0, aU xT 1, aU xT 2, aU xT 3, cN xT 4, cN xT 5, cz GC hr, cz BF hr, rR, iy⟩
 have afQ := cP afP afL Ua.kp afM
 have Qe : cC l.prog w K mg base iE 4 x8 _ ["chart", "number"] (jt K (cl au ay) 2 j7 gY j8) := bq yd AO fun fV Ar outer s H E b a hr hp => by
   obtain ⟨p0, p1, p2, p3, p4, p5, p6, p7, p8⟩ := a; refine PV ?_ p0 p1 p2 p3 p4 p5 p6 p7 p8 hp
   exact ⟨⟨⟨AO.nd, rfl, rfl⟩, hr.units⟩, aU jF 0, aU jF 1, aU jF 2, cN jF 3, cN jF 4, cN jF 5, cz afQ hr, UA, wW, jS, iu, ig⟩
 have Dr := cP Qe P7 yd.kp P8
 have MA : cC l.prog w K mg base iE 5 uB _ ["chart", "opens", "going"] (jt K (cl au ay) 3 kQ jj kR) := bq uH yz fun fV Ar outer s H E b a hr hp => by
   obtain ⟨p0, p1, p2, p3, p4, p5, p6, p7, p8, p9⟩ := a; refine K8 ?_ p0 p1 p2 p3 p4 p5 p6 p7 p8 p9 hp
   exact ⟨⟨⟨yz.nd, rfl, rfl⟩, hr.units⟩, aU f7 0, aU f7 1, aU f7 2, aU f7 3, aU f7 4, cN f7 5, cN f7 6, cN f7 7, cz ac3 hr, cz Dr hr, kB, jS, ig⟩
 have MB := cP MA Mt uH.kp Mu
 have GD : cC l.prog w K mg base iE 1 pL _ ["tree", "memory", "opens", "moods"] (jt K (cl au ay) 4 jk gZ jl) := bq pW tU fun fV Ar outer s H E b a hr hp => by
   obtain ⟨p0, p1, p2, p3, p4, p5⟩ := a; refine EY ?_ p0 p1 p2 p3 p4 p5 hp
   exact ⟨⟨⟨tU.nd, rfl, rfl⟩, hr.units⟩, aU eS 0, aU eS 1, aU eS 2, aU eS 3, aU eS 4, aU eS 5, aU eS 6, cN eS 7, qa, rR, jT, iy⟩
 have GF := cP GD Gr pW.kp Gs
 have ac4 : cC l.prog w K mg base iE 2 LC _ ["tree", "upper", "mood"] (jt K (cl au ay) 3 wH wI qY) := bq Ml Oc fun fV Ar outer s H E b a hr hp => by
   obtain ⟨p0, p1, p2, p3, p4⟩ := a; refine abY ?_ p0 p1 p2 p3 p4 hp
   exact ⟨⟨⟨Oc.nd, rfl, rfl⟩, hr.units⟩, aU mJ 0, aU mJ 1, aU mJ 2, aU mJ 3, aU mJ 4, cN mJ 5, cN mJ 6, cN mJ 7, cz GC hr, qa, BD⟩
 have ac5 := cP ac4 acJ Ml.kp acK
 have Yt : cC l.prog w K mg base iE 1 Fz _ ["tree", "mood"] (jt K (cl au ay) 2 n6 jG n8) := bq Gf IL fun fV Ar outer s H E b a hr hp => by
   obtain ⟨p0, p1, p2, p3⟩ := a; refine Xm ?_ p0 p1 p2 p3 hp
   exact ⟨⟨⟨IL.nd, rfl, rfl⟩, hr.units⟩, aU wJ 0, HK wJ 1, e9 wJ 1 rfl, cN wJ 2, Jm, rR, jT⟩
 have Ol := cP Yt X7 Gf.kp X8
 have Jt : cC l.prog w K mg base iE 2 rE _ ["tree", "memory", "mood", "mode"] (jt K (cl au ay) 4 jO jP jQ) := bq rP wL fun fV Ar outer s H E b a hr hp => by
   obtain ⟨p0, p1, p2, p3, p4, p5⟩ := a; refine IU ?_ p0 p1 p2 p3 p4 p5 hp
   exact ⟨⟨⟨wL.nd, rfl, rfl⟩, hr.units⟩, aU ia 0, aU ia 1, aU ia 2, aU ia 3, aU ia 4, cN ia 5, cz Ol hr, rR, iy, tW⟩
 have Ju := cP Jt Ji rP.kp Jj
 have Qf : ∀ dd, cC l.prog w K mg base iE (3 + dd) A6 lQ ["tree", "memory", "mood", "mode"] (jt K (cl au ay) 4 lO (g5 dd) lP) := by
   intro dd
   induction dd using Nat.strongRecOn with
   | ind dd ih =>
     rw [show 3 + dd = (2 + dd) + 1 by omega]
     exact bq wU Dn fun fV Ar outer s H E b a hr hp => by
       obtain ⟨p0, p1, p2, p3, p4, p5⟩ := a; refine TF (dd := dd) ?_ p0 p1 p2 p3 p4 p5 hp
       exact ⟨⟨⟨Dn.nd, rfl, rfl⟩, hr.units⟩, aU ic 0, aU ic 1, aU ic 2, aU ic 3, aU ic 4, aU ic 5, aU ic 6, cN ic 7, cN ic 8, cz Ju hr (by omega), fun d' hd => ⟨⟨_, _, _, ih d' hd, Jk, wU.kp, Jl⟩, hr.mono (by omega)⟩⟩
 have UO := Qf 40
 have UQ := cP UO Jk wU.kp Jl
 have Qg : cC l.prog w K mg base iE 44 x9 _ ["tree", "memory", "upper", "target", "mode"] (jt K (cl au ay) 5 mL kh mO) := bq yf AU fun fV Ar outer s H E b a hr hp => by
   obtain ⟨p0, p1, p2, p3, p4, p5, p6⟩ := a; refine PY ?_ p0 p1 p2 p3 p4 p5 p6 hp
   exact ⟨⟨⟨AU.nd, rfl, rfl⟩, hr.units⟩, aU dU 0, aU dU 1, aU dU 2, aU dU 3, aU dU 4, aU dU 5, aU dU 6, aU dU 7, aU dU 8, cN dU 9, cN dU 10, cN dU 11, cN dU 12, cz ac5 hr, cz UQ hr, cz Ol hr, kB, rR, iy⟩
 have Qh := cP Qg P9 yf.kp Qa
 have Ci : cC l.prog w K mg base iE 45 nj _ ["chart", "memory", "going"] (jt K (cl au ay) 3 iM gD iN) := bq nF rg fun fV Ar outer s H E b a hr hp => by
   obtain ⟨p0, p1, p2, p3, p4, p5, p6, p7, p8, p9⟩ := a; refine B8 ?_ p0 p1 p2 p3 p4 p5 p6 p7 p8 p9 hp
   exact ⟨⟨⟨rg.nd, rfl, rfl⟩, hr.units⟩, aU cL 0, aU cL 1, aU cL 2, aU cL 3, aU cL 4, aU cL 5, cN cL 6, cN cL 7, cN cL 8, cN cL 9, cN cL 10, cz Qh hr, cz Dr hr, wW, UB, kB, jS, iu, ig⟩
 have Cj := cP Ci Cb nF.kp Cd
 have UR : cC l.prog w K mg base iE 3 A7 _ ["chart", "mood"] (jt K (cl au ay) 2 lR iT lS) := bq Bu Dq fun fV Ar outer s H E b a hr hp => by
   obtain ⟨p0, p1, p2, p3, p4, p5, p6, p7, p8⟩ := a; refine TL ?_ p0 p1 p2 p3 p4 p5 p6 p7 p8 hp
   exact ⟨⟨⟨Dq.nd, rfl, rfl⟩, hr.units⟩, aU lu 0, aU lu 1, aU lu 2, cN lu 3, cN lu 4, cN lu 5, UB, wW, cz BF hr, jS, rR, iu, iy, ig⟩
 have Jv := cP UR Uw Bu.kp Ux
 have MC : cC l.prog w K mg base iE 4 uC _ ["chart", "gone", "memory", "behind"] (jt K (cl au ay) 4 kX jm kY) := bq uJ yC fun fV Ar outer s H E b a hr hp => by
   obtain ⟨p0, p1, p2, p3, p4, p5, p6, p7, p8, p9, p10⟩ := a; refine Lc ?_ p0 p1 p2 p3 p4 p5 p6 p7 p8 p9 p10 hp
   exact ⟨⟨⟨yC.nd, rfl, rfl⟩, hr.units⟩, aU g6 0, aU g6 1, aU g6 2, aU g6 3, aU g6 4, aU g6 5, cN g6 6, cz Jv hr, jS, wV⟩
 have MD := cP MC Mv uJ.kp Mw
 have MF : cC l.prog w K mg base iE 1 uD _ ["chart", "ways"] (jt K (cl au ay) 2 kZ jn k6) := bq uL yE fun fV Ar outer s H E b a hr hp => by
   obtain ⟨p0, p1, p2, p3, p4, p5, p6, p7⟩ := a; refine Le ?_ p0 p1 p2 p3 p4 p5 p6 p7 hp
   exact ⟨⟨⟨yE.nd, rfl, rfl⟩, hr.units⟩, aU ki 0, aU ki 1, aU ki 2, aU ki 3, cN ki 4, Yd, jS, iu⟩
 have MG := cP MF Mx uL.kp My
 have Qi : cC l.prog w K mg base iE 1 yb _ ["chart", "come"] (jt K (cl au ay) 2 mP ko mQ) := bq yh AY fun fV Ar outer s H E b a hr hp => by
   obtain ⟨p0, p1, p2, p3, p4, p5, p6⟩ := a; refine P1 ?_ p0 p1 p2 p3 p4 p5 p6 hp
   exact ⟨⟨⟨AY.nd, rfl, rfl⟩, hr.units⟩, aU pH 0, aU pH 1, aU pH 2, aU pH 3, jS, yG⟩
 have Qj := cP Qi Qc yh.kp Qd
 have GH : cC l.prog w K mg base iE 1 pM _ ["chart", "number"] (jt K (cl au ay) 2 jo g7 jq) := bq pY tV fun fV Ar outer s H E b a hr hp => by
   obtain ⟨p0, p1, p2, p3, p4, p5, p6⟩ := a; refine E6 ?_ p0 p1 p2 p3 p4 p5 p6 hp
   exact ⟨⟨⟨tV.nd, rfl, rfl⟩, hr.units⟩, aU nh 0, aU nh 1, cN nh 2, wW, jS, iu⟩
 have GJ := cP GH Gu pY.kp Gv
 have Yu : cC l.prog w K mg base iE 46 FD _ ["chart", "opens", "memory", "ways"] (jt K (cl au ay) 4 sW sX n9) := bq Gh IW fun fV Ar outer s H E b a hr hp => by
   obtain ⟨p0, p1, p2, p3, p4, p5, p6, p7, p8, p9, p10⟩ := a; refine Xq ?_ p0 p1 p2 p3 p4 p5 p6 p7 p8 p9 p10 hp
   exact ⟨⟨⟨IW.nd, rfl, rfl⟩, hr.units⟩, HK dP 0, e9 dP 0 rfl, aU dP 1, aU dP 2, aU dP 3, aU dP 4, HK dP 5, e9 dP 5 rfl, aU dP 6, aU dP 7, aU dP 8, cN dP 9, cN dP 10, cN dP 11, cN dP 12, cN dP 13, cN dP 14, cN dP 15, cz MB hr, cz GF hr, cz Cj hr, cz MD hr, cz MG hr, cz Qj hr, kB, cz GJ hr, cz Jv hr, jS, ig⟩
 have Yv := cP Yu X9 Gh.kp Yb
 have Yw : ∀ dd, cC l.prog w K mg base iE (1 + dd) LD g_same ["found", "due"] (jt K (cl au ay) 2 rm (lT dd) rq) := by
   intro dd
   induction dd using Nat.strongRecOn with
   | ind dd ih =>
     rw [show 1 + dd = (0 + dd) + 1 by omega]
     exact bq Gi Od fun fV Ar outer s H E b a hr hp => by
       refine ab5 (dd := dd) ?_ a hp
       exact ⟨⟨⟨Od.nd, rfl, rfl⟩, hr.units⟩, aU iO 0, aU iO 1, aU iO 2, cN iO 3, cN iO 4, cN iO 5, cN iO 6, cN iO 7, cN iO 8, cN iO 9, cN iO 10, cN iO 11, Gy, Oi, Zy, acM, qa, Gw, mS, gy, fun d' hd => ⟨⟨_, _, _, ih d' hd, Uy, Gi.kp, Uz⟩, hr.mono (by omega)⟩⟩
 have ac6 := Yw 8
 have ac7 := cP ac6 Uy Gi.kp Uz
 have afR : cC l.prog w K mg base iE 47 _ _ ["script"] (jt K (cl au ay) 1 sY sZ tu) := bq Ub TY fun fV Ar outer s H E b a hr hp => by
   refine afI ?_ a hp
   exact ⟨⟨⟨TY.nd, rfl, rfl⟩, hr.units⟩, aU e7 0, aU e7 1, aU e7 2, aU e7 3, aU e7 4, aU e7 5, aU e7 6, aU e7 7, aU e7 8, aU e7 9, cN e7 10, cN e7 11, cN e7 12, cN e7 13, cN e7 14, cN e7 15, cN e7 16, cN e7 17, cN e7 18, cN e7 19, cN e7 20, cN e7 21, cN e7 22, cz Yj hr, cz acV hr, cz Yl hr, cz Yn hr, mS, cz lU hr, cz UL hr, cz Yp hr, cz Yr hr, cz ac1 hr, qa, cz Yv hr, cz ac7 hr⟩
 exact afR.imp (aaX (fun _ => rfl) (fun _ => rfl) fun x hx => ab9 hx)
theorem walk {l : PySem.W.OpenLaw} {q : Program} {loose : List Str} {XP : (Str -> Option Value) -> Heap -> Prop} {YP : World -> Heap -> Prop} {d : DefRec} {K : Params -> PySem.W.Frag} (hn : l.most = some 63) (hdf : d.params.defaults = [])
   (hY : ∀ (w : World) (h : Heap), YP w h -> (K w.params).In h)
   (F : ∀ (w : World) (mg : Str -> Option Value) (fa : Addr) (h : Heap), (K w.params).In h -> h.Ns mainGlobals mg -> mg d.name = some (.ref fa) →
     ∃ fd : FuncData, (∀ (s : Shared) (u : Value), BindsTo s fd ⟨[u], []⟩ [("script", u)]) /\ ∀ base : Heap, (K w.params).In base -> base.Ns mainGlobals mg -> cC l.prog w (K w.params) mg base iE 47 fa fd ["script"] (jt (K w.params) (fun _ => 0) 1 sY sZ tu)) :
   PySem.W.WalkO q loose XP YP l.row.toRowW d [] (fun f vs => PySem.call f vs) :=
 L2.VN (n := 63) (k := 47) (x := "script") (CX := fun _ => iE) (sp := fun w => jt (K w.params) (fun _ => 0) 1 sY sZ tu) hn (by decide) hdf ⟨rfl, by decide, by decide⟩ hY F (fun _ _ a ns hl _ hS => aaT rfl hl rfl hS) fun _ _ _ _ _ z => z
end Law
namespace PySem.W.Fast
 def tw2978840863291370293 := 0
 def tw11646006289179589673 := 0
 def tw9999630691626895264 := 0
 def tw7563828558977773937 := 0
 def tw18267448275246781316 := 0
 def tw13878234579811580892 := 0
 def tw9351982553000827938 := 0
 def tw3291794514014941591 := 0
 def tw7411145927567493482 := 0
 def tw10257399071620064470 := 0
 def tw9865346445671098141 := 0
 def tw7176598561151788725 := 0
end PySem.W.Fast
open PySem PySem.W PyProof.Rows
set_option maxRecDepth 100000 in
set_option maxHeartbeats 0 in
theorem PySem.Challenge.cw_moodtree_k39_a_move_told_holds : PySem.Challenge.rw_moodtree_k39_a_move_told.Holds := by
 w_on; o_law; k_head; (case hw => w_witness2)
 k_fill
 refine Law.walk (l := PySem.Challenge.rw_moodtree_k39_a_move_told) rfl rfl (fun w h Y => PySem.W.kIn_of Y) ?F
 case F =>
   intro w mg fa h KX G hmg
   refine' Law.all_mk KX G hmg ?FI ?A8 ?A9 ?Ba ?Bb ?Bc ?Bd ?nu ?ny ?pN ?rG ?pO ?pP ?LK ?FJ ?FL ?FN ?FP ?FQ ?FT ?pQ ?nA ?nB ?LN (L2.bF ?bX ?ac8 ?ac9) ?Be (L2.bF ?aR ?UT ?Aq) ?FU (L2.bF ?eL ?Yx ?Yy) ?uE (L2.bF ?MH ?MJ ?MK) ?Bg (L2.bF ?jZ ?UU ?UW) ?LR (L2.bF ?qI ?ada ?adb) ?Bj (L2.bF ?bA ?UX ?UY) ?LW (L2.bF ?ade ?adf ?adg) ?LY (L2.bF ?oO ?adh ?adi) ?FY (L2.bF ?jK ?Yz ?YB) ?L0 (L2.bF ?jx ?adj ?adk) ?F0 (L2.bF ?aM ?YC ?EF) ?L5 (L2.bF ?En ?adl ?adn) ?rH ?rJ (L2.bF ?Jw ?Jx ?Jy) ?pR ?pS (L2.bF ?GK ?GL ?GN) ?F3 (L2.bF ?bM ?YD ?zJ) ?F5 (L2.bF ?b8 ?YF ?EL) ?Bl (L2.bF ?bw ?UZ ?U0) ?F7 (L2.bF ?sL ?YG ?YH) ?rK (L2.bF ?Jz ?JA ?JB) ?Bo (L2.bF ?U1 ?U3 ?U4) ?L7 (L2.bF ?ado ?adp ?adq) ?F9 (L2.bF ?kT ?YJ ?YK) ?Ma (L2.bF ?kF ?ads ?Lf) ?rM (L2.bF ?JC ?JD ?JF) ?pT (L2.bF ?GO ?GP ?GQ) ?Mf (L2.bF ?adt ?adu ?adv) ?Gb (L2.bF ?YL ?YM ?YN) ?Bq (L2.bF ?U5 ?U6 ?U7) ?Mh (L2.bF ?adw ?adx ?ady) ?T9 (L2.bF ?afS ?afT ?afU) ?yc (L2.bF ?Qk ?Ql ?Qm) ?uG (L2.bF ?ML ?MN ?MP) ?pV (L2.bF ?GR ?GU ?GV) ?Mj (L2.bF ?adz ?adA ?adB) ?Ge (L2.bF ?YQ ?YR ?YS) ?rO (L2.bF ?JG ?JH ?JK) ?Bs (L2.bF ?U8 ?U9 ?Va) ?ye (L2.bF ?Qn ?Qo ?Qp) ?nE (L2.bF ?Ck ?Cm ?Cp) ?Bt (L2.bF ?Vb ?Vc ?Vd) ?uI (L2.bF ?MQ ?MR ?MS) ?uK (L2.bF ?MT ?MV ?MX) ?yg (L2.bF ?Qq ?Qs ?Qt) ?pX (L2.bF ?GX ?GY ?GZ) ?Gg (L2.bF ?YT ?YV ?YW) ?Mm (L2.bF ?adC ?adD ?k_same) ?Oh (L2.bF ?afV ?afW ?afX) ?Uc ?Gj ?Ud ?Ue ?Gk ?Bv ?Ug ?Mp ?Uh ?uM ?Bw ?By ?rQ ?Mq ?Gm ?pZ ?y_bool
   case FI | A8 | A9 | Ba | Bb | Bc | Bd | nu | ny | pN | rG | pO | pP | LK | FJ | FL | FN | FP | FQ | FT | pQ | nA | nB | LN | bX | ac8 | ac9 | Be | aR | UT | Aq | FU | eL | Yx | Yy | uE | MH | MJ | MK | Bg | jZ | UU | UW | LR | qI | ada | adb | Bj | bA | UX | UY | LW | ade | adf | adg | LY | oO | adh | adi | FY | jK | Yz | YB | L0 | jx | adj | adk | F0 | aM | YC | EF | L5 | En | adl | adn | rH | rJ | Jw | Jx | Jy | pR | pS | GK | GL | GN | F3 | bM | YD | zJ | F5 | b8 | YF | EL | Bl | bw | UZ | U0 | F7 | sL | YG | YH | rK | Jz | JA | JB | Bo | U1 | U3 | U4 | L7 | ado | adp | adq | F9 | kT | YJ | YK | Ma | kF | ads | Lf | rM | JC | JD | JF | pT | GO | GP | GQ | Mf | adt | adu | adv | Gb | YL | YM | YN | Bq | U5 | U6 | U7 | Mh | adw | adx | ady | T9 | afS | afT | afU | yc | Qk | Ql | Qm | uG | ML | MN | MP | pV | GR | GU | GV | Mj | adz | adA | adB | Ge | YQ | YR | YS | rO | JG | JH | JK | Bs | U8 | U9 | Va | ye | Qn | Qo | Qp | nE | Ck | Cm | Cp | Bt | Vb | Vc | Vd | uI | MQ | MR | MS | uK | MT | MV | MX | yg | Qq | Qs | Qt | pX | GX | GY | GZ | Gg | YT | YV | YW | Mm | adC | adD | k_same | Oh | afV | afW | afX | Uc | Gj | Ud | Ue | Gk | Bv | Ug | Mp | Uh | uM | Bw | By | rQ | Mq | Gm | pZ | y_bool => k_is
