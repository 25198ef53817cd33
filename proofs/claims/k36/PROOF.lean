import PyProof.Rows.All
import Wide.All
import OpenK.AllK
import Wide.FinOn
import Lean
import PyProof.EqAt
import PyProof.EqKinds
import PyProof.TupleCall
import PySem.Challenge.RW_moodtree_k36_whole_choosing
set_option Elab.async false
set_option linter.all false
set_option maxRecDepth 100000
set_option maxHeartbeats 4000000
namespace L2
open PySem PySem.Spec PyProof.Rows
noncomputable abbrev amU := @List.mem_append_right
noncomputable abbrev amV := @if_neg
noncomputable abbrev amW := @List.getElem?_eq_getElem
noncomputable abbrev amX := @Nat.le_of_ble_eq_true
noncomputable abbrev amY := @List.length_map
noncomputable abbrev amZ := @if_pos
noncomputable abbrev am0 := @List.mem_cons_self
noncomputable abbrev am1 := @List.mem_cons
noncomputable abbrev am2 := @List.mem_cons_of_mem
noncomputable abbrev am3 := @List.mem_append
noncomputable abbrev am4 := @List.getD_eq_getElem?_getD
noncomputable abbrev am5 := @Nat.le_refl
noncomputable abbrev am6 := @PySem.W.mg_of
noncomputable abbrev am7 := @List.mem_append_left
noncomputable abbrev am8 := @List.append_assoc
noncomputable abbrev am9 := @of_decide_eq_true
noncomputable abbrev ana := @Heap.get?_push_of_some
noncomputable abbrev anb := @List.mem_singleton
noncomputable abbrev anc := @of_decide_eq_false
noncomputable abbrev ane := @Bool.false_ne_true
noncomputable abbrev anf := @List.getElem?_eq_some_iff
noncomputable abbrev ang := @Heap.lt_size
noncomputable abbrev anh := @wpAny_bind
noncomputable abbrev ani := @List.map_cons
noncomputable abbrev anj := @Option.some.inj
noncomputable abbrev ank := @List.mem_map
noncomputable abbrev anl := @Int.emod_lt_of_pos
noncomputable abbrev anm := @List.length_append
noncomputable abbrev ano := @List.size_toArray
noncomputable abbrev anp := @Int.emod_nonneg
noncomputable abbrev anq := @List.getElem?_map
noncomputable abbrev anr := @List.length_cons
noncomputable abbrev ans := @Nat.zero_le
noncomputable abbrev ant := @List.mem_of_getElem?
noncomputable abbrev anu := @List.append_nil
noncomputable abbrev anv := @Heap.get?_push_size
noncomputable abbrev anw := @List.cons_append
noncomputable abbrev anx := @List.lookup_cons
noncomputable abbrev anz := @decide_eq_false
noncomputable abbrev anA := @Nat.ne_of_lt
noncomputable abbrev anB := @List.mem_filter
noncomputable abbrev anC := @List.Sublist.refl
noncomputable abbrev anD := @Nat.lt_of_lt_of_le
noncomputable abbrev anE := @Bool.and_eq_true
noncomputable abbrev anF := @List.map_map
noncomputable abbrev anG := @sizeLine_eq
noncomputable abbrev anH := @List.not_mem_nil
noncomputable abbrev anI := @List.nodup_append
noncomputable abbrev anJ := @List.Sublist.append
noncomputable abbrev anK := @List.take_length
noncomputable abbrev anL := @Nat.le_trans
noncomputable abbrev anM := @wpAny_pure
noncomputable abbrev anN := @List.mem_range
noncomputable abbrev anO := @List.take_add_one
noncomputable abbrev anP := @Int.toNat_natCast
noncomputable abbrev anQ := @List.perm_append_comm
noncomputable abbrev anR := @List.pairwise_cons
noncomputable abbrev anS := @wpS_bind
noncomputable abbrev anT := @PySem.W.mg_none_of
noncomputable abbrev anU := @decide_eq_true
noncomputable abbrev anV := @List.Perm.append_left
noncomputable abbrev anW := @Bool.false_eq_true
noncomputable abbrev anY := @Nat.le_of_lt
noncomputable abbrev anZ := @List.filter_append
noncomputable abbrev an0 := @List.all_eq_true
noncomputable abbrev an1 := @PySem.mem_of_lookup
noncomputable abbrev an2 := @List.flatMap_cons
noncomputable abbrev an3 := @List.length_filter_le
noncomputable abbrev an4 := @List.any_cons
noncomputable abbrev an5 := @List.nodup_nil
noncomputable abbrev an6 := @List.filterMap_cons
noncomputable abbrev an7 := @List.getElem?_range
noncomputable abbrev an8 := @List.map_congr_left
noncomputable abbrev an9 := @wpS_pure
noncomputable abbrev aoa := @List.nodup_cons
noncomputable abbrev aob := @List.sublist_append_right
noncomputable abbrev aoc := @List.nil_append
noncomputable abbrev aod := @List.getElem_mem
noncomputable abbrev aoe := @List.filter_cons_of_pos
noncomputable abbrev aof := @decide_eq_true_eq
noncomputable abbrev aog := @List.length_nil
noncomputable abbrev aoh := @Array.length_toList
noncomputable abbrev aoi := @List.replicate_succ
noncomputable abbrev aoj := @Int.zero_add
noncomputable abbrev aok := @wpAny_mono
noncomputable abbrev aol := @List.getElem?_append_right
noncomputable abbrev aom := @beq_self_eq_true
noncomputable abbrev aon := @List.length_replicate
noncomputable abbrev aoo := @List.ext_getElem?
noncomputable abbrev aop := @List.filter_cons_of_neg
noncomputable abbrev aoq := @beq_eq_false_iff_ne
noncomputable abbrev aor := @List.length_take
noncomputable abbrev aos := @List.perm_middle
noncomputable abbrev aot := @PyProof.Rows.callWith_type1
noncomputable abbrev aou := @wpAny_Call_Name_kw
noncomputable abbrev aov := @wpAny_passesOwn
noncomputable abbrev aow := @Array.getElem?_toList
noncomputable abbrev aox := @List.range_succ
noncomputable abbrev aoy := @if_false
noncomputable abbrev aoz := @wpAny_truthy_bool
noncomputable abbrev aoA := @List.flatten_cons
noncomputable abbrev aoB := @List.reverse_cons
noncomputable abbrev aoC := @List.length_range
noncomputable abbrev aoD := @List.drop_eq_getElem_cons
noncomputable abbrev aoE := @Nat.le_succ
noncomputable abbrev aoF := @List.flatMap_def
noncomputable abbrev aoG := @List.flatMap_append
noncomputable abbrev aoH := @wpAny_getItem_str_slice
noncomputable abbrev aoI := @Nat.lt_irrefl
noncomputable abbrev aoJ := @List.foldl_cons
noncomputable abbrev aoK := @List.find?_cons
noncomputable abbrev aoL := @PySem.W.kia_one
noncomputable abbrev aoM := @List.filter_nil
noncomputable abbrev aoN := @List.take_of_length_le
noncomputable abbrev aoO := @if_true
noncomputable abbrev aoP := @List.getElem?_eq_none
noncomputable abbrev aoQ := @List.mem_of_mem_take
noncomputable abbrev aoR := @List.any_eq_true
noncomputable abbrev aoS := @PySem.W.codeHd_of_K
noncomputable abbrev aoT := @List.getElem?_append_left
noncomputable abbrev aoU := @List.map_append
noncomputable abbrev aoV := @wpAny_comprehension_free
noncomputable abbrev aoW := @wpS_forRange
noncomputable abbrev aoX := @List.find?_eq_none
noncomputable abbrev aoY := @List.Perm.refl
noncomputable abbrev aoZ := @List.all_eq_false
noncomputable abbrev ao0 := @wpAny_holding
noncomputable abbrev ao1 := @List.all_cons
noncomputable abbrev Key := Sum Int Str
noncomputable def Bv : Key -> Value -> Bool
 | .inl k, v => Value.isInt k v
 | .inr x, v => Value.isStrOf x v
noncomputable def ahO (w : World) : Key -> Int
 | .inl k => hashInt k
 | .inr x => hashStr w x
theorem dD : ∀ {k : Key} {v : Value}, Bv k v = true -> (∃ i t, k = Sum.inl i /\ v = Value.int i t) \/ (∃ x t, k = Sum.inr x /\ v = Value.str x t)
 | .inl i, v, h => by
   obtain ⟨t, e⟩ := Value.isInt_shape (k := i) (v := v) h
   exact .inl ⟨i, t, rfl, e⟩
 | .inr x, v, h => by
   obtain ⟨t, e⟩ := Value.isStrOf_shape (x := x) (v := v) h
   exact .inr ⟨x, t, rfl, e⟩
theorem M7 (i : Int) (t : Tok) : Bv (.inl i) (.int i t) = true := by simp [Bv, Value.isInt]
theorem M8 (x : Str) (t : Tok) : Bv (.inr x) (.str x t) = true := by simp [Bv, Value.isStrOf]
theorem aaT (a b : Int) : decide ((Sum.inl a : Key) = Sum.inl b) = (a == b) := by
 by_cases e : a = b
 . subst e; simp
 . have h : ¬ (Sum.inl a : Key) = Sum.inl b := fun q => e (Sum.inl.inj q)
   rw [anz h]
   exact (aoq.mpr e).symm
theorem aaU (a b : Str) : decide ((Sum.inr a : Key) = Sum.inr b) = decide (a = b) := by
 by_cases e : a = b
 . subst e; simp
 . have h : ¬ (Sum.inr a : Key) = Sum.inr b := fun q => e (Sum.inr.inj q)
   rw [anz h, anz e]
theorem aaV (a : Int) (b : Str) : decide ((Sum.inl a : Key) = Sum.inr b) = false := anz (fun q => nomatch q)
theorem aaW (a : Str) (b : Int) : decide ((Sum.inr a : Key) = Sum.inl b) = false := anz (fun q => nomatch q)
noncomputable def e9 (prog : Program) (w : World) : PySem.KeyKind prog w Key where
 is := Bv
 hash := ahO w
 inj := fun v a b ha hb => by
   rcases dD ha with ⟨i, t, rfl, rfl⟩ | ⟨x, t, rfl, rfl⟩
   . rcases dD hb with ⟨j, u, rfl, e⟩ | ⟨y, u, rfl, e⟩
     . injection e with e1 _; rw [e1]
     . exact nomatch e
   . rcases dD hb with ⟨j, u, rfl, e⟩ | ⟨y, u, rfl, e⟩
     . exact nomatch e
     . injection e with e1 _; rw [e1]
 byValue := fun k v h => by
   rcases dD h with ⟨i, t, rfl, rfl⟩ | ⟨x, t, rfl, rfl⟩ <;> rfl
 pyHash := fun hv h => by
   rcases dD hv with ⟨i, t, rfl, rfl⟩ | ⟨x, t, rfl, rfl⟩
   . exact wpAny_pyHash_int h
   . exact wpAny_pyHash_str h
 eqBool := fun hu hv h => by
   rcases dD hu with ⟨i, t, rfl, rfl⟩ | ⟨x, t, rfl, rfl⟩
   . rcases dD hv with ⟨j, u, rfl, rfl⟩ | ⟨y, u, rfl, rfl⟩
     . rw [aaT] at h; exact wpAny_eqBool_int h
     . rw [aaV] at h; exact SeqAt.EqAt.int_str i t y u _ _ _ _ h
   . rcases dD hv with ⟨j, u, rfl, rfl⟩ | ⟨y, u, rfl, rfl⟩
     . rw [aaW] at h; exact SeqAt.EqAt.str_int x t j u _ _ _ _ h
     . rw [aaU] at h; exact wpAny_eqBool_str h
 «strs» := fun k x t v h => by
   rcases dD h with ⟨i, u, rfl, e⟩ | ⟨y, u, rfl, e⟩
   . exact nomatch e
   . injection e with e1 _
     subst e1
     cases v <;> rfl
theorem F5 (prog : Program) (w : World) (i : Int) (t : Tok) : (e9 prog w).is (.inl i) (.int i t) = true := M7 i t
theorem F6 (prog : Program) (w : World) (x : Str) (t : Tok) : (e9 prog w).is (.inr x) (.str x t) = true := M8 x t
inductive V where
 | non | bl (b : Bool) | int (i : Int) | str (x : Str) | P0 (b : Array UInt8) | flt (b : UInt64) | ref (a : Addr) | ty (n : String)
 deriving DecidableEq
noncomputable def RelV : V -> Value -> Prop
 | .non, u => u = Value.none
 | .bl b, u => u = Value.bool b
 | .int i, u => ∃ t, u = Value.int i t
 | .str x, u => ∃ t, u = Value.str x t
 | .P0 b, u => ∃ t, u = Value.bytes b t
 | .flt b, u => ∃ t, u = Value.float b t
 | .ref a, u => u = Value.ref a
 | .ty n, u => u = Value.type n
noncomputable abbrev Vals : List V -> List Value -> Prop := Paired RelV
theorem Vals.length {xs : List V} {us : List Value} (r : Vals xs us) : xs.length = us.length := Paired.length r
theorem Vals.get : ∀ {xs : List V} {us : List Value} {i : Nat} {x : V}, Vals xs us -> xs[i]? = some x -> ∃ u, us[i]? = some u /\ RelV x u
 | _, _, _, _, .nil, e => by simp at e
 | _, _, 0, _, .cons r _, e => by simp at e; subst e; exact ⟨_, rfl, r⟩
 | _, _, i + 1, x, .cons _ t, e => by
   obtain ⟨u, h1, h2⟩ := Vals.get (i := i) (x := x) t (by simpa using e)
   exact ⟨u, by simpa using h1, h2⟩
theorem Vals.set {x : V} {u : Value} (r : RelV x u) : ∀ {xs : List V} {us : List Value} (i : Nat), Vals xs us -> Vals (xs.set i x) (us.set i u)
 | _, _, _, .nil => .nil
 | _, _, 0, .cons _ t => .cons r t
 | _, _, i + 1, .cons q t => .cons q (Vals.set r i t)
theorem Vals.append : ∀ {xs ys : List V} {us ws : List Value}, Vals xs us -> Vals ys ws -> Vals (xs ++ ys) (us ++ ws)
 | _, _, _, _, .nil, s => s
 | _, _, _, _, .cons r t, s => .cons r (Vals.append t s)
theorem Vals.take : ∀ {xs : List V} {us : List Value} (n : Nat), Vals xs us -> Vals (xs.take n) (us.take n)
 | _, _, 0, _ => .nil
 | _, _, _ + 1, .nil => .nil
 | _, _, n + 1, .cons r t => .cons r (Vals.take n t)
theorem Vals.drop : ∀ {xs : List V} {us : List Value} (n : Nat), Vals xs us -> Vals (xs.drop n) (us.drop n)
 | _, _, 0, r => r
 | _, _, _ + 1, .nil => .nil
 | _, _, n + 1, .cons _ t => Vals.drop n t
noncomputable def AO : Option V -> Option Value -> Prop
 | some v, some u => RelV v u
 | none, none => True
 | _, _ => False
noncomputable def KV {κ : Type} : List (κ × V) -> List (κ × Value) -> Prop := Paired fun (p : κ × V) (q : κ × Value) => p.1 = q.1 /\ RelV p.2 q.2
noncomputable def kV : Key -> V
 | .inl i => .int i
 | .inr x => .str x
inductive HO where
 | lst (xs : List V)
 | tup (xs : List V)
 | dK (kvs : List (Key × V)) | dT (kvs : List (List Key × V))
 | set (S : Int -> Bool) (n : Nat)
 | ins (C dx : Addr) (fs : List (Str × V))
 | own (x : Addr)
 | xd (fs : List (Str × V))
 | met (f x : Addr)
 | rng (lo hi : Int)
 | fE (o : Obj) (u : HO)
 | tbl (ps : Array Value)
 | tabs (q : Str)
 | M9 (q : Str)
 | ext (φ : Heap -> Prop)
noncomputable abbrev Hp := Addr -> Option HO
noncomputable def upd (H : Hp) (a : Addr) (o : HO) : Hp := fun b => if b = a then some o else H b
theorem aV {H : Hp} {a : Addr} {o : HO} : upd H a o a = some o := by unfold upd; rw [amZ rfl]
theorem aA {H : Hp} {a b : Addr} {o : HO} (h : b ≠ a) : upd H a o b = H b := by unfold upd; rw [amV h]
theorem aeE {H : Hp} {a b : Addr} {o u : HO} (h : H a = some o) (h' : H b = some u) (d : o ≠ u) : a ≠ b := by
 intro e; subst e; rw [h] at h'; exact d (anj h')
theorem aK {H : Hp} {a b : Addr} {o : HO} (h : H a = some o) (h' : H b = none) : a ≠ b := by
 intro e; subst e; rw [h] at h'; cases h'
section
variable (P : Program) (w : World)
noncomputable def eY (H : Hp) (h : Heap) (a : Addr) : HO -> Prop
 | .lst xs => xs.length <= sizeLine /\ ∃ (its : List Value) (n : Nat), Vals xs its /\ h.get? a = some { cls := .type "list", data := .seq its.toArray n }
 | .tup xs => xs.length <= sizeLine /\ ∃ its : List Value, Vals xs its /\ IsTup h a its.toArray
 | .dK kvs => kvs.length <= sizeLine /\ (a == sysModules) = false /\ ∃ vs, KV kvs vs /\ h.DictOf (e9 P w) a vs
 | .dT kvs => kvs.length <= sizeLine /\ (a == sysModules) = false /\ ∃ xs : List (List Key × Addr × Value),
     Paired (fun (p : List Key × V) (q : List Key × Addr × Value) => p.1 = q.1 /\ H q.2.1 = some (.tup (p.1.map kV)) /\ RelV p.2 q.2.2) kvs xs ∧
     ∃ o es ep, h.get? a = some o /\ o.ExactDict /\ o.data = .dict es ep /\ es.toList = xs.map (entryOfKey (tupleKind (e9 P w))) /\ (xs.map (·.1)).Nodup
 | .set S n => h.SetOf (intKind P w) a S n
 | .ins C dx fs => H dx = some (.own a) /\ fs.length <= 1000 /\ dx ≠ a /\ h.get? a = some (PySem.W.instObj C dx) ∧
     ∃ mA, h.Ns1 dx mA /\ (∀ f, AO (fs.lookup f) (mA f)) /\ PySem.Within mA (fs.map (·.1))
 | .own _ => ∃ o, h.get? a = some o
 | .xd fs => ∃ mA, h.Ns1 a mA /\ ∀ f, AO (fs.lookup f) (mA f)
 | .rng lo hi => ∃ t u v, h.get? a = some { cls := .type "range", data := .fields #[.int lo t, .int hi u, .int 1 v] }
 | .fE o u => h.get? a = some o /\ eY H h a u
 | .tbl ps => h.get? a = some { cls := .none, data := .fields ps }
 | .tabs q => ∃ ps : Array Value, h.get? a = some { cls := .none, data := .fields ps } /\ TriplesOk ps.toList /\ ∀ pos cv, codeAmong pos ps.toList = some cv -> ∃ c, cv = .ref c /\ H c = some (.M9 q)
 | .M9 q => ∃ o vs t, h.get? a = some o /\ o.data = .fields vs /\ vs[1]? = some (.str q t)
 | .met f x => h.get? a = some (PySem.W.methodObj (.ref f) (.ref x))
 | .ext φ => φ h /\ (∃ o, h.get? a = some o) /\ ∀ h1 h2 : Heap, φ h1 -> (∀ o, h1.get? a = some o -> h2.get? a = some o) -> φ h2
noncomputable def rP (H : Hp) (h : Heap) : Prop := ∀ a o, H a = some o -> eY P w H h a o
end
section
variable {P : Program} {w : World} {H H' : Hp} {h h' : Heap} {a : Addr} {o : HO}
theorem eY.lt (x : eY P w H h a o) : a < h.objs.size := by
 cases o with
 | lst xs => obtain ⟨_, _, _, _, e⟩ := x; exact ang e
 | tup xs => obtain ⟨_, _, _, p⟩ := x; exact p.lt
 | dK kvs => obtain ⟨_, _, _, _, o, _, _, e, _⟩ := x; exact ang e
 | dT kvs => obtain ⟨_, _, _, _, o, _, _, e, _⟩ := x; exact ang e
 | set S n => obtain ⟨o, _, _, _, e, _⟩ := x; exact ang e
 | ins C dx fs => obtain ⟨_, _, _, e, _⟩ := x; exact ang e
 | own y => obtain ⟨_, e⟩ := x; exact ang e
 | xd fs => obtain ⟨_, ⟨_, _, _, e, _⟩, _⟩ := x; exact ang e
 | rng lo hi => obtain ⟨_, _, _, e⟩ := x; exact ang e
 | fE ob u => obtain ⟨e, _⟩ := x; exact ang e
 | tbl ps => exact ang (show h.get? a = some _ from x)
 | tabs q => obtain ⟨_, e, _⟩ := x; exact ang e
 | M9 q => obtain ⟨_, _, _, e, _⟩ := x; exact ang e
 | met f y => exact ang (show h.get? a = some _ from x)
 | ext φ => obtain ⟨_, ⟨_, e⟩, _⟩ := x; exact ang e
theorem Paired.aaY {α β : Type} {F G : α -> β -> Prop} : ∀ {l₁ : List α} {l₂ : List β}, Paired F l₁ l₂ -> (∀ a b, F a b -> G a b) -> Paired G l₁ l₂
 | _, _, .nil, _ => .nil
 | _, _, .cons r t, f => .cons (f _ _ r) (Paired.aaY t f)
theorem eY.Ck (x : eY P w H h a o) (k : ∀ b u, (b = a \/ H b = some (.own a)) -> h.get? b = some u -> h'.get? b = some u)
   (ho : ∀ b, H b = some (.own a) -> H' b = some (.own a)) (ht : ∀ b xs, H b = some (.tup xs) -> H' b = some (.tup xs)) (jy : ∀ b q, H b = some (.M9 q) -> H' b = some (.M9 q) := by intro _ _ q; exact q) : eY P w H' h' a o := by
 induction o with
 | lst xs => obtain ⟨z, its, n, r, e⟩ := x; exact ⟨z, its, n, r, k _ _ (.inl rfl) e⟩
 | tup xs => obtain ⟨z, its, r, ob, e, c⟩ := x; exact ⟨z, its, r, ob, k _ _ (.inl rfl) e, c⟩
 | dK kvs => obtain ⟨z, y, vs, r, ob, es, ep, e, c⟩ := x; exact ⟨z, y, vs, r, ob, es, ep, k _ _ (.inl rfl) e, c⟩
 | dT kvs =>
   obtain ⟨z, y, xs, r, ob, es, ep, e, c⟩ := x
   exact ⟨z, y, xs, Paired.aaY r fun p q z => ⟨z.1, ht _ _ z.2.1, z.2.2⟩, ob, es, ep, k _ _ (.inl rfl) e, c⟩
 | set S n => obtain ⟨ob, es, ep, t, e, c⟩ := x; exact ⟨ob, es, ep, t, k _ _ (.inl rfl) e, c⟩
 | ins C dx fs =>
   obtain ⟨d, z, ne, e, mA, ⟨od, es, ep, e2, c⟩, r⟩ := x
   exact ⟨ho _ d, z, ne, k _ _ (.inl rfl) e, mA, ⟨od, es, ep, k _ _ (.inr d) e2, c⟩, r⟩
 | own y => obtain ⟨ob, e⟩ := x; exact ⟨ob, k _ _ (.inl rfl) e⟩
 | xd fs => obtain ⟨mA, ⟨od, es, ep, e, c⟩, r⟩ := x; exact ⟨mA, ⟨od, es, ep, k _ _ (.inl rfl) e, c⟩, r⟩
 | rng lo hi => obtain ⟨t, u, v, e⟩ := x; exact ⟨t, u, v, k _ _ (.inl rfl) e⟩
 | fE ob u ih => obtain ⟨e, q⟩ := x; exact ⟨k _ _ (.inl rfl) e, ih q⟩
 | tbl ps =>
   have e : h.get? a = some { cls := .none, data := .fields ps } := x
   show h'.get? a = some { cls := .none, data := .fields ps }
   exact k a _ (.inl rfl) e
 | met f y =>
   have e : h.get? a = some (PySem.W.methodObj (.ref f) (.ref y)) := x
   show h'.get? a = some (PySem.W.methodObj (.ref f) (.ref y))
   exact k a _ (.inl rfl) e
 | tabs q => obtain ⟨ps, e, tr, cs⟩ := x; exact ⟨ps, k _ _ (.inl rfl) e, tr, fun pos cv z => let ⟨c, e1, e2⟩ := cs pos cv z; ⟨c, e1, jy _ _ e2⟩⟩
 | M9 q => obtain ⟨ob, vs, t, e, r⟩ := x; exact ⟨ob, vs, t, k _ _ (.inl rfl) e, r⟩
 | ext φ => obtain ⟨p, ⟨o, e⟩, st⟩ := x; exact ⟨st _ _ p fun o q => k _ _ (.inl rfl) q, ⟨o, k _ _ (.inl rfl) e⟩, st⟩
theorem rP.lt (x : rP P w H h) (e : H a = some o) : a < h.objs.size := (x a o e).lt
theorem rP.fresh (x : rP P w H h) (e : h.objs.size <= a) : H a = none := by
 cases q : H a with
 | none => rfl
 | some u => exact absurd (anD (x.lt q) e) (aoI _)
theorem rP.kept (x : rP P w H h) (k : ∀ b u, h.get? b = some u -> h'.get? b = some u) : rP P w H h' := fun a o e =>
 (x a o e).Ck (fun b u _ q => k b u q) (fun _ q => q) fun _ _ q => q
theorem rP.laid (x : rP P w H h) (k : ∀ b u, h.get? b = some u -> h'.get? b = some u) (hp : h.objs.size <= a) (new : eY P w (upd H a o) h' a o) : rP P w (upd H a o) h' := fun b u e => by
 have hn := x.fresh hp
 by_cases hb : b = a
 . subst hb; rw [aV] at e; cases e; exact new
 . rw [aA hb] at e
   exact (x b u e).Ck (fun c v _ q => k c v q) (fun c q => by rw [aA (aK q hn)]; exact q) (fun c xs q => by rw [aA (aK q hn)]; exact q) fun c z q => by rw [aA (aK q hn)]; exact q
end
noncomputable def Rd (H : Hp) (a : Addr) (u : HO) : Prop := H a = some u \/ ∃ o, H a = some (.fE o u)
theorem Rd.ok {P : Program} {w : World} {H : Hp} {h : Heap} {a : Addr} {u : HO} (r : Rd H a u) (x : rP P w H h) : eY P w H h a u := by
 rcases r with r | ⟨o, r⟩
 . exact x a u r
 . obtain ⟨_, q⟩ := x a _ r
   exact q
noncomputable def Mut : Option HO -> Prop
 | some (.lst _) => True
 | some (.dK _) => True
 | some (.dT _) => True
 | some (.set _ _) => True
 | some (.ins _ _ _) => True
 | some (.ext _) => True
 | some (.tabs _) => True
 | _ => False
section
variable {P : Program} {w : World} {H : Hp} {h h' : Heap} {x e : Addr} {o' : HO}
theorem rP.write (ok : rP P w H h) (mu : Mut (H x)) (he : e = x \/ H e = some (.own x)) (k : ∀ b u, b ≠ e -> h.get? b = some u -> h'.get? b = some u) (heo : ∃ u, h'.get? e = some u)
   (new : eY P w (upd H x o') h' x o') : rP P w (upd H x o') h' := fun b u q => by
 have aeG : ∀ c y, H c = some (.own y) -> c ≠ x := fun c y r z => by subst z; rw [r] at mu; exact mu
 have ahQ : ∀ c xs, H c = some (.tup xs) -> c ≠ x := fun c xs r z => by subst z; rw [r] at mu; exact mu
 have ahR : ∀ c q, H c = some (.M9 q) -> c ≠ x := fun c q r z => by subst z; rw [r] at mu; exact mu
 by_cases hb : b = x
 . subst hb; rw [aV] at q; cases q; exact new
 . rw [aA hb] at q
   by_cases hbe : b = e
   . have q' : H b = some (.own x) := by
       rcases he with z | z
       . exact absurd (hbe.trans z) hb
       . rw [hbe]; exact z
     rw [q] at q'; cases q'
     obtain ⟨v, hv⟩ := heo
     exact ⟨v, by rw [hbe]; exact hv⟩
   . refine (ok b u q).Ck (fun c v hc r => k c v ?_ r) (fun c r => by rw [aA (aeG c b r)]; exact r) (fun c xs r => by rw [aA (ahQ c xs r)]; exact r) fun c z r => by rw [aA (ahR c z r)]; exact r
     rcases hc with rfl | hc
     . exact hbe
     . rintro rfl
       rcases he with z | z
       . exact aeG c b hc z
       . rw [hc] at z; cases z; exact hb rfl
end
structure Un (fs ex : List Addr) (H H' : Hp) (h h' : Heap) : Prop where
 keep : ∀ b o, h.get? b = some o -> H b = none -> b ∉ fs -> b ∉ ex -> h'.get? b = some o
 slot : ∀ b o, h.get? b = some o -> H b = none -> b ∈ fs -> b ∉ ex -> ∃ sl, h'.get? b = some { o with slots := sl }
 free : ∀ b o, h.get? b = some o -> H b = none -> b ∉ ex -> H' b = none
 there : ∀ b o, h.get? b = some o -> b ∉ ex -> ∃ o', h'.get? b = some o'
 Cm : ∀ b xs, H b = some (.tup xs) -> H' b = some (.tup xs)
 ju : ∀ b o u, H b = some (.fE o u) -> H' b = some (.fE o u)
 Cp : ∀ b ps, H b = some (.tbl ps) -> ∃ more, H' b = some (.tbl (ps ++ more))
section
variable {fs fs' ex ex' : List Addr} {H H1 H2 : Hp} {h h1 h2 h' : Heap} {a x e : Addr} {o : HO}
theorem Un.any (u : Un fs ex H H1 h h1) {b : Addr} {ob : Obj} (q : h.get? b = some ob) (n : H b = none) (hx : b ∉ ex) : ∃ sl, h1.get? b = some { ob with slots := sl } := by
 by_cases hb : b ∈ fs
 . exact u.slot b ob q n hb hx
 . exact ⟨ob.slots, u.keep b ob q n hb hx⟩
theorem Un.kept (k : ∀ b u, h.get? b = some u -> h'.get? b = some u) : Un fs ex H H h h' :=
 ⟨fun b ob q _ _ _ => k b ob q, fun b ob q _ _ _ => ⟨ob.slots, k b ob q⟩, fun _ _ _ n _ => n, fun b ob q _ => ⟨ob, k b ob q⟩, fun _ _ q => q, fun _ _ _ q => q, fun _ ps q => ⟨#[], by rw [q]; simp⟩⟩
theorem Un.refl : Un fs ex H H h h := Un.kept fun _ _ q => q
theorem Un.laid (k : ∀ b u, h.get? b = some u -> h'.get? b = some u) (hp : h.objs.size <= a) (hn : H a = none) : Un fs ex H (upd H a o) h h' where
 keep := fun b u q _ _ _ => k b u q
 slot := fun b u q _ _ _ => ⟨u.slots, k b u q⟩
 free := fun b u q n _ => by rw [aA (anA (anD (ang q) hp))]; exact n
 there := fun b u q _ => ⟨u, k b u q⟩
 Cm := fun b xs q => by rw [aA (aK q hn)]; exact q
 ju := fun b u xs q => by rw [aA (aK q hn)]; exact q
 Cp := fun b ps q => ⟨#[], by rw [aA (aK q hn), q]; simp⟩
theorem Un.write (mu : Mut (H x)) (he : e = x \/ H e = some (.own x)) (k : ∀ b u, b ≠ e -> h.get? b = some u -> h'.get? b = some u) (heo : ∃ u, h'.get? e = some u) : Un fs ex H (upd H x o) h h' := by
 have hx : ∀ b, H b = none -> b ≠ x := fun b n z => by subst z; rw [n] at mu; exact mu
 have hb : ∀ b, H b = none -> b ≠ e := fun b n z => by
   subst z
   rcases he with r | r
   . exact hx b n r
   . rw [n] at r; cases r
 have hm : ∀ b u, H b = some u -> ¬ Mut (some u) -> b ≠ x := fun b u q nm z => by subst z; rw [q] at mu; exact nm mu
 refine ⟨fun b u q n _ _ => k b u (hb b n) q, fun b u q n _ _ => ⟨u.slots, k b u (hb b n) q⟩, fun b u q n _ => by rw [aA (hx b n)]; exact n, fun b u q _ => ?_,
   fun b xs q => by rw [aA (hm b _ q fun z => z)]; exact q, fun b u xs q => by rw [aA (hm b _ q fun z => z)]; exact q, fun b ps q => ⟨#[], by rw [aA (hm b _ q fun z => z), q]; simp⟩⟩
 by_cases hbe : b = e
 . subst hbe; exact heo
 . exact ⟨u, k b u hbe q⟩
end
noncomputable def trk (h : Heap) (H : Hp) : List Addr := (List.range h.objs.size).filter fun a => (H a).isSome
noncomputable def AQ (h : Heap) (H : Hp) : Heap := PySem.W.hideAll h (trk h H)
theorem Nb (h : Heap) (H : Hp) : (AQ h H).objs.size = h.objs.size := PySem.W.hideAll_size _ _
theorem P8 {h : Heap} {H : Hp} {b : Addr} {o : Obj} (e : h.get? b = some o) (n : H b = none) : (AQ h H).get? b = some o :=
 PySem.W.hideAll_get _ e fun hm => by
   have q : (H b).isSome = true := (anB.mp hm).2
   rw [n] at q; simp at q
theorem U6 {h : Heap} {H : Hp} {b : Addr} {o : Obj} (e : (AQ h H).get? b = some o) : h.get? b = some o /\ H b = none := by
 have e' : h.get? b = some o := PySem.W.of_hideAll (trk h H) e
 refine ⟨e', ?_⟩
 cases q : H b with
 | none => rfl
 | some x =>
   have hm : b ∈ trk h H := anB.mpr ⟨anN.mpr (ang e'), by simp [q]⟩
   have z : (AQ h H).get? b = none := PySem.W.hideAll_none (trk h H) hm
   rw [z] at e; cases e
noncomputable def U7 (g h : Heap) (L : Addr) : List (Addr × Obj) := (List.range h.objs.size).filterMap fun a => if a = L \/ (g.get? a).isSome = true then none else (h.get? a).map fun o => (a, o)
noncomputable def rest (g h : Heap) (L d : Addr) : List (Addr × Obj) := (U7 g h L).filter fun p => decide (p.1 ≠ d)
structure Mod (K : PySem.W.Frag) (mg : Str -> Option Value) (base : Heap) : Prop where
 kin : K.In base
 glob : base.Ns mainGlobals mg
 blt : ∃ mb, base.Ns builtinsNs mb /\ ∀ x : Str, x ≠ "__name__" -> mb x = bootBuiltins x
 nolimit : base.NoLimit
structure Cx where
 prog : Program
 w : World
 K : PySem.W.Frag
 mg : Str -> Option Value
 base : Heap
 A : Around
 N : List Str
 s₀ : Shared
 H₀ : Hp
 env : Env
 outer : List Env
 stack : List Env
 ex : List Addr
 fn : Str -> Bool
 calm : Bool
 pn : List (Addr × Obj)
 xe : Value -> Shared -> Prop
noncomputable def P1 (l : List Env) : List Addr := l.filterMap (·.frame)
noncomputable abbrev Cx.fs (X : Cx) : List Addr := P1 X.outer
noncomputable def Vis (sc : Scope) (x : Str) : Prop := sc.names.lookup x = some .local \/ sc.names.lookup x = some .cell \/ sc.names.lookup x = some .free
noncomputable def Loc (sc : Scope) (x : Str) : Prop := sc.names.lookup x = some .local \/ sc.names.lookup x = some .cell
noncomputable def Look (env : Env) (h : Heap) (m : Str -> Option Value) (x : Str) (u : Value) : Prop :=
 (env.kindOf x = some .local /\ m x = some u) \/ ((env.kindOf x = some .cell \/ env.kindOf x = some .free) /\ ∃ c, env.cells.lookup x = some c /\ h.IsCell c (some u))
structure Cx.Ok (X : Cx) : Prop where
 mod : Mod X.K X.mg X.base
 kind : X.env.scope.kind = .function
 glob : X.env.globals = mainGlobals
 blt : X.env.builtins = builtinsNs
 above : X.s₀.heap.objs.size <= X.env.locals
 inj : ∀ x y c, X.env.cells.lookup x = some c -> X.env.cells.lookup y = some c -> x = y
 has : ∀ x, (X.env.kindOf x = some .cell \/ X.env.kindOf x = some .free) -> ∃ c, X.env.cells.lookup x = some c
 cab : ∀ x c, X.fn x = true -> X.env.cells.lookup x = some c -> X.s₀.heap.objs.size <= c
 hd : X.calm = true -> X.A.handled = none
 frames : X.A.frames = some X.stack
 stk : X.stack = X.outer \/ (X.stack = X.env :: X.outer /\ X.env.frame = some X.env.locals)
 exf : ∀ b ∈ X.ex, b ≠ X.env.locals /\ ∀ x c, X.env.cells.lookup x = some c -> c ≠ b
 bs : ∀ b o, X.base.get? b = some o -> X.s₀.heap.get? b = some o /\ X.H₀ b = none
 UT : X.base.objs.size <= X.s₀.heap.objs.size
 P9 : ∀ b o, X.base.get? b = some o -> b ∉ X.ex
 U8 : ∀ b ∈ X.ex, b ∉ X.fs
 xx : X.s₀.heap.FunFrames X.base X.outer
 frf : ∀ b ∈ X.fs, X.H₀ b = none
structure Inv (X : Cx) (pins : List (Addr × Obj)) (σ : List (Option V)) (H : Hp) (s : Shared) : Prop where
 ok : X.Ok
 os : s.os = X.s₀.os
 bare : AllBare s.gens
 base : Un X.fs X.ex X.H₀ H X.s₀.heap s.heap
 loc : ∃ m, s.heap.Ns X.env.locals m /\ ∀ (i : Nat) (x : Str) (v : V), X.N[i]? = some x -> σ[i]? = some (some v) -> Vis X.env.scope x -> ∃ u, RelV v u /\ Look X.env s.heap m x u
 cell : ∀ x c, X.env.cells.lookup x = some c -> ∃ v, s.heap.IsCell c v
 free : H X.env.locals = none
 ou : ∀ x c, X.env.cells.lookup x = some c -> H c = none
 pin : ∀ p ∈ X.pn ++ pins, s.heap.get? p.1 = some p.2 /\ H p.1 = none /\ p.1 ≠ X.env.locals /\ p.1 ∉ X.fs /\ ∀ v, p.2.data ≠ .cell v
 dU : rP X.prog X.w H s.heap
 len : σ.length = X.N.length
section
variable {X : Cx} {pins : List (Addr × Obj)} {σ : List (Option V)} {H H' : Hp} {s : Shared} {h' : Heap}
theorem Cx.Ok.ahS (ok : X.Ok) {b : Addr} {o : Obj} (e : X.base.get? b = some o) : b ∉ X.fs := fun hb => by
 have := (ok.xx.mem hb).1
 rw [e] at this; cases this
theorem Inv.bs (I : Inv X pins σ H s) : ∀ b o, X.base.get? b = some o -> s.heap.get? b = some o /\ H b = none := fun b o e =>
 ⟨I.base.keep b o (I.ok.bs b o e).1 (I.ok.bs b o e).2 (I.ok.ahS e) (I.ok.P9 b o e), I.base.free b o (I.ok.bs b o e).1 (I.ok.bs b o e).2 (I.ok.P9 b o e)⟩
theorem Inv.bk (I : Inv X pins σ H s) : ∀ b o, X.base.get? b = some o -> s.heap.get? b = some o := fun b o e => (I.bs b o e).1
theorem Inv.mod (I : Inv X pins σ H s) : Mod X.K X.mg X.base := I.ok.mod
theorem Inv.F3 (I : Inv X pins σ H s) : X.K.In s.heap := I.ok.mod.kin.keeps I.bk
theorem Inv.nolimit (I : Inv X pins σ H s) : s.heap.NoLimit := I.ok.mod.nolimit.keeps I.bk
theorem Inv.lt (I : Inv X pins σ H s) : X.env.locals < s.heap.objs.size := let ⟨_, hn, _⟩ := I.loc; hn.lt
theorem Inv.sz (I : Inv X pins σ H s) : X.s₀.heap.objs.size <= s.heap.objs.size := anL I.ok.above (anY I.lt)
theorem Inv.ahT (I : Inv X pins σ H s) {a : Addr} (h : s.heap.objs.size <= a) : a ∉ X.fs := fun hb => by
 obtain ⟨_, o, ho, _⟩ := I.ok.xx.mem hb
 exact absurd (anD (ang ho) (anL I.sz h)) (aoI _)
theorem Inv.cne (I : Inv X pins σ H s) : ∀ x c, X.env.cells.lookup x = some c -> c ≠ X.env.locals := fun x c e z => by
 obtain ⟨v, o, ho, hd⟩ := I.cell x c e
 obtain ⟨m, ⟨o', es, ep, U9, Va, _⟩, _⟩ := I.loc
 rw [z, U9] at ho; cases ho; rw [Va] at hd; cases hd
theorem Inv.xx (I : Inv X pins σ H s) : s.heap.FunFrames X.base X.outer := by
 have all : ∀ (l : List Env), (∀ b ∈ P1 l, b ∈ X.fs) -> X.s₀.heap.FunFrames X.base l -> s.heap.FunFrames X.base l := by
   intro l
   induction l with
   | nil => intro _ _; trivial
   | cons env r ih =>
     intro hs hl
     obtain ⟨hk, ⟨L, o, hf, hn, ho, hd⟩, hr⟩ := hl
     have hL : L ∈ X.fs := hs L (by unfold P1; rw [an6, hf]; exact am0)
     obtain ⟨sl, e⟩ := I.base.slot L o ho (I.ok.frf L hL) hL fun z => I.ok.U8 L z hL
     exact ⟨hk, ⟨L, _, hf, hn, e, hd⟩, ih (fun b hb => hs b (by unfold P1; rw [an6, hf]; exact am2 _ hb)) hr⟩
 exact all X.outer (fun _ hb => hb) I.ok.xx
theorem Inv.stack (I : Inv X pins σ H s) : s.heap.FunFrames X.base X.stack := by
 rcases I.ok.stk with e | ⟨e, hf⟩
 . rw [e]; exact I.xx
 . rw [e]
   obtain ⟨m, hn, _⟩ := I.loc
   refine .cons (by rw [I.ok.kind]; decide) hf hn ?_ I.xx
   exact Heap.get?_none_of_le (anL I.ok.UT I.ok.above)
theorem Inv.Cq (I : Inv X pins σ H s) : ∀ b ∈ P1 X.stack, b ∈ X.env.locals :: X.fs := fun b hb => by
 rcases I.ok.stk with e | ⟨e, hf⟩
 . rw [e] at hb; exact am2 _ hb
 . rw [e] at hb
   unfold P1 at hb
   rw [an6, hf] at hb
   exact hb
theorem Inv.Cr (I : Inv X pins σ H s) : ∀ b ∈ P1 X.stack, H b = none := fun b hb => by
 rcases am1.mp (I.Cq b hb) with e | hb
 . rw [e]; exact I.free
 . obtain ⟨_, o, ho, _⟩ := I.ok.xx.mem hb
   exact I.base.free b o ho (I.ok.frf b hb) fun z => I.ok.U8 b z hb
theorem Inv.step {g' : Array GenState} {t' : Nat} {d' : Drawn} {ch : List Addr} (I : Inv X pins σ H s)
   (hch : ∀ b ∈ ch, (b ∈ X.ex \/ X.s₀.heap.objs.size <= b) /\ b ≠ X.env.locals /\ (∀ x c, X.env.cells.lookup x = some c -> c ≠ b) /\ ∀ p ∈ X.pn ++ pins, p.1 ≠ b)
   (keep : ∀ b o, b ≠ X.env.locals -> b ∉ X.fs -> b ∉ ch -> s.heap.get? b = some o -> H b = none -> h'.get? b = some o)
   (slot : ∀ b o, b ≠ X.env.locals -> b ∈ X.fs -> b ∉ ch -> s.heap.get? b = some o -> H b = none -> ∃ sl, h'.get? b = some { o with slots := sl }) (free : ∀ b o, b ∉ ch -> s.heap.get? b = some o -> H b = none -> H' b = none)
   (there : ∀ b o, b ∉ ch -> s.heap.get? b = some o -> ∃ o', h'.get? b = some o')
   (Cm : ∀ b xs, H b = some (.tup xs) -> H' b = some (.tup xs)) (ju : ∀ b o u, H b = some (.fE o u) -> H' b = some (.fE o u)) (Cp : ∀ b ps, H b = some (.tbl ps) -> ∃ more, H' b = some (.tbl (ps ++ more)))
   (ns : ∀ m, s.heap.Ns X.env.locals m -> h'.Ns X.env.locals m) (dU : rP X.prog X.w H' h') (hg : AllBare g') :
   Inv X pins σ H' { s with heap := h', gens := g', drawn := d', toks := t' } := by
 have neL : ∀ b o, X.s₀.heap.get? b = some o -> b ≠ X.env.locals := fun b o e => anA (anD (ang e) I.ok.above)
 have neC : ∀ b o, X.s₀.heap.get? b = some o -> b ∉ X.ex -> b ∉ ch := fun b o e hx hb => by
   rcases (hch b hb).1 with z | z
   . exact hx z
   . exact absurd (anD (ang e) z) (aoI _)
 have cellK : ∀ x c, X.env.cells.lookup x = some c -> ∀ v, s.heap.IsCell c v -> h'.IsCell c v := fun x c e v ⟨o, ho, hd⟩ => by
   have nch : c ∉ ch := fun z => (hch c z).2.2.1 x c e rfl
   by_cases hc : c ∈ X.fs
   . obtain ⟨sl, q⟩ := slot c o (I.cne x c e) hc nch ho (I.ou x c e)
     exact ⟨_, q, hd⟩
   . exact ⟨o, keep c o (I.cne x c e) hc nch ho (I.ou x c e), hd⟩
 refine ⟨I.ok, I.os, hg, ⟨fun b o e n hb hx => ?_, fun b o e n hb hx => ?_, fun b o e n hx => ?_, fun b o e hx => ?_, fun b xs e => Cm b xs (I.base.Cm b xs e), fun b o xs e => ju b o xs (I.base.ju b o xs e), fun b ps e => ?_⟩, ?_, fun x c e => ?_, ?_, fun x c e => ?_, fun p hp => ?_, dU, I.len⟩
 . exact keep b o (neL b o e) hb (neC b o e hx) (I.base.keep b o e n hb hx) (I.base.free b o e n hx)
 . obtain ⟨sl, e1⟩ := I.base.slot b o e n hb hx
   obtain ⟨sl', e2⟩ := slot b _ (neL b o e) hb (neC b o e hx) e1 (I.base.free b o e n hx)
   exact ⟨sl', e2⟩
 . obtain ⟨o', e1⟩ := I.base.there b o e hx
   exact free b o' (neC b o e hx) e1 (I.base.free b o e n hx)
 . obtain ⟨o', e1⟩ := I.base.there b o e hx
   exact there b o' (neC b o e hx) e1
 . obtain ⟨m1, e1⟩ := I.base.Cp b ps e
   obtain ⟨m2, e2⟩ := Cp b _ e1
   exact ⟨m1 ++ m2, by rw [e2, Array.append_assoc]⟩
 . obtain ⟨m, hn, hl⟩ := I.loc
   refine ⟨m, ns m hn, fun i x v e1 e2 e3 => ?_⟩
   obtain ⟨u, r, l⟩ := hl i x v e1 e2 e3
   refine ⟨u, r, ?_⟩
   rcases l with l | ⟨k, c, e, z⟩
   . exact .inl l
   . exact .inr ⟨k, c, e, cellK x c e _ z⟩
 . obtain ⟨v, z⟩ := I.cell x c e
   exact ⟨v, cellK x c e v z⟩
 . obtain ⟨m, ⟨o, _, _, ho, _⟩, _⟩ := I.loc
   exact free _ o (fun z => (hch _ z).2.1 rfl) ho I.free
 . obtain ⟨v, o, ho, hd⟩ := I.cell x c e
   exact free c o (fun z => (hch c z).2.2.1 x c e rfl) ho (I.ou x c e)
 . obtain ⟨e, n, ne, nf, d⟩ := I.pin p hp
   have nch : p.1 ∉ ch := fun z => (hch p.1 z).2.2.2 p hp rfl
   exact ⟨keep p.1 p.2 ne nf nch e n, free p.1 p.2 nch e n, ne, nf, d⟩
theorem Inv.un {t' : Nat} (I : Inv X pins σ H s) (u : Un X.fs [] H H' s.heap h') (dU : rP X.prog X.w H' h') : Inv X pins σ H' { s with heap := h', toks := t' } := by
 obtain ⟨m, ⟨o, es, ep, ho, r⟩, _⟩ := id I.loc
 obtain ⟨sl, hL⟩ := u.any ho I.free (by simp)
 exact I.step (g' := s.gens) (d' := s.drawn) (ch := []) (fun _ z => nomatch z) (fun b o _ hb _ e n => u.keep b o e n hb (by simp)) (fun b o _ hb _ e n => u.slot b o e n hb (by simp)) (fun b o _ e n => u.free b o e n (by simp)) (fun b o _ e => u.there b o e (by simp)) u.Cm u.ju u.Cp (fun m' hm => by
   obtain ⟨o', es', ep', U9, r'⟩ := hm
   rw [ho] at U9; cases U9
   exact ⟨_, es', ep', hL, r'⟩) dU I.bare
theorem Inv.call {g' : Array GenState} {t' : Nat} {d' : Drawn} {ch : List Addr} (I : Inv X pins σ H s) (u : Un (P1 X.stack) ch H H' s.heap h') (dU : rP X.prog X.w H' h') (hg : AllBare g')
   (hch : ∀ b ∈ ch, (b ∈ X.ex \/ X.s₀.heap.objs.size <= b) /\ b ≠ X.env.locals /\ (∀ x c, X.env.cells.lookup x = some c -> c ≠ b) /\ ∀ p ∈ X.pn ++ pins, p.1 ≠ b) :
   Inv X pins σ H' { s with heap := h', gens := g', drawn := d', toks := t' } := by
 obtain ⟨m, ⟨o, es, ep, ho, r⟩, _⟩ := id I.loc
 obtain ⟨sl, hL⟩ := u.any ho I.free fun z => (hch _ z).2.1 rfl
 exact I.step (ch := ch) hch (fun b o hL hb hc e n => u.keep b o e n (fun z => (am1.mp (I.Cq b z)).elim hL hb) hc) (fun b o _ _ hc e n => u.any e n hc) (fun b o hc e n => u.free b o e n hc) (fun b o hc e => u.there b o e hc) u.Cm u.ju u.Cp (fun m' hm => by
   obtain ⟨o', es', ep', U9, r'⟩ := hm
   rw [ho] at U9; cases U9
   exact ⟨_, es', ep', hL, r'⟩) dU hg
theorem Inv.turned {t' : Nat} {it : Addr} (I : Inv X pins σ H s) (k : ∀ b o, b ≠ it -> s.heap.get? b = some o -> h'.get? b = some o) (hn : H it = none) (hL : it ≠ X.env.locals)
   (h1 : it ∈ X.ex \/ X.s₀.heap.objs.size <= it) (h2 : ∀ x c, X.env.cells.lookup x = some c -> c ≠ it) (h3 : ∀ p ∈ X.pn ++ pins, p.1 ≠ it) : Inv X pins σ H { s with heap := h', toks := t' } := by
 have nit : ∀ b u, H b = some u -> b ≠ it := fun b u e z => by rw [z, hn] at e; cases e
 refine I.step (g' := s.gens) (d' := s.drawn) (ch := [it]) (fun b hb => ?_) (fun b o _ _ hc e _ => k b o (fun z => hc (by simp [z])) e) (fun b o _ _ hc e _ => ⟨o.slots, k b o (fun z => hc (by simp [z])) e⟩) (fun _ _ _ _ n => n)
   (fun b o hc e => ⟨o, k b o (fun z => hc (by simp [z])) e⟩) (fun _ _ e => e) (fun _ _ _ e => e) (fun b ps e => ⟨#[], by rw [e]; simp⟩) (fun m hm => ?_) (fun b u e => ?_) I.bare
 . have e : b = it := by simpa using hb
   subst e
   exact ⟨h1, hL, h2, h3⟩
 . obtain ⟨o, es, ep, ho, r⟩ := hm
   exact ⟨o, es, ep, k _ o (Ne.symm hL) ho, r⟩
 . refine (I.dU b u e).Ck (fun c v hc q => k c v ?_ q) (fun _ q => q) fun _ _ q => q
   rcases hc with z | z
   . rw [z]; exact nit b u e
   . exact nit c _ z
theorem Inv.tok (I : Inv X pins σ H s) (t : Nat) : Inv X pins σ H { s with toks := t } := I.un (h' := s.heap) (t' := t) Un.refl I.dU
theorem Inv.kept {t' : Nat} (I : Inv X pins σ H s) (k : ∀ b u, s.heap.get? b = some u -> h'.get? b = some u) : Inv X pins σ H { s with heap := h', toks := t' } := I.un (Un.kept k) (I.dU.kept k)
theorem Inv.laid {a : Addr} {o : HO} {t' : Nat} (I : Inv X pins σ H s) (k : ∀ b u, s.heap.get? b = some u -> h'.get? b = some u) (hp : s.heap.objs.size <= a) (new : eY X.prog X.w (upd H a o) h' a o) :
   Inv X pins σ (upd H a o) { s with heap := h', toks := t' } := I.un (Un.laid k hp (I.dU.fresh hp)) (I.dU.laid k hp new)
theorem Inv.write {x e : Addr} {o : HO} {t' : Nat} (I : Inv X pins σ H s) (mu : Mut (H x)) (he : e = x \/ H e = some (.own x)) (k : ∀ b u, b ≠ e -> s.heap.get? b = some u -> h'.get? b = some u) (heo : ∃ u, h'.get? e = some u)
   (new : eY X.prog X.w (upd H x o) h' x o) : Inv X pins σ (upd H x o) { s with heap := h', toks := t' } := I.un (Un.write mu he k heo) (I.dU.write mu he k heo new)
theorem Inv.xJ {jQ : List (Addr × Obj)} (I : Inv X pins σ H s) (h : ∀ p ∈ jQ, s.heap.get? p.1 = some p.2 /\ H p.1 = none /\ p.1 ≠ X.env.locals /\ p.1 ∉ X.fs /\ ∀ v, p.2.data ≠ .cell v) : Inv X jQ σ H s :=
 ⟨I.ok, I.os, I.bare, I.base, I.loc, I.cell, I.free, I.ou, fun p hp => (am3.mp hp).elim (fun z => I.pin p (am7 _ z)) (h p), I.dU, I.len⟩
theorem F7 {N : List Str} (hN : N.Nodup) {i j : Nat} {x : Str} (a : N[i]? = some x) (b : N[j]? = some x) : i = j := by
 obtain ⟨h1, e1⟩ := anf.mp a
 obtain ⟨h2, e2⟩ := anf.mp b
 exact (List.getElem_inj hN).mp (e1.trans e2.symm)
theorem Nf {M : Model} {A : Around} {E : Value -> Shared -> Prop} {i : Nat} {x : Str} {v : V} {u : Value} {Q : Unit -> Shared -> Prop} (I : Inv X pins σ H s) (hN : X.N.Nodup) (hi : X.N[i]? = some x) (hx : Loc X.env.scope x) (r : RelV v u)
   (h : ∀ s', Inv X pins (σ.set i (some v)) H s' -> (∃ a, Heap.SameBut a s.heap s'.heap /\ (a = X.env.locals \/ X.env.cells.lookup x = some a)) -> Q () s') (hf : X.fn x = true \/ X.env.scope.names.lookup x = some .local := by first | exact .inl rfl | exact .inr rfl | assumption) : wpAny M A (storeName X.env x u) Q E s := by
 obtain ⟨m, hn, hl⟩ := id I.loc
 have ahW : (X.env.scope.kind == .class || (X.env.scope.kind == .module && X.env.locals != X.env.globals)) = false := by rw [I.ok.kind]; rfl
 have hiσ : i < σ.length := by rw [I.len]; exact (anf.mp hi).1
 have cne := I.cne
 have tracked : ∀ {a : Addr} {h' : Heap}, (∃ o, s.heap.get? a = some o /\ H a = none) -> Heap.SameBut a s.heap h' -> rP X.prog X.w H h' := fun {a h'} ha hs b ob e => by
   obtain ⟨_, _, F8⟩ := ha
   refine (I.dU b ob e).Ck (fun c w' hc q => (hs.2 c ?_).trans q) (fun _ q => q) fun _ _ q => q
   rintro rfl
   rcases hc with rfl | hc
   . rw [F8] at e; cases e
   . rw [F8] at hc; cases hc
 rcases hx with hk | hk
 . refine wpAny_storeName_local hk hn (fun h' hn' hs => ?_) ahW
   obtain ⟨oL, _, _, hoL, _⟩ := id hn
   refine h _ ⟨I.ok, I.os, I.bare, ⟨fun b o e n hb hx => ?_, fun b o e n hb hx => ?_, I.base.free, fun b o e hx => ?_, I.base.Cm, I.base.ju, I.base.Cp⟩, ⟨_, hn', fun j y v' e1 e2 e3 => ?_⟩, fun y c e => ?_, I.free, I.ou, fun p hp => ?_, tracked ⟨oL, hoL, I.free⟩ hs, by simpa using I.len⟩ ⟨_, hs, .inl rfl⟩
   . exact (hs.2 b (anA (anD (ang e) I.ok.above))).trans (I.base.keep b o e n hb hx)
   . obtain ⟨sl, e1⟩ := I.base.slot b o e n hb hx
     exact ⟨sl, (hs.2 b (anA (anD (ang e) I.ok.above))).trans e1⟩
   . obtain ⟨o', e1⟩ := I.base.there b o e hx
     exact ⟨o', (hs.2 b (anA (anD (ang e) I.ok.above))).trans e1⟩
   . by_cases hj : j = i
     . subst hj
       rw [hi] at e1; cases e1
       rw [List.getElem?_set_self hiσ] at e2
       cases e2
       exact ⟨u, r, .inl ⟨hk, by simp⟩⟩
     . rw [List.getElem?_set_ne (Ne.symm hj)] at e2
       obtain ⟨u', r', q⟩ := hl j y v' e1 e2 e3
       refine ⟨u', r', ?_⟩
       rcases q with ⟨k, e⟩ | ⟨k, c, e, z⟩
       . refine .inl ⟨k, ?_⟩
         have : y ≠ x := fun e => hj (F7 hN e1 (e ▸ hi))
         simp [this, e]
       . exact .inr ⟨k, c, e, z.sameBut hs (cne y c e)⟩
   . obtain ⟨w', z⟩ := I.cell y c e
     exact ⟨w', z.sameBut hs (cne y c e)⟩
   . obtain ⟨e, n, ne, nf, d⟩ := I.pin p hp
     exact ⟨(hs.2 p.1 ne).trans e, n, ne, nf, d⟩
 . have hfn : X.fn x = true := by
     rcases hf with z | z
     . exact z
     . rw [z] at hk; cases hk
   obtain ⟨c, hc⟩ := I.ok.has x (.inl hk)
   obtain ⟨w', z⟩ := I.cell x c hc
   refine wpAny_storeName_cell I.ok.kind hk hc z (fun h' Qa hs => ?_)
   obtain ⟨oc, hoc, ahY⟩ := id z
   refine h { s with heap := h' } ⟨I.ok, I.os, I.bare, ⟨fun b o e n hb hx => ?_, fun b o e n hb hx => ?_, I.base.free, fun b o e hx => ?_, I.base.Cm, I.base.ju, I.base.Cp⟩, ⟨m, hn.sameBut hs (Ne.symm (cne x c hc)), fun j y v' e1 e2 e3 => ?_⟩, fun y c' e => ?_, I.free, I.ou, fun p hp => ?_, tracked ⟨oc, hoc, I.ou x c hc⟩ hs, by simpa using I.len⟩ ⟨c, hs, .inr hc⟩
   . exact (hs.2 b (anA (anD (ang e) (I.ok.cab x c hfn hc)))).trans (I.base.keep b o e n hb hx)
   . obtain ⟨sl, e1⟩ := I.base.slot b o e n hb hx
     exact ⟨sl, (hs.2 b (anA (anD (ang e) (I.ok.cab x c hfn hc)))).trans e1⟩
   . obtain ⟨o', e1⟩ := I.base.there b o e hx
     exact ⟨o', (hs.2 b (anA (anD (ang e) (I.ok.cab x c hfn hc)))).trans e1⟩
   . by_cases hj : j = i
     . subst hj
       rw [hi] at e1; cases e1
       rw [List.getElem?_set_self hiσ] at e2
       cases e2
       exact ⟨u, r, .inr ⟨.inl hk, c, hc, Qa⟩⟩
     . rw [List.getElem?_set_ne (Ne.symm hj)] at e2
       obtain ⟨u', r', q⟩ := hl j y v' e1 e2 e3
       refine ⟨u', r', ?_⟩
       rcases q with q | ⟨k, c', e, z'⟩
       . exact .inl q
       . refine .inr ⟨k, c', e, z'.sameBut hs ?_⟩
         rintro rfl
         exact hj (F7 hN e1 (I.ok.inj _ _ _ e hc ▸ hi))
   . by_cases hcc : c' = c
     . subst hcc; exact ⟨_, Qa⟩
     . obtain ⟨w2, z2⟩ := I.cell y c' e
       exact ⟨w2, z2.sameBut hs hcc⟩
   . obtain ⟨e, n, ne, nf, d⟩ := I.pin p hp
     refine ⟨(hs.2 p.1 ?_).trans e, n, ne, nf, d⟩
     intro q
     rw [q, hoc] at e
     have q' : oc = p.2 := anj e
     exact d w' (by rw [← q']; exact ahY)
theorem F9 {M : Model} {A : Around} {E : Value -> Shared -> Prop} {i : Nat} {x : Str} {v : V} {u : Value} {Q : Unit -> Shared -> Prop} (I : Inv X pins σ H s) (hN : X.N.Nodup) (hi : X.N[i]? = some x) (hx : Loc X.env.scope x) (r : RelV v u)
   (h : ∀ s', Inv X pins (σ.set i (some v)) H s' -> Q () s') (hf : X.fn x = true \/ X.env.scope.names.lookup x = some .local := by first | exact .inl rfl | exact .inr rfl | assumption) : wpAny M A (storeName X.env x u) Q E s :=
 Nf I hN hi hx r (fun s' I' _ => h s' I') hf
end
noncomputable abbrev XK := Value -> Option Addr -> Hp -> Prop
noncomputable abbrev St := List (Option V)
noncomputable abbrev VK := V -> Hp -> Prop
noncomputable abbrev TE := St -> Hp -> VK -> Prop
noncomputable abbrev TT := St -> Hp -> (Bool -> Hp -> Prop) -> Prop
noncomputable abbrev TA := St -> Hp -> (List V -> Hp -> Prop) -> Prop
structure Ends where
 nx : St -> Hp -> Prop
 rt : VK
 bk : St -> Hp -> Prop := fun _ _ => False
 ct : St -> Hp -> Prop := fun _ _ => False
noncomputable abbrev TS := Ends -> St -> Hp -> Prop
noncomputable def EP (X : Cx) (pins : List (Addr × Obj)) (σ : St) (Q : VK) (u : Value) (s' : Shared) : Prop := ∃ v H', Inv X pins σ H' s' /\ RelV v u /\ Q v H'
noncomputable def TP (X : Cx) (pins : List (Addr × Obj)) (σ : St) (Q : Bool -> Hp -> Prop) (b : Bool) (s' : Shared) : Prop := ∃ H', Inv X pins σ H' s' /\ Q b H'
noncomputable def AP (X : Cx) (pins : List (Addr × Obj)) (σ : St) (Q : List V -> Hp -> Prop) (us : List Value) (s' : Shared) : Prop := ∃ vs H', Inv X pins σ H' s' /\ Vals vs us /\ Q vs H'
noncomputable def SP (X : Cx) (pins : List (Addr × Obj)) (D : Ends) (f : Flow) (s' : Shared) : Prop :=
 match f with
 | .next => ∃ σ' H', Inv X pins σ' H' s' /\ D.nx σ' H'
 | .brk => ∃ σ' H', Inv X pins σ' H' s' /\ D.bk σ' H'
 | .cont => ∃ σ' H', Inv X pins σ' H' s' /\ D.ct σ' H'
 | .ret u => ∃ v σ' H', Inv X pins σ' H' s' /\ RelV v u /\ D.rt v H'
noncomputable def PE (X : Cx) (e : Expr) (t : TE) : Prop :=
 ∀ (pins : List (Addr × Obj)) (s : Shared) (σ : St) (H : Hp) (Q : VK), Inv X pins σ H s -> t σ H Q -> wpAny (model X.prog X.w) X.A (eval e X.env) (EP X pins σ Q) X.xe s
noncomputable def PT (X : Cx) (e : Expr) (t : TT) : Prop :=
 ∀ (pins : List (Addr × Obj)) (s : Shared) (σ : St) (H : Hp) (Q : Bool -> Hp -> Prop), Inv X pins σ H s -> t σ H Q -> wpAny (model X.prog X.w) X.A (isTrue e X.env (eval e X.env)) (TP X pins σ Q) X.xe s
noncomputable def PW (X : Cx) (e : Expr) (t : TT) : Prop :=
 ∀ (whole : Sem Value) (pins : List (Addr × Obj)) (s : Shared) (σ : St) (H : Hp) (Q : Bool -> Hp -> Prop), Inv X pins σ H s -> t σ H Q -> wpAny (model X.prog X.w) X.A (isTrue e X.env whole) (TP X pins σ Q) X.xe s
noncomputable def PA (X : Cx) (es : List Expr) (t : TA) : Prop :=
 ∀ (pos : Pos) (pins : List (Addr × Obj)) (s : Shared) (σ : St) (H : Hp) (Q : List V -> Hp -> Prop), Inv X pins σ H s -> t σ H Q -> wpAny (model X.prog X.w) X.A (spliced (backTo pos (starEach es X.env))) (AP X pins σ Q) X.xe s
noncomputable def PS (X : Cx) (st : Stmt) (t : TS) : Prop :=
 ∀ (pins : List (Addr × Obj)) (s : Shared) (σ : St) (H : Hp) (D : Ends), Inv X pins σ H s -> t D σ H -> wpAny (model X.prog X.w) X.A (exec st X.env) (SP X pins D) X.xe s
noncomputable def Jd (X : Cx) (st : List Stmt) (t : TS) : Prop :=
 ∀ (pins : List (Addr × Obj)) (s : Shared) (σ : St) (H : Hp) (D : Ends), Inv X pins σ H s -> t D σ H -> wpAny (model X.prog X.w) X.A (execs st X.env) (SP X pins D) X.xe s
theorem fz {α : Type} {t : Sem α} {Q Q' : α -> Shared -> Prop} {M : Model} {A : Around} {E : Value -> Shared -> Prop} {s : Shared} (h : wpAny M A t Q E s) (hQ : ∀ a s, Q a s -> Q' a s) : wpAny M A t Q' E s := aok h hQ fun _ _ x => x
section
variable {X : Cx}
noncomputable def ahZ (i : Nat) : TE := fun σ H Q => ∃ v, σ[i]? = some (some v) /\ Q v H
noncomputable def tC (v : V) : TE := fun _ H Q => Q v H
theorem ow {i : Nat} {x : Str} {pos : Pos} (hN : X.N[i]? = some x) (hv : Vis X.env.scope x) (hd : (x == ("__debug__" : Str)) = false := by decide) (jy : (x == ("__classdict__" : Str)) = false := by decide) : PE X (.Name x pos) (ahZ i) := by
 intro pins s σ H Q I h
 obtain ⟨v, e, h⟩ := h
 obtain ⟨m, hn, hl⟩ := I.loc
 obtain ⟨u, r, l⟩ := hl i x v hN e hv
 have fin : EP X pins σ Q u s := ⟨v, H, I, r, h⟩
 rcases l with ⟨hk, hm⟩ | ⟨hk, c, hc, wI⟩
 . exact wpAny_Name (wpAny_loadName_local I.ok.kind hk hn hm fin) hd
 . rcases hk with hk | hk
   . exact wpAny_Name (wpAny_loadName_cell I.ok.kind hk hc wI fin) hd
   . exact wpAny_Name (wpAny_loadName_free I.ok.kind hk hc wI fin jy) hd
theorem aa3 {i j pos} : PE X (.Constant (.int i) j pos) (tC (.int i)) := fun _ _ _ H _ I h => wpAny_Constant_int ⟨.int i, H, I.tok _, ⟨_, rfl⟩, h⟩
theorem aeK {b j pos} : PE X (.Constant (.bool b) j pos) (tC (.bl b)) := fun _ _ _ H _ I h => Constant_bool ⟨.bl b, H, I, rfl, h⟩
theorem aa4 {x j pos} : PE X (.Constant (.str x) j pos) (tC (.str x)) := fun _ _ _ H _ I h => Calls.Constant_str ⟨.str x, H, I.tok _, ⟨_, rfl⟩, h⟩
noncomputable def Gl (X : Cx) (x : Str) : Prop := X.env.kindOf x = some .globalImplicit
theorem xK {E : Value -> Shared -> Prop} {pins : List (Addr × Obj)} {s : Shared} {σ : St} {H : Hp} {x : Str} {u : Value} {pos : Pos} {Q : Value -> Shared -> Prop} (I : Inv X pins σ H s) (hg : Gl X x) (hm : X.mg x = some u) (h : Q u s)
   (hd : (x == ("__debug__" : Str)) = false := by decide) : wpAny (model X.prog X.w) X.A (eval (.Name x pos) X.env) Q E s :=
 Calls.Name_function_global I.ok.kind hg (Calls.loadGlobal_global (by rw [I.ok.glob]; exact I.mod.glob.keeps I.bk) hm h) hd
theorem rQ {E : Value -> Shared -> Prop} {pins : List (Addr × Obj)} {s : Shared} {σ : St} {H : Hp} {x : Str} {u : Value} {pos : Pos} {Q : Value -> Shared -> Prop} (I : Inv X pins σ H s) (hg : Gl X x) (hm : X.mg x = none) (hv : bootBuiltins x = some u) (h : Q u s)
   (hn : x ≠ "__name__" := by decide) (hd : (x == ("__debug__" : Str)) = false := by decide) : wpAny (model X.prog X.w) X.A (eval (.Name x pos) X.env) Q E s := by
 obtain ⟨mb, h1, h2⟩ := I.mod.blt
 exact Calls.Name_function_global I.ok.kind hg (Calls.loadGlobal_builtin (by rw [I.ok.glob]; exact I.mod.glob.keeps I.bk) hm (by rw [I.ok.blt]; exact h1.keeps I.bk) ((h2 x hn).trans hv) h) hd
theorem Vb {x : Str} {v : V} {u : Value} {pos : Pos} (hg : Gl X x) (hm : X.mg x = some u) (r : RelV v u) (hd : (x == ("__debug__" : Str)) = false := by decide) : PE X (.Name x pos) (tC v) :=
 fun _ _ _ H _ I h => xK I hg hm ⟨v, H, I, r, h⟩ hd
theorem Vc {x : Str} {v : V} {u : Value} {pos : Pos} (hg : Gl X x) (hm : X.mg x = none) (hv : bootBuiltins x = some u) (r : RelV v u) (hn : x ≠ "__name__" := by decide) (hd : (x == ("__debug__" : Str)) = false := by decide) : PE X (.Name x pos) (tC v) :=
 fun _ _ _ H _ I h => rQ I hg hm hv ⟨v, H, I, r, h⟩ hn hd
variable {a b : Expr} {ta tb : TE} {pos : Pos}
noncomputable def tB (t : TE) : TT := fun σ H Q => t σ H fun x H1 => ∃ c, x = .bl c /\ Q c H1
theorem aa5 {e : Expr} {t : TE} (h : PE X e t) (he : ∀ whole, isTrue e X.env whole = (do let v ← whole; standAt e.pos; holding [v] (truthy v)) := by intro _; rfl) : PT X e (tB t) := by
 intro pins s σ H Q I hw
 refine isTrue_plain (fz (h pins s σ H _ I hw) fun v s1 zz => ?_) (he _)
 obtain ⟨x, H1, I1, r1, q1⟩ := zz
 obtain ⟨d, rfl, q⟩ := q1
 cases r1
 exact aoz ⟨H1, I1, q⟩
variable {tA tB' : TT} {rest : List Expr}
noncomputable def ah0 (t u : TT) : TT := fun σ H Q => t σ H fun c H1 => if c = true then u σ H1 Q else Q false H1
noncomputable def tOr (t u : TT) : TT := fun σ H Q => t σ H fun c H1 => if c = true then Q true H1 else u σ H1 Q
noncomputable def ah1 (t : TT) : TT := fun σ H Q => t σ H fun c H1 => Q (!c) H1
theorem Vd (ha : PT X a tA) : PW X (.BoolOp .And [a] pos) tA := by
 intro wh pins s σ H Q I h
 refine isTrue_and (fz (ha pins s σ H Q I h) fun c s1 e => ?_)
 cases c with
 | true => exact isTrue_and_nil e
 | false => exact e
theorem aa6 (ha : PT X a tA) : PW X (.BoolOp .Or [a] pos) tA := by
 intro wh pins s σ H Q I h
 refine isTrue_or (fz (ha pins s σ H Q I h) fun c s1 e => ?_)
 cases c with
 | false => exact isTrue_or_nil e
 | true => exact e
theorem aa7 (ha : PT X a tA) (hb : PW X (.BoolOp .And (b :: rest) pos) tB') : PW X (.BoolOp .And (a :: b :: rest) pos) (ah0 tA tB') := by
 intro wh pins s σ H Q I h
 refine isTrue_and (fz (ha pins s σ H _ I h) fun c s1 zz => ?_)
 obtain ⟨H1, I1, q1⟩ := zz
 cases c with
 | true => exact hb wh pins s1 σ H1 Q I1 q1
 | false => exact ⟨H1, I1, q1⟩
theorem aeL (ha : PT X a tA) (hb : PW X (.BoolOp .Or (b :: rest) pos) tB') : PW X (.BoolOp .Or (a :: b :: rest) pos) (tOr tA tB') := by
 intro wh pins s σ H Q I h
 refine isTrue_or (fz (ha pins s σ H _ I h) fun c s1 zz => ?_)
 obtain ⟨H1, I1, q1⟩ := zz
 cases c with
 | true => exact ⟨H1, I1, q1⟩
 | false => exact hb wh pins s1 σ H1 Q I1 q1
theorem aa8 (ha : PT X a tA) : PT X (.UnaryOp .Not a pos) (ah1 tA) := by
 intro pins s σ H Q I h
 exact isTrue_not (ha pins s σ H (fun c H1 => Q (!c) H1) I h)
noncomputable def aeM (ta tb : TE) : TE := fun σ H Q => ta σ H fun x H1 => ∃ c, x = .bl c /\ if c = true then tb σ H1 Q else Q (.bl false) H1
noncomputable def ah2 (ta tb : TE) : TE := fun σ H Q => ta σ H fun x H1 => ∃ c, x = .bl c /\ if c = true then Q (.bl true) H1 else tb σ H1 Q
noncomputable def aeN (ta : TE) : TE := fun σ H Q => ta σ H fun x H1 => ∃ c, x = .bl c /\ Q (.bl (!c)) H1
theorem aa9 {op} {t : TE} (h : PE X a t) : PE X (.BoolOp op [a] pos) t := fun pins s σ H Q I hw => BoolOp_one (h pins s σ H Q I hw)
theorem abb (ha : PE X a ta) (hb : PE X (.BoolOp .And (b :: rest) pos) tb) : PE X (.BoolOp .And (a :: b :: rest) pos) (aeM ta tb) := by
 intro pins s σ H Q I h
 refine BoolOp_and (fz (ha pins s σ H _ I h) fun v s1 zz => ?_)
 obtain ⟨x, H1, I1, r1, q1⟩ := zz
 obtain ⟨c, rfl, q1⟩ := q1
 cases r1
 refine aoz ?_
 cases c with
 | true => exact hb pins s1 σ H1 Q I1 q1
 | false => exact ⟨.bl false, H1, I1, rfl, q1⟩
theorem aeO (ha : PE X a ta) (hb : PE X (.BoolOp .Or (b :: rest) pos) tb) : PE X (.BoolOp .Or (a :: b :: rest) pos) (ah2 ta tb) := by
 intro pins s σ H Q I h
 refine BoolOp_or (fz (ha pins s σ H _ I h) fun v s1 zz => ?_)
 obtain ⟨x, H1, I1, r1, q1⟩ := zz
 obtain ⟨c, rfl, q1⟩ := q1
 cases r1
 refine aoz ?_
 cases c with
 | false => exact hb pins s1 σ H1 Q I1 q1
 | true => exact ⟨.bl true, H1, I1, rfl, q1⟩
theorem abd (ha : PE X a ta) : PE X (.UnaryOp .Not a pos) (aeN ta) := by
 intro pins s σ H Q I h
 refine UnaryOp_ (fz (ha pins s σ H _ I h) fun v s1 zz => ?_)
 obtain ⟨x, H1, I1, r1, q1⟩ := zz
 obtain ⟨c, rfl, q1⟩ := q1
 cases r1
 exact not_of (aoz ⟨.bl (!c), H1, I1, rfl, q1⟩)
end
noncomputable def oj (K : PySem.W.Frag) (H : Hp) (a : Addr) (xs : List V) : Prop :=
 Rd H a (.lst xs) ∨
   ∃ (o : Obj) (its : Array Value) (n : Nat), K.lookup a = some o /\ o.cls = .type "list" /\ o.dict = none /\ o.data = .seq its n /\ its.size <= sizeLine /\ Vals xs its.toList
noncomputable def yE (K : PySem.W.Frag) (H : Hp) (a : Addr) (xs : List V) : Prop :=
 Rd H a (.tup xs) ∨
   ∃ (o : Obj) (its : Array Value) (n : Nat), K.lookup a = some o /\ o.cls = .type "tuple" /\ o.data = .seq its n /\ its.size <= sizeLine /\ Vals xs its.toList
noncomputable def ah3 : Value -> Option V
 | .none => some .non
 | .bool b => some (.bl b)
 | .int i _ => some (.int i)
 | .str x _ => some (.str x)
 | .bytes b _ => some (.P0 b)
 | .float b _ => some (.flt b)
 | .ref a => some (.ref a)
 | .type n => some (.ty n)
 | _ => none
theorem RelV.abs {x : V} {u : Value} (r : RelV x u) : ah3 u = some x := by
 cases x with
 | non => cases r; rfl
 | bl _ => cases r; rfl
 | int _ => obtain ⟨t, rfl⟩ := r; rfl
 | str _ => obtain ⟨t, rfl⟩ := r; rfl
 | P0 _ => obtain ⟨t, rfl⟩ := r; rfl
 | flt _ => obtain ⟨t, rfl⟩ := r; rfl
 | ref _ => cases r; rfl
 | ty _ => cases r; rfl
theorem RelV.inj {x y : V} {u : Value} (r : RelV x u) (q : RelV y u) : x = y := anj (r.abs.symm.trans q.abs)
theorem Vals.inj {xs ys : List V} {us : List Value} (h : Vals xs us) (q : Vals ys us) : xs = ys := by
 induction h generalizing ys with
 | nil => cases q; rfl
 | cons r _ i => cases q with
   | cons r' t' => rw [r.inj r', i t']
section
variable {X : Cx} {pins : List (Addr × Obj)} {σ : St} {H : Hp} {s : Shared} {a : Addr} {xs ys : List V}
theorem oj.of {K : PySem.W.Frag} (h : H a = some (.lst xs)) : oj K H a xs := .inl (.inl h)
theorem yE.of {K : PySem.W.Frag} (h : H a = some (.tup xs)) : yE K H a xs := .inl (.inl h)
theorem Inv.list (I : Inv X pins σ H s) (h : oj X.K H a xs) : ∃ its : List Value, Vals xs its /\ PlainL s.heap a its.toArray /\ xs.length <= sizeLine := by
 rcases h with h | ⟨o, its, n, hk, hc, hd, hs, hz, r⟩
 . obtain ⟨z, its, n, r, e⟩ := h.ok I.dU
   exact ⟨its, r, ⟨_, n, e, rfl, rfl, rfl⟩, z⟩
 . refine ⟨its.toList, r, ⟨o, n, I.F3 a o hk, hc, hd, by simpa using hs⟩, ?_⟩
   have e := r.length
   simp only [aoh] at e
   omega
theorem Inv.tuple (I : Inv X pins σ H s) (h : yE X.K H a xs) : ∃ its : List Value, Vals xs its /\ IsTup s.heap a its.toArray /\ xs.length <= sizeLine := by
 rcases h with h | ⟨o, its, n, hk, hc, hs, hz, r⟩
 . obtain ⟨z, its, r, p⟩ := h.ok I.dU
   exact ⟨its, r, p, z⟩
 . refine ⟨its.toList, r, ⟨o, I.F3 a o hk, hc, n, by simpa using hs⟩, ?_⟩
   have e := r.length
   simp only [aoh] at e
   omega
theorem Inv.Ga (I : Inv X pins σ H s) (h : oj X.K H a xs) (h' : oj X.K H a ys) : xs = ys := by
 obtain ⟨its, r, ⟨o, n, e, _, _, d⟩, _⟩ := I.list h
 obtain ⟨its', r', ⟨o', n', e', _, _, d'⟩, _⟩ := I.list h'
 rw [e] at e'; cases e'
 rw [d] at d'
 injection d' with d1 _
 have : its = its' := by simpa using congrArg Array.toList d1
 subst this
 exact r.inj r'
theorem Inv.Ng (I : Inv X pins σ H s) (h : yE X.K H a xs) (h' : yE X.K H a ys) : xs = ys := by
 obtain ⟨its, r, ⟨o, e, _, n, d⟩, _⟩ := I.tuple h
 obtain ⟨its', r', ⟨o', e', _, n', d'⟩, _⟩ := I.tuple h'
 rw [e] at e'; cases e'
 rw [d] at d'
 injection d' with d1 _
 have : its = its' := by simpa using congrArg Array.toList d1
 subst this
 exact r.inj r'
end
noncomputable abbrev Cx.wish (X : Cx) (E : Value -> Shared -> Prop) : Cx := { X with xe := E }
noncomputable abbrev Cx.UU (X : Cx) : Cx := X.wish fun _ _ => False
theorem Cx.Ok.wish {X : Cx} (ok : X.Ok) (E : Value -> Shared -> Prop) : (X.wish E).Ok :=
 ⟨ok.mod, ok.kind, ok.glob, ok.blt, ok.above, ok.inj, ok.has, ok.cab, ok.hd, ok.frames, ok.stk, ok.exf, ok.bs, ok.UT, ok.P9, ok.U8, ok.xx, ok.frf⟩
theorem Cx.Ok.oz {X : Cx} {E : Value -> Shared -> Prop} (ok : (X.wish E).Ok) : X.Ok :=
 ⟨ok.mod, ok.kind, ok.glob, ok.blt, ok.above, ok.inj, ok.has, ok.cab, ok.hd, ok.frames, ok.stk, ok.exf, ok.bs, ok.UT, ok.P9, ok.U8, ok.xx, ok.frf⟩
section
variable {X : Cx} {pins : List (Addr × Obj)} {σ : St} {H : Hp} {s : Shared} {E : Value -> Shared -> Prop}
theorem Inv.wish (I : Inv X pins σ H s) (E : Value -> Shared -> Prop) : Inv (X.wish E) pins σ H s := ⟨I.ok.wish E, I.os, I.bare, I.base, I.loc, I.cell, I.free, I.ou, I.pin, I.dU, I.len⟩
theorem Inv.oz (I : Inv (X.wish E) pins σ H s) : Inv X pins σ H s := ⟨I.ok.oz, I.os, I.bare, I.base, I.loc, I.cell, I.free, I.ou, I.pin, I.dU, I.len⟩
theorem SP.oz {D : Ends} {f : Flow} {s' : Shared} (h : SP (X.wish E) pins D f s') : SP X pins D f s' := by
 cases f with
 | next => obtain ⟨σ', H', I, q⟩ := h; exact ⟨σ', H', I.oz, q⟩
 | brk => obtain ⟨σ', H', I, q⟩ := h; exact ⟨σ', H', I.oz, q⟩
 | cont => obtain ⟨σ', H', I, q⟩ := h; exact ⟨σ', H', I.oz, q⟩
 | ret u => obtain ⟨v, σ', H', I, r, q⟩ := h; exact ⟨v, σ', H', I.oz, r, q⟩
theorem Jd.UU {st : List Stmt} {t : TS} (h : Jd X.UU st t) : Jd X st t := fun pins s σ H D I hw =>
 aok (h pins s σ H D (I.wish _) hw) (fun _ _ q => q.oz) fun _ _ z => False.elim z
end
section
variable {X : Cx} {st : Stmt} {rest : List Stmt} {t u : TS} {e : Expr} {te : TE} {pos : Pos}
noncomputable def aeP : TS := fun D σ H => D.nx σ H
noncomputable def ah4 (t u : TS) : TS := fun D σ H => t { D with nx := u D } σ H
theorem Ve : Jd X [] aeP := fun _ _ σ H _ I h => wpAny_execs_nil ⟨σ, H, I, h⟩
theorem Qc (h1 : PS X st t) (h2 : Jd X rest u) : Jd X (st :: rest) (ah4 t u) := by
 intro pins s σ H D I h
 refine wpAny_execs_cons (fz (h1 pins s σ H { D with nx := u D } I h) fun f s1 q => ?_)
 cases f with
 | next =>
   obtain ⟨σ', H', I', q⟩ := q
   exact h2 pins s1 σ' H' D I' q
 | ret v => exact q
 | brk => exact q
 | cont => exact q
noncomputable def abe : TS := fun D σ H => D.bk σ H
noncomputable def aeQ : TS := fun D σ H => D.ct σ H
theorem Qd : PS X (.Break pos) abe := fun _ _ σ H _ I h => wpAny_Break ⟨σ, H, I, h⟩
theorem Gb : PS X (.Continue pos) aeQ := fun _ _ σ H _ I h => wpAny_Continue ⟨σ, H, I, h⟩
theorem Inv.quiet {pins : List (Addr × Obj)} {σ : St} {H : Hp} {s : Shared} (I : Inv X pins σ H s) : interactive X.env = false := by simp [interactive, I.ok.kind]
noncomputable def aeR (te : TE) : TS := fun D σ H => te σ H fun _ H1 => D.nx σ H1
theorem Vf (he : PE X e te) (hs : swapsWith e none pos.line X.env = pure false := by rfl) : PS X (.Expr e pos) (aeR te) := by
 intro pins s σ H D I h
 exact wpAny_Expr_any (fz (he pins s σ H _ I h) fun v s1 ⟨x, H1, I1, r1, q1⟩ => ⟨σ, H1, I1, q1⟩) I.quiet hs
noncomputable def ah5 (te : TE) : TS := fun D σ H => te σ H D.rt
theorem abf (he : PE X e te) : PS X (.Return (some e) pos) (ah5 te) := by
 intro pins s σ H D I h
 exact wpAny_Return_some (fz (he pins s σ H _ I h) fun v s1 ⟨x, H1, I1, r1, q1⟩ => ⟨x, σ, H1, I1, r1, q1⟩)
noncomputable def ah6 (c : TT) (t u : TS) : TS := fun D σ H => c σ H fun b H1 => if b = true then t D σ H1 else u D σ H1
theorem aeS {c : Expr} {a b : List Stmt} {tc : TT} (hc : PT X c tc) (ha : Jd X a t) (hb : Jd X b u) : PS X (.If c a b pos) (ah6 tc t u) := by
 intro pins s σ H D I h
 refine wpAny_If (fz (hc pins s σ H _ I h) fun d s1 zz => ?_)
 obtain ⟨H1, I1, q1⟩ := zz
 cases d with
 | true => exact ha pins s1 σ H1 D I1 q1
 | false => exact hb pins s1 σ H1 D I1 q1
end
noncomputable abbrev TG := V -> St -> Hp -> (St -> Hp -> Prop) -> Prop
noncomputable abbrev TGs := List V -> St -> Hp -> (St -> Hp -> Prop) -> Prop
noncomputable def PG (X : Cx) (target : Expr) (t : TG) : Prop :=
 ∀ (pins : List (Addr × Obj)) (s : Shared) (σ : St) (H : Hp) (v : V) (u : Value) (Q : St -> Hp -> Prop), Inv X pins σ H s -> RelV v u -> t v σ H Q →
   wpAny (model X.prog X.w) X.A (assign target X.env u) (fun _ s' => ∃ σ' H', Inv X pins σ' H' s' /\ Q σ' H') X.xe s
noncomputable def PGs (X : Cx) (ts : List Expr) (t : TGs) : Prop :=
 ∀ (pins : List (Addr × Obj)) (s : Shared) (σ : St) (H : Hp) (vs : List V) (us : List Value) (Q : St -> Hp -> Prop), Inv X pins σ H s -> Vals vs us -> t vs σ H Q →
   wpAny (model X.prog X.w) X.A (assignInOrder ((assignEach ts X.env).map (·.2)) us) (fun _ s' => ∃ σ' H', Inv X pins σ' H' s' /\ Q σ' H') X.xe s
noncomputable abbrev abh := V -> V -> V -> Hp -> (Hp -> Prop) -> Prop
noncomputable def aeT (X : Cx) (t : abh) : Prop :=
 ∀ (pins : List (Addr × Obj)) (s : Shared) (σ : St) (H : Hp) (o i v : V) (ov iv u : Value) (Q : Hp -> Prop), Inv X pins σ H s -> RelV o ov -> RelV i iv -> RelV v u -> t o i v H Q →
   wpAny (model X.prog X.w) X.A (setItem ov iv u) (fun _ s' => ∃ H', Inv X pins σ H' s' /\ Q H') X.xe s
section
variable {X : Cx} {pos : Pos}
noncomputable def wJ (i : Nat) : TG := fun v σ H Q => Q (σ.set i (some v)) H
theorem sP {i : Nat} {x : Str} (hN : X.N.Nodup) (hi : X.N[i]? = some x) (hx : Loc X.env.scope x) (hf : X.fn x = true \/ X.env.scope.names.lookup x = some .local := by first | exact .inl rfl | exact .inr rfl | assumption) : PG X (.Name x pos) (wJ i) := by
 intro pins s σ H v u Q I r h
 exact wpAny_assign_Name (F9 I hN hi hx r (fun s' I' => ⟨_, H, I', h⟩) hf)
noncomputable def abi : TGs := fun vs σ H Q => vs = [] /\ Q σ H
noncomputable def Gd (t : TG) (u : TGs) : TGs := fun vs σ H Q => ∃ v r, vs = v :: r /\ t v σ H fun σ' H' => u r σ' H' Q
theorem Vg : PGs X [] abi := by
 intro pins s σ H vs us Q I r h
 obtain ⟨e, h⟩ := h
 subst e
 cases r
 exact assignInOrder_nil ⟨σ, H, I, h⟩
theorem Ge {e : Expr} {es : List Expr} {t : TG} {u : TGs} (h1 : PG X e t) (h2 : PGs X es u)
   (hs : (assignEach (e :: es) X.env).map (·.2) = assign e X.env :: (assignEach es X.env).map (·.2) := by rfl) : PGs X (e :: es) (Gd t u) := by
 intro pins s σ H vs us Q I r h
 obtain ⟨v, vr, e1, h⟩ := h
 subst e1
 cases r with
 | cons r rr =>
   rw [hs]
   refine assignInOrder_cons (fz (h1 pins s σ H _ _ _ I r h) fun _ s1 zz => ?_)
   obtain ⟨σ1, H1, I1, q1⟩ := zz
   exact h2 pins s1 σ1 H1 _ _ Q I1 rr q1
noncomputable def abj (K : PySem.W.Frag) (n : Nat) (t : TGs) : TG := fun v σ H Q => ∃ a xs, v = .ref a /\ yE K H a xs /\ xs.length = n /\ t xs σ H Q
theorem abk {es : List Expr} {k : Nat} {t : TGs} {n : Nat} (hc : X.calm = true) (h : PGs X es t)
   (hn : (assignEach es X.env).length = n := by rfl) (Qe : (assignEach es X.env).findIdx? (·.1) = none := by rfl) : PG X (.Tuple es k pos) (abj X.K n t) := by
 intro pins s σ H v u Q I r hw
 obtain ⟨a, xs, e1, hq, hl, hw⟩ := hw
 subst e1
 cases r
 obtain ⟨its, rv, ht, hz⟩ := I.tuple hq
 refine assign_Tuple_tuple (I.ok.hd hc) ht (by simp [hn, ← hl, rv.length]) Qe fun h' hx => ?_
 have I1 : Inv X pins σ H { s with heap := h' } := I.kept (t' := s.toks) fun b o e => hx b o (anA (ang e)) e
 exact h pins _ σ H xs _ Q I1 (by simpa using rv) hw
noncomputable def ah7 (to ti : TE) (t : abh) : TG := fun v σ H Q => to σ H fun o H1 => ti σ H1 fun i H2 => t o i v H2 fun H3 => Q σ H3
theorem abl {o i : Expr} {to ti : TE} {t : abh} (ho : PE X o to) (hi : PE X i ti) (hs : aeT X t)
   (ha : ∀ v, assign (.Subscript o i pos) X.env v = (do
     let ov ← holding [v] (eval o X.env)
     let iv ← holding [v, ov] (eval i X.env)
     standAt pos
     holding [v, ov, iv] (setItem ov iv v)
     release [v, ov, iv] []) := by intro _; rfl) : PG X (.Subscript o i pos) (ah7 to ti t) := by
 intro pins s σ H v u Q I r h
 rw [ha]
 refine anh (ao0 (fz (ho pins s σ H _ I h) fun ov s1 zz => ?_))
 obtain ⟨x, H1, I1, r1, q1⟩ := zz
 refine anh (ao0 (fz (hi pins s1 σ H1 _ I1 q1) fun iv s2 zz => ?_))
 obtain ⟨y, H2, I2, r2, q2⟩ := zz
 refine anh (wpAny_standAt (anh (ao0 (fz (hs pins s2 σ H2 x y v ov iv u _ I2 r1 r2 r q2) fun _ s3 zz => ?_))))
 obtain ⟨H3, I3, q3⟩ := zz
 exact wpAny_release ⟨σ, H3, I3, q3⟩
noncomputable def aeU (te : TE) (g : TG) : TS := fun D σ H => te σ H fun x H1 => g x σ H1 D.nx
theorem abm {tg e : Expr} {te : TE} {g : TG} (he : PE X e te) (hg : PG X tg g) (hs : swapsWithSole [tg] e pos.line X.env = pure false := by rfl) (hw : swappedStores [tg] e X.env = pure none := by rfl)
   (h1 : (assignEach [tg] X.env).map (·.2) = [assign tg X.env] := by rfl) : PS X (.Assign [tg] e pos) (aeU te g) := by
 intro pins s σ H D I h
 refine wpAny_Assign_stores (fz (he pins s σ H _ I h) fun v s1 zz => ?_) hs hw
 obtain ⟨x, H1, I1, r1, q1⟩ := zz
 rw [h1]
 exact fz (hg pins s1 σ H1 x v _ I1 r1 q1) fun _ s2 q => q
theorem abn {i : Nat} {x : Str} {e : Expr} {te : TE} {pos' : Pos} (hN : X.N.Nodup) (hi : X.N[i]? = some x) (hx : Loc X.env.scope x) (he : PE X e te) (hs : swapsWith e (some (.Name x pos')) pos.line X.env = pure false := by rfl) (hf : X.fn x = true \/ X.env.scope.names.lookup x = some .local := by first | exact .inl rfl | exact .inr rfl | assumption) :
   PS X (.Assign [.Name x pos'] e pos) (aeU te (wJ i)) := by
 intro pins s σ H D I h
 refine wpAny_Assign_Name (fz (he pins s σ H _ I h) fun v s1 zz => ?_) hs
 obtain ⟨y, H1, I1, r1, q1⟩ := zz
 exact F9 I1 hN hi hx r1 (fun s2 I2 => ⟨_, H1, I2, q1⟩) hf
end
section
variable {X : Cx} {pos : Pos}
noncomputable def abo (c : TT) (tb : TS) : TS := fun D σ H => ∃ W : Nat -> St -> Hp -> Prop, (∃ m, W m σ H) /\ ∀ m σ H, W m σ H →
 c σ H fun b H1 => if b = true then ∃ N : St -> Hp -> Prop, (∀ σ' H', N σ' H' -> ∃ m', m' < m /\ W m' σ' H') /\ tb { D with nx := N, ct := N, bk := D.nx } σ H1 else D.nx σ H1
theorem Qf {c : Expr} {body : List Stmt} {tc : TT} {tb : TS} (hp : PassesOwn (model X.prog X.w) X.A X.env X.xe) (hc : PT X c tc) (hb : Jd X body tb) : PS X (.While c body [] pos) (abo tc tb) := by
 intro pins s σ H D I h
 obtain ⟨W, ⟨m0, w0⟩, turn⟩ := h
 refine wpAny_While (codeAny_whileLoop (fun n s' => ∃ σ' H', Inv X pins σ' H' s' /\ W n σ' H') ?_ m0 ⟨σ, H, I, w0⟩)
 rintro n s1 ⟨σ1, H1, I1, w1⟩
 refine aov hp (fz (hc pins s1 σ1 H1 _ I1 (turn n σ1 H1 w1)) fun b s2 zz => ?_)
 obtain ⟨H2, I2, q2⟩ := zz
 cases b with
 | true =>
   obtain ⟨N, hN, q2⟩ := q2
   rw [amZ rfl]
   refine aov hp (fz (hb pins s2 σ1 H2 _ I2 q2) fun f s3 q3 => ?_)
   cases f with
   | next =>
     obtain ⟨σ3, H3, I3, n3⟩ := q3
     obtain ⟨m', hm, w3⟩ := hN σ3 H3 n3
     exact ⟨m', hm, σ3, H3, I3, w3⟩
   | cont =>
     obtain ⟨σ3, H3, I3, n3⟩ := q3
     obtain ⟨m', hm, w3⟩ := hN σ3 H3 n3
     exact ⟨m', hm, σ3, H3, I3, w3⟩
   | brk => exact q3
   | ret v => exact q3
 | false =>
   rw [amV ane]
   exact wpAny_execs_nil ⟨σ1, H2, I2, q2⟩
end
structure It where
 go : Nat -> Hp -> Prop
 UW : Nat -> Hp -> V -> Hp -> Prop
 stop : Nat -> Hp -> Prop
noncomputable def jz (X : Cx) (pins : List (Addr × Obj)) (H : Hp) (b : Addr) : Prop :=
 H b = none /\ b ≠ X.env.locals /\ b ∉ X.fs /\ (b ∈ X.ex \/ X.s₀.heap.objs.size <= b) /\ (∀ x c, X.env.cells.lookup x = some c -> c ≠ b) /\ ∀ p ∈ X.pn ++ pins, p.1 ≠ b
theorem Inv.Ct {X : Cx} {pins : List (Addr × Obj)} {σ : St} {H H' : Hp} {s : Shared} {b : Addr} (I : Inv X pins σ H s) (hb : s.heap.objs.size <= b) (hn : H' b = none) : jz X pins H' b := by
 refine ⟨hn, Nat.ne_of_gt (anD I.lt hb), I.ahT hb, .inr (anL I.sz hb), fun x c e z => ?_, fun p hp z => ?_⟩
 . obtain ⟨v, q⟩ := I.cell x c e
   exact absurd (anD q.lt (by rw [z]; exact hb)) (aoI _)
 . exact absurd (anD (ang (I.pin p hp).1) (by rw [z]; exact hb)) (aoI _)
structure Turn (P : Program) (w : World) (K : PySem.W.Frag) (tg : Expr) (J : It) (fp : List Addr) (it : Addr) (tn : Nat -> Heap -> Prop) : Prop where
 mem : it ∈ fp
 obj : ∀ i h, tn i h -> ∀ b ∈ fp, ∃ o, h.get? b = some o /\ ∀ v, o.data ≠ .cell v
 keep : ∀ i h h', tn i h -> (∀ b ∈ fp, ∀ o, h.get? b = some o -> h'.get? b = some o) -> tn i h'
 item : ∀ (X : Cx), X.prog = P -> X.w = w -> X.K = K -> X.calm = true -> ∀ (i : Nat) (pins : List (Addr × Obj)) (s : Shared) (σ : St) (H : Hp) (E : Value -> Shared -> Prop), Inv X pins σ H s -> (∀ b ∈ fp, jz X pins H b) -> tn i s.heap -> J.go i H →
   wpAny (model P w) X.A (pyNext (.ref it)) (fun r s1 => ∃ u, r = some u ∧
     wpAny (model P w) X.A (letOwnedTupleGo tg (.ref it) u) (fun _ s2 => ∃ x H', Inv X pins σ H' s2 /\ RelV x u /\ J.UW i H x H' /\ tn (i + 1) s2.heap /\ ∀ b ∈ fp, H' b = none) E s1) E s
 done : ∀ (X : Cx), X.prog = P -> X.w = w -> X.K = K -> X.calm = true -> ∀ (i : Nat) (pins : List (Addr × Obj)) (s : Shared) (σ : St) (H : Hp) (E : Value -> Shared -> Prop), Inv X pins σ H s -> (∀ b ∈ fp, jz X pins H b) -> tn i s.heap -> J.stop i H →
   wpAny (model P w) X.A (pyNext (.ref it)) (fun r s1 => r = none /\ Inv X pins σ H s1) E s
 self : ∀ (A : Around) (i : Nat) (s : Shared) (Q : Value -> Shared -> Prop) (E : Value -> Shared -> Prop), tn i s.heap -> Q (.ref it) s -> wpAny (model P w) A (pyIter (.ref it)) Q E s
noncomputable abbrev TI := St -> Hp -> (It -> Hp -> Prop) -> Prop
noncomputable def PIE (X : Cx) (pins : List (Addr × Obj)) (σ : St) (tg : Expr) (R : It -> Hp -> Prop) (itv : Value) (s2 : Shared) : Prop :=
 ∃ (it : Addr) (fp : List Addr) (tn : Nat -> Heap -> Prop) (J : It) (H' : Hp), itv = .ref it /\ Inv X pins σ H' s2 /\ Turn X.prog X.w X.K tg J fp it tn /\ tn 0 s2.heap /\ (∀ b ∈ fp, jz X pins H' b) /\ R J H'
noncomputable def PI (X : Cx) (tg iter : Expr) (wi : TI) : Prop :=
 ∀ (pins : List (Addr × Obj)) (s : Shared) (σ : St) (H : Hp) (R : It -> Hp -> Prop), Inv X pins σ H s -> wi σ H R →
   wpAny (model X.prog X.w) X.A (eval iter X.env) (fun v s1 => wpAny (model X.prog X.w) X.A (pyIter v) (PIE X pins σ tg R) X.xe s1) X.xe s
theorem Qg {M : Model} {A : Around} {E : Value -> Shared -> Prop} {s : Shared} {tg : Expr} {it : Addr} {u : Value} {o : Obj} {n : String} {vs : Array Value} {Q : Unit -> Shared -> Prop} (ho : s.heap.get? it = some o) (hc : o.cls = .type n) (hd : o.data = .fields vs)
   (hn : ["enumerate", "zip", "dict_itemiterator", "dict_reverseitemiterator", "odict_iterator", "itertools.zip_longest", "itertools.pairwise"].contains n = false) (hQ : Q () s) : wpAny M A (letOwnedTupleGo tg (.ref it) u) Q E s := by
 unfold letOwnedTupleGo
 cases tg <;> first
   | exact anM hQ
   | (cases u <;> first
       | exact anM hQ
       | (refine anh (wpAny_load ho ?_)
          rw [hc, hd]
          show wpAny M A (if (["enumerate", "zip", "dict_itemiterator", "dict_reverseitemiterator", "odict_iterator", "itertools.zip_longest", "itertools.pairwise"].contains n && vs[0]? == some (rawInt _)) = true then _ else _) Q E s
          rw [amV (by intro h; rw [hn, Bool.false_and] at h; cases h)]
          exact anM hQ))
noncomputable def Itl (K : PySem.W.Frag) (a : Addr) : It :=
 ⟨fun i H => ∃ xs x, oj K H a xs /\ xs[i]? = some x, fun i H x H' => H' = H /\ ∀ xs, oj K H a xs -> xs[i]? = some x, fun i H => ∃ xs, oj K H a xs /\ xs.length <= i⟩
noncomputable def Itt (K : PySem.W.Frag) (a : Addr) : It :=
 ⟨fun i H => ∃ xs x, yE K H a xs /\ xs[i]? = some x, fun i H x H' => H' = H /\ ∀ xs, yE K H a xs -> xs[i]? = some x, fun i H => ∃ xs, yE K H a xs /\ xs.length <= i⟩
noncomputable def Itr (lo : Int) (n : Nat) : It := ⟨fun i _ => i < n, fun i H x H' => H' = H /\ x = .int (lo + i), fun i _ => n <= i⟩
theorem Nh {P : Program} {w : World} {K : PySem.W.Frag} {tg : Expr} (a it : Addr) : Turn P w K tg (Itl K a) [it] it (fun i h => h.IsListIter it a i) where
 mem := by simp
 obj := fun i h st b hb => by
   have e : b = it := by simpa using hb
   subst e
   obtain ⟨o, e, c, d⟩ := st
   exact ⟨o, e, fun v z => by rw [d] at z; cases z⟩
 keep := fun i h h' st k => st.at fun o e => k it (by simp) o e
 item := by
   intro X hP hw hK hc i pins s σ H E I hf st hg
   subst hP hw hK
   obtain ⟨xs, x, hq, hx⟩ := hg
   obtain ⟨its, rv, p, hz⟩ := I.list hq
   obtain ⟨u, hu, ru⟩ := rv.get hx
   obtain ⟨f0, f1, f2, f3, f4, f5⟩ := hf it (by simp)
   refine wpAny_pyNext_list_item st p.isList (x := u) (by simpa using hu) fun h' Je sb => ?_
   have I1 : Inv X pins σ H { s with heap := h' } := I.turned (t' := s.toks) (fun b o hb e => (sb.2 b hb).trans e) f0 f1 f3 f4 f5
   obtain ⟨o, e, c, d⟩ := id Je
   exact ⟨u, rfl, Qg (s := { s with heap := h' }) e c d (by decide) ⟨x, H, I1, ru, ⟨rfl, fun ys hy => by rw [I.Ga hy hq]; exact hx⟩, Je, fun b hb => (hf b hb).1⟩⟩
 done := by
   intro X hP hw hK hc i pins s σ H E I hf st hg
   subst hP hw hK
   obtain ⟨xs, hq, hx⟩ := hg
   obtain ⟨its, rv, p, hz⟩ := I.list hq
   obtain ⟨f0, f1, f2, f3, f4, f5⟩ := hf it (by simp)
   have hl := rv.length
   exact wpAny_pyNext_list_end (I.ok.hd hc) st p.isList (by simp; omega) fun h' eb => ⟨rfl, I.turned (t' := s.toks) (fun b o hb e => eb b o hb e) f0 f1 f3 f4 f5⟩
 self := fun _ _ _ _ _ st h => wpAny_pyIter_listiter st h
theorem Jf {P : Program} {w : World} {K : PySem.W.Frag} {tg : Expr} (a it : Addr) : Turn P w K tg (Itt K a) [it] it (fun i h => h.IsTupleIter it a i) where
 mem := by simp
 obj := fun i h st b hb => by
   have e : b = it := by simpa using hb
   subst e
   obtain ⟨o, e, c, d⟩ := st
   exact ⟨o, e, fun v z => by rw [d] at z; cases z⟩
 keep := fun i h h' st k => st.at fun o e => k it (by simp) o e
 item := by
   intro X hP hw hK hc i pins s σ H E I hf st hg
   subst hP hw hK
   obtain ⟨xs, x, hq, hx⟩ := hg
   obtain ⟨its, rv, p, hz⟩ := I.tuple hq
   obtain ⟨u, hu, ru⟩ := rv.get hx
   obtain ⟨f0, f1, f2, f3, f4, f5⟩ := hf it (by simp)
   refine wpAny_pyNext_tuple_item st (show s.heap.IsTuple a its.toArray from p) (x := u) (by simpa using hu) fun h' Je sb => ?_
   have I1 : Inv X pins σ H { s with heap := h' } := I.turned (t' := s.toks) (fun b o hb e => (sb.2 b hb).trans e) f0 f1 f3 f4 f5
   obtain ⟨o, e, c, d⟩ := id Je
   exact ⟨u, rfl, Qg (s := { s with heap := h' }) e c d (by decide) ⟨x, H, I1, ru, ⟨rfl, fun ys hy => by rw [I.Ng hy hq]; exact hx⟩, Je, fun b hb => (hf b hb).1⟩⟩
 done := by
   intro X hP hw hK hc i pins s σ H E I hf st hg
   subst hP hw hK
   obtain ⟨xs, hq, hx⟩ := hg
   obtain ⟨its, rv, p, hz⟩ := I.tuple hq
   obtain ⟨f0, f1, f2, f3, f4, f5⟩ := hf it (by simp)
   have hl := rv.length
   exact wpAny_pyNext_tuple_end (I.ok.hd hc) st (show s.heap.IsTuple a its.toArray from p) (by simp; omega) fun h' eb => ⟨rfl, I.turned (t' := s.toks) (fun b o hb e => eb b o hb e) f0 f1 f3 f4 f5⟩
 self := fun _ _ _ _ _ st h => wpAny_pyIter_tupleiter st h
theorem Jg {P : Program} {w : World} {K : PySem.W.Frag} {tg : Expr} (it : Addr) (lo : Int) (n : Nat) : Turn P w K tg (Itr lo n) [it] it (fun i h => IsRangeIter h it (lo + (i : Nat) * 1) ((n : Int) - (i : Nat)) 1) where
 mem := by simp
 obj := fun i h st b hb => by
   have e : b = it := by simpa using hb
   subst e
   exact ⟨_, st, fun v z => by
     have z' : Data.fields _ = Data.cell v := z
     cases z'⟩
 keep := fun i h h' st k => k it (by simp) _ st
 item := by
   intro X hP hw hK hc i pins s σ H E I hf st hg
   subst hP hw hK
   obtain ⟨f0, f1, f2, f3, f4, f5⟩ := hf it (by simp)
   have W := Walks.range (prog := X.prog) (w := X.w) (I.ok.hd hc) it lo 1 n
   refine W.item i s _ _ hg st fun v h' tk hv Je kk => ?_
   obtain ⟨t, rfl⟩ := hv
   have I1 : Inv X pins σ H { s with heap := h', toks := tk } := I.turned (fun b o hb e => kk b o (by simpa using hb) e) f0 f1 f3 f4 f5
   refine ⟨_, rfl, Qg (s := { s with heap := h', toks := tk }) (n := "range_iterator") Je rfl rfl (by decide) ⟨.int (lo + i), H, I1, ⟨t, ?_⟩, ⟨rfl, rfl⟩, Je, fun b hb => (hf b hb).1⟩⟩
   rw [Int.mul_one]
 done := by
   intro X hP hw hK hc i pins s σ H E I hf st hg
   subst hP hw hK
   obtain ⟨f0, f1, f2, f3, f4, f5⟩ := hf it (by simp)
   exact wpAny_pyNext_range_end (I.ok.hd hc) st (by have : n <= i := hg; omega) fun h' eb => ⟨rfl, I.turned (t' := s.toks) (fun b o hb e => eb b o hb e) f0 f1 f3 f4 f5⟩
 self := fun _ _ _ _ _ st h => wpAny_pyIter_rangeiter st h
section
variable {X : Cx} {tg : Expr}
noncomputable def aeW (K : PySem.W.Frag) (tl : TE) : TI := fun σ H R => tl σ H fun x H1 => ∃ a, x = .ref a /\ (∃ xs, oj K H1 a xs) /\ R (Itl K a) H1
noncomputable def ah8 (K : PySem.W.Frag) (tl : TE) : TI := fun σ H R => tl σ H fun x H1 => ∃ a, x = .ref a /\ (∃ xs, yE K H1 a xs) /\ R (Itt K a) H1
theorem LQ {l : Expr} {tl : TE} (hl : PE X l tl) : PI X tg l (aeW X.K tl) := by
 intro pins s σ H R I h
 refine fz (hl pins s σ H _ I h) fun v s1 zz => ?_
 obtain ⟨x, H1, I1, r1, q1⟩ := zz
 obtain ⟨a, e, ⟨xs, hq⟩, q⟩ := q1
 subst e
 cases r1
 obtain ⟨its, rv, p, hz⟩ := I1.list hq
 refine wpAny_pyIter_list p.isList ?_
 refine ⟨s1.heap.objs.size, [s1.heap.objs.size], _, _, H1, rfl, I1.kept (t' := s1.toks) fun b o e => ana _ e, Nh a _, ⟨_, anv _ rfl, rfl, rfl⟩, fun b hb => ?_, q⟩
 have e : b = s1.heap.objs.size := by simpa using hb
 subst e
 exact I1.Ct (am5 _) (I1.dU.fresh (am5 _))
theorem abp {l : Expr} {tl : TE} (hl : PE X l tl) : PI X tg l (ah8 X.K tl) := by
 intro pins s σ H R I h
 refine fz (hl pins s σ H _ I h) fun v s1 zz => ?_
 obtain ⟨x, H1, I1, r1, q1⟩ := zz
 obtain ⟨a, e, ⟨xs, hq⟩, q⟩ := q1
 subst e
 cases r1
 obtain ⟨its, rv, p, hz⟩ := I1.tuple hq
 refine wpAny_pyIter_tuple (show s1.heap.IsTuple a its.toArray from p) ?_
 refine ⟨s1.heap.objs.size, [s1.heap.objs.size], _, _, H1, rfl, I1.kept (t' := s1.toks) fun b o e => ana _ e, Jf a _, ⟨_, anv _ rfl, rfl, rfl⟩, fun b hb => ?_, q⟩
 have e : b = s1.heap.objs.size := by simpa using hb
 subst e
 exact I1.Ct (am5 _) (I1.dU.fresh (am5 _))
theorem Gf {pins : List (Addr × Obj)} {σ : St} {H : Hp} {s : Shared} {R : It -> Hp -> Prop} {E : Value -> Shared -> Prop} {lo hi : Int} {t u v : Tok} {tk : Nat} (I : Inv X pins σ H s) (h1 : -(2 ^ 62) <= lo) (h2 : lo < 2 ^ 62) (h3 : -(2 ^ 62) <= hi) (h4 : hi < 2 ^ 62)
   (q : R (Itr lo (hi - lo).toNat) H) : wpAny (model X.prog X.w) X.A (pyIter (.ref s.heap.objs.size)) (PIE X pins σ tg R) E { s with heap := s.heap.push { cls := .type "range", data := .fields #[.int lo t, .int hi u, .int 1 v] }, toks := tk } := by
 refine wpAny_pyIter_range (IsRange.new ..) (small_one h1 h2 h3 h4) ?_
 have I1 : Inv X pins σ H { s with heap := s.heap.push { cls := .type "range", data := .fields #[.int lo t, .int hi u, .int 1 v] }, toks := tk } := I.kept fun b o e => ana _ e
 refine ⟨(s.heap.push { cls := .type "range", data := .fields #[.int lo t, .int hi u, .int 1 v] }).objs.size, [(s.heap.push { cls := .type "range", data := .fields #[.int lo t, .int hi u, .int 1 v] }).objs.size], _, _, H, rfl,
   I1.kept (t' := tk) fun b o e => ana _ e, Jg _ lo (hi - lo).toNat, ?_, fun b hb => ?_, q⟩
 . have e1 : lo + ((0 : Nat) : Int) * 1 = lo := by simp
   have e2 : (((hi - lo).toNat : Nat) : Int) - ((0 : Nat) : Int) = Builtin.Range.rangeSize lo hi 1 := by rw [rangeSize_one]; split <;> omega
   show IsRangeIter _ _ (lo + ((0 : Nat) : Int) * 1) ((((hi - lo).toNat : Nat) : Int) - ((0 : Nat) : Int)) 1
   rw [e1, e2]
   exact anv _ rfl
 . have e : b = (s.heap.push { cls := .type "range", data := .fields #[.int lo t, .int hi u, .int 1 v] }).objs.size := by simpa using hb
   subst e
   exact I1.Ct (am5 _) (I1.dU.fresh (am5 _))
noncomputable def aeX (ta : TA) : TI := fun σ H R => ta σ H fun vs H1 => ∃ j : Int, vs = [.int j] /\ -(2 ^ 62) <= j /\ j < 2 ^ 62 /\ R (Itr 0 j.toNat) H1
noncomputable def aeY (ta : TA) : TI := fun σ H R => ta σ H fun vs H1 => ∃ i j : Int, vs = [.int i, .int j] /\ (-(2 ^ 62) <= i /\ i < 2 ^ 62 /\ -(2 ^ 62) <= j /\ j < 2 ^ 62) /\ R (Itr i (j - i).toNat) H1
theorem Ni {a : Expr} {ta : TA} {p pos : Pos} (hg : Gl X "range") (hm : X.mg "range" = none) (ha : PA X [a] ta) (hs : starEach [a] X.env = [(false, eval a X.env)] := by rfl) : PI X tg (.Call (.Name "range" p) [a] [] pos) (aeX ta) := by
 intro pins s σ H R I h
 refine Call_ (rQ I hg hm boot_range (aot (fz (ha pos pins s σ H _ I h) fun us s1 zz => ?_) hs rfl))
 obtain ⟨vs, H1, I1, r1, q1⟩ := zz
 obtain ⟨j, e, q1, q2, q⟩ := q1
 subst e
 cases r1 with
 | cons r rr =>
   cases rr
   obtain ⟨t, rfl⟩ := r
   exact call_range_1 (Gf I1 (by omega) (by omega) q1 q2 (by simpa using q))
theorem Nj {a b : Expr} {ta : TA} {p pos : Pos} (hg : Gl X "range") (hm : X.mg "range" = none) (ha : PA X [a, b] ta) (hs : starEach [a, b] X.env = [(false, eval a X.env), (false, eval b X.env)] := by rfl) (Jh : starEach [b] X.env = [(false, eval b X.env)] := by rfl) :
   PI X tg (.Call (.Name "range" p) [a, b] [] pos) (aeY ta) := by
 intro pins s σ H R I h
 refine Call_ (rQ I hg hm boot_range (aot (fz (ha pos pins s σ H _ I h) fun us s1 zz => ?_) (by rw [hs, Jh]) (by rw [Jh]; rfl)))
 obtain ⟨vs, H1, I1, r1, q1⟩ := zz
 obtain ⟨i, j, e, ⟨q1, q2, q3, q4⟩, q⟩ := q1
 subst e
 cases r1 with
 | cons r rr =>
   cases rr with
   | cons r' rr =>
     cases rr
     obtain ⟨t, rfl⟩ := r
     obtain ⟨t', rfl⟩ := r'
     exact call_range_2 (Gf I1 q1 q2 q3 q4 q)
noncomputable def ah9 (wi : TI) (g : TG) (tb : TS) : TS := fun D σ H => wi σ H fun J H1 => ∃ W : Nat -> Nat -> St -> Hp -> Prop, (∃ m, W 0 m σ H1) /\ ∀ i m σ H, W i m σ H →
 (J.stop i H /\ D.nx σ H) \/ (J.go i H /\ ∃ N : St -> Hp -> Prop, (∀ σ' H', N σ' H' -> ∃ m', m' < m /\ W (i + 1) m' σ' H') /\ ∀ x H', J.UW i H x H' -> g x σ H' fun σ2 H2 => tb { D with nx := N, ct := N, bk := D.nx } σ2 H2)
noncomputable def yF (fp : List Addr) (h : Heap) : List (Addr × Obj) := fp.filterMap fun b => (h.get? b).map fun o => (b, o)
theorem iP {fp : List Addr} {h : Heap} {b : Addr} {o : Obj} (hb : b ∈ fp) (e : h.get? b = some o) : (b, o) ∈ yF fp h := List.mem_filterMap.mpr ⟨b, hb, by rw [e]; rfl⟩
theorem Nk {fp : List Addr} {h : Heap} {p : Addr × Obj} (hp : p ∈ yF fp h) : p.1 ∈ fp /\ h.get? p.1 = some p.2 := by
 obtain ⟨b, hb, e⟩ := List.mem_filterMap.mp hp
 cases q : h.get? b with
 | none => rw [q] at e; cases e
 | some o =>
   rw [q] at e
   have e' : (b, o) = p := anj e
   subst e'
   exact ⟨hb, q⟩
theorem Inv.pinned {pins : List (Addr × Obj)} {σ : St} {H : Hp} {s : Shared} {fp : List Addr} (I : Inv X pins σ H s) (hf : ∀ b ∈ fp, jz X pins H b) (ho : ∀ b ∈ fp, ∃ o, s.heap.get? b = some o /\ ∀ v, o.data ≠ .cell v) : Inv X (pins ++ yF fp s.heap) σ H s :=
 I.xJ fun p hp => (am3.mp hp).elim (fun z => I.pin p (amU _ z)) fun z => by
   obtain ⟨hb, e⟩ := Nk z
   obtain ⟨f0, f1, f2, _⟩ := hf p.1 hb
   obtain ⟨o, e', d⟩ := ho p.1 hb
   rw [e] at e'; cases e'
   exact ⟨e, f0, f1, f2, d⟩
theorem Inv.oA {pins pl : List (Addr × Obj)} {σ : St} {H : Hp} {s : Shared} (I : Inv X (pins ++ pl) σ H s) : Inv X pins σ H s := I.xJ fun p hp => I.pin p (amU _ (am7 _ hp))
theorem Qh {iter : Expr} {body : List Stmt} {wi : TI} {g : TG} {tb : TS} {pos : Pos} (hp : PassesOwn (model X.prog X.w) X.A X.env X.xe) (hc : X.calm = true) (hi : PI X tg iter wi) (hg : PG X tg g) (hb : Jd X body tb)
   (hs : ∀ x, foldedSetIterable iter X.env x = pure x := by intro _; rfl) : PS X (.For tg iter body [] pos) (ah9 wi g tb) := by
 intro pins s σ H D I h
 refine wpAny_For (fz (hi pins s σ H _ I h) fun v s1 h1 => fz h1 fun itv s2 h2 => ?_) hs
 obtain ⟨it, fp, tn, J, H2, e, I2, T, st2, f2, W, ⟨m0, w0⟩, turn⟩ := h2
 subst e
 have stat : ∀ {H' : Hp}, (∀ b ∈ fp, H' b = none) -> ∀ b ∈ fp, jz X pins H' b := fun hn b hb => ⟨hn b hb, (f2 b hb).2⟩
 refine codeAny_forLoop_any (fun n s' => ∃ i σ' H', Inv X pins σ' H' s' /\ tn i s'.heap /\ (∀ b ∈ fp, H' b = none) /\ W i n σ' H') ?_ m0 ⟨0, σ, H2, I2, st2, fun b hb => (f2 b hb).1, w0⟩
 rintro n s3 ⟨i, σ3, H3, I3, st3, fr3, w3⟩
 rcases turn i n σ3 H3 w3 with ⟨stop, qn⟩ | ⟨go, N, hN, step⟩
 . refine aov hp (fz (T.done X rfl rfl rfl hc i pins s3 σ3 H3 X.xe I3 (stat fr3) st3 stop) fun r s4 zz => ?_)
   obtain ⟨hr, I4⟩ := zz
   subst hr
   exact wpAny_execs_nil ⟨σ3, H3, I4, qn⟩
 . refine aov hp (fz (T.item X rfl rfl rfl hc i pins s3 σ3 H3 X.xe I3 (stat fr3) st3 go) fun r s4 zz => ?_)
   obtain ⟨u, hr, h4⟩ := zz
   subst hr
   refine aov hp (fz h4 fun _ s5 zz => ?_)
   obtain ⟨x, H5, I5, r5, y5, st5, fr5⟩ := zz
   have I5' := I5.pinned (stat fr5) (T.obj _ _ st5)
   refine aov hp (fz (hg _ s5 σ3 H5 x u _ I5' r5 (step x H5 y5)) fun _ s6 zz => ?_)
   obtain ⟨σ6, H6, I6, q6⟩ := zz
   refine aov hp (fz (hb _ s6 σ6 H6 _ I6 q6) fun f s7 q7 => ?_)
   have again : ∀ {σ7 : St} {H7 : Hp}, Inv X (pins ++ yF fp s5.heap) σ7 H7 s7 -> N σ7 H7 -> ∃ m, m < n /\ ∃ i σ' H', Inv X pins σ' H' s7 /\ tn i s7.heap /\ (∀ b ∈ fp, H' b = none) /\ W i m σ' H' := fun {σ7 H7} I7 n7 => by
     obtain ⟨m', hm, w7⟩ := hN σ7 H7 n7
     refine ⟨m', hm, i + 1, σ7, H7, I7.oA, T.keep _ _ _ st5 fun b hb o e => (I7.pin (b, o) (amU _ (amU _ (iP hb e)))).1, fun b hb => ?_, w7⟩
     obtain ⟨o, e, d⟩ := T.obj _ _ st5 b hb
     exact (I7.pin (b, o) (amU _ (amU _ (iP hb e)))).2.1
   cases f with
   | next => obtain ⟨σ7, H7, I7, n7⟩ := q7; exact again I7 n7
   | cont => obtain ⟨σ7, H7, I7, n7⟩ := q7; exact again I7 n7
   | brk => obtain ⟨σ7, H7, I7, q7⟩ := q7; exact ⟨σ7, H7, I7.oA, q7⟩
   | ret v => obtain ⟨x7, σ7, H7, I7, r7, q7⟩ := q7; exact ⟨x7, σ7, H7, I7.oA, r7, q7⟩
end
noncomputable abbrev R2 := V -> V -> Hp -> VK -> Prop
noncomputable def vd (X : Cx) (f : Value -> Value -> Sem Value) (r : R2) : Prop :=
 ∀ (pins : List (Addr × Obj)) (s : Shared) (σ : St) (H : Hp) (x y : V) (v u : Value) (Q : VK), Inv X pins σ H s -> RelV x v -> RelV y u -> r x y H Q →
   wpAny (model X.prog X.w) X.A (f v u) (EP X pins σ Q) X.xe s
noncomputable def UnR (X : Cx) (f : Value -> Sem Value) (r : V -> Hp -> VK -> Prop) : Prop :=
 ∀ (pins : List (Addr × Obj)) (s : Shared) (σ : St) (H : Hp) (x : V) (v : Value) (Q : VK), Inv X pins σ H s -> RelV x v -> r x H Q →
   wpAny (model X.prog X.w) X.A (f v) (EP X pins σ Q) X.xe s
noncomputable def lP (X : Cx) (f : Value) (r : List V -> Hp -> VK -> Prop) : Prop :=
 ∀ (pins : List (Addr × Obj)) (s : Shared) (σ : St) (H : Hp) (xs : List V) (us : List Value) (Q : VK), Inv X pins σ H s -> Vals xs us -> r xs H Q →
   wpAny (model X.prog X.w) X.A (call f us) (EP X pins σ Q) X.xe s
noncomputable def tOp (r : R2) (ta tb : TE) : TE := fun σ H Q => ta σ H fun x H1 => tb σ H1 fun y H2 => r x y H2 Q
noncomputable def tUn (r : V -> Hp -> VK -> Prop) (ta : TE) : TE := fun σ H Q => ta σ H fun x H1 => r x H1 Q
noncomputable def rI (C : Int -> Int -> Prop) (g : Int -> Int -> V) : R2 := fun x y H Q => ∃ i j, x = .int i /\ y = .int j /\ C i j /\ Q (g i j) H
noncomputable def rI0 (g : Int -> Int -> V) : R2 := fun x y H Q => ∃ i j, x = .int i /\ y = .int j /\ Q (g i j) H
noncomputable def rU (g : Int -> V) : V -> Hp -> VK -> Prop := fun x H Q => ∃ i, x = .int i /\ Q (g i) H
section
variable {X : Cx} {a b c : Expr} {ta tb tc : TE} {pos : Pos}
theorem abq (ha : PE X a ta) (hb : PE X b tb) {pins : List (Addr × Obj)} {s : Shared} {σ : St} {H : Hp} {R : V -> V -> Hp -> Prop} (I : Inv X pins σ H s)
   (h : ta σ H fun x H1 => tb σ H1 fun y H2 => R x y H2) {Q : Value -> Shared -> Prop} {f : Value -> Value -> Sem Value}
   (hf : ∀ v u s2 x y H2, Inv X pins σ H2 s2 -> RelV x v -> RelV y u -> R x y H2 -> wpAny (model X.prog X.w) X.A (f v u) Q X.xe s2) :
   wpAny (model X.prog X.w) X.A (eval a X.env) (fun v s₁ => wpAny (model X.prog X.w) X.A (eval b X.env) (fun u s₂ => wpAny (model X.prog X.w) X.A (f v u) Q X.xe s₂) X.xe s₁) X.xe s := by
 refine fz (ha pins s σ H _ I h) fun v s1 zz => ?_
 obtain ⟨x, H1, I1, r1, q1⟩ := zz
 refine fz (hb pins s1 σ H1 _ I1 q1) fun u s2 zz => ?_
 obtain ⟨y, H2, I2, r2, q2⟩ := zz
 exact hf v u s2 x y H2 I2 r1 r2 q2
theorem Qi {op : Operator} {r : R2} (ho : vd X (binaryOp op) r) (ha : PE X a ta) (hb : PE X b tb) : PE X (.BinOp a op b pos) (tOp r ta tb) := by
 intro pins s σ H Q I h
 exact wpAny_BinOp (abq ha hb I h fun v u s2 x y H2 I2 rx ry q => ho pins s2 σ H2 x y v u Q I2 rx ry q)
theorem ae0 {op : UnaryOp} {r : V -> Hp -> VK -> Prop} (ho : UnR X (unaryOp op) r) (ha : PE X a ta) : PE X (.UnaryOp op a pos) (tUn r ta) := by
 intro pins s σ H Q I h
 exact UnaryOp_ (fz (ha pins s σ H _ I h) fun v s1 ⟨x, H1, I1, r1, q1⟩ => ho pins s1 σ H1 x v Q I1 r1 q1)
theorem opI {f : Value -> Value -> Sem Value} {C : Int -> Int -> Prop} {g : Int -> Int -> Int}
   (rule : ∀ (i j : Int) (t u : Tok) (s : Shared) (Q : Value -> Shared -> Prop) (E : Value -> Shared -> Prop), C i j -> Q (.int (g i j) s.toks) { s with toks := s.toks + 1 } -> wpAny (model X.prog X.w) X.A (f (.int i t) (.int j u)) Q E s) :
   vd X f (rI C fun i j => .int (g i j)) := by
 intro pins s σ H x y v u Q I rx ry h
 obtain ⟨i, j, rfl, rfl, hc, q⟩ := h
 obtain ⟨t, rfl⟩ := rx
 obtain ⟨t', rfl⟩ := ry
 exact rule i j t t' s _ _ hc ⟨.int (g i j), H, I.tok _, ⟨_, rfl⟩, q⟩
theorem ae1 {f : Value -> Value -> Sem Value} {g : Int -> Int -> Int}
   (rule : ∀ (i j : Int) (t u : Tok) (s : Shared) (Q : Value -> Shared -> Prop) (E : Value -> Shared -> Prop), Q (.int (g i j) s.toks) { s with toks := s.toks + 1 } -> wpAny (model X.prog X.w) X.A (f (.int i t) (.int j u)) Q E s) :
   vd X f (rI0 fun i j => .int (g i j)) := by
 intro pins s σ H x y v u Q I rx ry h
 obtain ⟨i, j, rfl, rfl, q⟩ := h
 obtain ⟨t, rfl⟩ := rx
 obtain ⟨t', rfl⟩ := ry
 exact rule i j t t' s _ _ ⟨.int (g i j), H, I.tok _, ⟨_, rfl⟩, q⟩
theorem Vh {f : Value -> Value -> Sem Value} {g : Int -> Int -> Bool}
   (rule : ∀ (i j : Int) (t u : Tok) (s : Shared) (Q : Value -> Shared -> Prop) (E : Value -> Shared -> Prop), Q (.bool (g i j)) s -> wpAny (model X.prog X.w) X.A (f (.int i t) (.int j u)) Q E s) :
   vd X f (rI0 fun i j => .bl (g i j)) := by
 intro pins s σ H x y v u Q I rx ry h
 obtain ⟨i, j, rfl, rfl, q⟩ := h
 obtain ⟨t, rfl⟩ := rx
 obtain ⟨t', rfl⟩ := ry
 exact rule i j t t' s _ _ ⟨.bl (g i j), H, I, rfl, q⟩
noncomputable def ae2 (i j : Int) : Prop := 0 < j /\ j < 1073741824
noncomputable def ae3 (i j : Int) : Prop := 0 <= j /\ j <= 1000000 /\ i.natAbs < 2 ^ 64
noncomputable def Vi (i j : Int) : Prop := (-(2 ^ 64) < i /\ i < 2 ^ 64) \/ (-(2 ^ 64) < j /\ j < 2 ^ 64)
theorem Vi.ok {i j : Int} (h : Vi i j) : IntMulOk i j := by
 rcases h with ⟨h1, h2⟩ | ⟨h1, h2⟩
 . exact .of_left (intBits_le_64 h1 h2)
 . exact .of_right (intBits_le_64 h1 h2)
theorem abr : vd X (binaryOp .Add) (rI0 fun i j => .int (i + j)) := ae1 fun _ _ _ _ _ _ _ q => add_int q
theorem abt : vd X (binaryOp .Sub) (rI0 fun i j => .int (i - j)) := ae1 fun _ _ _ _ _ _ _ q => sub_int q
theorem abu : vd X (binaryOp .Mult) (rI Vi fun i j => .int (i * j)) := opI fun _ _ _ _ _ _ _ hc q => mul_int q hc.ok
theorem Vj : vd X (binaryOp .FloorDiv) (rI ae2 fun i j => .int (i / j)) := opI fun i j _ _ _ _ _ hc q => by
 have h1 : (0 : Int) < j := hc.1
 have h2 : j < 1073741824 := hc.2
 exact floordiv_int (by omega) (by rw [Int.fdiv_eq_ediv_of_nonneg i (by omega)]; exact q) (.inl (PyProof.noPylong_small (by omega)))
theorem abv : vd X (binaryOp .Mod) (rI (fun _ j => 0 < j) fun i j => .int (i % j)) := opI fun i j _ _ _ _ _ hc q => by
 have h1 : (0 : Int) < j := hc
 exact mod_int' (by omega) (by rw [Int.fmod_eq_emod_of_nonneg i (by omega)]; exact q)
theorem abw : vd X (binaryOp .Pow) (rI ae3 fun i j => .int (i ^ j.toNat)) := opI fun _ _ _ _ _ _ _ hc q => pow_int_small hc.1 hc.2.1 hc.2.2 q
theorem unI {f : Value -> Sem Value} {g : Int -> Int}
   (rule : ∀ (i : Int) (t : Tok) (s : Shared) (Q : Value -> Shared -> Prop) (E : Value -> Shared -> Prop), Q (.int (g i) s.toks) { s with toks := s.toks + 1 } -> wpAny (model X.prog X.w) X.A (f (.int i t)) Q E s) :
   UnR X f (rU fun i => .int (g i)) := by
 intro pins s σ H x v Q I rx h
 obtain ⟨i, rfl, q⟩ := h
 obtain ⟨t, rfl⟩ := rx
 exact rule i t s _ _ ⟨.int (g i), H, I.tok _, ⟨_, rfl⟩, q⟩
theorem abx : UnR X (unaryOp .USub) (rU fun i => .int (-i)) := unI fun _ _ _ _ _ q => neg_int q
end
noncomputable def ae4 : V -> V -> Bool
 | .non, .non => true | .non, .int _ => true | .int _, .non => true | .non, .bl _ => true | .bl _, .non => true | .non, .str _ => true | .str _, .non => true
 | .int _, .int _ => true | .bl _, .bl _ => true | .str _, .str _ => true | .P0 _, .P0 _ => true
 | .int _, .str _ => true | .str _, .int _ => true | .bl _, .str _ => true | .str _, .bl _ => true
 | _, _ => false
noncomputable def rEq : R2 := fun x y H Q => ae4 x y = true /\ Q (.bl (decide (x = y))) H
noncomputable def rNe : R2 := fun x y H Q => ae4 x y = true /\ Q (.bl (!decide (x = y))) H
theorem LR {i j : Int} : decide (V.int i = V.int j) = (i == j) := by
 rw [Bool.eq_iff_iff]
 simp
theorem Qj {i j : Bool} : decide (V.bl i = V.bl j) = (i == j) := by
 rw [Bool.eq_iff_iff]
 simp
theorem LV {i j : Str} : decide (V.str i = V.str j) = (i == j) := by
 rw [Bool.eq_iff_iff]
 simp
theorem LW {i j : Array UInt8} : decide (V.P0 i = V.P0 j) = (i.toList == j.toList) := by
 rw [Bool.eq_iff_iff]
 cases i
 cases j
 simp
section
variable {X : Cx} {a b c : Expr} {ta tb tc : TE} {pos : Pos}
theorem cD {pins : List (Addr × Obj)} {σ : St} {H : Hp} {s : Shared} {Q : VK} {k k' : Bool} (I : Inv X pins σ H s) (q : Q (.bl k) H) (e : k = k') : EP X pins σ Q (.bool k') s := by
 subst e
 exact ⟨.bl k, H, I, rfl, q⟩
theorem Qk : vd X (compareOp .Eq) rEq := by
 intro pins s σ H x y v u Q I rx ry h
 obtain ⟨hs, q⟩ := h
 cases x with
 | non =>
   cases rx
   cases y with
   | non => cases ry; exact PySem.EqNone.eq_none_none (cD I q (by simp))
   | bl j => cases ry; exact PySem.EqNone.eq_none_bool (cD I q (by simp))
   | int j => obtain ⟨t', rfl⟩ := ry; exact PySem.EqNone.eq_none_int (cD I q (by simp))
   | str j => obtain ⟨t', rfl⟩ := ry; exact PySem.EqNone.eq_none_str (cD I q (by simp))
   | _ => exact absurd (show false = true from hs) ane
 | bl i =>
   cases rx
   cases y with
   | non => cases ry; exact PySem.EqNone.eq_bool_none (cD I q (by simp))
   | bl j => cases ry; exact eq_bool (cD I q Qj)
   | str j => obtain ⟨t', rfl⟩ := ry; exact PySem.EqMixed.eq_bool_str (cD I q (by simp))
   | _ => exact absurd (show false = true from hs) ane
 | int i =>
   obtain ⟨t, rfl⟩ := rx
   cases y with
   | non => cases ry; exact PySem.EqNone.eq_int_none (cD I q (by simp))
   | int j => obtain ⟨t', rfl⟩ := ry; exact eq_int (cD I q LR)
   | str j => obtain ⟨t', rfl⟩ := ry; exact PySem.EqMixed.eq_int_str (cD I q (by simp))
   | _ => exact absurd (show false = true from hs) ane
 | str i =>
   obtain ⟨t, rfl⟩ := rx
   cases y with
   | non => cases ry; exact PySem.EqNone.eq_str_none (cD I q (by simp))
   | bl j => cases ry; exact PySem.EqMixed.eq_str_bool (cD I q (by simp))
   | int j => obtain ⟨t', rfl⟩ := ry; exact PySem.EqMixed.eq_str_int (cD I q (by simp))
   | str j => obtain ⟨t', rfl⟩ := ry; exact eq_str (cD I q LV)
   | _ => exact absurd (show false = true from hs) ane
 | P0 i =>
   obtain ⟨t, rfl⟩ := rx
   cases y with
   | P0 j => obtain ⟨t', rfl⟩ := ry; exact PySem.W.eq_bytes (cD I q LW)
   | _ => exact absurd (show false = true from hs) ane
 | _ => cases y <;> exact absurd (show false = true from hs) ane
theorem aaf : vd X (compareOp .NotEq) rNe := by
 intro pins s σ H x y v u Q I rx ry h
 obtain ⟨hs, q⟩ := h
 cases x with
 | non =>
   cases rx
   cases y with
   | non => cases ry; exact PySem.EqNone.ne_none_none (cD I q (by simp))
   | bl j => cases ry; exact PySem.EqNone.ne_none_bool (cD I q (by simp))
   | int j => obtain ⟨t', rfl⟩ := ry; exact PySem.EqNone.ne_none_int (cD I q (by simp))
   | str j => obtain ⟨t', rfl⟩ := ry; exact PySem.EqNone.ne_none_str (cD I q (by simp))
   | _ => exact absurd (show false = true from hs) ane
 | bl i =>
   cases rx
   cases y with
   | non => cases ry; exact PySem.EqNone.ne_bool_none (cD I q (by simp))
   | bl j => cases ry; exact ne_bool (cD I q (congrArg not Qj))
   | str j => obtain ⟨t', rfl⟩ := ry; exact PySem.EqMixed.ne_bool_str (cD I q (by simp))
   | _ => exact absurd (show false = true from hs) ane
 | int i =>
   obtain ⟨t, rfl⟩ := rx
   cases y with
   | non => cases ry; exact PySem.EqNone.ne_int_none (cD I q (by simp))
   | int j => obtain ⟨t', rfl⟩ := ry; exact ne_int (cD I q (congrArg not LR))
   | str j => obtain ⟨t', rfl⟩ := ry; exact PySem.EqMixed.ne_int_str (cD I q (by simp))
   | _ => exact absurd (show false = true from hs) ane
 | str i =>
   obtain ⟨t, rfl⟩ := rx
   cases y with
   | non => cases ry; exact PySem.EqNone.ne_str_none (cD I q (by simp))
   | bl j => cases ry; exact PySem.EqMixed.ne_str_bool (cD I q (by simp))
   | int j => obtain ⟨t', rfl⟩ := ry; exact PySem.EqMixed.ne_str_int (cD I q (by simp))
   | str j => obtain ⟨t', rfl⟩ := ry; exact ne_str (cD I q (congrArg not LV))
   | _ => exact absurd (show false = true from hs) ane
 | P0 i =>
   obtain ⟨t, rfl⟩ := rx
   cases y with
   | P0 j => obtain ⟨t', rfl⟩ := ry; exact PySem.W.ne_bytes (cD I q (congrArg not LW))
   | _ => exact absurd (show false = true from hs) ane
 | _ => cases y <;> exact absurd (show false = true from hs) ane
theorem ae5 : vd X (compareOp .Lt) (rI0 fun i j => .bl (decide (i < j))) := Vh fun _ _ _ _ _ _ _ q => lt_int q
theorem ae6 : vd X (compareOp .LtE) (rI0 fun i j => .bl (decide (i <= j))) := Vh fun _ _ _ _ _ _ _ q => le_int q
theorem ae7 : vd X (compareOp .Gt) (rI0 fun i j => .bl (decide (j < i))) := Vh fun _ _ _ _ _ _ _ q => gt_int q
theorem ae8 : vd X (compareOp .GtE) (rI0 fun i j => .bl (decide (j <= i))) := Vh fun _ _ _ _ _ _ _ q => ge_int q
theorem jR (b : Expr) {op : CmpOp} (h : op ≠ .In := by decide) (h2 : op ≠ .NotIn := by decide) : behindInMarks op b = false := by
 have e1 : (op == CmpOp.In) = false := by cases op <;> first | rfl | exact absurd rfl h
 have e2 : (op == CmpOp.NotIn) = false := by cases op <;> first | rfl | exact absurd rfl h2
 cases b <;> simp [behindInMarks, e1, e2]
theorem pX {op : CmpOp} {r : R2} (ho : vd X (compareOp op) r) (ha : PE X a ta) (hb : PE X b tb) (hm : behindInMarks op b = false) : PE X (.Compare a [op] [b] pos) (tOp r ta tb) := by
 intro pins s σ H Q I h
 exact wpAny_Compare1 (abq ha hb I h fun v u s2 x y H2 I2 rx ry q => ho pins s2 σ H2 x y v u Q I2 rx ry q) hm
noncomputable def ae9 (t : TE) : TT := fun σ H Q => t σ H fun x H' => ∃ k, x = .bl k /\ Q k H'
theorem pY {op : CmpOp} {r : R2} (ho : vd X (compareOp op) r) (ha : PE X a ta) (hb : PE X b tb) (hm : behindInMarks op b = false) : PT X (.Compare a [op] [b] pos) (ae9 (tOp r ta tb)) := by
 intro pins s σ H Q I h
 refine wpAny_isTrue_Compare1 (fz (ha pins s σ H _ I h) fun v s1 ⟨x, H1, I1, r1, q1⟩ => fz (hb pins s1 σ H1 _ I1 q1) fun u s2 ⟨y, H2, I2, r2, q2⟩ =>
   fz (ho pins s2 σ H2 x y v u _ I2 r1 r2 q2) fun c s3 ⟨z, H3, I3, r3, k, e, q3⟩ => ?_) hm
 subst e
 cases r3
 exact aoz ⟨H3, I3, q3⟩
theorem yG : (sizeLine : Nat) < 2 ^ 63 := by rw [anG]; decide
theorem Ji : vd X (binaryOp .Add) (fun x y H Q => ∃ i j, x = .str i /\ y = .str j /\ i.length + j.length <= sizeLine /\ Q (.str (i ++ j)) H) := by
 intro pins s σ H x y v u Q I rx ry h
 obtain ⟨i, j, rfl, rfl, hz, q⟩ := h
 obtain ⟨t, rfl⟩ := rx
 obtain ⟨t', rfl⟩ := ry
 exact add_str (fun t' tk => ⟨.str (i ++ j), H, I.tok _, ⟨_, rfl⟩, q⟩) hz
theorem vals1 {x : V} {us : List Value} (r : Vals [x] us) : ∃ u, us = [u] /\ RelV x u := by
 cases r with
 | cons r1 r2 => cases r2; exact ⟨_, rfl, r1⟩
theorem Nm : lP X (.type "int") (fun xs H Q => (∃ i, xs = [.int i] /\ Q (.int i) H) \/ ∃ k, xs = [.bl k] /\ Q (.int (if k then 1 else 0)) H) := by
 intro pins s σ H xs us Q I r h
 rcases h with ⟨i, rfl, q⟩ | ⟨k, rfl, q⟩
 . obtain ⟨u, rfl, t, rfl⟩ := vals1 r
   exact call_int_int ⟨.int i, H, I, ⟨_, rfl⟩, q⟩
 . obtain ⟨u, rfl, r1⟩ := vals1 r
   cases r1
   exact call_int_bool ⟨.int (if k then 1 else 0), H, I.tok _, ⟨_, rfl⟩, q⟩
theorem Cu : lP X (.type "str") (fun xs H Q => ∃ i, xs = [.int i] /\ i.natAbs.log2 < 1920 /\ Q (.str (toString i)) H) := by
 intro pins s σ H xs us Q I r h
 obtain ⟨i, rfl, hz, q⟩ := h
 obtain ⟨u, rfl, t, rfl⟩ := vals1 r
 exact PySem.P.str_of_int hz ⟨.str _, H, I.tok _, ⟨_, rfl⟩, q⟩
end
structure Nn (h : Heap) (x dx C : Addr) (mA : Str -> Option Value) : Prop where
 obj : h.get? x = some (PySem.W.instObj C dx)
 ns : h.Ns1 dx mA
 ne : dx ≠ x
theorem Np {h : Heap} {dx : Addr} {mA : Str -> Option Value} (n : h.Ns1 dx mA) : ∃ od, h.get? dx = some od /\ ∀ name, PySem.W.lookIn name od = some (mA name) := by
 obtain ⟨o, es, ep, ho, hd, hk, _, hm⟩ := n
 refine ⟨o, ho, fun name => ?_⟩
 have e := hm name
 unfold nsFind findBy at e
 rw [← Array.find?_toList] at e
 unfold PySem.W.lookIn
 rw [hd]
 dsimp only
 split
 . rename_i y q
   rw [q] at e
   exact congrArg some e
 . rename_i q
   rw [q] at e
   have a : es.toList.any (·.refKey) = false := by
     rw [List.any_eq_false]
     intro y hy
     obtain ⟨z, t, aib⟩ := hk y (Array.mem_toList_iff.mp hy)
     simp [DictEntry.refKey, aib]
   have a' : ¬ es.toList.any (·.refKey) = true := by rw [a]; exact ane
   rw [amV a']
   exact congrArg some e
theorem Nn.look {h : Heap} {x dx C : Addr} {mA : Str -> Option Value} (I : Nn h x dx C mA) : ∃ od, PySem.W.InstAt h x (PySem.W.instObj C dx) C (some od) /\ ∀ name, PySem.W.lookIn name od = some (mA name) :=
 let ⟨od, ho, hl⟩ := Np I.ns
 ⟨od, ⟨I.obj, rfl, rfl, ho⟩, hl⟩
section
variable {prog : Program} {w : World} {A : Around} {E : Value -> Shared -> Prop} {s : Shared} {K : PySem.W.Frag} {x dx C f : Addr} {mA : Str -> Option Value} {name : Str} {v : Value}
theorem get_map {expr : Bool} {Q : Value -> Shared -> Prop} (X : K.In s.heap) (I : Nn s.heap x dx C mA) (hg : PySem.W.plainGet K C name = true) (hh : PySem.W.hasDictIn K C = true)
   (ha : PySem.W.findIn K (.ref C) name = some none) (hv : mA name = some v) (hv' : PySem.W.handedIn v = true) (h : Q v { s with toks := s.toks + 1 }) :
   wpAny (model prog w) A (getAttr (.ref x) name expr) Q E s := by
 obtain ⟨od, J, hl⟩ := I.look
 exact PySem.W.get_value X J (PySem.W.plainGet_of hg).1 (PySem.W.findObj_own hh ha rfl (by rw [hl, hv])) hv' h
theorem Vk {ns : List Str} {Q : Unit -> Shared -> Prop} (X : K.In s.heap) (I : Nn s.heap x dx C mA)
   (hs : PySem.W.findIn K (.ref C) "__setattr__" = some (some (.builtin "object.__setattr__"))) (hp : PySem.W.plainOver K C = true) (ht : PySem.W.takerIn K C name = some none) (hh : PySem.W.hasDictIn K C = true)
   (hw : PySem.Within mA ns) (hsz : ns.length <= sizeLine)
   (h : ∀ h', Nn h' x dx C (fun y => if y = name then some v else mA y) -> Heap.SameBut dx s.heap h' -> Q () { s with heap := h', toks := s.toks + 2 }) :
   wpAny (model prog w) A (setAttr (.ref x) name v) Q E s := by
 obtain ⟨od, J, hl⟩ := I.look
 refine PySem.W.set_plain X J hs (PySem.W.osa_open (s := { s with toks := s.toks + 1 }) (r := none) X J hp ht fun b => ?_)
 obtain ⟨cd, hc, Va⟩ := PySem.W.any_some hh
 have hx : s.heap.get? x = some ⟨.ref C, some dx, .plain, #[]⟩ := I.obj
 refine anh (anM (anh (anh (wpAny_loadPart hx (anh (PySem.W.Looks.here (s := { s with toks := s.toks + 1 }) (PySem.W.looks_clsIn X hc) ?_))))))
 rw [Va]
 refine anM (a := some dx) (anh (anM (anh ?_)))
 refine wpAny_nsSet1 (s := { s with toks := s.toks + 1 }) I.ns fun h' hn2 Jh => ?_
 obtain ⟨oD, esD, epD, hoD, hdD, hcD⟩ := hn2.count (PySem.Within.cons name v hw)
 refine anh (wpAny_lookBehind hoD (by rw [hdD]; exact pastItsLine_dict (anL hcD (by rw [anr]; omega))) ?_)
 exact anM (h _ ⟨(Jh.2 _ (Ne.symm I.ne)).trans I.obj, hn2, I.ne⟩ Jh)
theorem Ql {R : Result -> Shared -> Prop} {vs : List Value} {kw : List (Str × Value)} (X : K.In s.heap) (hm : PySem.W.makesIn K C = true)
   (hi : PySem.W.findIn K (.ref C) "__init__" = some (some (.ref f))) (hf : PySem.W.typeIn K (.ref f) = some (.type "function"))
   (h : codeAny (model prog w) (A.under (.builtin "type.__call__" ⟨.ref C :: vs, kw⟩)) (.call (.ref f) ⟨.ref (s.heap.objs.size + 1) :: vs, kw⟩) (PySem.W.InitBack (s.heap.objs.size + 1) R)
     { s with heap := (s.heap.push PySem.W.emptyDict).push (PySem.W.instObj C s.heap.objs.size) }) :
   codeAny (model prog w) A (.call (.ref C) ⟨vs, kw⟩) R s := by
 obtain ⟨hh, g, d, t, os⟩ := s
 exact PySem.W.make_core (PySem.W.makes_of X hm) (PySem.W.looks_findIn X hi) (fun self => PySem.W.bind_fn X self hf) (.inl rfl) h
end
noncomputable def jS (f : Str) (v : V) : List (Str × V) -> List (Str × V)
 | [] => [(f, v)]
 | (g, x) :: r => if g = f then (g, v) :: r else (g, x) :: jS f v r
theorem wK (f g : Str) (v : V) : ∀ fs : List (Str × V), (jS f v fs).lookup g = if g = f then some v else fs.lookup g
 | [] => by
   show List.lookup g [(f, v)] = _
   by_cases h : g = f
   . have hb : (g == f) = true := beq_iff_eq.mpr h
     simp only [List.lookup, hb, amZ h]
   . have hb : (g == f) = false := aoq.mpr h
     simp only [List.lookup, hb, amV h]
 | (k, x) :: r => by
   have ih := wK f g v r
   rw [show jS f v ((k, x) :: r) = (if k = f then (k, v) :: r else (k, x) :: jS f v r) from rfl]
   by_cases hk : k = f
   . rw [amZ hk]
     by_cases h : g = k
     . have hb : (g == k) = true := beq_iff_eq.mpr h
       simp only [List.lookup, hb, amZ (h.trans hk)]
     . have hb : (g == k) = false := aoq.mpr h
       simp only [List.lookup, hb, amV (fun e : g = f => h (e.trans hk.symm))]
   . rw [amV hk]
     by_cases h : g = k
     . have hb : (g == k) = true := beq_iff_eq.mpr h
       simp only [List.lookup, hb, amV (fun e : g = f => hk (h.symm.trans e))]
     . have hb : (g == k) = false := aoq.mpr h
       simp only [List.lookup, hb]
       exact ih
theorem vh (f : Str) (v : V) : ∀ fs : List (Str × V), f ∈ (jS f v fs).map (·.1) /\ ∀ g, g ∈ fs.map (·.1) -> g ∈ (jS f v fs).map (·.1)
 | [] => ⟨by simp [jS], fun g h => by simp at h⟩
 | (k, x) :: r => by
   obtain ⟨i1, i2⟩ := vh f v r
   rw [show jS f v ((k, x) :: r) = (if k = f then (k, v) :: r else (k, x) :: jS f v r) from rfl]
   by_cases hk : k = f
   . rw [amZ hk]
     subst hk
     exact ⟨by simp, fun g h => by simpa using h⟩
   . rw [amV hk]
     refine ⟨?_, fun g h => ?_⟩
     . rw [ani]
       exact am2 _ i1
     . rw [ani] at h ⊢
       rcases am1.mp h with e | e
       . exact am1.mpr (.inl e)
       . exact am2 _ (i2 g e)
theorem wL (f : Str) (v : V) : ∀ fs : List (Str × V), (jS f v fs).length <= fs.length + 1
 | [] => by simp [jS]
 | (k, x) :: r => by
   have ih := wL f v r
   rw [show jS f v ((k, x) :: r) = (if k = f then (k, v) :: r else (k, x) :: jS f v r) from rfl]
   by_cases hk : k = f
   . rw [amZ hk, anr, anr]; omega
   . rw [amV hk, anr, anr]; omega
theorem AO.some_of {v : V} {o : Option Value} (r : AO (some v) o) : ∃ u, o = some u /\ RelV v u := by
 cases o with
 | none => exact (show False from r).elim
 | some u => exact ⟨u, rfl, r⟩
theorem Nq {v : V} {u : Value} (r : RelV v u) : PySem.W.handedIn u = true := by
 cases v with
 | non => cases (show u = Value.none from r); rfl
 | bl b => cases (show u = Value.bool b from r); rfl
 | int i => obtain ⟨t, e⟩ := (show ∃ t, u = Value.int i t from r); cases e; rfl
 | str x => obtain ⟨t, e⟩ := (show ∃ t, u = Value.str x t from r); cases e; rfl
 | P0 b => obtain ⟨t, e⟩ := (show ∃ t, u = Value.bytes b t from r); cases e; rfl
 | flt b => obtain ⟨t, e⟩ := (show ∃ t, u = Value.float b t from r); cases e; rfl
 | ref a => cases (show u = Value.ref a from r); rfl
 | ty n => cases (show u = Value.type n from r); rfl
section
variable {P : Program} {w : World} {H H' : Hp} {h h' : Heap} {a C dx : Addr} {fs fs' : List (Str × V)}
theorem LX (dU : rP P w H h) (e : H a = some (.ins C dx fs)) : ∃ mA, Nn h a dx C mA /\ (∀ f, AO (fs.lookup f) (mA f)) /\ PySem.Within mA (fs.map (·.1)) /\ fs.length <= 1000 /\ H dx = some (.own a) := by
 obtain ⟨d, z, ne, ob, mA, n, r, q⟩ := (show eY P w H h a (.ins C dx fs) from dU a _ e)
 exact ⟨mA, ⟨ob, n, ne⟩, r, q, z, d⟩
end
structure wM (K : PySem.W.Frag) (C : Addr) : Prop where
 pg : PySem.W.plainGet K C Str.empty = true
 hd : PySem.W.hasDictIn K C = true
 po : PySem.W.plainOver K C = true
 sa : PySem.W.findIn K (.ref C) "__setattr__" = some (some (.builtin "object.__setattr__"))
theorem wM.get {K : PySem.W.Frag} {C : Addr} (c : wM K C) (f : Str) : PySem.W.plainGet K C f = true := c.pg
noncomputable def bD (K : PySem.W.Frag) (C : Addr) (f : Str) : Prop := PySem.W.findIn K (.ref C) f = some none
theorem bD.afa {K : PySem.W.Frag} {C : Addr} {f : Str} (n : bD K C f) : PySem.W.takerIn K C f = some none := by
 unfold PySem.W.takerIn
 rw [show PySem.W.findIn K (.ref C) f = some none from n]
 rfl
section
variable {X : Cx} {pins : List (Addr × Obj)} {σ : St} {H : Hp} {s : Shared} {a C dx : Addr} {fs : List (Str × V)} {f : Str} {v : V} {A : Around} {E : Value -> Shared -> Prop}
theorem Jj {b : Bool} {Q : Value -> Shared -> Prop} (I : Inv X pins σ H s) (e : H a = some (.ins C dx fs)) (c : wM X.K C) (n : bD X.K C f) (l : fs.lookup f = some v)
   (h : ∀ u s', Inv X pins σ H s' -> RelV v u -> Q u s') : wpAny (model X.prog X.w) A (getAttr (.ref a) f b) Q E s := by
 obtain ⟨mA, O, r, _, _, _⟩ := LX I.dU e
 obtain ⟨u, hu, ru⟩ := AO.some_of (v := v) (o := mA f) (by rw [← l]; exact r f)
 exact get_map I.F3 O (c.get f) c.hd n hu (Nq ru) (h u _ (I.tok _) ru)
theorem Jk {y : V} {u : Value} {Q : Unit -> Shared -> Prop} (I : Inv X pins σ H s) (e : H a = some (.ins C dx fs)) (c : wM X.K C) (n : bD X.K C f) (hl : fs.length < 1000) (ry : RelV y u)
   (h : ∀ s', Inv X pins σ (upd H a (.ins C dx (jS f y fs))) s' -> Q () s') : wpAny (model X.prog X.w) A (setAttr (.ref a) f u) Q E s := by
 obtain ⟨mA, O, r, wi, _, ho⟩ := LX I.dU e
 have hz : (fs.map (·.1)).length <= sizeLine := by rw [amY, anG]; omega
 refine Vk I.F3 O c.sa c.po n.afa c.hd wi hz fun h' O' sb => h _ ?_
 have hd : ∃ o, h'.get? dx = some o := let ⟨o, _, _, e', _⟩ := O'.ns; ⟨o, e'⟩
 refine I.write (x := a) (e := dx) (by rw [e]; exact True.intro) (.inr ho) (fun b q hb z => (sb.2 b hb).trans z) hd ?_
 refine ⟨by rw [aA O.ne]; exact ho, ?_, O.ne, O'.obj, _, O'.ns, fun g => ?_, fun g hg => ?_⟩
 . have := wL f y fs; omega
 . show AO ((jS f y fs).lookup g) (if g = f then some u else mA g)
   rw [wK]
   by_cases q : g = f
   . rw [amZ q, amZ q]; exact ry
   . rw [amV q, amV q]; exact r g
 . by_cases q : g = f
   . rw [q]; exact (vh f y fs).1
   . refine (vh f y fs).2 g (wi g fun z => hg ?_)
     show (if g = f then some u else mA g) = none
     rw [amV q]; exact z
theorem Inv.made (I : Inv X pins σ H s) : Inv X pins σ (upd (upd H s.heap.objs.size (.own (s.heap.objs.size + 1))) (s.heap.objs.size + 1) (.ins C s.heap.objs.size []))
   { s with heap := (s.heap.push PySem.W.emptyDict).push (PySem.W.instObj C s.heap.objs.size) } := by
 have e1 : (s.heap.push PySem.W.emptyDict).get? s.heap.objs.size = some PySem.W.emptyDict := anv s.heap rfl
 have e2 : ((s.heap.push PySem.W.emptyDict).push (PySem.W.instObj C s.heap.objs.size)).get? (s.heap.objs.size + 1) = some (PySem.W.instObj C s.heap.objs.size) := by
   have := anv (s.heap.push PySem.W.emptyDict) (o := PySem.W.instObj C s.heap.objs.size) rfl
   rwa [Heap.size_push] at this
 have e3 : (s.heap.push PySem.W.emptyDict).Ns s.heap.objs.size (fun _ => none) := ⟨PySem.W.emptyDict, #[], _, e1, rfl, (fun e he => absurd he (by simp)), fun _ => rfl⟩
 have I1 := I.laid (a := s.heap.objs.size) (o := .own (s.heap.objs.size + 1)) (h' := s.heap.push PySem.W.emptyDict) (t' := s.toks) (fun b u q => ana _ q) (am5 _) ⟨_, e1⟩
 refine I1.laid (a := s.heap.objs.size + 1) (o := .ins C s.heap.objs.size []) (t' := s.toks) (fun b u q => ana _ q) (Nat.le_of_eq (Heap.size_push _ _)) ?_
 have ne : s.heap.objs.size ≠ s.heap.objs.size + 1 := anA (Nat.lt_succ_self _)
 refine ⟨by rw [aA ne, aV], ans _, ne, e2, fun _ => none, (Heap.Ns1.of_empty e3).at fun o q => ana _ q, fun _ => True.intro, fun y hy => absurd rfl hy⟩
theorem Vl {prog : Program} {w : World} {env : Env} {e : Expr} {f : Str} {pos : Pos} {s : Shared} {Q : Value -> Shared -> Prop} (hb : attributeBase e f env (eval e env) = eval e env)
   (h : wpAny (model prog w) A (eval e env) (fun o s₁ => wpAny (model prog w) A (getAttr o f true) Q E s₁) E s) : wpAny (model prog w) A (eval (.Attribute e f pos) env) Q E s :=
 Attribute_any_ h (by rw [arm_eval_Attribute, hb])
end
noncomputable def aic (K : PySem.W.Frag) (ta : TE) (f : Str) : TE := fun σ H Q => ta σ H fun x H1 => ∃ a C dx fs v, x = .ref a /\ H1 a = some (.ins C dx fs) /\ wM K C /\ bD K C f /\ fs.lookup f = some v /\ Q v H1
noncomputable def aid (K : PySem.W.Frag) (ta tv : TE) (f : Str) : TS := fun D σ H => tv σ H fun y H1 => ta σ H1 fun x H2 => ∃ a C dx fs, x = .ref a /\ H2 a = some (.ins C dx fs) /\ wM K C /\ bD K C f /\ fs.length < 1000 ∧
 D.nx σ (upd H2 a (.ins C dx (jS f y fs)))
section
variable {X : Cx} {o e value : Expr} {f : Str} {pos pos' aie : Pos} {ta tv : TE}
theorem Qm (he : PE X e ta) (hb : attributeBase e f X.env (eval e X.env) = eval e X.env) : PE X (.Attribute e f pos) (aic X.K ta f) := by
 intro pins s σ H Q I h
 refine Vl hb (fz (he pins s σ H _ I h) fun u s1 zz => ?_)
 obtain ⟨x, H1, I1, rx, a, C, dx, fs, v, ex, ea, c, n, l, q⟩ := zz
 subst ex
 obtain rfl : u = Value.ref a := rx
 exact Jj I1 ea c n l fun u' s2 I2 ru => ⟨v, H1, I2, ru, q⟩
theorem aby (ha : PE X o ta) (hv : PE X value tv) (hs : swapsWith value (some (.Attribute o f pos')) pos.line X.env = pure false) : PS X (.Assign [.Attribute o f pos'] value pos) (aid X.K ta tv f) := by
 intro pins s σ H D I h
 refine plainObj_wpAny_Assign_Attribute (fz (hv pins s σ H _ I h) fun u s1 ⟨y, H1, I1, ry, q⟩ => fz (ha pins s1 σ H1 _ I1 q) fun ov s2 zz => ?_) hs
 obtain ⟨x, H2, I2, rx, a, C, dx, fs, ex, ea, c, n, l, q2⟩ := zz
 subst ex
 obtain rfl : ov = Value.ref a := rx
 exact Jk I2 ea c n l ry fun s3 I3 => ⟨σ, _, I3, q2⟩
end
section
variable {X : Cx} {pins : List (Addr × Obj)} {σ : St} {H : Hp} {s : Shared} {A : Around} {E : Value -> Shared -> Prop} {Q : Value -> Shared -> Prop} {c : Value} {b : Bool}
end
structure fJ (k : Nat) (A : Around) : Prop where
 hd : A.handled = none
 dp : A.depth + 3 * k + 5 < recursionLimit
 un : A.units + 16 * k + 200 < cLine
theorem fJ.mono {j k : Nat} {A : Around} (r : fJ k A) (h : j <= k) : fJ j A := ⟨r.hd, by have := r.dp; omega, by have := r.un; omega⟩
theorem fJ.deeper {k : Nat} {A : Around} (r : fJ (k + 1) A) (env : Env) : fJ k (A.deeper env) :=
 ⟨r.hd, by have := r.dp; show A.depth + 1 + 3 * k + 5 < _; omega, by have := r.un; show A.units + 3 + 16 * k + 200 < _; omega⟩
theorem Jl {A : Around} {C : Addr} {us : List Value} {kw : List (Str × Value)} : (A.under (.builtin "type.__call__" ⟨.ref C :: us, kw⟩)).depth = A.depth + 1 := by
 first | rfl | simp [Around.under, Code.weight, Code.isCreation, Code.isGuard, Code.isCaller, Code.frames, Code.isFrame, guardIds]
theorem Jm {A : Around} {C : Addr} {us : List Value} {kw : List (Str × Value)} : (A.under (.builtin "type.__call__" ⟨.ref C :: us, kw⟩)).units = A.units + 1 := by
 first | rfl | simp [Around.under, Code.cUnits, Code.frames, Code.isFrame]
theorem fJ.make {k : Nat} {A : Around} (r : fJ (k + 1) A) (C : Addr) (us : List Value) (kw : List (Str × Value)) : fJ k (A.under (.builtin "type.__call__" ⟨.ref C :: us, kw⟩)) :=
 ⟨r.hd, by have := r.dp; rw [Jl]; omega, by have := r.un; rw [Jm]; omega⟩
theorem fJ.depth {k : Nat} {A : Around} (r : fJ k A) : A.depth < recursionLimit := by have := r.dp; omega
theorem fJ.units {k : Nat} {A : Around} (r : fJ k A) : A.units + 64 < cLine := by have := r.un; omega
noncomputable def Qn : TA := fun _ H Q => Q [] H
noncomputable def LY (ta : TE) (tr : TA) : TA := fun σ H Q => ta σ H fun x H1 => tr σ H1 fun xs H2 => Q (x :: xs) H2
section
variable {X : Cx} {e : Expr} {es : List Expr} {te : TE} {t : TA} {pos : Pos}
theorem fc : PA X [] Qn := fun _ _ _ _ H Q I h => Calls.spliced_nil ⟨[], H, I, .nil, h⟩
theorem cH (ha : PE X e te) (hr : PA X es t) (hs : starEach (e :: es) X.env = (false, eval e X.env) :: starEach es X.env := by rfl) : PA X (e :: es) (LY te t) := by
 intro pos pins s σ H Q I h
 rw [hs]
 show wpAny _ _ (spliced ((false, eval e X.env) :: backTo pos (starEach es X.env))) _ _ s
 refine Calls.spliced_cons (fz (ha pins s σ H _ I h) fun u s1 zz => ?_)
 obtain ⟨x, H1, I1, r1, q1⟩ := zz
 exact fz (hr pos pins s1 σ H1 _ I1 q1) fun us s2 ⟨xs, H2, I2, r2, q2⟩ => ⟨x :: xs, H2, I2, .cons r1 r2, q2⟩
noncomputable def aif (t : TA) : TE := fun σ H Q => t σ H fun xs H1 => xs.length <= sizeLine /\ ∀ p, H1 p = none -> Q (.ref p) (upd H1 p (.tup xs))
noncomputable def aih (t : TA) : TE := fun σ H Q => t σ H fun xs H1 => xs.length <= sizeLine /\ ∀ p, H1 p = none -> Q (.ref p) (upd H1 p (.lst xs))
theorem abz {x1} (h : PA X es t) : PE X (.Tuple es x1 pos) (aif t) := by
 intro pins s σ H Q I hq
 refine wpAny_Tuple_spliced (fz (h pos pins s σ H _ I hq) fun us s1 ⟨xs, H1, I1, r, z, q⟩ => ⟨by rw [← r.length]; exact z, ?_⟩)
 have hf : H1 s1.heap.objs.size = none := I1.dU.fresh (am5 _)
 refine ⟨.ref s1.heap.objs.size, upd H1 s1.heap.objs.size (.tup xs), I1.laid (t' := s1.toks) (fun b u e => ana _ e) (am5 _) ?_, rfl, q _ hf⟩
 exact ⟨z, us, r, ⟨_, anv _ rfl, rfl, _, rfl⟩⟩
theorem abA (h : PA X es t) : PE X (.List es pos) (aih t) := by
 intro pins s σ H Q I hq
 refine wpAny_List_spliced (fz (h pos pins s σ H _ I hq) fun us s1 ⟨xs, H1, I1, r, z, q⟩ => ⟨by rw [← r.length]; exact z, ?_⟩)
 have hf : H1 s1.heap.objs.size = none := I1.dU.fresh (am5 _)
 refine ⟨.ref s1.heap.objs.size, upd H1 s1.heap.objs.size (.lst xs), I1.laid (t' := s1.toks) (fun b u e => ana _ e) (am5 _) ?_, rfl, q _ hf⟩
 exact ⟨z, us, 0, r, anv _ rfl⟩
end
noncomputable abbrev Sp := List V -> Hp -> VK -> XK -> Prop
noncomputable abbrev Qo := List Env -> Hp -> Shared -> XK -> Value -> Shared -> Prop
structure Jo (P : Program) (w : World) (K : PySem.W.Frag) (mg : Str -> Option Value) (base : Heap) (A : Around) (outer : List Env) (s : Shared) (H : Hp) : Prop where
 frames : A.frames = some outer
 mod : Mod K mg base
 bs : ∀ b o, base.get? b = some o -> s.heap.get? b = some o /\ H b = none
 UT : base.objs.size <= s.heap.objs.size
 xx : s.heap.FunFrames base outer
 frf : ∀ b ∈ P1 outer, H b = none
 dU : rP P w H s.heap
 bare : AllBare s.gens
noncomputable def CE (outer : List Env) (P : Program) (w : World) (H : Hp) (s : Shared) (Q : VK) (u : Value) (s' : Shared) : Prop :=
 ∃ v H', s'.os = s.os /\ AllBare s'.gens /\ Un (P1 outer) [] H H' s.heap s'.heap /\ rP P w H' s'.heap /\ RelV v u /\ Q v H'
noncomputable def CR (CX : Qo) (outer : List Env) (P : Program) (w : World) (H : Hp) (s : Shared) (Q : VK) (E : XK) (r : Result) (s' : Shared) : Prop :=
 match r with
 | .ok (.ret u) => CE outer P w H s Q u s'
 | .ok _ => False
 | .error e => CX outer H s E e s'
structure bL (P : Program) (w : World) (K : PySem.W.Frag) (mg : Str -> Option Value) (base : Heap) (CX : Qo) (k : Nat) (f : Addr) (fd : FuncData) (ps : List Str) (sp : Sp) : Prop where
 len : ∀ vs H Q E, sp vs H Q E -> vs.length = ps.length
 run : ∀ (A : Around) (outer : List Env) (s : Shared) (H : Hp) (args : Args) (us : List Value) (vs : List V) (Q : VK) (E : XK), fJ k A -> Jo P w K mg base A outer s H -> BindsTo s fd args (ps.zip us) -> Vals vs us -> sp vs H Q E →
   codeAny (model P w) A (.call (.ref f) args) (CR CX outer P w H s Q E) s
theorem bL.imp {P : Program} {w : World} {K : PySem.W.Frag} {mg : Str -> Option Value} {base : Heap} {CX : Qo} {k : Nat} {f : Addr} {fd : FuncData} {ps : List Str} {sp sp' : Sp} (F : bL P w K mg base CX k f fd ps sp)
   (h : ∀ vs H Q E, sp' vs H Q E -> sp vs H Q E) : bL P w K mg base CX k f fd ps sp' :=
 ⟨fun vs H Q E q => F.len vs H Q E (h _ _ _ _ q), fun A outer s H args us vs Q E hr he hb hv hs => F.run A outer s H args us vs Q E hr he hb hv (h _ _ _ _ hs)⟩
theorem Jo.make {P : Program} {w : World} {K : PySem.W.Frag} {mg : Str -> Option Value} {base : Heap} {A : Around} {outer : List Env} {s : Shared} {H : Hp} (e : Jo P w K mg base A outer s H) (C : Addr) (us : List Value) (kw : List (Str × Value)) :
   Jo P w K mg base (A.under (.builtin "type.__call__" ⟨.ref C :: us, kw⟩)) outer s H := ⟨by first | exact e.frames | (simpa [Around.under, Code.envs, Code.isFrame, pushEnvs] using e.frames), e.mod, e.bs, e.UT, e.xx, e.frf, e.dU, e.bare⟩
section
variable {X : Cx} {pins : List (Addr × Obj)} {σ : St} {H : Hp} {s s' : Shared}
theorem Inv.afb (I : Inv X pins σ H s) : Jo X.prog X.w X.K X.mg X.base X.A X.stack s H :=
 ⟨I.ok.frames, I.ok.mod, I.bs, anL I.ok.UT I.sz, I.stack, I.Cr, I.dU, I.bare⟩
theorem Inv.after {Q : VK} {u : Value} (I : Inv X pins σ H s) (h : CE X.stack X.prog X.w H s Q u s') : EP X pins σ Q u s' := by
 obtain ⟨v, H', os, bare, un, dU, r, q⟩ := h
 obtain ⟨hh, g, d, t, os'⟩ := s'
 obtain rfl : os' = s.os := os
 exact ⟨v, H', I.call (h' := hh) (g' := g) (d' := d) (t' := t) (ch := []) un dU bare (fun b z => absurd z (by simp)), r, q⟩
end
noncomputable def aag (sp : Sp) (Gg : List V) (E : XK) (t : TA) : TE := fun σ H Q => t σ H fun vs H1 => sp (vs ++ Gg) H1 Q E
noncomputable def afc (C : Addr) (sp : Sp) (Gg : List V) (E : XK) (t : TA) : TE := fun σ H Q => t σ H fun vs H1 => ∀ x dx, H1 x = none -> H1 dx = none -> dx ≠ x →
 sp (.ref x :: (vs ++ Gg)) (upd (upd H1 dx (.own x)) x (.ins C dx [])) (fun v H2 => v = .non /\ Q (.ref x) H2) E
noncomputable def Binds (K : PySem.W.Frag) (fd : FuncData) (ps : List Str) (ds : List Value) : Prop :=
 ∀ (s : Shared) (us : List Value), K.In s.heap -> (us ++ ds).length = ps.length -> BindsTo s fd ⟨us, []⟩ (ps.zip (us ++ ds))
theorem Binds.all {K : PySem.W.Frag} {fd : FuncData} {ps : List Str} (h : ∀ us : List Value, us.length = ps.length -> bindArgs fd ⟨us, []⟩ = pure (ps.zip us)) : Binds K fd ps [] := fun s us _ hl => by
 rw [anu] at hl ⊢
 exact .of_eq (h us hl)
noncomputable def Passes (CX : Qo) (X : Cx) (E : XK) : Prop := ∀ (pins : List (Addr × Obj)) (σ : St) (H : Hp) (s : Shared) (e : Value) (s' : Shared), Inv X pins σ H s -> CX X.stack H s E e s' -> X.xe e s'
section
variable {X : Cx} {CX : Qo} {k : Nat} {f C : Addr} {fd : FuncData} {ps : List Str} {sp : Sp} {Gg : List V} {ds : List Value} {E : XK} {x m : Str} {p pos apos : Pos} {e o : Expr} {es : List Expr} {ta : TE} {t : TA}
theorem Qp {pins : List (Addr × Obj)} {σ : St} {H : Hp} {s : Shared} {Q : VK} {us : List Value} {vs : List V} (F : bL X.prog X.w X.K X.mg X.base CX k f fd ps sp) (hr : fJ k X.A) (hb : Binds X.K fd ps ds) (hd : Vals Gg ds) (hx : Passes CX X E)
   (I : Inv X pins σ H s) (r : Vals vs us) (h : sp (vs ++ Gg) H Q E) : wpAny (model X.prog X.w) X.A (call (.ref f) us) (EP X pins σ Q) X.xe s := by
 have r2 : Vals (vs ++ Gg) (us ++ ds) := r.append hd
 have hl : (us ++ ds).length = ps.length := by rw [← r2.length]; exact F.len _ _ _ _ h
 refine wpAny_call (codeAny_mono (F.run X.A X.stack s H ⟨us, []⟩ (us ++ ds) (vs ++ Gg) Q E hr I.afb (hb s us I.F3 hl) r2 h) fun r s' hq => ?_)
 cases r with
 | error e => exact hx pins σ H s e s' I hq
 | ok fl =>
   cases fl with
   | ret u => exact I.after hq
   | next => exact False.elim hq
   | brk => exact False.elim hq
   | cont => exact False.elim hq
theorem Vm (F : bL X.prog X.w X.K X.mg X.base CX k f fd ps sp) (hr : fJ k X.A) (hg : Gl X x) (hm : X.mg x = some (.ref f)) (hk : PySem.W.keepIn X.K (.ref f) = true) (hb : Binds X.K fd ps ds) (hd : Vals Gg ds) (hx : Passes CX X E)
   (ha : PA X (e :: es) t) (AU : (x == ("__debug__" : Str)) = false := by decide) (he : starEach (e :: es) X.env = (false, eval e X.env) :: starEach es X.env := by rfl) (ve : (backTo pos (starEach es X.env)).any (·.1) = false := by rfl) :
   PE X (.Call (.Name x p) (e :: es) [] pos) (aag sp Gg E t) := by
 intro pins s σ H Q I h
 refine aou (xK I hg hm ?_ AU)
 refine PySem.W.callWith_K (h₀ := X.base) I.ok.mod.kin hk (fz (ha pos pins s σ H _ I h) fun us s1 ⟨vs, H1, I1, r, q⟩ => ⟨I1.F3, ?_⟩) he ve
 exact Qp F hr hb hd hx I1 r q
theorem Qq (F : bL X.prog X.w X.K X.mg X.base CX k f fd ps sp) (hr : fJ k X.A) (hg : Gl X x) (hm : X.mg x = some (.ref f)) (hk : PySem.W.keepIn X.K (.ref f) = true) (hb : Binds X.K fd ps ds) (hd : Vals Gg ds) (hx : Passes CX X E)
   (AU : (x == ("__debug__" : Str)) = false := by decide) : PE X (.Call (.Name x p) [] [] pos) (aag sp Gg E Qn) := by
 intro pins s σ H Q I h
 refine aou (xK I hg hm ?_ AU)
 exact PySem.W.callWith_K0 I.F3 hk (Qp (us := []) F hr hb hd hx I .nil h)
structure Mk (K : PySem.W.Frag) (C f : Addr) : Prop where
 makes : PySem.W.makesIn K C = true
 init : PySem.W.findIn K (.ref C) "__init__" = some (some (.ref f))
 fn : PySem.W.isFn K (.ref f) = true
 kp : PySem.W.keepIn K (.ref C) = true
theorem Qs {pins : List (Addr × Obj)} {σ : St} {H : Hp} {s : Shared} {Q : VK} {us : List Value} {vs : List V} (M : Mk X.K C f) (F : bL X.prog X.w X.K X.mg X.base CX k f fd ps sp) (hr : fJ (k + 1) X.A) (hb : Binds X.K fd ps ds) (hd : Vals Gg ds)
   (hx : Passes CX X E) (I : Inv X pins σ H s) (r : Vals vs us)
   (h : ∀ x dx, H x = none -> H dx = none -> dx ≠ x -> sp (.ref x :: (vs ++ Gg)) (upd (upd H dx (.own x)) x (.ins C dx [])) (fun v H2 => v = .non /\ Q (.ref x) H2) E) :
   wpAny (model X.prog X.w) X.A (call (.ref C) us) (EP X pins σ Q) X.xe s := by
 have hq := h (s.heap.objs.size + 1) s.heap.objs.size (I.dU.fresh (aoE _)) (I.dU.fresh (am5 _)) (anA (Nat.lt_succ_self _))
 have I2 := Inv.made (C := C) I
 have r2 : Vals (V.ref (s.heap.objs.size + 1) :: (vs ++ Gg)) (Value.ref (s.heap.objs.size + 1) :: (us ++ ds)) := .cons rfl (r.append hd)
 have hl : (Value.ref (s.heap.objs.size + 1) :: us ++ ds).length = ps.length := by
   have e := r2.length
   rw [F.len _ _ _ _ hq] at e
   exact e.symm
 refine wpAny_call (Ql (f := f) I.F3 M.makes M.init (beq_iff_eq.mp M.fn) (codeAny_mono (F.run _ X.stack _ _ ⟨Value.ref (s.heap.objs.size + 1) :: us, []⟩ (Value.ref (s.heap.objs.size + 1) :: (us ++ ds)) _ _ E (hr.make C us [])
   (I2.afb.make C us []) (hb _ (Value.ref (s.heap.objs.size + 1) :: us) I2.F3 hl) r2 hq) fun r s' hq' => ?_))
 cases r with
 | error e => exact hx pins σ _ _ e s' I2 hq'
 | ok fl =>
   cases fl with
   | ret u =>
     obtain ⟨v, H', I3, rv, ev, q3⟩ := I2.after hq'
     subst ev
     exact ⟨rv, ⟨V.ref (s.heap.objs.size + 1), H', I3, rfl, q3⟩⟩
   | next => exact False.elim hq'
   | brk => exact False.elim hq'
   | cont => exact False.elim hq'
theorem LZ (M : Mk X.K C f) (F : bL X.prog X.w X.K X.mg X.base CX k f fd ps sp) (hr : fJ (k + 1) X.A) (hg : Gl X x) (hm : X.mg x = some (.ref C)) (hb : Binds X.K fd ps ds) (hd : Vals Gg ds) (hx : Passes CX X E)
   (ha : PA X (e :: es) t) (AU : (x == ("__debug__" : Str)) = false := by decide) (he : starEach (e :: es) X.env = (false, eval e X.env) :: starEach es X.env := by rfl) (ve : (backTo pos (starEach es X.env)).any (·.1) = false := by rfl) :
   PE X (.Call (.Name x p) (e :: es) [] pos) (afc C sp Gg E t) := by
 intro pins s σ H Q I h
 refine aou (xK I hg hm ?_ AU)
 refine PySem.W.callWith_K (h₀ := X.base) I.ok.mod.kin M.kp (fz (ha pos pins s σ H _ I h) fun us s1 ⟨vs, H1, I1, r, q⟩ => ⟨I1.F3, ?_⟩) he ve
 exact Qs M F hr hb hd hx I1 r q
end
noncomputable def PK (X : Cx) (kws : List Keyword) (t : TA) : Prop :=
 ∀ (pos : Pos) (pins : List (Addr × Obj)) (s : Shared) (σ : St) (H : Hp) (Q : List V -> Hp -> Prop), Inv X pins σ H s -> t σ H Q -> wpAny (model X.prog X.w) X.A (evalAll ((backToKw pos (keywordEach kws X.env)).map (·.2))) (AP X pins σ Q) X.xe s
section
variable {X : Cx} {CX : Qo} {k : Nat} {f C : Addr} {fd : FuncData} {ps ks : List Str} {sp : Sp} {E : XK} {x m : Str} {p pos apos aii : Pos} {e o : Expr} {es : List Expr} {kws : List Keyword} {te ta : TE} {t tk : TA} {nm : Option Str}
theorem abB : PK X [] Qn := fun _ _ _ _ H Q I h => wpAny_evalAll_nil ⟨[], H, I, .nil, h⟩
theorem Vo (ha : PE X e te) (hr : PK X kws t) : PK X (⟨nm, e, aii⟩ :: kws) (LY te t) := by
 intro pos pins s σ H Q I h
 show wpAny _ _ (evalAll ((do let v ← eval e X.env; standAt pos; pure v) :: (backToKw pos (keywordEach kws X.env)).map (·.2))) _ _ s
 refine wpAny_evalAll_cons (anh (fz (ha pins s σ H _ I h) fun u s1 ⟨x, H1, I1, r1, q1⟩ => anh (wpAny_standAt (anM ?_))))
 exact fz (hr pos pins s1 σ H1 _ I1 q1) fun us s2 ⟨xs, H2, I2, r2, q2⟩ => ⟨x :: xs, H2, I2, .cons r1 r2, q2⟩
variable {g : List Value -> List Value -> List Value} {gV : List V -> List V -> List V}
end
structure aJ (N P : List Str) (sc : Scope) : Prop where
 kind : sc.kind = .function
 co : sc.isCoroutine = false
 gen : sc.isGenerator = false
 nd : N.Nodup
 pre : N.take P.length = P
 par : ∀ x ∈ P, sc.names.lookup x = some .local \/ sc.names.lookup x = some .cell
 abC : ∀ y ∈ sc.names, y.2 ≠ .free
theorem Bw {kindOf : Str -> Option NameKind} {x : Str} : ∀ {binds : List (Str × Value)} {m : Str -> Option Value}, (∀ v, (x, v) ∉ binds) -> bindL kindOf binds m x = m x
 | [], _, _ => rfl
 | (n, v) :: r, m, h => by
   unfold bindL
   rw [Bw fun w hw => h w (am2 _ hw)]
   split
   . have : x ≠ n := by rintro rfl; exact h v am0
     simp [this]
   . rfl
theorem By {kindOf : Str -> Option NameKind} {x : Str} : ∀ {binds : List (Str × Value)} {m : Str -> Option Value}, (∀ v, (x, v) ∉ binds) -> bindC kindOf binds m x = m x
 | [], _, _ => rfl
 | (n, v) :: r, m, h => by
   unfold bindC
   rw [By fun w hw => h w (am2 _ hw)]
   split
   . rfl
   . have : x ≠ n := by rintro rfl; exact h v am0
     simp [this]
theorem BD {kindOf : Str -> Option NameKind} {x : Str} {v : Value} : ∀ {P : List Str} {vs : List Value} {i : Nat} {m : Str -> Option Value}, P.Nodup -> P[i]? = some x -> vs[i]? = some v -> kindOf x = some .local →
   bindL kindOf (P.zip vs) m x = some v
 | [], _, _, _, _, h, _, _ => by simp at h
 | _ :: _, [], _, _, _, _, h, _ => by simp at h
 | p :: P, w :: vs, 0, m, nd, h1, h2, hk => by
   simp at h1 h2; subst h1; subst h2
   show bindL kindOf ((p, w) :: P.zip vs) m p = _
   unfold bindL
   rw [Bw fun v hv => (aoa.mp nd).1 (List.of_mem_zip hv).1, amZ hk]
   simp
 | p :: P, w :: vs, i + 1, m, nd, h1, h2, hk => by
   show bindL kindOf ((p, w) :: P.zip vs) m x = _
   unfold bindL
   exact BD (i := i) (List.nodup_cons.mp nd).2 (by simpa using h1) (by simpa using h2) hk
theorem BE {kindOf : Str -> Option NameKind} {x : Str} {v : Value} : ∀ {P : List Str} {vs : List Value} {i : Nat} {m : Str -> Option Value}, P.Nodup -> P[i]? = some x -> vs[i]? = some v -> kindOf x ≠ some .local →
   bindC kindOf (P.zip vs) m x = some v
 | [], _, _, _, _, h, _, _ => by simp at h
 | _ :: _, [], _, _, _, _, h, _ => by simp at h
 | p :: P, w :: vs, 0, m, nd, h1, h2, hk => by
   simp at h1 h2; subst h1; subst h2
   show bindC kindOf ((p, w) :: P.zip vs) m p = _
   unfold bindC
   rw [By fun v hv => (aoa.mp nd).1 (List.of_mem_zip hv).1, amV hk]
   simp
 | p :: P, w :: vs, i + 1, m, nd, h1, h2, hk => by
   show bindC kindOf ((p, w) :: P.zip vs) m x = _
   unfold bindC
   exact BE (i := i) (List.nodup_cons.mp nd).2 (by simpa using h1) (by simpa using h2) hk
noncomputable def start (N : List Str) (vs : List V) : St := vs.map some ++ List.replicate (N.length - vs.length) none
noncomputable def yH (CX : Qo) (P : Program) (w : World) (K : PySem.W.Frag) (mg : Str -> Option Value) (base : Heap) (N : List Str) (qual : Str) (scope : Scope) (f : Addr) (cd : Value) (A : Around) (outer : List Env) (s : Shared) (H : Hp) (E : XK) : Cx where
 prog := P
 w := w
 K := K
 mg := mg
 base := base
 A := A.deeper (envOfC qual scope s.heap.objs.size f cd)
 N := N
 s₀ := s
 H₀ := H
 env := envOfC qual scope s.heap.objs.size f cd
 outer := outer
 stack := envOfC qual scope s.heap.objs.size f cd :: outer
 ex := []
 calm := true
 fn := fun _ => true
 pn := []
 xe := fun e s' => wpAny (model P w) (A.deeper (envOfC qual scope s.heap.objs.size f cd)) (leaving (envOfC qual scope s.heap.objs.size f cd) e) (fun _ s'' => CX outer H s E e s'') (fun e' s'' => CX outer H s E e' s'') s'
theorem Gh {sc : Scope} {n : Nat} {x : Str} (h : sc.names.lookup x = some .cell) : ∃ c, (cellsFrom n sc.names []).lookup x = some c := by
 have q := PySem.W.cellsFrom_some sc.names n [] (.inl h)
 exact Option.isSome_iff_exists.mp q
theorem Nr {CX : Qo} {P : Program} {w : World} {K : PySem.W.Frag} {mg : Str -> Option Value} {base : Heap} {N ps : List Str} {qual : Str} {scope : Scope} {f : Addr} {cd : Value} {A : Around} {outer : List Env} {s s1 : Shared} {H : Hp} {E : XK} {us : List Value} {vs : List V}
   (S : aJ N ps scope) (hd : A.handled = none) (e0 : Jo P w K mg base A outer s H) (hl : vs.length = ps.length) (r : Vals vs us)
   (x : InCallC s s.heap.objs.size (bindL (envOfC qual scope s.heap.objs.size f cd).kindOf (ps.zip us) fun _ => none) (cellsFrom (s.heap.objs.size + 1) scope.names []) (bindC (envOfC qual scope s.heap.objs.size f cd).kindOf (ps.zip us) fun _ => none) s1) :
   Inv (yH CX P w K mg base N qual scope f cd A outer s H E) [] (start N vs) H s1 := by
 have ve : ps.length <= N.length := by have := congrArg List.length S.pre; rw [aor] at this; omega
 obtain ⟨h1, tk, rfl, hk⟩ := x.done
 have noA : ∀ b : Addr, b ∉ (yH CX P w K mg base N qual scope f cd A outer s H E).ex := fun b z => absurd (show b ∈ ([] : List Addr) from z) (by simp)
 refine ⟨⟨e0.mod, S.kind, rfl, rfl, am5 _, fun y z c h1 h2 => ?_, fun y hy => ?_, fun y c _ h => ?_, fun _ => hd, Around.frames_deeper e0.frames, .inr ⟨rfl, rfl⟩, fun b z => absurd z (noA b), e0.bs, e0.UT, fun b _ _ => noA b, fun b z => absurd z (noA b), e0.xx, e0.frf⟩,
   rfl, e0.bare, Un.kept hk, ⟨_, x.toInCall.ns, fun i y v h1 h2 h3 => ?_⟩, fun y c h => ⟨_, x.cell y c h⟩, e0.dU.fresh (am5 _), fun y c h => ?_, fun p hp => absurd (show p ∈ ([] : List (Addr × Obj)) from hp) (by simp), e0.dU.kept hk, ?_⟩
 . exact name_of_addr x.apart (an1 h1) (an1 h2)
 . have hy : scope.names.lookup y = some .cell \/ scope.names.lookup y = some .free := hy
   rcases hy with hy | hy
   . exact Gh hy
   . exact absurd rfl (S.abC _ (an1 hy))
 . exact anY (x.above y c (an1 h))
 . have hi : i < vs.length := by
     unfold start at h2
     by_cases hi : i < vs.length
     . exact hi
     . rw [List.getElem?_append_right (by simpa using hi)] at h2
       rw [List.getElem?_replicate] at h2
       split at h2 <;> cases h2
   have ha : vs[i]? = some v := by
     unfold start at h2
     rw [List.getElem?_append_left (by simpa using hi), List.getElem?_map] at h2
     cases e : vs[i]? with
     | none => rw [e] at h2; cases h2
     | some a => rw [e] at h2; cases h2; rfl
   obtain ⟨u, hu, rv⟩ := r.get ha
   have hp : ps[i]? = some y := by
     rw [← S.pre, List.getElem?_take_of_lt (by omega)]; exact h1
   have ndP : ps.Nodup := by rw [← S.pre]; exact S.nd.sublist (List.take_sublist _ _)
   refine ⟨u, rv, ?_⟩
   rcases S.par y (ant hp) with k | k
   . exact .inl ⟨k, BD ndP hp hu k⟩
   . obtain ⟨c, e⟩ := Gh (n := s.heap.objs.size + 1) k
     refine .inr ⟨.inl k, c, e, ?_⟩
     have q := x.cell y c e
     rw [BE ndP hp hu (by show scope.names.lookup y ≠ _; rw [k]; decide)] at q
     exact q
 . exact e0.dU.fresh (anY (x.above y c (an1 h)))
 . unfold start
   show _ = N.length
   rw [anm, amY, aon]
   omega
theorem aai {CX : Qo} {P : Program} {w : World} {K : PySem.W.Frag} {mg : Str -> Option Value} {base : Heap} {k : Nat} {f : Addr} {name qual : Str} {params : Arguments} {body : List Stmt} {scope : Scope} {dV kV doc pm di ct oc : Value} {an od : Option Addr}
   {P4 : Array (Option Value)} {N ps : List Str} {sp : Sp} (lk : K.lookup f = some ⟨oc, od, .func (PySem.W.fnOf name qual params body scope dV kV doc pm an di ct), P4⟩) (jy : PySem.W.codeIn K di qual = true) (S : aJ N ps scope)
   (len : ∀ vs H Q E, sp vs H Q E -> vs.length = ps.length)
   (Gi : ∀ (A : Around) (outer : List Env) (s : Shared) (H : Hp) (vs : List V) (Q : VK) (E : XK), fJ k (A.deeper (envOfC qual scope s.heap.objs.size f di)) -> sp vs H Q E →
     ∃ t, Jd (yH CX P w K mg base N qual scope f di A outer s H E) body t /\ t { nx := fun _ H' => Q .non H', rt := Q } (start N vs) H) :
   bL P w K mg base CX (k + 1) f (PySem.W.fnOf name qual params body scope dV kV doc pm an di ct) ps sp := by
 refine ⟨len, fun A outer s H args us vs Q E hr e0 hb r Jp => ?_⟩
 have hl := len _ _ _ _ Jp
 have KX : K.In s.heap := e0.mod.kin.keeps fun b o e => (e0.bs b o e).1
 have lim : s.heap.NoLimit := e0.mod.nolimit.keeps fun b o e => (e0.bs b o e).1
 have yI : ∀ y ∈ ps.zip us, scope.names.lookup y.1 = some .local \/ (scope.names.lookup y.1 = some .cell /\ ((cellsFrom (s.heap.objs.size + 1) scope.names []).lookup y.1).isSome = true) := fun ⟨n, v⟩ hy => by
   rcases S.par n (List.of_mem_zip hy).1 with q | q
   . exact .inl q
   . exact .inr ⟨q, PySem.W.cellsFrom_some _ _ _ (.inl q)⟩
 refine codeAny_call_function hr.depth (KX _ _ lk) rfl S.co S.gen rfl (PySem.W.codeRec_of KX jy) (hb _ _ _ _ ?_)
 refine wpAny_newFunctionEnv_cells S.kind yI fun env he s1 x => ?_
 subst he
 refine ⟨lim.keeps x.toInCall.keep, codeAny_func ?_⟩
 obtain ⟨t, ht, hq⟩ := Gi A outer s H vs Q E (hr.deeper _) Jp
 have I : Inv (yH CX P w K mg base N qual scope f di A outer s H E) [] (start N vs) H s1 := Nr S hr.hd e0 hl r x
 refine aok (ht [] s1 (start N vs) H _ I hq) (fun fl s' hs => ?_) fun e s' hs => hs
 have fin : ∀ {σ' : St} {H' : Hp} {v : V} {u : Value}, Inv (yH CX P w K mg base N qual scope f di A outer s H E) [] σ' H' s' -> RelV v u -> Q v H' -> CE outer P w H s Q u s' :=
   fun {σ' H' v u} J rv q => ⟨v, H', J.os, J.bare, J.base, J.dU, rv, q⟩
 cases fl with
 | ret u =>
   obtain ⟨v, σ', H', J, rv, q⟩ := hs
   exact fin J rv q
 | next =>
   obtain ⟨σ', H', J, q⟩ := hs
   exact fin (v := V.non) (u := Value.none) J rfl q
 | brk =>
   obtain ⟨_, _, _, q⟩ := hs
   exact False.elim q
 | cont =>
   obtain ⟨_, _, _, q⟩ := hs
   exact False.elim q
section
variable {X : Cx} {x : Str} {p pos : Pos} {e : Expr} {es : List Expr} {t : TA} {id T : String} {r : List V -> Hp -> VK -> Prop}
noncomputable def tCB (r : List V -> Hp -> VK -> Prop) (t : TA) : TE := fun σ H Q => t σ H fun vs H1 => r vs H1 Q
theorem oB (hc : lP X (.builtin id) r) (hg : Gl X x) (hm : X.mg x = none) (hv : bootBuiltins x = some (.builtin id)) (ha : PA X (e :: es) t) (hn : x ≠ "__name__" := by decide) (AU : (x == ("__debug__" : Str)) = false := by decide)
   (he : starEach (e :: es) X.env = (false, eval e X.env) :: starEach es X.env := by rfl) (ve : (backTo pos (starEach es X.env)).any (·.1) = false := by rfl) : PE X (.Call (.Name x p) (e :: es) [] pos) (tCB r t) := by
 intro pins s σ H Q I h
 refine aou (rQ I hg hm hv ?_ hn AU)
 exact PyProof.Rows.callWith_builtin1 (fz (ha pos pins s σ H _ I h) fun us s1 ⟨vs, H1, I1, r1, q1⟩ => hc pins s1 σ H1 vs us Q I1 r1 q1) he ve
theorem jP (hc : lP X (.type T) r) (hg : Gl X x) (hm : X.mg x = none) (hv : bootBuiltins x = some (.type T)) (ha : PA X (e :: es) t) (hn : x ≠ "__name__" := by decide) (AU : (x == ("__debug__" : Str)) = false := by decide)
   (he : starEach (e :: es) X.env = (false, eval e X.env) :: starEach es X.env := by rfl) (ve : (backTo pos (starEach es X.env)).any (·.1) = false := by rfl) : PE X (.Call (.Name x p) (e :: es) [] pos) (tCB r t) := by
 intro pins s σ H Q I h
 refine aou (rQ I hg hm hv ?_ hn AU)
 exact aot (fz (ha pos pins s σ H _ I h) fun us s1 ⟨vs, H1, I1, r1, q1⟩ => hc pins s1 σ H1 vs us Q I1 r1 q1) he ve
end
end L2
namespace HT
open PySem PyProof.Rows
section
open PySem.SeqAt
open PySem.AutoSeq1 (wpAny_loadPart')
open PySem.MeetsSeq PySem.MeetsSeq2 PySem.MeetsSeq3
end
section
variable {prog : Program} {w : World} {A : Around} {E : Value -> Shared -> Prop} {s : Shared}
noncomputable def vf (n d : Nat) : Option Int -> Nat
 | none => d
 | some v => if v < 0 then (v + (n : Int)).toNat else min v.toNat n
end
end HT
namespace L2
open PySem PySem.Spec PyProof.Rows
noncomputable abbrev TO := St -> Hp -> (Option Int -> Hp -> Prop) -> Prop
noncomputable def PO (X : Cx) (e : Option Expr) (t : TO) : Prop :=
 ∀ (pins : List (Addr × Obj)) (s : Shared) (σ : St) (H : Hp) (Q : Option Int -> Hp -> Prop), Inv X pins σ H s -> t σ H Q →
   wpAny (model X.prog X.w) X.A (evalPart e X.env) (fun u s' => ∃ o H', Inv X pins σ H' s' /\ IsPart u o /\ Q o H') X.xe s
noncomputable def Vp : TO := fun _ H Q => Q none H
noncomputable def afd (t : TE) : TO := fun σ H Q => t σ H fun x H1 => ∃ i, x = .int i /\ Q (some i) H1
theorem intsAre_of {ns : List Int} : ∀ {us : List Value}, Vals (ns.map V.int) us -> IntsAre us ns := by
 induction ns with
 | nil => intro us r; rw [List.map_nil] at r; cases r; exact .nil
 | cons n ns ih =>
   intro us r
   rw [ani] at r
   cases r with
   | cons r1 r2 =>
     obtain ⟨t, e⟩ := r1
     subst e
     exact .cons n t (ih r2)
section
variable {X : Cx} {e : Expr} {te : TE} {lo hi : Option Expr} {tl th : TO} {pos p2 : Pos}
theorem Vq : PO X none Vp := by
 intro pins s σ H Q I h
 rw [evalPart_none]
 exact anM ⟨none, H, I, .none, h⟩
theorem Vr (h : PE X e te) : PO X (some e) (afd te) := by
 intro pins s σ H Q I hw
 rw [evalPart_some]
 refine fz (h pins s σ H _ I hw) fun u s1 zz => ?_
 obtain ⟨x, H1, I1, r1, q1⟩ := zz
 obtain ⟨i, rfl, q⟩ := q1
 obtain ⟨t, rfl⟩ := r1
 exact ⟨some i, H1, I1, .int i t, q⟩
noncomputable def SlR (X : Cx) (r : V -> Option Int -> Option Int -> Hp -> VK -> Prop) : Prop :=
 ∀ (pins : List (Addr × Obj)) (s : Shared) (σ : St) (H : Hp) (x : V) (v vl vu : Value) (lo hi : Option Int) (sl : Addr) (Q : VK), Inv X pins σ H s -> RelV x v -> s.heap.IsSliceOf sl vl vu .none -> IsPart vl lo -> IsPart vu hi -> r x lo hi H Q →
   ∃ T id, typeLookup (.type T) "__getitem__" = pure (some (.builtin id)) /\ s.TypeIs v T /\ wpAny (model X.prog X.w) X.A (getItem v (.ref sl)) (EP X pins σ Q) X.xe s
noncomputable def tSl (r : V -> Option Int -> Option Int -> Hp -> VK -> Prop) (te : TE) (tl th : TO) : TE := fun σ H Q => te σ H fun x H1 => tl σ H1 fun l H2 => th σ H2 fun u H3 => r x l u H3 Q
theorem Gj {r : V -> Option Int -> Option Int -> Hp -> VK -> Prop} (hr : SlR X r) (he : PE X e te) (hl : PO X lo tl) (hu : PO X hi th) : PE X (.Subscript e (.Slice lo hi none p2) pos) (tSl r te tl th) := by
 intro pins s σ H Q I h
 refine Subscript_ (fz (he pins s σ H _ I h) fun v s1 zz => ?_)
 obtain ⟨x, H1, I1, r1, q1⟩ := zz
 refine wpAny_Slice (fz (hl pins s1 σ H1 _ I1 q1) fun vl s2 ⟨l, H2, I2, pl, q2⟩ => fz (hu pins s2 σ H2 _ I2 q2) fun vu s3 zz => ?_)
 obtain ⟨u, H3, I3, pu, q3⟩ := zz
 rw [evalPart_none]
 refine anM ?_
 have I4 : Inv X pins σ H3 { s3 with heap := s3.heap.push { cls := .type "slice", data := .fields #[vl, vu, .none] } } := I3.kept (t' := s3.toks) fun b ob q => ana _ q
 obtain ⟨T, id, hT, ht, hg⟩ := hr pins { s3 with heap := s3.heap.push { cls := .type "slice", data := .fields #[vl, vu, .none] } } σ H3 x v vl vu l u s3.heap.objs.size Q I4 r1 (Heap.IsSliceOf.new ..) pl pu q3
 show wpAny (model X.prog X.w) X.A (subscriptTail e (.Slice lo hi none p2) v (.ref s3.heap.objs.size)) (EP X pins σ Q) X.xe { s3 with heap := s3.heap.push { cls := .type "slice", data := .fields #[vl, vu, .none] } }
 exact tail_any (ops := [.ref s3.heap.objs.size, v]) ht hT hg (by with_unfolding_all rfl)
noncomputable def Nt (xs : List V) (lo hi : Option Int) : List V := (xs.drop (HT.vf xs.length 0 lo)).take (HT.vf xs.length xs.length hi - HT.vf xs.length 0 lo)
theorem Gk (xs : List V) (lo hi : Option Int) : (Nt xs lo hi).length <= xs.length := by
 unfold Nt
 rw [aor, List.length_drop]
 omega
end
noncomputable def Nu (n : Nat) (i : Int) : Option Nat := if 0 <= i then (if i < n then some i.toNat else none) else if -(n : Int) <= i then some (i + n).toNat else none
noncomputable def sQ {α : Type} (xs : List α) (i : Int) : Option α := (Nu xs.length i).bind fun j => xs[j]?
theorem Cv {n : Nat} {i : Int} {j : Nat} (h : Nu n i = some j) : seqIndex? i n = some j /\ j < n /\ -(n : Int) <= i /\ i < n := by
 unfold Nu at h
 by_cases h0 : 0 <= i
 . rw [amZ h0] at h
   by_cases h1 : i < n
   . rw [amZ h1] at h
     have e : i.toNat = j := anj h
     exact ⟨by rw [seqIndex_of h0 h1, e], by omega, by omega, h1⟩
   . rw [amV h1] at h; cases h
 . rw [amV h0] at h
   by_cases h1 : -(n : Int) <= i
   . rw [amZ h1] at h
     have e : (i + n).toNat = j := anj h
     exact ⟨by rw [seqIndex_neg (by omega) h1, e], by omega, h1, by omega⟩
   . rw [amV h1] at h; cases h
theorem Cw {α : Type} {xs : List α} {i : Int} {v : α} (h : sQ xs i = some v) : ∃ j, seqIndex? i xs.length = some j /\ xs[j]? = some v /\ j < xs.length /\ -(xs.length : Int) <= i /\ i < xs.length := by
 unfold sQ at h
 cases e : Nu xs.length i with
 | none => rw [e] at h; cases h
 | some j =>
   rw [e] at h
   obtain ⟨h1, h2, h3, h4⟩ := Cv e
   exact ⟨j, h1, h, h2, h3, h4⟩
theorem bI {α : Type} {xs : List α} {j : Nat} {v : α} (h : xs[j]? = some v) : sQ xs (j : Int) = some v := by
 have hj : j < xs.length := (anf.mp h).1
 have e : Nu xs.length (j : Int) = some j := by
   unfold Nu
   rw [amZ (by omega), amZ (by omega)]; simp
 unfold sQ; rw [e]; exact h
noncomputable def pZ (b : Expr) : Prop := ∀ o i, subscripted b false o i = operate [o, i] (getItem o i)
noncomputable def IxR (X : Cx) (r : R2) : Prop :=
 ∀ (value slice : Expr) (pins : List (Addr × Obj)) (s : Shared) (σ : St) (H : Hp) (x y : V) (v u : Value) (Q : VK), Inv X pins σ H s -> RelV x v -> RelV y u -> r x y H Q →
   subscripted slice false v u = operate [v, u] (getItem v u) -> wpAny (model X.prog X.w) X.A (subscriptTail value slice v u) (EP X pins σ Q) X.xe s
noncomputable def MtR (X : Cx) (id : String) (r : V -> List V -> Hp -> VK -> Prop) : Prop :=
 ∀ (pins : List (Addr × Obj)) (s : Shared) (σ : St) (H : Hp) (x : V) (xs : List V) (v : Value) (us : List Value) (Q : VK), Inv X pins σ H s -> RelV x v -> Vals xs us -> r x xs H Q →
   wpAny (model X.prog X.w) X.A (call (.builtin id) (v :: us)) (EP X pins σ Q) X.xe s
section
variable {X : Cx} {a b : Expr} {ta tb : TE} {pos : Pos}
theorem Gm {r : R2} (hr : IxR X r) (ha : PE X a ta) (hb : PE X b tb) (hs : pZ b) : PE X (.Subscript a b pos) (tOp r ta tb) := by
 intro pins s σ H Q I h
 exact Subscript_ (abq ha hb I h fun v u s2 x y H2 I2 rx ry q => hr a b pins s2 σ H2 x y v u Q I2 rx ry q (hs _ _))
noncomputable def aik (K : PySem.W.Frag) : R2 := fun x y H Q => ∃ p xs i v, x = .ref p /\ y = .int i /\ oj K H p xs /\ sQ xs i = some v /\ Q v H
noncomputable def ail (K : PySem.W.Frag) : R2 := fun x y H Q => ∃ p xs i v, x = .ref p /\ y = .int i /\ yE K H p xs /\ sQ xs i = some v /\ Q v H
noncomputable def aim : R2 := fun x y H Q => ∃ z i c, x = .str z /\ y = .int i /\ z.length <= sizeLine /\ sQ z.cps.toList i = some c /\ Q (.str ⟨#[c]⟩) H
theorem L0 : IxR X (aik X.K) := by
 intro value slice pins s σ H x y v u Q I rx ry h hs
 obtain ⟨p, xs, i, z, rfl, rfl, hq, he, q⟩ := h
 cases rx
 obtain ⟨t, rfl⟩ := ry
 obtain ⟨its, r, pl, hz⟩ := I.list hq
 obtain ⟨j, h1, h2, h3, h4, h5⟩ := Cw he
 obtain ⟨w, ew, rw'⟩ := r.get h2
 have hl := r.length
 have hn := yG
 have fin : EP X pins σ Q w s := ⟨z, H, I, rw', q⟩
 by_cases h0 : 0 <= i
 . have hj : i.toNat = j := by
     rw [seqIndex_of h0 h5] at h1
     exact anj h1
   exact item_listR pl.isList h0 (by omega) (by rw [hj]; simpa using ew) fin hs
 . have hj : (i + (its.toArray.size : Int)).toNat = j := by
     rw [seqIndex_neg (by omega) h4] at h1
     rw [ano, ← hl]
     exact anj h1
   exact subscriptTail_builtinR (x := w) pl.isList.typeIs slot_list_getitem.lookup
     (wpAny_getItem_list_neg (Q := fun r s' => r = w /\ EP X pins σ Q r s') pl.isList (by omega) (by rw [List.size_toArray] <;> omega) (by omega) (by rw [hj]; simpa using ew) ⟨rfl, fin⟩) hs
theorem Qt : IxR X (ail X.K) := by
 intro value slice pins s σ H x y v u Q I rx ry h hs
 obtain ⟨p, xs, i, z, rfl, rfl, hq, he, q⟩ := h
 cases rx
 obtain ⟨t, rfl⟩ := ry
 obtain ⟨its, r, pl, hz⟩ := I.tuple hq
 obtain ⟨j, h1, h2, h3, h4, h5⟩ := Cw he
 obtain ⟨w, ew, rw'⟩ := r.get h2
 have hl := r.length
 have hn := yG
 have fin : EP X pins σ Q w s := ⟨z, H, I, rw', q⟩
 exact subscriptTail_builtinR (x := w) pl.typeIs slot_tuple_getitem.lookup
   (getItem_tuple (j := j) (Q := fun r s' => r = w /\ EP X pins σ Q r s') pl (by omega) (by omega) (by rw [List.size_toArray, ← hl]; exact h1) (by simpa using ew) ⟨rfl, fin⟩) hs
theorem abE : IxR X aim := by
 intro value slice pins s σ H x y v u Q I rx ry h hs
 obtain ⟨z, i, c, rfl, rfl, hz, he, q⟩ := h
 obtain ⟨t, rfl⟩ := rx
 obtain ⟨t', rfl⟩ := ry
 obtain ⟨j, h1, h2, h3, h4, h5⟩ := Cw he
 have hl : z.cps.toList.length = z.length := by simp [Str.length]
 rw [hl] at h1 h4 h5
 have hn := yG
 exact tail_any (typeIs_str s z t) slot_str_getitem.lookup (getItem_str (c := c) (by
   have e1 : decide (i < -(2 ^ 63 : Int)) = false := anz (by omega)
   have e2 : decide (i ≥ 2 ^ 63) = false := anz (by omega)
   rw [e1, e2, Bool.or_false]) (by rw [h1]; simpa using h2) ⟨.str ⟨#[c]⟩, H, I.tok _, ⟨_, rfl⟩, q⟩) hs
theorem Jq (its : List Value) (n j : Nat) (u : Value) : Obj.mapSeq (·.setIfInBounds j u) { cls := .type "list", data := .seq its.toArray n } = { cls := .type "list", data := .seq (its.set j u).toArray n } := by
 simp [Obj.mapSeq]
theorem Inv.lst {pins : List (Addr × Obj)} {σ : St} {H : Hp} {s : Shared} {p : Addr} {xs : List V} (I : Inv X pins σ H s) (h : H p = some (.lst xs)) :
   ∃ (its : List Value) (n : Nat), Vals xs its /\ s.heap.get? p = some { cls := .type "list", data := .seq its.toArray n } /\ xs.length <= sizeLine := by
 obtain ⟨z, its, n, r, e⟩ := I.dU p _ h
 exact ⟨its, n, r, e, z⟩
theorem Inv.abF {pins : List (Addr × Obj)} {σ : St} {H : Hp} {s : Shared} {p : Addr} {xs ys : List V} {its its' : List Value} {n n' : Nat} {f : Obj -> Obj} (I : Inv X pins σ H s) (h : H p = some (.lst xs))
   (ho : s.heap.get? p = some { cls := .type "list", data := .seq its.toArray n }) (hf : f { cls := .type "list", data := .seq its.toArray n } = { cls := .type "list", data := .seq its'.toArray n' }) (r : Vals ys its') (hz : ys.length <= sizeLine) (t : Nat) :
   Inv X pins σ (upd H p (.lst ys)) { s with heap := s.heap.update p f, toks := t } := by
 have e : (s.heap.update p f).get? p = some { cls := .type "list", data := .seq its'.toArray n' } := by
   rw [Heap.get?_update_self f ho (by rw [hf] <;> rfl), hf]
 refine I.write (x := p) (e := p) (by rw [h]; trivial) (.inl rfl) (fun b u hb q => (Heap.get?_update_other _ _ (Ne.symm hb)).trans q) ⟨_, e⟩ ?_
 exact ⟨hz, its', n', r, e⟩
noncomputable def afe : V -> V -> V -> Hp -> (Hp -> Prop) -> Prop := fun o i v H Q => ∃ p xs k j, o = .ref p /\ i = .int k /\ H p = some (.lst xs) /\ Nu xs.length k = some j /\ Q (upd H p (.lst (xs.set j v)))
theorem set_list : aeT X afe := by
 intro pins s σ H o i v ov iv u Q I ro ri rv h
 obtain ⟨p, xs, k, j, rfl, rfl, hp, hj, q⟩ := h
 cases ro
 obtain ⟨t, rfl⟩ := ri
 obtain ⟨its, n, r, ho, hz⟩ := I.lst hp
 obtain ⟨h1, h2, h3, h4⟩ := Cv hj
 have hl := r.length
 have hn := yG
 have I' : Inv X pins σ (upd H p (.lst (xs.set j v))) { s with heap := s.heap.update p (Obj.mapSeq (·.setIfInBounds j u)) } :=
   I.abF hp ho (Jq its n j u) (r.set rv j) (by rw [List.length_set]; exact hz) s.toks
 by_cases h0 : 0 <= k
 . have hk : k.toNat = j := by
     rw [seqIndex_of h0 h4] at h1
     exact anj h1
   exact PySem.W.ki_setAt ho h0 (by omega) (by rw [ano, ← hl]; exact h4) (by rw [hk]; exact ⟨_, I', q⟩)
 . have hk : (k + (its.toArray.size : Int)).toNat = j := by
     rw [seqIndex_neg (by omega) h3] at h1
     rw [ano, ← hl]
     exact anj h1
   exact PySem.W.ki_setBack ho (by omega) (by rw [ano, ← hl]; exact h3) (by omega) (by rw [hk]; exact ⟨_, I', q⟩)
theorem Cy (lo hi : Option Int) (n : Nat) : (sliceBounds lo hi none n).1 = ((HT.vf n 0 lo : Nat) : Int) /\ (sliceBounds lo hi none n).2.1 = ((HT.vf n n hi : Nat) : Int) /\ (sliceBounds lo hi none n).2.2 = 1 := by
 refine ⟨?_, ?_, rfl⟩
 . cases lo with
   | none => simp [sliceBounds, HT.vf]
   | some i =>
     simp only [sliceBounds, HT.vf, Option.getD_none, show (1 : Int) > 0 by decide, aoO]
     by_cases h : i < 0
     . simp only [h, aoO] <;> omega
     . simp only [h, aoy] <;> omega
 . cases hi with
   | none => simp [sliceBounds, HT.vf]
   | some i =>
     simp only [sliceBounds, HT.vf, Option.getD_none, show (1 : Int) > 0 by decide, aoO]
     by_cases h : i < 0
     . simp only [h, aoO] <;> omega
     . simp only [h, aoy] <;> omega
theorem AV (its : List Value) (lo hi : Option Int) : slicePick its.toArray lo hi none = ((its.drop (HT.vf its.length 0 lo)).take (HT.vf its.length its.length hi - HT.vf its.length 0 lo)).toArray := by
 obtain ⟨h1, h2, h3⟩ := Cy lo hi its.toArray.size
 unfold slicePick
 rw [h1, h2, h3]
 simp only [sliceRange_one, pick_run, ano] <;> rfl
noncomputable def ain (K : PySem.W.Frag) : V -> Option Int -> Option Int -> Hp -> VK -> Prop := fun x lo hi H Q => ∃ a xs, x = .ref a /\ oj K H a xs /\ ∀ p, H p = none -> Q (.ref p) (upd H p (.lst (Nt xs lo hi)))
theorem Vs : SlR X (ain X.K) := by
 intro pins s σ H x v vl vu lo hi sl Q I rx hs pl pu h
 obtain ⟨a, xs, rfl, hx, q⟩ := h
 cases rx
 obtain ⟨its, r, ht, hz⟩ := I.list hx
 have hlen := r.length
 refine ⟨"list", _, slot_list_getitem.lookup, ht.isList.typeIs, ?_⟩
 refine wpAny_getItem_list_slice ht.isList hs pl pu .none (by simp) ?_ (by rw [ano] <;> omega)
 rw [AV, ← hlen]
 refine ⟨.ref s.heap.objs.size, _, I.laid (t' := s.toks) (o := .lst (Nt xs lo hi)) (fun b ob q => ana _ q) (am5 _) ?_, rfl, q _ (I.dU.fresh (am5 _))⟩
 exact ⟨anL (Gk xs lo hi) hz, _, 0, (r.drop (HT.vf xs.length 0 lo)).take (HT.vf xs.length xs.length hi - HT.vf xs.length 0 lo), anv _ rfl⟩
noncomputable def rC : V -> Bool
 | .non => true
 | .bl _ => true
 | .int _ => true
 | .str _ => true
 | _ => false
noncomputable def Qu : V -> V -> Bool
 | .non, .non => true
 | .bl a, .bl b => a == b
 | .bl a, .int b => (if a then 1 else 0) == b
 | .int a, .bl b => a == (if b then 1 else 0)
 | .int a, .int b => a == b
 | .str a, .str b => a == b
 | _, _ => false
theorem abG {A : Around} {s : Shared} {y x : V} {u v : Value} (ry : RelV y u) (rx : RelV x v) (fy : rC y = true) (fx : rC x = true) : SeqAt.EqAt A s u v (Qu y x) := by
 cases y with
 | non =>
   cases ry
   cases x with
   | non => cases rx; exact SeqAt.EqAt.same _
   | bl b => cases rx; exact SeqAt.EqAt.none_bool b
   | int b => obtain ⟨t, rfl⟩ := rx; exact SeqAt.EqAt.none_int b t
   | str b => obtain ⟨t, rfl⟩ := rx; exact SeqAt.EqAt.none_str b t
   | _ => exact absurd (show false = true from fx) ane
 | bl a =>
   cases ry
   cases x with
   | non => cases rx; exact SeqAt.EqAt.bool_none a
   | bl b => cases rx; exact SeqAt.EqAt.bool_bool a b
   | int b => obtain ⟨t, rfl⟩ := rx; exact SeqAt.EqAt.bool_int a b t
   | str b => obtain ⟨t, rfl⟩ := rx; exact SeqAt.EqAt.bool_str a b t
   | _ => exact absurd (show false = true from fx) ane
 | int a =>
   obtain ⟨t', rfl⟩ := ry
   cases x with
   | non => cases rx; exact SeqAt.EqAt.int_none a t'
   | bl b => cases rx; exact SeqAt.EqAt.int_bool a t' b
   | int b => obtain ⟨t, rfl⟩ := rx; exact SeqAt.EqAt.int_int a t' b t
   | str b => obtain ⟨t, rfl⟩ := rx; exact SeqAt.EqAt.int_str a t' b t
   | _ => exact absurd (show false = true from fx) ane
 | str a =>
   obtain ⟨t', rfl⟩ := ry
   cases x with
   | non => cases rx; exact SeqAt.EqAt.str_none a t'
   | bl b => cases rx; exact SeqAt.EqAt.str_bool a t' b
   | int b => obtain ⟨t, rfl⟩ := rx; exact SeqAt.EqAt.str_int a t' b t
   | str b => obtain ⟨t, rfl⟩ := rx; exact SeqAt.EqAt.str_str a t' b t
   | _ => exact absurd (show false = true from fx) ane
 | _ => exact absurd (show false = true from fy) ane
noncomputable def Jr (x : V) (u : Value) : Bool := match u with
 | .none => Qu .non x
 | .bool b => Qu (.bl b) x
 | .int i _ => Qu (.int i) x
 | .str z _ => Qu (.str z) x
 | _ => false
theorem Qv {x y : V} {u : Value} (r : RelV y u) (f : rC y = true) : Jr x u = Qu y x := by
 cases y with
 | non => cases r; rfl
 | bl b => cases r; rfl
 | int i => obtain ⟨t, rfl⟩ := r; rfl
 | str z => obtain ⟨t, rfl⟩ := r; rfl
 | _ => exact absurd (show false = true from f) ane
theorem sR {x : V} : ∀ {xs : List V} {us : List Value}, Vals xs us -> xs.all rC = true -> us.any (Jr x) = xs.any fun y => Qu y x
 | _, _, .nil, _ => rfl
 | y :: xs, u :: us, .cons r t, f => by
   rw [ao1, anE] at f
   rw [an4, an4, Qv r f.1, sR t f.2]
theorem oE {A : Around} {s : Shared} {x : V} {v : Value} (rx : RelV x v) (fx : rC x = true) : ∀ {xs : List V} {us : List Value}, Vals xs us -> xs.all rC = true -> ∀ u ∈ us, SeqAt.EqAt A s u v (Jr x u)
 | _, _, .nil, _ => fun u hu => by cases hu
 | y :: xs, u :: us, .cons r t, f => fun u' hu => by
   rw [ao1, anE] at f
   rcases am1.mp hu with rfl | hu
   . rw [Qv r f.1]; exact abG r rx f.1 fx
   . exact oE rx fx t f.2 u' hu
noncomputable def inV (x : V) (xs : List V) : Bool := xs.any fun y => Qu y x
noncomputable def rIn (K : PySem.W.Frag) (neg : Bool) : R2 := fun x y H Q => ∃ p xs, y = .ref p /\ (oj K H p xs \/ yE K H p xs) /\ rC x = true /\ xs.all rC = true /\ Q (.bl (if neg then !inV x xs else inV x xs)) H
theorem qa : vd X (compareOp .In) (rIn X.K false) := by
 intro pins s σ H x y v u Q I rx ry h
 obtain ⟨p, xs, rfl, hq, fx, fs, q⟩ := h
 cases ry
 rcases hq with hq | hq
 . obtain ⟨its, r, pl, hz⟩ := I.list hq
   refine SeqAt.in_listAt (Jr x) pl.isList (fun w hw => oE rx fx r fs w (by simpa using hw)) ⟨.bl _, H, I, rfl, ?_⟩
   rw [show its.toArray.any (Jr x) = its.any (Jr x) by simp, sR r fs]
   exact q
 . obtain ⟨its, r, pl, hz⟩ := I.tuple hq
   refine SeqAt.in_tupleAt (Jr x) pl (fun w hw => oE rx fx r fs w (by simpa using hw)) ⟨.bl _, H, I, rfl, ?_⟩
   rw [show its.toArray.any (Jr x) = its.any (Jr x) by simp, sR r fs]
   exact q
theorem jA : vd X (compareOp .NotIn) (rIn X.K true) := by
 intro pins s σ H x y v u Q I rx ry h
 obtain ⟨p, xs, rfl, hq, fx, fs, q⟩ := h
 cases ry
 rcases hq with hq | hq
 . obtain ⟨its, r, pl, hz⟩ := I.list hq
   refine SeqAt.notIn_listAt (Jr x) pl.isList (fun w hw => oE rx fx r fs w (by simpa using hw)) ⟨.bl _, H, I, rfl, ?_⟩
   rw [show its.toArray.any (Jr x) = its.any (Jr x) by simp, sR r fs]
   exact q
 . obtain ⟨its, r, pl, hz⟩ := I.tuple hq
   refine SeqAt.notIn_tupleAt (Jr x) pl (fun w hw => oE rx fx r fs w (by simpa using hw)) ⟨.bl _, H, I, rfl, ?_⟩
   rw [show its.toArray.any (Jr x) = its.any (Jr x) by simp, sR r fs]
   exact q
theorem Cz : lP X (.builtin "len") (fun xs H Q => ∃ p ys, xs = [.ref p] /\ (oj X.K H p ys \/ yE X.K H p ys) /\ Q (.int ys.length) H) := by
 intro pins s σ H xs us Q I r h
 obtain ⟨p, ys, rfl, hq, q⟩ := h
 obtain ⟨u, rfl, rx⟩ := vals1 r
 cases rx
 have hn := yG
 rcases hq with hq | hq
 . obtain ⟨its, r', pl, hz⟩ := I.list hq
   have hlen := r'.length
   exact Calls.call_len_list pl.isList (by simp only [ano] <;> omega) ⟨.int ys.length, H, I.tok _, ⟨s.toks + 1, by rw [ano, hlen]⟩, q⟩
 . obtain ⟨its, r', pl, hz⟩ := I.tuple hq
   have hlen := r'.length
   exact len_tuple pl (by simp only [ano] <;> omega) ⟨.int ys.length, H, I.tok _, ⟨s.toks + 1, by rw [ano, hlen]⟩, q⟩
theorem CB : lP X (.type "list") (fun xs H Q => ∃ p ys, xs = [.ref p] /\ (oj X.K H p ys \/ yE X.K H p ys) /\ ∀ l, H l = none -> Q (.ref l) (upd H l (.lst ys))) := by
 intro pins s σ H xs us Q I r h
 obtain ⟨p, ys, rfl, hq, q⟩ := h
 obtain ⟨u, rfl, rx⟩ := vals1 r
 cases rx
 have fin : ∀ (its : List Value), Vals ys its -> ys.length <= sizeLine -> ∀ (h' : Heap) (c' : Nat), (∀ b o', s.heap.get? b = some o' -> h'.get? b = some o') →
     h'.get? s.heap.objs.size = some { cls := .type "list", dict := none, data := .seq its.toArray c', slots := #[] } -> EP X pins σ Q (.ref s.heap.objs.size) { s with heap := h' } := fun its r' hz h' c' kp e =>
   ⟨.ref s.heap.objs.size, _, I.laid (t' := s.toks) kp (am5 _) (show eY X.prog X.w _ h' _ (.lst ys) from ⟨hz, its, c', r', e⟩), rfl, q _ (I.dU.fresh (am5 _))⟩
 rcases hq with hq | hq
 . obtain ⟨its, r', pl, hz⟩ := I.list hq
   have hlen := r'.length
   obtain ⟨o, ho, hc, n, hd⟩ := pl.isList
   exact call_list_seq p (.inl rfl) ho hc hd (fun h' c' kp e => fin its r' hz h' c' kp e) (by simp only [ano] <;> omega)
 . obtain ⟨its, r', pl, hz⟩ := I.tuple hq
   have hlen := r'.length
   obtain ⟨o, ho, hc, n, hd⟩ := pl
   exact call_list_seq p (.inr rfl) ho hc hd (fun h' c' kp e => fin its r' hz h' c' kp e) (by simp only [ano] <;> omega)
theorem AW : lP X (.type "tuple") (fun xs H Q => ∃ p ys, xs = [.ref p] /\ ((oj X.K H p ys /\ ∀ l, H l = none -> Q (.ref l) (upd H l (.tup ys))) \/ (yE X.K H p ys /\ Q (.ref p) H))) := by
 intro pins s σ H xs us Q I r h
 obtain ⟨p, ys, rfl, h⟩ := h
 obtain ⟨u, rfl, rx⟩ := vals1 r
 cases rx
 rcases h with ⟨hq, q⟩ | ⟨hq, q⟩
 . obtain ⟨its, r', pl, hz⟩ := I.list hq
   have hlen := r'.length
   refine call_tuple_list pl.isList (fun h' kp => ?_) (by simp only [ano] <;> omega)
   have I1 : Inv X pins σ H { s with heap := h' } := I.kept (t' := s.toks) kp
   have I2 : Inv X pins σ (upd H h'.objs.size (.tup ys)) { s with heap := h'.push { cls := .type "tuple", data := .seq its.toArray } } :=
     I1.laid (t' := s.toks) (fun b o e => ana _ e) (am5 _) (show eY X.prog X.w _ _ _ (.tup ys) from ⟨hz, its, r', IsTup.new _ _⟩)
   exact ⟨.ref h'.objs.size, _, I2, rfl, q _ (I1.dU.fresh (am5 _))⟩
 . obtain ⟨its, r', pl, hz⟩ := I.tuple hq
   exact call_tuple_same pl ⟨.ref p, H, I, rfl, q⟩
noncomputable def tyV (K : PySem.W.Frag) (T : String) (x : V) (H : Hp) : Prop := match x with
 | .str _ => T = "str"
 | .int _ => T = "int"
 | .ref p => (T = "list" /\ ∃ xs, oj K H p xs) \/ (T = "tuple" /\ ∃ o, K.lookup p = some o /\ o.cls = .type "tuple" /\ o.dict = none) ∨
     (T = "dict" /\ ((∃ kvs, H p = some (.dK kvs)) \/ ∃ kvs, H p = some (.dT kvs))) \/ (T = "set" /\ ∃ S n, H p = some (.set S n))
 | _ => False
theorem abH {pins : List (Addr × Obj)} {σ : St} {H : Hp} {s : Shared} {T : String} {x : V} {v : Value} (I : Inv X pins σ H s) (r : RelV x v) (ty : tyV X.K T x H) :
   s.TypeIs v T /\ ∀ a, v = .ref a -> ∃ ob, s.heap.get? a = some ob /\ ob.dict = none := by
 cases x with
 | str z =>
   obtain ⟨t, rfl⟩ := r
   cases (show T = "str" from ty)
   exact ⟨typeIs_str s z t, fun _ e => nomatch e⟩
 | int i =>
   obtain ⟨t, rfl⟩ := r
   cases (show T = "int" from ty)
   exact ⟨typeIs_int s i t, fun _ e => nomatch e⟩
 | ref p =>
   cases r
   rcases ty with ⟨rfl, xs, hq⟩ | ⟨rfl, o, hk, hc, hd⟩ | ⟨rfl, hk⟩ | ⟨rfl, S, n, hk⟩
   . obtain ⟨its, _, pl, _⟩ := I.list hq
     refine ⟨pl.isList.typeIs, fun a e => ?_⟩
     cases e
     obtain ⟨o, n, e, c, hd, _⟩ := pl
     exact ⟨o, e, hd⟩
   . refine ⟨⟨o, I.F3 p o hk, hc⟩, fun a e => ?_⟩
     cases e
     exact ⟨o, I.F3 _ o hk, hd⟩
   . have z : ∃ o, s.heap.get? p = some o /\ o.ExactDict := by
       rcases hk with ⟨kvs, hk⟩ | ⟨kvs, hk⟩
       . obtain ⟨_, _, _, _, o, _, _, e, ex, _⟩ := I.dU p _ hk
         exact ⟨o, e, ex⟩
       . obtain ⟨_, _, _, _, o, _, _, e, ex, _⟩ := I.dU p _ hk
         exact ⟨o, e, ex⟩
     obtain ⟨o, e, ex⟩ := z
     refine ⟨⟨o, e, ex.1⟩, fun a e2 => ?_⟩
     cases e2
     exact ⟨o, e, ex.2.1⟩
   . obtain ⟨o, _, _, _, e, ex, _⟩ := I.dU p _ hk
     refine ⟨⟨o, e, ex.1⟩, fun a e2 => ?_⟩
     cases e2
     exact ⟨o, e, ex.2.1⟩
 | _ => exact False.elim ty
noncomputable def tBM (K : PySem.W.Frag) (T : String) (r : V -> List V -> Hp -> VK -> Prop) (to : TE) (t : TA) : TE := fun σ H Q => to σ H fun x H1 => tyV K T x H1 /\ t σ H1 fun xs H2 => r x xs H2 Q
variable {o e : Expr} {es : List Expr} {to : TE} {t : TA} {name : Str} {apos Gn : Pos} {T id : String} {r : V -> List V -> Hp -> VK -> Prop}
theorem aak (pa : PlainAttrs T) (slot : Slot T name id) (hty : typeOf (.builtin id) = pure (.type "method_descriptor")) (hm : MtR X id r) (ho : PE X o to) (ha : PA X (e :: es) t)
   (yJ : attributeBase o name X.env (eval o X.env) = eval o X.env := by rfl)
   (Js : ((backTo Gn (starEach (e :: es) X.env)).all (fun x => !x.1) && (backToKw Gn (keywordEach [] X.env)).all (fun x => x.1.isSome)
     && decide ((e :: es).length + ([] : List Keyword).length + (if ([] : List Keyword).isEmpty then 0 else 1) < 30)) = true := by rfl)
   (hline : (apos.endLine == Gn.line) = true := by rfl) (hs : starEach (e :: es) X.env = (false, eval e X.env) :: starEach es X.env := by rfl) (Jt : (backTo Gn (starEach es X.env)).any (·.1) = false := by rfl) :
   PE X (.Call (.Attribute o name apos) (e :: es) [] Gn) (tBM X.K T r to t) := by
 intro pins s σ H Q I h
 refine wpAny_Call_method_late yJ Js hline rfl (fz (ho pins s σ H _ I h) fun v s1 zz => ?_)
 obtain ⟨x, H1, I1, r1, ty, q1⟩ := zz
 obtain ⟨h1, h2⟩ := abH I1 r1 ty
 refine ⟨T, id, pa, slot, hty, h1, h2, ?_⟩
 have hA := ha Gn pins s1 σ H1 _ I1 q1
 rw [hs] at hA ⊢
 refine Calls.callWith_builtin (by show (false || (backTo Gn (starEach es X.env)).any (·.1)) = false; rw [Jt] <;> rfl) (Calls.evalArgs_plain ?_)
 exact fz hA fun us s2 ⟨vs, H2, I2, r2, q2⟩ => hm pins s2 σ H2 x vs v us Q I2 r1 r2 q2
end
noncomputable def MtM (X : Cx) (id : String) (r : V -> List V -> Hp -> VK -> Prop) : Prop :=
 ∀ (pins : List (Addr × Obj)) (s : Shared) (σ : St) (H : Hp) (x : V) (xs : List V) (v : Value) (us : List Value) (Q : VK), Inv X pins σ H s -> RelV x v -> Vals xs us -> r x xs H Q →
   wpAny (model X.prog X.w) X.A (call (.builtin id) (v :: us)) (EP X pins σ Q) X.xe s
theorem Vals.one {x : V} {us : List Value} (h : Vals [x] us) : ∃ u, us = [u] /\ RelV x u := by
 cases h with
 | cons r h => cases h; exact ⟨_, rfl, r⟩
theorem Vals.two {x y : V} {us : List Value} (h : Vals [x, y] us) : ∃ u v, us = [u, v] /\ RelV x u /\ RelV y v := by
 cases h with
 | cons r h => cases h with
   | cons q h => cases h; exact ⟨_, _, rfl, r, q⟩
theorem Vals.rep {xs : List V} {us : List Value} (h : Vals xs us) : ∀ k : Nat, Vals (List.replicate k xs).flatten (List.replicate k us).flatten
 | 0 => .nil
 | k + 1 => by
   rw [aoi, aoi, aoA, aoA]
   exact Vals.append h (Vals.rep h k)
theorem foldl_rep (its : List Value) : ∀ (k : Nat) (acc : List Value),
   List.foldl (fun x1 x2 => x1 ++ x2) acc.toArray (List.replicate k its.toArray) = (acc ++ (List.replicate k its).flatten).toArray
 | 0, acc => by simp
 | k + 1, acc => by
   have e : acc.toArray ++ its.toArray = (acc ++ its).toArray := by simp
   have e2 : (acc ++ its) ++ (List.replicate k its).flatten = acc ++ (List.replicate (k + 1) its).flatten := by
     rw [aoi, aoA, am8]
   rw [← e2, ← foldl_rep its k (acc ++ its), ← e, aoi, aoJ]
section
variable {X : Cx} {pins : List (Addr × Obj)} {σ : St} {H : Hp} {s : Shared} {l b : Addr} {xs ys zs : List V}
theorem Inv.aio {its its' : List Value} {n : Nat} {f : Array Value -> Array Value} {t' : Nat} (I : Inv X pins σ H s) (hH : H l = some (.lst xs))
   (e : s.heap.get? l = some { cls := .type "list", data := .seq its.toArray n }) (hf : f its.toArray = its'.toArray) (hv : Vals ys its') (hz : ys.length <= sizeLine) :
   Inv X pins σ (upd H l (.lst ys)) { s with heap := s.heap.update l (Obj.mapSeq f), toks := t' } := by
 have q := PySem.IsL.update e f
 rw [hf] at q
 refine I.write (x := l) (e := l) (by rw [hH]; exact trivial) (.inl rfl) (fun b' u hb hu => (Heap.get?_update_other s.heap (Obj.mapSeq f) (Ne.symm hb)).trans hu) ⟨_, q⟩ ?_
 exact ⟨hz, its', _, hv, q⟩
theorem Inv.afg {its : List Value} {t' : Nat} (I : Inv X pins σ H s) (hv : Vals ys its) (hz : ys.length <= sizeLine) :
   Inv X pins σ (upd H s.heap.objs.size (.lst ys)) { s with heap := s.heap.push { cls := .type "list", data := .seq its.toArray }, toks := t' } :=
 I.laid (fun _ _ q => ana _ q) (am5 _) ⟨hz, its, 0, hv, anv _ rfl⟩
theorem Inv.fresh (I : Inv X pins σ H s) : H s.heap.objs.size = none := I.dU.fresh (am5 _)
theorem Inv.aip (I : Inv X pins σ H s) (hH : H l = some (.lst xs)) : xs.length <= sizeLine /\ ∃ (its : List Value) (n : Nat), Vals xs its /\ xs.length = its.length /\ s.heap.get? l = some { cls := .type "list", data := .seq its.toArray n } := by
 obtain ⟨z, its, n, r, e⟩ := I.dU l _ hH
 exact ⟨z, its, n, r, r.length, e⟩
theorem Qw {n : Nat} (h : n <= sizeLine) : Builtin.List.listTooLong n = false := by
 unfold Builtin.List.listTooLong
 exact anz (by omega)
end
section
variable {X : Cx}
noncomputable def Vt : V -> List V -> Hp -> VK -> Prop := fun x vs H Q => ∃ l xs y, x = .ref l /\ vs = [y] /\ H l = some (.lst xs) /\ xs.length < sizeLine /\ Q .non (upd H l (.lst (xs ++ [y])))
theorem BF : MtM X "list.append" Vt := by
 intro pins s σ H x vs v us Q I rx rv h
 obtain ⟨l, xs, y, rfl, rfl, hH, hz, q⟩ := h
 cases rx
 obtain ⟨u, rfl, ru⟩ := rv.one
 obtain ⟨z, its, n, r, hl, e⟩ := I.aip hH
 refine call_meets F.slot_list_append ⟨_, e, rfl⟩ F.entry_list_append (F.args_list_append_2 _ _) (PySem.list_append l its.toArray n u (by rw [ano]; omega)) ⟨e, ?_⟩
 refine ⟨.non, _, I.aio (its' := its ++ [u]) hH e (by simp) (r.append (.cons ru .nil)) ?_, rfl, q⟩
 rw [anm, List.length_singleton]
 omega
theorem len_rep {α : Type} (xs : List α) (k : Nat) : (List.replicate k xs).flatten.length = k * xs.length := by
 induction k with
 | zero => simp
 | succ k ih => rw [aoi, aoA, anm, ih, Nat.succ_mul, Nat.add_comm]
end
section
variable {prog : Program} {w : World} {A : Around} {E : Value -> Shared -> Prop} {s : Shared}
set_option maxRecDepth 100000 in
end
section
variable {X : Cx}
end
end L2
namespace Att
open PySem PySem.W PySem.Calls PyProof.Rows
theorem xA {P : Params} {h : Heap} : ∀ (ns : List Int) (vs : List Value), WellAll P h vs (ns.map WData.int) -> IntsAre vs ns := by
 intro ns
 induction ns with
 | nil =>
   intro vs w
   rw [List.map_nil] at w
   cases w
   exact .nil
 | cons n ns ih =>
   intro vs w
   rw [List.map_cons] at w
   cases w with
   | cons a b =>
     cases a
     exact .cons _ _ (ih _ b)
theorem Nv {l : OpenLaw} {n : Nat} (hn : l.most = some n) {P : Params} {h : Heap} {args : List WData} {vals : List Value}
   (xB : l.row.toRowW.claim.pre args = true) (Qx : WellAll P h vals args) :
   ∃ a vs ns, vals = [Value.ref a] /\ args = [WData.list (ns.map WData.int)] /\ h.get? a = some { cls := .type "list", data := .seq vs.toArray } /\ IntsAre vs ns /\ ns.length <= n := by
 have hsh : WShape.hasAll [] args [.list .int] = true := (pre_splitW xB).1
 have hc : l.pre.holds [] { args := args } = true := (pre_splitW xB).2
 obtain ⟨d, r, rfl, h1, h2⟩ := hasAllW_cons hsh
 obtain rfl := hasAllW_nil h2
 obtain ⟨xs, rfl, h3⟩ := hasW_list h1
 obtain ⟨ns, rfl⟩ := items_int h3
 have hlen : ns.length <= n := by
   unfold OpenLaw.pre at hc
   have h4 : (WTm.not (.lt (.lit (.int (n : Int))) (.len (.arg 0)))).holds [] { args := [.list (ns.map .int)] } = true := by
     have h4 := (holds_andW hc).1
     rw [hn] at h4
     exact h4
   have h5 := condW_of h4 (w_not (w_lt w_lit (w_len_list (w_arg rfl))))
   rw [List.length_map] at h5
   refine Nat.le_of_not_lt fun q => ?_
   have q' : (n : Int) < ((ns.length : Nat) : Int) := by omega
   first
     | (rw [decide_eq_true q'] at h5; exact absurd h5 (by decide))
     | (simp at h5; omega)
 cases Qx with
 | cons w1 w2 =>
   cases w2
   cases w1 with
   | list ho Gp => exact ⟨_, _, ns, rfl, rfl, ho, xA ns _ Gp, hlen⟩
theorem Nx (l : OpenLaw) (args : List WData) : l.row.toRowW.claim.post args (.bool true) args = true :=
 postW_of (r := l.row.toRowW) (X := (true == true))
   (show WShape.has [] (.bool true) .bool = true by first | rfl | decide | simp [WShape.has, WShape.arms, WShape.armsAll])
   (show (WTm.eq .res (.lit (.bool true))).value [] { args := args, res := some (.bool true), after := args } = some (.bool (true == true)) from w_eq_bool (w_res rfl) w_lit) rfl
theorem Gq {l : OpenLaw} {n : Nat} {q : Program} {loose : List Str} {XP : (Str -> Option Value) -> Heap -> Prop} {YP : World -> Heap -> Prop} {d : DefRec}
   (hn : l.most = some n) (hdf : d.params.defaults = [])
   (call : ∀ (w : World) (s₀ s₁ : Shared) (mg mb : Str -> Option Value) (fa : Addr) (o : Obj) (pm cd doc : Value) (a : Addr) (vs : List Value) (ns : List Int),
     Ground q loose [] XP w s₀ mg mb s₁.heap -> YP w s₁.heap →
     s₁.heap.get? fa = some o -> o.data = .func (docDef d.name d.params d.body d.scope pm cd doc) -> s₁.heap.CodeRec cd d.name -> mg d.name = some (.ref fa) →
     s₁.heap.get? a = some { cls := .type "list", data := .seq vs.toArray } -> IntsAre vs ns -> ns.length <= n -> s₁.gens = #[] →
     codeAny (model l.prog w) callerA (.call (.ref fa) ⟨[.ref a], []⟩) (fun r s' => r = .ok (.ret (.bool true)) /\ OldK s₁.heap s'.heap /\ s'.os = s₁.os /\ AllBare s'.gens) s₁) :
   WalkO q loose XP YP l.row.toRowW d [] (fun f vs => PySem.call f vs) := by
 intro w s₀ s₁ mg mb G Y fa o pm cd doc dV kV ho hd jy hD hmg hg args vals as xB hlay hrd Qx hlo
 obtain rfl : dV = .none := Dflts.none hD hdf
 obtain rfl : kV = .none := Dflts.noKw hD
 obtain ⟨a, vs, ns, rfl, rfl, abI, hints, hlen⟩ := Nv hn xB Qx
 refine enter_call (codeAny_mono (call w s₀ s₁ mg mb fa o pm cd doc a vs ns G Y ho (fd_plain hd) jy hmg abI hints hlen hg) fun r s' hq => ?_)
 obtain ⟨rfl, h2, h3, h4⟩ := hq
 exact ⟨.inl ⟨.bool true, .bool true, [], rfl, fun _ => rfl, .bool true, Nx l _, fun _ => ⟨List.Pairwise.nil, fun _ hm => (nomatch hm)⟩⟩, h2, h3, h4⟩
section
variable {prog : Program} {w : World} {A : Around} {E : Value -> Shared -> Prop} {s : Shared} {K : Frag}
noncomputable def ledger (h : Heap) (L d : Addr) : List (Addr × Obj) := (List.range h.objs.size).filterMap fun a => if a = L \/ a = d then none else (h.get? a).map fun o => (a, o)
end
end Att
namespace L2
open PySem PySem.Spec PyProof.Rows
theorem BG : ∀ {vs : List Value} {ns : List Int}, IntsAre vs ns -> Vals (ns.map V.int) vs
 | _, _, .nil => .nil
 | _, _, .cons n t h => .cons ⟨t, rfl⟩ (BG h)
noncomputable def inClass (s : Stmt) (j : Nat) : Stmt := match s with
 | .ClassDef _ _ _ body _ _ _ _ _ _ _ => body.getD j (.Pass ⟨0, 0, 0, 0⟩)
 | _ => .Pass ⟨0, 0, 0, 0⟩
noncomputable def xM (s : Stmt) : Arguments := match s with
 | .FunctionDef _ a _ _ _ _ _ _ _ _ => a
 | _ => { posonlyargs := [], args := [], vararg := none, kwonlyargs := [], kw_defaults := [], kwarg := none, defaults := [] }
noncomputable def gB (s : Stmt) : List Stmt := match s with
 | .FunctionDef _ _ b _ _ _ _ _ _ _ => b
 | _ => []
noncomputable def ao (s : Stmt) : Scope := match s with
 | .FunctionDef _ _ _ _ _ _ sc _ _ _ => sc
 | _ => { kind := .function, names := [], isGenerator := false, isCoroutine := false }
noncomputable abbrev fM : Qo := fun _ _ _ _ _ _ => False
noncomputable abbrev E0 : XK := fun _ _ _ => False
theorem L1 {X : Cx} : Passes fM X E0 := fun _ _ _ _ _ _ _ h => h.elim
structure gZ (K : PySem.W.Frag) (x qual : Str) (st : Stmt) (f : Addr) (fd : FuncData) : Prop where
 ex : ∃ (oc : Value) (od : Option Addr) (kV doc pm : Value) (an : Option Addr) (di ct : Value) (P4 : Array (Option Value)),
   fd = PySem.W.fnOf x qual (xM st) (gB st) (ao st) .none kV doc pm an di ct /\ K.lookup f = some ⟨oc, od, .func fd, P4⟩ /\ PySem.W.codeIn K di qual = true
 kp : PySem.W.keepIn K (.ref f) = true
section
variable {P : Program} {w : World} {K : PySem.W.Frag} {mg : Str -> Option Value} {base : Heap}
theorem gZ.ok {x qual : Str} {st : Stmt} {f : Addr} {fd : FuncData} {N ps : List Str} {k : Nat} {sp : Sp} (F : gZ K x qual st f fd) (S : aJ N ps (ao st)) (len : ∀ vs H Q E, sp vs H Q E -> vs.length = ps.length)
   (Gi : ∀ (di : Value) (A : Around) (outer : List Env) (s : Shared) (H : Hp) (vs : List V) (Q : VK) (E : XK), fJ k (A.deeper (envOfC qual (ao st) s.heap.objs.size f di)) -> sp vs H Q E →
     ∃ t, Jd (yH fM P w K mg base N qual (ao st) f di A outer s H E).UU (gB st) t /\ t { nx := fun _ H' => Q .non H', rt := Q } (start N vs) H) : bL P w K mg base fM (k + 1) f fd ps sp := by
 obtain ⟨oc, od, kV, doc, pm, an, di, ct, P4, rfl, lk, jy⟩ := F.ex
 refine aai lk jy S len fun A outer s H vs Q E hr Jp => ?_
 obtain ⟨t, h, q⟩ := Gi di A outer s H vs Q E hr Jp
 exact ⟨t, h.UU, q⟩
theorem gZ.binds {x qual : Str} {st : Stmt} {f : Addr} {fd : FuncData} {ps : List Str} (F : gZ K x qual st f fd)
   (h : ∀ (kV doc pm : Value) (an : Option Addr) (di ct : Value) (us : List Value), us.length = ps.length -> bindArgs (PySem.W.fnOf x qual (xM st) (gB st) (ao st) .none kV doc pm an di ct) ⟨us, []⟩ = pure (ps.zip us)) : Binds K fd ps [] := by
 obtain ⟨oc, od, kV, doc, pm, an, di, ct, P4, rfl, lk, jy⟩ := F.ex
 exact .all (h kV doc pm an di ct)
theorem bq {x qual : Str} {st : Stmt} {f : Addr} {oc : Value} {od an : Option Addr} {P4 : Array (Option Value)} {kV doc pm di ct : Value} (l : K.lookup f = some ⟨oc, od, .func (PySem.W.fnOf x qual (xM st) (gB st) (ao st) .none kV doc pm an di ct), P4⟩)
   (c : PySem.W.codeIn K di qual = true) (k : PySem.W.keepIn K (.ref f) = true) : gZ K x qual st f (PySem.W.fnOf x qual (xM st) (gB st) (ao st) .none kV doc pm an di ct) := ⟨⟨oc, od, kV, doc, pm, an, di, ct, P4, rfl, l, c⟩, k⟩
end
theorem cA {n : Nat} (h : n <= 1000) : n < sizeLine := Nat.lt_of_le_of_lt h (by decide)
section
variable {X : Cx}
end
theorem Ny {A B : Prop} (h : B) : if false = true then A else B := by
 rw [amV ane]
 exact h
theorem Nz {A B : Prop} (h : A) : if true = true then A else B := by
 rw [amZ rfl]
 exact h
noncomputable def aG (H H' : Hp) : Prop := ∀ b o, H b = some o -> H' b = some o
theorem aG.refl (H : Hp) : aG H H := fun _ _ h => h
theorem aG.trans {H H1 H2 : Hp} (a : aG H H1) (b : aG H1 H2) : aG H H2 := fun c o h => b c o (a c o h)
theorem aG.free {H H' : Hp} (e : aG H H') {l : Addr} (h : H' l = Option.none) : H l = Option.none := by
 cases q : H l with
 | none => rfl
 | some o =>
   rw [e l o q] at h
   cases h
theorem aG.seq {K : PySem.W.Frag} {H H' : Hp} {a : Addr} {xs : List V} (e : aG H H') (h : oj K H a xs) : oj K H' a xs := by
 rcases h with (h | ⟨o, h⟩) | h
 . exact .inl (.inl (e _ _ h))
 . exact .inl (.inr ⟨o, e _ _ h⟩)
 . exact .inr h
section
variable {κ : Type} [DecidableEq κ]
noncomputable def CD (kvs : List (κ × V)) (k : κ) : Option V := (kvs.find? fun kv => decide (kv.1 = k)).map (·.2)
noncomputable def putK (kvs : List (κ × V)) (k : κ) (v : V) : List (κ × V) :=
 if (kvs.any fun kv => decide (kv.1 = k)) = true then kvs.map (fun kv => if kv.1 = k then (kv.1, v) else kv) else kvs ++ [(k, v)]
theorem yK {p : κ × V} {r : List (κ × V)} {k : κ} (e : p.1 = k) : CD (p :: r) k = some p.2 := by simp [CD, aoK, e]
theorem sS {p : κ × V} {r : List (κ × V)} {k : κ} (e : ¬ p.1 = k) : CD (p :: r) k = CD r k := by simp [CD, aoK, e]
theorem Gr (k : κ) : ∀ kvs : List (κ × V), (kvs.any fun kv => decide (kv.1 = k)) = (CD kvs k).isSome
 | [] => rfl
 | p :: r => by
   rw [an4]
   by_cases e : p.1 = k
   . simp only [yK e, anU e, Bool.true_or, Option.isSome_some]
   . rw [sS e, anz e, Bool.false_or]; exact Gr k r
theorem wN (kvs : List (κ × V)) (k : κ) (v : V) : (putK kvs k v).length <= kvs.length + 1 := by
 unfold putK
 split
 . rw [amY]; omega
 . rw [anm, anr, aog]; omega
theorem AO.NB {o : Option V} {u : Option Value} (r : AO o u) : o.isSome = u.isSome := by
 cases o with
 | none => cases u with
   | none => rfl
   | some _ => exact (show False from r).elim
 | some _ => cases u with
   | none => exact (show False from r).elim
   | some _ => rfl
theorem KV.any {kvs : List (κ × V)} {vs : List (κ × Value)} (r : KV kvs vs) (k : κ) : (kvs.any fun kv => decide (kv.1 = k)) = vs.any fun kv => decide (kv.1 = k) := by
 unfold KV at r
 induction r with
 | nil => rfl
 | cons h t ih => rw [an4, an4, ih, h.1]
theorem KV.repl {kvs : List (κ × V)} {vs : List (κ × Value)} (r : KV kvs vs) (k : κ) {y : V} {u : Value} (ry : RelV y u) :
   KV (kvs.map fun kv => if kv.1 = k then (kv.1, y) else kv) (vs.map fun kv => if kv.1 = k then (kv.1, u) else kv) := by
 unfold KV at r ⊢
 induction r with
 | nil => exact .nil
 | @cons p q ps qs h t ih =>
   rw [ani, ani]
   refine .cons ?_ ih
   obtain ⟨h1, h2⟩ := h
   by_cases e : p.1 = k
   . rw [amZ e, amZ (h1.symm.trans e)]; exact ⟨h1, ry⟩
   . rw [amV e, amV (fun z => e (h1.trans z))]; exact ⟨h1, h2⟩
theorem KV.put {kvs : List (κ × V)} {vs : List (κ × Value)} (r : KV kvs vs) (k : κ) {y : V} {u : Value} (ry : RelV y u) : KV (putK kvs k y) (stored vs k u) := by
 unfold putK stored
 rw [r.any k]
 by_cases e : (vs.any fun kv => decide (kv.1 = k)) = true
 . rw [amZ e, amZ e]; exact r.repl k ry
 . rw [amV e, amV e]; exact Paired.snoc r ⟨rfl, ry⟩
theorem KV.keys {kvs : List (κ × V)} {vs : List (κ × Value)} (r : KV kvs vs) : kvs.map (·.1) = vs.map (·.1) := by
 unfold KV at r
 induction r with
 | nil => rfl
 | cons h t ih => rw [ani, ani, ih, h.1]
theorem KV.length {kvs : List (κ × V)} {vs : List (κ × Value)} (r : KV kvs vs) : kvs.length = vs.length := Paired.length r
end
theorem aal {P : Program} {w : World} {k : Key} {u : Value} (r : RelV (kV k) u) : (e9 P w).is k u = true := by
 cases k with
 | inl i => obtain ⟨t, e⟩ := (show ∃ t, u = Value.int i t from r); subst e; exact F5 P w i t
 | inr x => obtain ⟨t, e⟩ := (show ∃ t, u = Value.str x t from r); subst e; exact F6 P w x t
theorem BH {P : Program} {w : World} : ∀ {ks : List Key} {us : List Value}, Vals (ks.map kV) us -> ItemsAre (e9 P w) ks us
 | [], _, r => by rw [List.map_nil] at r; cases r; exact .nil
 | k :: ks, _, r => by
   rw [ani] at r
   cases r with
   | cons h t => exact .cons (aal h) (BH t)
noncomputable abbrev KT (H : Hp) : List (List Key × V) -> List (List Key × Addr × Value) -> Prop := Paired fun p q => p.1 = q.1 /\ H q.2.1 = some (.tup (p.1.map kV)) /\ RelV p.2 q.2.2
theorem KT.val {H : Hp} {kvs : List (List Key × V)} {xs : List (List Key × Addr × Value)} (r : KT H kvs xs) (k : List Key) : AO (CD kvs k) ((atKey xs k).map (·.2)) := by
 induction r with
 | nil => exact True.intro
 | @cons p q ps qs h t ih =>
   obtain ⟨h1, _, h2⟩ := h
   by_cases e : p.1 = k
   . have e' : q.1 = k := h1.symm.trans e
     have b : atKey (q :: qs) k = some q.2 := by simp [atKey, aoK, e']
     rw [yK e, b]; exact h2
   . have e' : ¬ q.1 = k := fun z => e (h1.trans z)
     have b : atKey (q :: qs) k = atKey qs k := by simp [atKey, aoK, e']
     rw [sS e, b]; exact ih
theorem KT.repl {H : Hp} {kvs : List (List Key × V)} {xs : List (List Key × Addr × Value)} (r : KT H kvs xs) (k : List Key) {y : V} {u : Value} (ry : RelV y u) :
   KT H (kvs.map fun kv => if kv.1 = k then (kv.1, y) else kv) (xs.map (putAt k u)) := by
 induction r with
 | nil => exact .nil
 | @cons p q ps qs h t ih =>
   rw [ani, ani]
   refine .cons ?_ ih
   obtain ⟨h1, h2, h3⟩ := h
   unfold putAt
   by_cases e : p.1 = k
   . rw [amZ e, amZ (h1.symm.trans e)]; exact ⟨h1, h2, ry⟩
   . rw [amV e, amV (fun z => e (h1.trans z))]; exact ⟨h1, h2, h3⟩
theorem KT.put {H : Hp} {kvs : List (List Key × V)} {xs : List (List Key × Addr × Value)} (r : KT H kvs xs) (k : List Key) {b : Addr} {y : V} {u : Value} (hb : H b = some (.tup (k.map kV))) (ry : RelV y u) :
   KT H (putK kvs k y) (storedH xs k b u) := by
 have e : (kvs.any fun kv => decide (kv.1 = k)) = (atKey xs k).isSome := by
   rw [Gr, (r.val k).NB, Option.isSome_map]
 unfold putK storedH
 rw [e]
 by_cases q : (atKey xs k).isSome = true
 . rw [amZ q, amZ q]; exact r.repl k ry
 . rw [amV q, amV q]; exact Paired.snoc r ⟨rfl, hb, ry⟩
theorem KT.keeps {H H' : Hp} {kvs : List (List Key × V)} {xs : List (List Key × Addr × Value)} (r : KT H kvs xs) (ht : ∀ b ys, H b = some (.tup ys) -> H' b = some (.tup ys)) : KT H' kvs xs :=
 Paired.aaY r fun _ _ z => ⟨z.1, ht _ _ z.2.1, z.2.2⟩
section
variable {P : Program} {w : World} {H : Hp} {h : Heap} {a : Addr}
theorem aam {u : HO} (ok : rP P w H h) (e : Rd H a u) : eY P w H h a u := e.ok ok
theorem afj {kvs : List (Key × V)} (ok : rP P w H h) (e : Rd H a (.dK kvs)) : kvs.length <= sizeLine /\ (a == sysModules) = false /\ ∃ vs, KV kvs vs /\ h.DictOf (e9 P w) a vs :=
 show eY P w H h a (.dK kvs) from aam ok e
theorem aan {kvs : List (Key × V)} (ok : rP P w H h) (e : H a = some (.dK kvs)) : kvs.length <= sizeLine /\ (a == sysModules) = false /\ ∃ vs, KV kvs vs /\ h.DictOf (e9 P w) a vs := afj ok (.inl e)
theorem Qy {ks : List Key} (ok : rP P w H h) (e : H a = some (.tup (ks.map kV))) : (tupleKind (e9 P w)).is h ks a := by
 obtain ⟨_, its, r, o, h1, h2, n, h3⟩ := (show eY P w H h a (.tup (ks.map kV)) from ok a _ e)
 exact ⟨o, its.toArray, n, h1, h2, h3, by simpa using BH r⟩
theorem afk {kvs : List (List Key × V)} (ok : rP P w H h) (e : Rd H a (.dT kvs)) : kvs.length <= sizeLine /\ (a == sysModules) = false ∧
   ∃ xs, KT H kvs xs /\ h.DictOfH (tupleKind (e9 P w)) a xs := by
 obtain ⟨z, y, xs, r, o, es, ep, h1, h2, h3, h4, h5⟩ := (show eY P w H h a (.dT kvs) from aam ok e)
 refine ⟨z, y, xs, r, o, es, ep, h1, h2, h3, h4, fun x hx => ?_, h5⟩
 have all : ∀ {l : List (List Key × V)} {m : List (List Key × Addr × Value)}, KT H l m -> ∀ x ∈ m, (tupleKind (e9 P w)).is h x.1 x.2.1 := by
   intro l m q
   induction q with
   | nil => intro x hx; exact nomatch hx
   | @cons p q ps qs hq t ih =>
     intro x hx
     rcases am1.mp hx with e | hx
     . subst e
       exact Qy ok (by rw [← hq.1]; exact hq.2.1)
     . exact ih x hx
 exact all r x hx
theorem afl {kvs : List (List Key × V)} (ok : rP P w H h) (e : H a = some (.dT kvs)) : kvs.length <= sizeLine /\ (a == sysModules) = false ∧
   ∃ xs, KT H kvs xs /\ h.DictOfH (tupleKind (e9 P w)) a xs := afk ok (.inl e)
end
noncomputable def Qz (H : Hp) (a : Addr) (y v : V) (H' : Hp) : Prop :=
 (∃ kvs k, H a = some (.dK kvs) /\ y = kV k /\ kvs.length < sizeLine /\ H' = upd H a (.dK (putK kvs k v))) ∨
 ∃ kvs k b, H a = some (.dT kvs) /\ y = .ref b /\ H b = some (.tup (k.map kV)) /\ kvs.length < sizeLine /\ H' = upd H a (.dT (putK kvs k v))
theorem Qz.k {H : Hp} {a : Addr} {kvs : List (Key × V)} {k : Key} {v : V} (e : H a = some (.dK kvs)) (hl : kvs.length < sizeLine) : Qz H a (kV k) v (upd H a (.dK (putK kvs k v))) := .inl ⟨kvs, k, e, rfl, hl, rfl⟩
section
variable {X : Cx} {pins : List (Addr × Obj)} {σ : St} {H : Hp} {s : Shared} {a : Addr} {y v : V} {u r : Value} {o : Option V} {A : Around} {E : Value -> Shared -> Prop}
theorem Inv.big (I : Inv X pins σ H s) : sysModules < s.heap.objs.size := by
 have h : mainGlobals < s.heap.objs.size := (I.mod.glob.keeps I.bk).lt
 exact Nat.lt_trans (by decide) h
theorem L4 {h' : Heap} {t' : Nat} {ob : HO} (I : Inv X pins σ H s) (mu : Mut (H a)) (hs : Heap.SameBut a s.heap h') (he : ∃ q, h'.get? a = some q) (new : eY X.prog X.w (upd H a ob) h' a ob) :
   Inv X pins σ (upd H a ob) { s with heap := h', toks := t' } :=
 I.write (x := a) (e := a) mu (.inl rfl) (fun b q hb z => (hs.2 b hb).trans z) he new
theorem abJ {P : Program} {w : World} {H' : Hp} {h' : Heap} {kvs : List (Key × V)} {vs : List (Key × Value)} (z : kvs.length <= sizeLine) (hd : (a == sysModules) = false) (rel : KV kvs vs) (dd : h'.DictOf (e9 P w) a vs) :
   eY P w H' h' a (.dK kvs) := ⟨z, hd, vs, rel, dd⟩
theorem NC {H' : Hp} {Q : Unit -> Shared -> Prop} (hu : A.units + 1 < cLine) (I : Inv X pins σ H s) (g : Qz H a y v H') (ry : RelV y u) (rv : RelV v r) (h : ∀ s', Inv X pins σ H' s' -> Q () s') :
   wpAny (model X.prog X.w) A (setItem (.ref a) u r) Q E s := by
 rcases g with ⟨kvs, k, e, ey, l, eH⟩ | ⟨kvs, k, b, e, ey, eb, l, eH⟩
 . subst ey eH
   obtain ⟨z, hd, vs, rel, dd⟩ := aan I.dU e
   have hz : vs.length <= sizeLine := by rw [← rel.length]; exact z
   have hl : (putK kvs k v).length <= sizeLine := by have := wN kvs k v; omega
   refine wpAny_setItem_pairs (hsz := hz) (aal ry) dd fun h' dd' hs => h _ ?_
   have he : ∃ q, h'.get? a = some q := let ⟨q, _, _, hq, _⟩ := dd'; ⟨q, hq⟩
   exact L4 I (by rw [e]; exact True.intro) hs he (abJ hl hd (rel.put k rv) dd')
 . subst ey eH
   cases (show u = Value.ref b from ry)
   obtain ⟨z, hd, xs, rel, dd⟩ := afl I.dU e
   have hz : xs.length <= sizeLine := by rw [← Paired.length rel]; exact z
   have hl : (putK kvs k v).length <= sizeLine := by have := wN kvs k v; omega
   refine wpAny_setItem_heap (hsz := hz) (tupleKind_room_in1 hu) (Qy I.dU eb) dd fun h' dd' hs => h _ ?_
   obtain ⟨q, es, ep, hq, h2, h3, h4, _, h5⟩ := dd'
   refine L4 I (by rw [e]; exact True.intro) hs ⟨q, hq⟩ ⟨hl, hd, _, (rel.put k eb rv).keeps fun c ys ec => ?_, q, es, ep, hq, h2, h3, h4, h5⟩
   rw [aA (aeE ec e (fun z => nomatch z))]
   exact ec
end
section
variable {X : Cx} {pins : List (Addr × Obj)} {σ : St} {H : Hp} {s : Shared} {a : Addr} {kvs : List (Key × V)} {k : Key} {u : Value} {A : Around} {E : Value -> Shared -> Prop}
end
noncomputable def afm (td ty tv : TE) : TS := fun D σ H => tv σ H fun v H1 => td σ H1 fun x H2 => ty σ H2 fun y H3 => ∃ a H4, x = .ref a /\ Qz H3 a y v H4 /\ D.nx σ H4
section
variable {X : Cx} {o i e value : Expr} {pos pos' aie : Pos} {td ty tv : TE}
theorem Vu (hu : X.A.units + 1 < cLine) (ho : PE X o td) (hi : PE X i ty) (hv : PE X value tv) (hs : swapsWith value (some (.Subscript o i pos')) pos.line X.env = pure false) :
   PS X (.Assign [.Subscript o i pos'] value pos) (afm td ty tv) := by
 intro pins s σ H D I h
 refine wpAny_Assign_Subscript (fz (hv pins s σ H _ I h) fun r s1 ⟨v, H1, I1, rv, q1⟩ => fz (ho pins s1 σ H1 _ I1 q1) fun u s2 ⟨x, H2, I2, rx, q2⟩ => fz (hi pins s2 σ H2 _ I2 q2) fun iv s3 zz => ?_) hs
 obtain ⟨y, H3, I3, ry, a, H4, ex, g, q3⟩ := zz
 subst ex
 obtain rfl : u = Value.ref a := rx
 exact NC hu I3 g ry rv fun s4 I4 => ⟨σ, H4, I4, q3⟩
end
theorem QB {P : Program} {w : World} {H : Hp} (h : Heap) (hb : sysModules < h.objs.size) : eY P w H (h.push { cls := .type "dict", data := .dict #[] }) h.objs.size (.dK []) :=
 ⟨ans _, aoq.mpr (Ne.symm (anA hb)), [], .nil, Heap.DictOf.new h⟩
noncomputable def abK : TE := fun _ H Q => ∀ p, H p = none -> Q (.ref p) (upd H p (.dK []))
section
variable {X : Cx} {pos : Pos}
theorem QC : PE X (.Dict [] [] pos) abK := fun pins s σ H Q I h =>
 wpAny_Dict_empty ⟨.ref s.heap.objs.size, _, I.laid (a := s.heap.objs.size) (o := .dK []) (t' := s.toks) (fun _ _ q => ana _ q) (am5 _) (QB s.heap I.big), rfl, h _ (I.dU.fresh (am5 _))⟩
end
section
variable {X : Cx} {pins : List (Addr × Obj)} {σ : St} {H : Hp} {s : Shared} {a : Addr} {y d : V} {u r : Value} {o : Option V} {A : Around} {E : Value -> Shared -> Prop}
end
section
variable {X : Cx} {o e f : Expr} {apos Gn : Pos} {td ty tx : TE}
end
section
variable {X : Cx} {pins : List (Addr × Obj)} {σ : St} {H : Hp} {s : Shared} {a : Addr} {kvs : List (Key × V)} {A : Around} {E : Value -> Shared -> Prop}
end
section
variable {X : Cx} {pins : List (Addr × Obj)} {σ : St} {H : Hp} {s : Shared} {a : Addr} {y : V} {u : Value} {A : Around} {E : Value -> Shared -> Prop}
end
end L2
namespace L3
open PySem PySem.Spec PyProof.Rows L2
inductive D where
 | non | bl (b : Bool) | int (i : Int) | str (x : Str)
 | tup (ds : List D) | lst (ds : List D) | ins (c : Str) (fs : List (Str × D)) | om (kvs : List (Key × D))
 | dct (kvs : List (List Key × D))
 | any
 | val (v : V)
inductive T where
 | sh (d : D) | tup (ts : List T) | lst (ts : List T) | ins (c : Str) (fs : List (Str × T)) | om (kvs : List (Key × D)) | dct (kvs : List (List Key × T))
 | pin (x : Addr) (t : T)
mutual
noncomputable def T.fE : T -> D
 | .sh d => d
 | .tup ts => .tup (ju ts)
 | .lst ts => .lst (ju ts)
 | .ins c fs => .ins c (rj fs)
 | .om kvs => .om kvs
 | .dct kvs => .dct (QD kvs)
 | .pin _ t => t.fE
noncomputable def T.ju : List T -> List D
 | [] => []
 | t :: ts => t.fE :: T.ju ts
noncomputable def T.rj : List (Str × T) -> List (Str × D)
 | [] => []
 | (x, t) :: fs => (x, t.fE) :: T.rj fs
noncomputable def T.QD : List (List Key × T) -> List (List Key × D)
 | [] => []
 | (x, t) :: fs => (x, t.fE) :: T.QD fs
end
variable (K : PySem.W.Frag) (CL : Str -> Addr)
mutual
inductive bF (Z : Hp) : D -> V -> Prop where
 | non : bF Z .non .non
 | bl (b : Bool) : bF Z (.bl b) (.bl b)
 | int (i : Int) : bF Z (.int i) (.int i)
 | str (x : Str) : bF Z (.str x) (.str x)
 | any (v : V) : bF Z .any v
 | val (v : V) : bF Z (.val v) v
 | tup {a : Addr} {vs : List V} {ds : List D} : yE K Z a vs -> aH Z ds vs -> bF Z (.tup ds) (.ref a)
 | lst {a : Addr} {vs : List V} {ds : List D} : oj K Z a vs -> aH Z ds vs -> bF Z (.lst ds) (.ref a)
 | ins {a dx : Addr} {c : Str} {gs : List (Str × V)} {fs : List (Str × D)} : Z a = some (.ins (CL c) dx gs) -> oF Z fs gs -> bF Z (.ins c fs) (.ref a)
 | om {a : Addr} {gs : List (Key × V)} {fs : List (Key × D)} : Z a = some (.dK gs) -> bJ Z fs gs -> bF Z (.om fs) (.ref a)
 | dct {a : Addr} {gs : List (List Key × V)} {fs : List (List Key × D)} : Z a = some (.dT gs) -> wO Z fs gs -> bF Z (.dct fs) (.ref a)
inductive aH (Z : Hp) : List D -> List V -> Prop where
 | nil : aH Z [] []
 | cons {d : D} {v : V} {ds : List D} {vs : List V} : bF Z d v -> aH Z ds vs -> aH Z (d :: ds) (v :: vs)
inductive oF (Z : Hp) : List (Str × D) -> List (Str × V) -> Prop where
 | nil : oF Z [] []
 | cons {x : Str} {d : D} {v : V} {ds : List (Str × D)} {vs : List (Str × V)} : bF Z d v -> oF Z ds vs -> oF Z ((x, d) :: ds) ((x, v) :: vs)
inductive bJ (Z : Hp) : List (Key × D) -> List (Key × V) -> Prop where
 | nil : bJ Z [] []
 | cons {x : Key} {d : D} {v : V} {ds : List (Key × D)} {vs : List (Key × V)} : bF Z d v -> bJ Z ds vs -> bJ Z ((x, d) :: ds) ((x, v) :: vs)
inductive wO (Z : Hp) : List (List Key × D) -> List (List Key × V) -> Prop where
 | nil : wO Z [] []
 | cons {x : List Key} {d : D} {v : V} {ds : List (List Key × D)} {vs : List (List Key × V)} : bF Z d v -> wO Z ds vs -> wO Z ((x, d) :: ds) ((x, v) :: vs)
end
mutual
inductive dm (H Z : Hp) : T -> V -> List Addr -> Prop where
 | sh {d : D} {v : V} : bF K CL Z d v -> dm H Z (.sh d) v []
 | tup {a : Addr} {vs : List V} {ts : List T} {fp : List Addr} : Z a = some (.tup vs) -> bE H Z ts vs fp -> dm H Z (.tup ts) (.ref a) fp
 | lst {a : Addr} {vs : List V} {ts : List T} {fp : List Addr} : H a = some (.lst vs) -> bE H Z ts vs fp -> dm H Z (.lst ts) (.ref a) (a :: fp)
 | ins {a dx : Addr} {c : Str} {gs : List (Str × V)} {fs : List (Str × T)} {fp : List Addr} : H a = some (.ins (CL c) dx gs) -> d9 H Z fs gs fp -> dm H Z (.ins c fs) (.ref a) (a :: fp)
 | om {a : Addr} {gs : List (Key × V)} {kvs : List (Key × D)} : H a = some (.dK gs) -> bJ K CL Z kvs gs -> dm H Z (.om kvs) (.ref a) [a]
 | dct {a : Addr} {gs : List (List Key × V)} {kvs : List (List Key × T)} {fp : List Addr} : H a = some (.dT gs) -> wQ H Z kvs gs fp -> dm H Z (.dct kvs) (.ref a) (a :: fp)
 | pin {x : Addr} {t : T} {fp : List Addr} : dm H Z t (.ref x) fp -> dm H Z (.pin x t) (.ref x) fp
inductive bE (H Z : Hp) : List T -> List V -> List Addr -> Prop where
 | nil : bE H Z [] [] []
 | cons {t : T} {v : V} {ts : List T} {vs : List V} {fp gp : List Addr} : dm H Z t v fp -> bE H Z ts vs gp -> bE H Z (t :: ts) (v :: vs) (fp ++ gp)
inductive d9 (H Z : Hp) : List (Str × T) -> List (Str × V) -> List Addr -> Prop where
 | nil : d9 H Z [] [] []
 | cons {x : Str} {t : T} {v : V} {ts : List (Str × T)} {vs : List (Str × V)} {fp gp : List Addr} : dm H Z t v fp -> d9 H Z ts vs gp -> d9 H Z ((x, t) :: ts) ((x, v) :: vs) (fp ++ gp)
inductive wQ (H Z : Hp) : List (List Key × T) -> List (List Key × V) -> List Addr -> Prop where
 | nil : wQ H Z [] [] []
 | cons {x : List Key} {t : T} {v : V} {ts : List (List Key × T)} {vs : List (List Key × V)} {fp gp : List Addr} : dm H Z t v fp -> wQ H Z ts vs gp -> wQ H Z ((x, t) :: ts) ((x, v) :: vs) (fp ++ gp)
end
inductive gj (H Z : Hp) : List (Option T) -> L2.St -> List Addr -> Prop where
 | nil : gj H Z [] [] []
 | skip {o : Option V} {δ : List (Option T)} {σ : L2.St} {fp : List Addr} : gj H Z δ σ fp -> gj H Z (none :: δ) (o :: σ) fp
 | cons {t : T} {v : V} {δ : List (Option T)} {σ : L2.St} {fp gp : List Addr} : dm K CL H Z t v fp -> gj H Z δ σ gp -> gj H Z (some t :: δ) (some v :: σ) (fp ++ gp)
section
variable {K : PySem.W.Frag} {CL : Str -> Addr}
theorem aG.Vv {H H' : Hp} {a : Addr} {xs : List V} (e : aG H H') (h : yE K H a xs) : yE K H' a xs := by
 rcases h with (h | ⟨o, h⟩) | h
 . exact .inl (.inl (e _ _ h))
 . exact .inl (.inr ⟨o, e _ _ h⟩)
 . exact .inr h
theorem bF.mono {Z Z' : Hp} (e : aG Z Z') {d : D} {v : V} (h : bF K CL Z d v) : bF K CL Z' d v :=
 bF.rec (motive_1 := fun d v _ => bF K CL Z' d v) (motive_2 := fun d v _ => aH K CL Z' d v) (motive_3 := fun d v _ => oF K CL Z' d v) (motive_4 := fun d v _ => bJ K CL Z' d v) (motive_5 := fun d v _ => wO K CL Z' d v)
   .non .bl .int .str .any .val (fun h _ r => .tup (aG.Vv e h) r) (fun h _ r => .lst (e.seq h) r) (fun h _ r => .ins (e _ _ h) r) (fun h _ r => .om (e _ _ h) r) (fun h _ r => .dct (e _ _ h) r) .nil (fun _ _ h r => .cons h r) .nil (fun _ _ h r => .cons h r) .nil (fun _ _ h r => .cons h r) .nil (fun _ _ h r => .cons h r) h
theorem aH.mono {Z Z' : Hp} (e : aG Z Z') {d : List D} {v : List V} (h : aH K CL Z d v) : aH K CL Z' d v :=
 aH.rec (motive_1 := fun d v _ => bF K CL Z' d v) (motive_2 := fun d v _ => aH K CL Z' d v) (motive_3 := fun d v _ => oF K CL Z' d v) (motive_4 := fun d v _ => bJ K CL Z' d v) (motive_5 := fun d v _ => wO K CL Z' d v)
   .non .bl .int .str .any .val (fun h _ r => .tup (aG.Vv e h) r) (fun h _ r => .lst (e.seq h) r) (fun h _ r => .ins (e _ _ h) r) (fun h _ r => .om (e _ _ h) r) (fun h _ r => .dct (e _ _ h) r) .nil (fun _ _ h r => .cons h r) .nil (fun _ _ h r => .cons h r) .nil (fun _ _ h r => .cons h r) .nil (fun _ _ h r => .cons h r) h
theorem bJ.mono {Z Z' : Hp} (e : aG Z Z') {d : List (Key × D)} {v : List (Key × V)} (h : bJ K CL Z d v) : bJ K CL Z' d v :=
 bJ.rec (motive_1 := fun d v _ => bF K CL Z' d v) (motive_2 := fun d v _ => aH K CL Z' d v) (motive_3 := fun d v _ => oF K CL Z' d v) (motive_4 := fun d v _ => bJ K CL Z' d v) (motive_5 := fun d v _ => wO K CL Z' d v)
   .non .bl .int .str .any .val (fun h _ r => .tup (aG.Vv e h) r) (fun h _ r => .lst (e.seq h) r) (fun h _ r => .ins (e _ _ h) r) (fun h _ r => .om (e _ _ h) r) (fun h _ r => .dct (e _ _ h) r) .nil (fun _ _ h r => .cons h r) .nil (fun _ _ h r => .cons h r) .nil (fun _ _ h r => .cons h r) .nil (fun _ _ h r => .cons h r) h
theorem dm.mono {H H' Z Z' : Hp} (e : aG Z Z') {t : T} {v : V} {fp : List Addr} (k : ∀ a ∈ fp, H' a = H a) (h : dm K CL H Z t v fp) : dm K CL H' Z' t v fp :=
 dm.rec (motive_1 := fun t v fp _ => (∀ a ∈ fp, H' a = H a) -> dm K CL H' Z' t v fp) (motive_2 := fun t v fp _ => (∀ a ∈ fp, H' a = H a) -> bE K CL H' Z' t v fp) (motive_3 := fun t v fp _ => (∀ a ∈ fp, H' a = H a) -> d9 K CL H' Z' t v fp) (motive_4 := fun t v fp _ => (∀ a ∈ fp, H' a = H a) -> wQ K CL H' Z' t v fp)
   (fun h _ => .sh (h.mono e)) (fun h _ r k => .tup (e _ _ h) (r k)) (fun h _ r k => .lst ((k _ am0).trans h) (r fun a ha => k a (am2 _ ha))) (fun h _ r k => .ins ((k _ am0).trans h) (r fun a ha => k a (am2 _ ha))) (fun h f k => .om ((k _ am0).trans h) (bJ.mono e f)) (fun h _ r k => .dct ((k _ am0).trans h) (r fun a ha => k a (am2 _ ha))) (fun _ r k => .pin (r k)) (fun _ => .nil) (fun _ _ h r k => .cons (h fun a ha => k a (am7 _ ha)) (r fun a ha => k a (amU _ ha))) (fun _ => .nil) (fun _ _ h r k => .cons (h fun a ha => k a (am7 _ ha)) (r fun a ha => k a (amU _ ha))) (fun _ => .nil) (fun _ _ h r k => .cons (h fun a ha => k a (am7 _ ha)) (r fun a ha => k a (amU _ ha))) h k
theorem bE.mono {H H' Z Z' : Hp} (e : aG Z Z') {t : List T} {v : List V} {fp : List Addr} (k : ∀ a ∈ fp, H' a = H a) (h : bE K CL H Z t v fp) : bE K CL H' Z' t v fp :=
 bE.rec (motive_1 := fun t v fp _ => (∀ a ∈ fp, H' a = H a) -> dm K CL H' Z' t v fp) (motive_2 := fun t v fp _ => (∀ a ∈ fp, H' a = H a) -> bE K CL H' Z' t v fp) (motive_3 := fun t v fp _ => (∀ a ∈ fp, H' a = H a) -> d9 K CL H' Z' t v fp) (motive_4 := fun t v fp _ => (∀ a ∈ fp, H' a = H a) -> wQ K CL H' Z' t v fp)
   (fun h _ => .sh (h.mono e)) (fun h _ r k => .tup (e _ _ h) (r k)) (fun h _ r k => .lst ((k _ am0).trans h) (r fun a ha => k a (am2 _ ha))) (fun h _ r k => .ins ((k _ am0).trans h) (r fun a ha => k a (am2 _ ha))) (fun h f k => .om ((k _ am0).trans h) (bJ.mono e f)) (fun h _ r k => .dct ((k _ am0).trans h) (r fun a ha => k a (am2 _ ha))) (fun _ r k => .pin (r k)) (fun _ => .nil) (fun _ _ h r k => .cons (h fun a ha => k a (am7 _ ha)) (r fun a ha => k a (amU _ ha))) (fun _ => .nil) (fun _ _ h r k => .cons (h fun a ha => k a (am7 _ ha)) (r fun a ha => k a (amU _ ha))) (fun _ => .nil) (fun _ _ h r k => .cons (h fun a ha => k a (am7 _ ha)) (r fun a ha => k a (amU _ ha))) h k
theorem d9.mono {H H' Z Z' : Hp} (e : aG Z Z') {t : List (Str × T)} {v : List (Str × V)} {fp : List Addr} (k : ∀ a ∈ fp, H' a = H a) (h : d9 K CL H Z t v fp) : d9 K CL H' Z' t v fp :=
 d9.rec (motive_1 := fun t v fp _ => (∀ a ∈ fp, H' a = H a) -> dm K CL H' Z' t v fp) (motive_2 := fun t v fp _ => (∀ a ∈ fp, H' a = H a) -> bE K CL H' Z' t v fp) (motive_3 := fun t v fp _ => (∀ a ∈ fp, H' a = H a) -> d9 K CL H' Z' t v fp) (motive_4 := fun t v fp _ => (∀ a ∈ fp, H' a = H a) -> wQ K CL H' Z' t v fp)
   (fun h _ => .sh (h.mono e)) (fun h _ r k => .tup (e _ _ h) (r k)) (fun h _ r k => .lst ((k _ am0).trans h) (r fun a ha => k a (am2 _ ha))) (fun h _ r k => .ins ((k _ am0).trans h) (r fun a ha => k a (am2 _ ha))) (fun h f k => .om ((k _ am0).trans h) (bJ.mono e f)) (fun h _ r k => .dct ((k _ am0).trans h) (r fun a ha => k a (am2 _ ha))) (fun _ r k => .pin (r k)) (fun _ => .nil) (fun _ _ h r k => .cons (h fun a ha => k a (am7 _ ha)) (r fun a ha => k a (amU _ ha))) (fun _ => .nil) (fun _ _ h r k => .cons (h fun a ha => k a (am7 _ ha)) (r fun a ha => k a (amU _ ha))) (fun _ => .nil) (fun _ _ h r k => .cons (h fun a ha => k a (am7 _ ha)) (r fun a ha => k a (amU _ ha))) h k
theorem dm.there {H Z : Hp} {t : T} {v : V} {fp : List Addr} (h : dm K CL H Z t v fp) : ∀ a ∈ fp, ∃ o, H a = some o :=
 dm.rec (motive_1 := fun t v fp _ => ∀ a ∈ fp, ∃ o, H a = some o) (motive_2 := fun t v fp _ => ∀ a ∈ fp, ∃ o, H a = some o) (motive_3 := fun t v fp _ => ∀ a ∈ fp, ∃ o, H a = some o) (motive_4 := fun t v fp _ => ∀ a ∈ fp, ∃ o, H a = some o)
   (fun _ a ha => absurd ha anH) (fun _ _ r => r) (fun h _ r a ha => (am1.mp ha).elim (fun q => ⟨_, q ▸ h⟩) (r a)) (fun h _ r a ha => (am1.mp ha).elim (fun q => ⟨_, q ▸ h⟩) (r a)) (fun h _ a ha => (am1.mp ha).elim (fun q => ⟨_, q ▸ h⟩) (fun q => absurd q anH)) (fun h _ r a ha => (am1.mp ha).elim (fun q => ⟨_, q ▸ h⟩) (r a)) (fun _ r => r) (fun a ha => absurd ha anH) (fun _ _ h r a ha => (am3.mp ha).elim (h a) (r a)) (fun a ha => absurd ha anH) (fun _ _ h r a ha => (am3.mp ha).elim (h a) (r a)) (fun a ha => absurd ha anH) (fun _ _ h r a ha => (am3.mp ha).elim (h a) (r a)) h
theorem bE.there {H Z : Hp} {t : List T} {v : List V} {fp : List Addr} (h : bE K CL H Z t v fp) : ∀ a ∈ fp, ∃ o, H a = some o :=
 bE.rec (motive_1 := fun t v fp _ => ∀ a ∈ fp, ∃ o, H a = some o) (motive_2 := fun t v fp _ => ∀ a ∈ fp, ∃ o, H a = some o) (motive_3 := fun t v fp _ => ∀ a ∈ fp, ∃ o, H a = some o) (motive_4 := fun t v fp _ => ∀ a ∈ fp, ∃ o, H a = some o)
   (fun _ a ha => absurd ha anH) (fun _ _ r => r) (fun h _ r a ha => (am1.mp ha).elim (fun q => ⟨_, q ▸ h⟩) (r a)) (fun h _ r a ha => (am1.mp ha).elim (fun q => ⟨_, q ▸ h⟩) (r a)) (fun h _ a ha => (am1.mp ha).elim (fun q => ⟨_, q ▸ h⟩) (fun q => absurd q anH)) (fun h _ r a ha => (am1.mp ha).elim (fun q => ⟨_, q ▸ h⟩) (r a)) (fun _ r => r) (fun a ha => absurd ha anH) (fun _ _ h r a ha => (am3.mp ha).elim (h a) (r a)) (fun a ha => absurd ha anH) (fun _ _ h r a ha => (am3.mp ha).elim (h a) (r a)) (fun a ha => absurd ha anH) (fun _ _ h r a ha => (am3.mp ha).elim (h a) (r a)) h
theorem dm.fE {H Z Z' : Hp} (e : aG Z Z') {t : T} {v : V} {fp : List Addr} (k : ∀ a ∈ fp, Z' a = H a) (h : dm K CL H Z t v fp) : bF K CL Z' t.fE v :=
 dm.rec (motive_1 := fun t v fp _ => (∀ a ∈ fp, Z' a = H a) -> bF K CL Z' t.fE v) (motive_2 := fun t v fp _ => (∀ a ∈ fp, Z' a = H a) -> aH K CL Z' (T.ju t) v) (motive_3 := fun t v fp _ => (∀ a ∈ fp, Z' a = H a) -> oF K CL Z' (T.rj t) v) (motive_4 := fun t v fp _ => (∀ a ∈ fp, Z' a = H a) -> wO K CL Z' (T.QD t) v)
   (fun h _ => by rw [T.fE]; exact h.mono e) (fun h _ r k => by rw [T.fE]; exact .tup (yE.of (e _ _ h)) (r k)) (fun h _ r k => by rw [T.fE]; exact .lst (oj.of ((k _ am0).trans h)) (r fun a ha => k a (am2 _ ha))) (fun h _ r k => by rw [T.fE]; exact .ins ((k _ am0).trans h) (r fun a ha => k a (am2 _ ha))) (fun h f k => by rw [T.fE]; exact .om ((k _ am0).trans h) (bJ.mono e f)) (fun h _ r k => by rw [T.fE]; exact .dct ((k _ am0).trans h) (r fun a ha => k a (am2 _ ha))) (fun _ r k => by rw [T.fE]; exact r k) (fun _ => by rw [T.ju]; exact .nil) (fun _ _ h r k => by rw [T.ju]; exact .cons (h fun a ha => k a (am7 _ ha)) (r fun a ha => k a (amU _ ha))) (fun _ => by rw [T.rj]; exact .nil) (fun _ _ h r k => by rw [T.rj]; exact .cons (h fun a ha => k a (am7 _ ha)) (r fun a ha => k a (amU _ ha))) (fun _ => by rw [T.QD]; exact .nil) (fun _ _ h r k => by rw [T.QD]; exact .cons (h fun a ha => k a (am7 _ ha)) (r fun a ha => k a (amU _ ha))) h k
theorem aH.ind {Z : Hp} {P : List D -> List V -> Prop} (n : P [] []) (c : ∀ {d : D} {v : V} {ds : List D} {vs : List V}, bF K CL Z d v -> aH K CL Z ds vs -> P ds vs -> P (d :: ds) (v :: vs)) {ds : List D} {vs : List V} (h : aH K CL Z ds vs) : P ds vs :=
 aH.rec (motive_1 := fun _ _ _ => True) (motive_2 := fun d v _ => P d v) (motive_3 := fun _ _ _ => True) (motive_4 := fun _ _ _ => True) (motive_5 := fun _ _ _ => True)
   trivial (fun _ => trivial) (fun _ => trivial) (fun _ => trivial) (fun _ => trivial) (fun _ => trivial) (fun _ _ _ => trivial) (fun _ _ _ => trivial) (fun _ _ _ => trivial) (fun _ _ _ => trivial) (fun _ _ _ => trivial) n (fun a b _ i => c a b i) trivial (fun _ _ _ _ => trivial) trivial (fun _ _ _ _ => trivial) trivial (fun _ _ _ _ => trivial) h
theorem bJ.ind {Z : Hp} {P : List (Key × D) -> List (Key × V) -> Prop} (n : P [] []) (c : ∀ {x : Key} {d : D} {v : V} {ds : List (Key × D)} {vs : List (Key × V)}, bF K CL Z d v -> bJ K CL Z ds vs -> P ds vs -> P ((x, d) :: ds) ((x, v) :: vs)) {ds : List (Key × D)} {vs : List (Key × V)} (h : bJ K CL Z ds vs) : P ds vs :=
 bJ.rec (motive_1 := fun _ _ _ => True) (motive_2 := fun _ _ _ => True) (motive_3 := fun _ _ _ => True) (motive_4 := fun d v _ => P d v) (motive_5 := fun _ _ _ => True)
   trivial (fun _ => trivial) (fun _ => trivial) (fun _ => trivial) (fun _ => trivial) (fun _ => trivial) (fun _ _ _ => trivial) (fun _ _ _ => trivial) (fun _ _ _ => trivial) (fun _ _ _ => trivial) (fun _ _ _ => trivial) trivial (fun _ _ _ _ => trivial) trivial (fun _ _ _ _ => trivial) n (fun a b _ i => c a b i) trivial (fun _ _ _ _ => trivial) h
theorem bE.ind {H Z : Hp} {P : List T -> List V -> List Addr -> Prop} (n : P [] [] []) (c : ∀ {t : T} {v : V} {ts : List T} {vs : List V} {fp gp : List Addr}, dm K CL H Z t v fp -> bE K CL H Z ts vs gp -> P ts vs gp -> P (t :: ts) (v :: vs) (fp ++ gp)) {ts : List T} {vs : List V} {fp : List Addr} (h : bE K CL H Z ts vs fp) : P ts vs fp :=
 bE.rec (motive_1 := fun _ _ _ _ => True) (motive_2 := fun d v f _ => P d v f) (motive_3 := fun _ _ _ _ => True) (motive_4 := fun _ _ _ _ => True)
   (fun _ => trivial) (fun _ _ _ => trivial) (fun _ _ _ => trivial) (fun _ _ _ => trivial) (fun _ _ => trivial) (fun _ _ _ => trivial) (fun _ _ => trivial) n (fun a b _ i => c a b i) trivial (fun _ _ _ _ => trivial) trivial (fun _ _ _ _ => trivial) h
theorem d9.ind {H Z : Hp} {P : List (Str × T) -> List (Str × V) -> List Addr -> Prop} (n : P [] [] []) (c : ∀ {x : Str} {t : T} {v : V} {ts : List (Str × T)} {vs : List (Str × V)} {fp gp : List Addr}, dm K CL H Z t v fp -> d9 K CL H Z ts vs gp -> P ts vs gp -> P ((x, t) :: ts) ((x, v) :: vs) (fp ++ gp)) {ts : List (Str × T)} {vs : List (Str × V)} {fp : List Addr} (h : d9 K CL H Z ts vs fp) : P ts vs fp :=
 d9.rec (motive_1 := fun _ _ _ _ => True) (motive_2 := fun _ _ _ _ => True) (motive_3 := fun d v f _ => P d v f) (motive_4 := fun _ _ _ _ => True)
   (fun _ => trivial) (fun _ _ _ => trivial) (fun _ _ _ => trivial) (fun _ _ _ => trivial) (fun _ _ => trivial) (fun _ _ _ => trivial) (fun _ _ => trivial) trivial (fun _ _ _ _ => trivial) n (fun a b _ i => c a b i) trivial (fun _ _ _ _ => trivial) h
theorem aH.length {Z : Hp} {d : List D} {v : List V} (h : aH K CL Z d v) : d.length = v.length :=
 aH.ind (P := fun d v => d.length = v.length) rfl (fun _ _ i => congrArg (· + 1) i) h
theorem bE.length {H Z : Hp} {d : List T} {v : List V} {fp : List Addr} (h : bE K CL H Z d v fp) : d.length = v.length :=
 bE.ind (P := fun d v _ => d.length = v.length) rfl (fun _ _ i => congrArg (· + 1) i) h
theorem aH.get {Z : Hp} : ∀ {ds : List D} {vs : List V} {i : Nat} {d : D}, aH K CL Z ds vs -> ds[i]? = some d -> ∃ v, vs[i]? = some v /\ bF K CL Z d v
 | _, _, _, _, .nil, e => by simp at e
 | _, _, 0, _, .cons r _, e => by simp at e; subst e; exact ⟨_, rfl, r⟩
 | _, _, i + 1, d, .cons _ t, e => by
   obtain ⟨u, h1, h2⟩ := aH.get (i := i) (d := d) t (by simpa using e)
   exact ⟨u, by simpa using h1, h2⟩
theorem aH.NF {Z : Hp} : ∀ {ds : List D} {vs : List V} {i : Nat} {v : V}, aH K CL Z ds vs -> vs[i]? = some v -> ∃ d, ds[i]? = some d /\ bF K CL Z d v
 | _, _, _, _, .nil, e => by simp at e
 | _, _, 0, _, .cons r _, e => by simp at e; subst e; exact ⟨_, rfl, r⟩
 | _, _, i + 1, d, .cons _ t, e => by
   obtain ⟨u, h1, h2⟩ := aH.NF (i := i) (v := d) t (by simpa using e)
   exact ⟨u, by simpa using h1, h2⟩
theorem gj.get {H Z : Hp} : ∀ {δ : List (Option T)} {σ : L2.St} {fp : List Addr} {i : Nat} {t : T}, gj K CL H Z δ σ fp -> δ[i]? = some (some t) →
   ∃ v f1 f2 f3, σ[i]? = some (some v) /\ fp = f1 ++ (f2 ++ f3) /\ dm K CL H Z t v f2 ∧
     (∀ {H' Z' : Hp} {t' : T} {v' : V} {g : List Addr}, aG Z Z' -> (∀ a ∈ f1 ++ f3, H' a = H a) -> dm K CL H' Z' t' v' g -> gj K CL H' Z' (δ.set i (some t')) (σ.set i (some v')) (f1 ++ (g ++ f3))) ∧
     (∀ {o : Option V}, gj K CL H Z (δ.set i none) (σ.set i o) (f1 ++ f3)) := by
 intro δ σ fp i t h
 have mono : ∀ {H H' Z Z' : Hp} {δ : List (Option T)} {σ : L2.St} {fp : List Addr}, aG Z Z' -> (∀ a ∈ fp, H' a = H a) -> gj K CL H Z δ σ fp -> gj K CL H' Z' δ σ fp := by
   intro H H' Z Z' δ σ fp e k r
   induction r with
   | nil => exact .nil
   | skip _ ih => exact .skip (ih k)
   | cons r _ ih => exact .cons (r.mono e fun a ha => k a (am7 _ ha)) (ih fun a ha => k a (amU _ ha))
 induction h generalizing i with
 | nil => intro e; simp at e
 | @skip o δ σ fp r ih =>
   cases i with
   | zero => intro e; simp at e
   | succ i =>
     intro e
     obtain ⟨v, f1, f2, f3, h1, h2, h3, h4, h5⟩ := ih (i := i) (by simpa using e)
     exact ⟨v, f1, f2, f3, by simpa using h1, h2, h3, fun e k q => .skip (h4 e k q), .skip h5⟩
 | @cons t0 v0 δ σ fp gp r0 r ih =>
   cases i with
   | zero =>
     intro e
     simp at e
     subst e
     refine ⟨v0, [], fp, gp, rfl, rfl, r0, fun {H' Z' t' v' g} e k q => gj.cons (fp := g) (gp := gp) q (mono (fp := gp) e (fun a ha => k a (by simpa using ha)) r), .skip (by simpa using r)⟩
   | succ i =>
     intro e
     obtain ⟨v, f1, f2, f3, h1, h2, h3, h4, h5⟩ := ih (i := i) (by simpa using e)
     refine ⟨v, fp ++ f1, f2, f3, by simpa using h1, by rw [h2, List.append_assoc], h3, fun {H' Z' t' v' g} e k q => ?_, fun {o} => ?_⟩
     . rw [am8]
       exact .cons (r0.mono e fun a ha => k a (by simp [ha])) (h4 e (fun a ha => k a (by rw [am8]; exact amU _ ha)) q)
     . rw [am8]
       exact .cons r0 h5
theorem gj.mono {H H' Z Z' : Hp} {δ : List (Option T)} {σ : L2.St} {fp : List Addr} (e : aG Z Z') (k : ∀ a ∈ fp, H' a = H a) (r : gj K CL H Z δ σ fp) : gj K CL H' Z' δ σ fp := by
 induction r with
 | nil => exact .nil
 | skip _ ih => exact .skip (ih k)
 | cons r _ ih => exact .cons (r.mono e fun a ha => k a (am7 _ ha)) (ih fun a ha => k a (amU _ ha))
theorem gj.there {H Z : Hp} {δ : List (Option T)} {σ : L2.St} {fp : List Addr} (r : gj K CL H Z δ σ fp) : ∀ a ∈ fp, ∃ o, H a = some o := by
 induction r with
 | nil => intro a ha; cases ha
 | skip _ ih => exact ih
 | cons r _ ih => exact fun a ha => (am3.mp ha).elim (r.there a) (ih a)
theorem gj.put {H Z : Hp} {δ : List (Option T)} {σ : L2.St} {fp : List Addr} (r : gj K CL H Z δ σ fp) {t : T} {v : V} {g : List Addr} (q : dm K CL H Z t v g) :
   ∀ {i : Nat}, i < δ.length -> ∃ f, gj K CL H Z (δ.set i (some t)) (σ.set i (some v)) f /\ ∃ f', f'.Sublist fp /\ f.Perm (g ++ f') := by
 induction r with
 | nil => intro i hi; simp at hi
 | @skip o δ σ fp r ih =>
   intro i hi
   cases i with
   | zero => exact ⟨g ++ fp, .cons q r, fp, anC _, aoY _⟩
   | succ i =>
     obtain ⟨f, h1, f', h2, h3⟩ := ih (i := i) (by simpa using hi)
     exact ⟨f, .skip h1, f', h2, h3⟩
 | @cons t0 v0 δ σ fp gp r0 r ih =>
   intro i hi
   cases i with
   | zero => exact ⟨g ++ gp, .cons q r, gp, aob _ _, aoY _⟩
   | succ i =>
     obtain ⟨f, h1, f', h2, h3⟩ := ih (i := i) (by simpa using hi)
     refine ⟨fp ++ f, .cons r0 h1, fp ++ f', anJ (anC _) h2, ?_⟩
     refine (anV fp h3).trans ?_
     rw [← am8, ← am8]
     exact List.Perm.append_right f' anQ
end
noncomputable def Gs (X : Cx) (e : Expr) : TE := fun σ H Q => ∀ (pins : List (Addr × Obj)) (s : Shared), Inv X pins σ H s -> wpAny (model X.prog X.w) X.A (eval e X.env) (EP X pins σ Q) X.xe s
noncomputable def Vw (X : Cx) (e : Expr) : TT := fun σ H Q => ∀ (pins : List (Addr × Obj)) (s : Shared), Inv X pins σ H s -> wpAny (model X.prog X.w) X.A (isTrue e X.env (eval e X.env)) (TP X pins σ Q) X.xe s
noncomputable def QF (X : Cx) (es : List Expr) : TA := fun σ H Q => ∀ (pos : Pos) (pins : List (Addr × Obj)) (s : Shared), Inv X pins σ H s -> wpAny (model X.prog X.w) X.A (spliced (backTo pos (starEach es X.env))) (AP X pins σ Q) X.xe s
noncomputable def abL (X : Cx) (st : Stmt) : TS := fun D σ H => ∀ (pins : List (Addr × Obj)) (s : Shared), Inv X pins σ H s -> wpAny (model X.prog X.w) X.A (exec st X.env) (SP X pins D) X.xe s
noncomputable def abM (X : Cx) (st : List Stmt) : TS := fun D σ H => ∀ (pins : List (Addr × Obj)) (s : Shared), Inv X pins σ H s -> wpAny (model X.prog X.w) X.A (execs st X.env) (SP X pins D) X.xe s
section
variable {X : Cx}
theorem eN {e : Expr} : PE X e (Gs X e) := fun pins s _ _ _ I h => h pins s I
theorem ptS {e : Expr} : PT X e (Vw X e) := fun pins s _ _ _ I h => h pins s I
theorem Vx {e : List Expr} : PA X e (QF X e) := fun pos pins s _ _ _ I h => h pos pins s I
theorem psS {e : Stmt} : PS X e (abL X e) := fun pins s _ _ _ I h => h pins s I
theorem Vy {e : List Stmt} : Jd X e (abM X e) := fun pins s _ _ _ I h => h pins s I
theorem dw {e : Expr} {t : TE} (h : PE X e t) {σ : L2.St} {H : Hp} {Q : VK} (q : t σ H Q) : Gs X e σ H Q := fun pins s I => h pins s σ H Q I q
theorem Gu {e : Expr} {t : TT} (h : PT X e t) {σ : L2.St} {H : Hp} {Q : Bool -> Hp -> Prop} (q : t σ H Q) : Vw X e σ H Q := fun pins s I => h pins s σ H Q I q
theorem NK {e : List Expr} {t : TA} (h : PA X e t) {σ : L2.St} {H : Hp} {Q : List V -> Hp -> Prop} (q : t σ H Q) : QF X e σ H Q := fun pos pins s I => h pos pins s σ H Q I q
theorem xC {e : Stmt} {t : TS} (h : PS X e t) {σ : L2.St} {H : Hp} {D : Ends} (q : t D σ H) : abL X e D σ H := fun pins s I => h pins s σ H D I q
theorem afn {e : List Stmt} {t : TS} (h : Jd X e t) {σ : L2.St} {H : Hp} {D : Ends} (q : t D σ H) : abM X e D σ H := fun pins s I => h pins s σ H D I q
end
noncomputable def notStar : Expr -> Bool
 | .Starred _ _ => false
 | _ => true
theorem bW {e : Expr} {es : List Expr} {env : Env} (h : notStar e = true) : starEach (e :: es) env = (false, eval e env) :: starEach es env := by
 cases e <;> first | rfl | (cases h)
structure Bx where
 B : Hp
 Z : Hp
noncomputable def jv : HO -> Bool
 | .tup _ => true
 | .fE _ _ => true
 | _ => false
noncomputable def Gv (x : Str) : Bool := x.cps[0]? == some 35
noncomputable def Gw (x : Str) : Str := ⟨x.cps.extract 1 x.cps.size⟩
noncomputable def mV (CL : Str -> Addr) (Z : Hp) : Prop := ∀ x, Gv x = true -> CL x ≠ 0 -> Z (CL x) = some (.tabs (Gw x))
structure cE (K : PySem.W.Frag) (CL : Str -> Addr) (b : Bx) (H Z : Hp) (δ : List (Option T)) (σ : L2.St) (ts : List T) (vs : List V) : Prop where
 rep : ∃ fp gp, gj K CL H Z δ σ fp /\ bE K CL H Z ts vs gp /\ (fp ++ gp).Nodup /\ ∀ a ∈ fp ++ gp, Z a = none /\ b.B a = none
 bh : aG b.B H
 zz : aG b.Z Z
 zh : aG Z H
 new : ∀ a o, Z a = some o -> b.Z a = none -> b.B a = none
 tp : ∀ a o, H a = some o -> jv o = true -> Z a = some o
 tab : mV CL b.Z
section
variable {K : PySem.W.Frag} {CL : Str -> Addr} {b : Bx} {H H' Z Z' : Hp} {δ δ' : List (Option T)} {σ σ' : L2.St} {ts ts' : List T} {vs vs' : List V} {t : T} {v : V}
theorem mV.mono {A B : Hp} (h : mV CL A) (e : aG A B) : mV CL B := fun x hx h0 => e _ _ (h x hx h0)
theorem cE.afo (S : cE K CL b H Z δ σ ts vs) : mV CL Z := S.tab.mono S.zz
theorem cE.NP (S : cE K CL b H Z δ σ ts vs) : mV CL H := S.afo.mono S.zh
theorem abO {A B : Hp} (e : aG A B) {a : Addr} (h : B a = none) : A a = none := e.free h
theorem aG.upd {H : Hp} {p : Addr} {o : HO} (h : H p = none) : aG H (upd H p o) := fun b u e => by rw [aA (aK e h)]; exact e
theorem cE.view (S : cE K CL b H Z δ σ (t :: ts) (v :: vs)) : bF K CL H t.fE v := by
 obtain ⟨fp, gp, _, r, _, _⟩ := S.rep
 cases r with
 | cons r _ => exact r.fE S.zh fun _ _ => rfl
theorem cE.pop (S : cE K CL b H Z δ σ (t :: ts) (v :: vs)) : cE K CL b H Z δ σ ts vs := by
 obtain ⟨fp, gp, e, r, nd, k⟩ := S.rep
 cases r with
 | @cons _ _ _ _ f1 f2 r1 r2 =>
   refine ⟨⟨fp, f2, e, r2, nd.sublist (anJ (anC _) (aob _ _)), fun a ha => k a ?_⟩, S.bh, S.zz, S.zh, S.new, S.tp, S.tab⟩
   rcases am3.mp ha with h | h
   . exact am7 _ h
   . exact amU _ (amU _ h)
theorem cE.push {d : D} (S : cE K CL b H Z δ σ ts vs) (r : bF K CL Z d v) : cE K CL b H Z δ σ (.sh d :: ts) (v :: vs) := by
 obtain ⟨fp, gp, e, r2, nd, k⟩ := S.rep
 exact ⟨⟨fp, [] ++ gp, e, .cons (.sh r) r2, nd, k⟩, S.bh, S.zz, S.zh, S.new, S.tp, S.tab⟩
theorem cE.QG (S : cE K CL b H Z δ σ (t :: ts) (v :: vs)) : ∃ Z', aG Z Z' /\ cE K CL b H Z' δ σ (.sh t.fE :: ts) (v :: vs) := by
 classical
 obtain ⟨fp, gp, e, r, nd, k⟩ := S.rep
 cases r with
 | @cons _ _ _ _ f1 f2 r1 r2 =>
   have nZ : ∀ a ∈ f1, Z a = none /\ b.B a = none := fun a ha => k a (amU _ (am7 _ ha))
   have sz : aG Z (fun a => if a ∈ f1 then H a else Z a) := fun a o q => by
     by_cases ha : a ∈ f1
     . rw [(nZ a ha).1] at q; cases q
     . show (if a ∈ f1 then H a else Z a) = some o
       rw [amV ha]; exact q
   have nd1 := anI.mp nd
   have dj : ∀ a ∈ fp ++ f2, a ∉ f1 := fun a ha h1 => by
     rcases am3.mp ha with h | h
     . exact nd1.2.2 a h a (am7 _ h1) rfl
     . exact (anI.mp nd1.2.1).2.2 a h1 a h rfl
   refine ⟨fun a => if a ∈ f1 then H a else Z a, sz, ⟨⟨fp, [] ++ f2, e.mono sz (fun _ _ => rfl), .cons (.sh (r1.fE sz fun a ha => amZ ha)) (r2.mono sz fun _ _ => rfl), ?_, fun a ha => ?_⟩, S.bh, S.zz.trans sz, fun a o q => ?_, fun a o q z => ?_, fun a o q i => ?_, S.tab⟩⟩
   . exact nd.sublist (anJ (anC _) (aob _ _))
   . have QH : a ∈ fp ++ f2 := ha
     refine ⟨?_, (k a ?_).2⟩
     . show (if a ∈ f1 then H a else Z a) = none
       rw [amV (dj a QH)]
       refine (k a ?_).1
       rcases am3.mp QH with h | h
       . exact am7 _ h
       . exact amU _ (amU _ h)
     . rcases am3.mp QH with h | h
       . exact am7 _ h
       . exact amU _ (amU _ h)
   . have q' : (if a ∈ f1 then H a else Z a) = some o := q
     by_cases ha : a ∈ f1
     . rw [amZ ha] at q'; exact q'
     . rw [amV ha] at q'; exact S.zh a o q'
   . have q' : (if a ∈ f1 then H a else Z a) = some o := q
     by_cases ha : a ∈ f1
     . exact (nZ a ha).2
     . rw [amV ha] at q'; exact S.new a o q' z
   . exact sz a o (S.tp a o q i)
theorem cE.Vz {i : Nat} (S : cE K CL b H Z δ σ ts vs) (hi : δ[i]? = some (some t)) : ∃ v Z', σ[i]? = some (some v) /\ aG Z Z' /\ cE K CL b H Z' (δ.set i (some (.sh t.fE))) σ (.sh t.fE :: ts) (v :: vs) := by
 classical
 obtain ⟨fp, gp, e, r, nd, k⟩ := S.rep
 obtain ⟨v, f1, f2, f3, hv, wR, rt, put, _⟩ := e.get hi
 subst wR
 have nZ : ∀ a ∈ f2, Z a = none /\ b.B a = none := fun a ha => k a (by simp [ha])
 have sz : aG Z (fun a => if a ∈ f2 then H a else Z a) := fun a o q => by
   by_cases ha : a ∈ f2
   . rw [(nZ a ha).1] at q; cases q
   . show (if a ∈ f2 then H a else Z a) = some o
     rw [amV ha]; exact q
 have dj : ∀ a ∈ (f1 ++ f3) ++ gp, a ∉ f2 := fun a ha h2 => by
   have hp : ((f1 ++ (f2 ++ f3)) ++ gp).Perm (f2 ++ ((f1 ++ f3) ++ gp)) := by
     rw [← am8, ← am8]
     refine (List.perm_append_right_iff gp).mpr ?_
     rw [← am8]
     exact (List.perm_append_right_iff f3).mpr anQ
   exact (anI.mp (hp.nodup_iff.mp nd)).2.2 a h2 a ha rfl
 have rF : bF K CL (fun a => if a ∈ f2 then H a else Z a) t.fE v := rt.fE sz fun a ha => amZ ha
 have abP : σ.set i (some v) = σ := by
   apply aoo
   intro j
   rw [List.getElem?_set]
   split
   . rename_i h; subst h
     split
     . exact hv.symm
     . rename_i h2; rw [aoP (by omega)]
   . rfl
 have e2 : gj K CL H (fun a => if a ∈ f2 then H a else Z a) (δ.set i (some (.sh t.fE))) σ (f1 ++ ([] ++ f3)) := by
   have := put (H' := H) (t' := .sh t.fE) (v' := v) (g := []) sz (fun _ _ => rfl) (.sh rF)
   rwa [abP] at this
 refine ⟨v, fun a => if a ∈ f2 then H a else Z a, hv, sz, ⟨⟨f1 ++ ([] ++ f3), [] ++ gp, e2, .cons (.sh rF) (r.mono sz fun _ _ => rfl), ?_, fun a ha => ?_⟩, S.bh, S.zz.trans sz, fun a o q => ?_, fun a o q z => ?_, fun a o q i => sz a o (S.tp a o q i), S.tab⟩⟩
 . exact nd.sublist (anJ (anJ (anC _) (aob _ _)) (anC _))
 . have QH : a ∈ (f1 ++ f3) ++ gp := ha
   have hm : a ∈ (f1 ++ (f2 ++ f3)) ++ gp := by
     simp only [am3] at QH ⊢
     rcases QH with (h | h) | h
     . exact .inl (.inl h)
     . exact .inl (.inr (.inr h))
     . exact .inr h
   refine ⟨?_, (k a hm).2⟩
   show (if a ∈ f2 then H a else Z a) = none
   rw [amV (dj a QH)]
   exact (k a hm).1
 . have q' : (if a ∈ f2 then H a else Z a) = some o := q
   by_cases ha : a ∈ f2
   . rw [amZ ha] at q'; exact q'
   . rw [amV ha] at q'; exact S.zh a o q'
 . have q' : (if a ∈ f2 then H a else Z a) = some o := q
   by_cases ha : a ∈ f2
   . exact (nZ a ha).2
   . rw [amV ha] at q'; exact S.new a o q' z
theorem cE.move {i : Nat} (S : cE K CL b H Z δ σ ts vs) (hi : δ[i]? = some (some t)) : ∃ v, σ[i]? = some (some v) /\ cE K CL b H Z (δ.set i none) σ (t :: ts) (v :: vs) := by
 obtain ⟨fp, gp, e, r, nd, k⟩ := S.rep
 obtain ⟨v, f1, f2, f3, hv, wR, rt, _, del⟩ := e.get hi
 subst wR
 have abP : σ.set i (some v) = σ := by
   apply aoo
   intro j
   rw [List.getElem?_set]
   split
   . rename_i h; subst h
     split
     . exact hv.symm
     . rename_i h2; rw [aoP (by omega)]
   . rfl
 have hp : ((f1 ++ (f2 ++ f3)) ++ gp).Perm ((f1 ++ f3) ++ (f2 ++ gp)) := by
   have h1 : (f2 ++ f3).Perm (f3 ++ f2) := anQ
   have h2 := (anV f1 h1).append_right gp
   simp only [am8] at h2 ⊢
   exact h2
 refine ⟨v, hv, ⟨⟨f1 ++ f3, f2 ++ gp, ?_, .cons rt r, hp.nodup_iff.mp nd, fun a ha => k a (hp.mem_iff.mpr ha)⟩, S.bh, S.zz, S.zh, S.new, S.tp, S.tab⟩⟩
 have := del (o := some v)
 rwa [abP] at this
theorem cE.look {i : Nat} (S : cE K CL b H Z δ σ ts vs) (hi : δ[i]? = some (some t)) : ∃ v, σ[i]? = some (some v) /\ bF K CL H t.fE v := by
 obtain ⟨fp, gp, e, r, nd, k⟩ := S.rep
 obtain ⟨v, f1, f2, f3, hv, wR, rt, _, _⟩ := e.get hi
 exact ⟨v, hv, rt.fE S.zh fun _ _ => rfl⟩
theorem cE.aao {i : Nat} {d : D} (S : cE K CL b H Z δ σ ts vs) (hi : δ[i]? = some (some (.sh d))) : ∃ v, σ[i]? = some (some v) /\ bF K CL Z d v := by
 obtain ⟨fp, gp, e, r, nd, k⟩ := S.rep
 obtain ⟨v, f1, f2, f3, hv, wR, rt, _, _⟩ := e.get hi
 cases rt with
 | sh h => exact ⟨v, hv, h⟩
theorem cE.set {i : Nat} (S : cE K CL b H Z δ σ (t :: ts) (v :: vs)) (hi : i < δ.length) : cE K CL b H Z (δ.set i (some t)) (σ.set i (some v)) ts vs := by
 obtain ⟨fp, gp, e, r, nd, k⟩ := S.rep
 cases r with
 | @cons _ _ _ _ f1 f2 r1 r2 =>
   obtain ⟨f, h1, f', h2, h3⟩ := e.put r1 hi
   have hp : (f ++ f2).Perm (f' ++ (f1 ++ f2)) := by
     refine (h3.append_right f2).trans ?_
     rw [← am8]
     exact anQ.append_right f2
   have NQ : (f' ++ (f1 ++ f2)).Sublist (fp ++ (f1 ++ f2)) := anJ h2 (anC _)
   exact ⟨⟨f, f2, h1, r2, hp.nodup_iff.mpr (nd.sublist NQ), fun a ha => k a (NQ.subset (hp.mem_iff.mp ha))⟩, S.bh, S.zz, S.zh, S.new, S.tp, S.tab⟩
end
mutual
noncomputable def D.kW : D -> Bool
 | .tup ds => D.cy ds
 | .lst _ => false
 | .ins _ _ => false
 | .om _ => false
 | .dct _ => false
 | .any => false
 | _ => true
noncomputable def D.cy : List D -> Bool
 | [] => true
 | d :: ds => d.kW && D.cy ds
end
mutual
noncomputable def T.clean : T -> Bool
 | .sh d => d.kW
 | .tup ts => T.fN ts
 | .lst ts => T.fN ts
 | .ins _ fs => T.bM fs
 | .om kvs => D.cy (kvs.map (·.2))
 | .dct kvs => T.CF kvs
 | .pin _ t => t.clean
noncomputable def T.fN : List T -> Bool
 | [] => true
 | t :: ts => t.clean && T.fN ts
noncomputable def T.bM : List (Str × T) -> Bool
 | [] => true
 | (_, t) :: ts => t.clean && T.bM ts
noncomputable def T.CF : List (List Key × T) -> Bool
 | [] => true
 | (_, t) :: ts => t.clean && T.CF ts
end
noncomputable def cG (X : Cx) (CL : Str -> Addr) (b : Bx) (e : Expr) (δ : List (Option T)) (t : T) (δ' : List (Option T)) : Prop :=
 ∀ (H Z : Hp) (σ : L2.St) (ts : List T) (vs : List V) (Q : VK), cE X.K CL b H Z δ σ ts vs -> (∀ v H' Z', aG Z Z' -> aG H H' -> cE X.K CL b H' Z' δ' σ (t :: ts) (v :: vs) -> Q v H') -> Gs X e σ H Q
noncomputable def cV (X : Cx) (CL : Str -> Addr) (b : Bx) (e : Expr) (δ : List (Option T)) (d : D) (δ' : List (Option T)) : Prop :=
 ∀ (H Z : Hp) (σ : L2.St) (ts : List T) (vs : List V) (Q : VK), cE X.K CL b H Z δ σ ts vs -> (∀ v H' Z', aG Z Z' -> aG H H' -> cE X.K CL b H' Z' δ' σ ts vs -> bF X.K CL H' d v -> Q v H') -> Gs X e σ H Q
noncomputable def rD (X : Cx) (CL : Str -> Addr) (b : Bx) (e : Expr) (δ : List (Option T)) (p : Bool) (δ' : List (Option T)) : Prop :=
 ∀ (H Z : Hp) (σ : L2.St) (ts : List T) (vs : List V) (Q : Bool -> Hp -> Prop), cE X.K CL b H Z δ σ ts vs -> (∀ H' Z', aG Z Z' -> aG H H' -> cE X.K CL b H' Z' δ' σ ts vs -> Q p H') -> Vw X e σ H Q
noncomputable def Ju (X : Cx) (CL : Str -> Addr) (b : Bx) (es : List Expr) (δ : List (Option T)) (tl : List T) (δ' : List (Option T)) : Prop :=
 ∀ (H Z : Hp) (σ : L2.St) (ts : List T) (vs : List V) (Q : List V -> Hp -> Prop), cE X.K CL b H Z δ σ ts vs →
   (∀ us H' Z', us.length = tl.length -> aG Z Z' -> aG H H' -> cE X.K CL b H' Z' δ' σ (tl.reverse ++ ts) (us.reverse ++ vs) -> Q us H') -> QF X es σ H Q
noncomputable def BAv (X : Cx) (CL : Str -> Addr) (b : Bx) (es : List Expr) (δ : List (Option T)) (ds : List D) (δ' : List (Option T)) : Prop :=
 ∀ (H Z : Hp) (σ : L2.St) (ts : List T) (vs : List V) (Q : List V -> Hp -> Prop), cE X.K CL b H Z δ σ ts vs →
   (∀ us H' Z', aG Z Z' -> aG H H' -> cE X.K CL b H' Z' δ' σ ts vs -> aH X.K CL H' ds us -> Q us H') -> QF X es σ H Q
structure dF where
 nx : List (Option T) -> Prop
 rt : T -> List (Option T) -> Prop
 bk : List (Option T) -> Prop := fun _ => False
 ct : List (Option T) -> Prop := fun _ => False
structure Meets (K : PySem.W.Frag) (CL : Str -> Addr) (b : Bx) (Z : Hp) (ts : List T) (vs : List V) (D : dF) (E : Ends) : Prop where
 nx : ∀ δ' σ' H' Z', aG Z Z' -> cE K CL b H' Z' δ' σ' ts vs -> D.nx δ' -> E.nx σ' H'
 rt : ∀ t v H' Z' δ' σ', aG Z Z' -> cE K CL b H' Z' δ' σ' (t :: ts) (v :: vs) -> D.rt t δ' -> E.rt v H'
 bk : ∀ δ' σ' H' Z', aG Z Z' -> cE K CL b H' Z' δ' σ' ts vs -> D.bk δ' -> E.bk σ' H'
 ct : ∀ δ' σ' H' Z', aG Z Z' -> cE K CL b H' Z' δ' σ' ts vs -> D.ct δ' -> E.ct σ' H'
noncomputable def UX (X : Cx) (CL : Str -> Addr) (b : Bx) (st : Stmt) (δ : List (Option T)) (D : dF) : Prop :=
 ∀ (H Z : Hp) (σ : L2.St) (ts : List T) (vs : List V) (E : Ends), cE X.K CL b H Z δ σ ts vs -> Meets X.K CL b Z ts vs D E -> abL X st E σ H
noncomputable def fF (X : Cx) (CL : Str -> Addr) (b : Bx) (st : List Stmt) (δ : List (Option T)) (D : dF) : Prop :=
 ∀ (H Z : Hp) (σ : L2.St) (ts : List T) (vs : List V) (E : Ends), cE X.K CL b H Z δ σ ts vs -> Meets X.K CL b Z ts vs D E -> abM X st E σ H
section
variable {K : PySem.W.Frag} {CL : Str -> Addr} {b : Bx} {H H' Z Z' : Hp} {δ δ' : List (Option T)} {σ σ' : L2.St} {ts ts' : List T} {vs vs' : List V} {t : T} {v : V}
theorem Meets.mono {D : dF} {E : Ends} (M : Meets K CL b Z ts vs D E) (e : aG Z Z') : Meets K CL b Z' ts vs D E :=
 ⟨fun _ _ _ _ s => M.nx _ _ _ _ (e.trans s), fun _ _ _ _ _ _ s => M.rt _ _ _ _ _ _ (e.trans s), fun _ _ _ _ s => M.bk _ _ _ _ (e.trans s), fun _ _ _ _ s => M.ct _ _ _ _ (e.trans s)⟩
theorem L5 {a : Addr} {xs : List V} (zh : ∀ a o, H a = some o -> jv o = true -> Z a = some o) (h : yE K H a xs) : yE K Z a xs := by
 rcases h with (h | ⟨o, h⟩) | h
 . exact .inl (.inl (zh _ _ h rfl))
 . exact .inl (.inr ⟨o, zh _ _ h rfl⟩)
 . exact .inr h
theorem bF.kW (zh : ∀ a o, H a = some o -> jv o = true -> Z a = some o) {d : D} {v : V} (k : d.kW = true) (h : bF K CL H d v) : bF K CL Z d v :=
 bF.rec (motive_1 := fun d v _ => d.kW = true -> bF K CL Z d v) (motive_2 := fun d v _ => D.cy d = true -> aH K CL Z d v) (motive_3 := fun d v _ => True) (motive_4 := fun d v _ => True) (motive_5 := fun d v _ => True)
   (fun _ => .non) (fun b _ => .bl b) (fun b _ => .int b) (fun b _ => .str b) (fun _ k => by rw [D.kW] at k; cases k) (fun b _ => .val b) (fun h _ r k => .tup (L5 zh h) (r (by rw [D.kW] at k; exact k))) (fun _ _ _ k => by rw [D.kW] at k; cases k) (fun _ _ _ k => by rw [D.kW] at k; cases k) (fun _ _ _ k => by rw [D.kW] at k; cases k) (fun _ _ _ k => by rw [D.kW] at k; cases k) (fun _ => .nil) (fun _ _ h r k => by rw [D.cy, anE] at k; exact .cons (h k.1) (r k.2)) trivial (fun _ _ _ _ => trivial) trivial (fun _ _ _ _ => trivial) trivial (fun _ _ _ _ => trivial) h k
theorem aH.kW (zh : ∀ a o, H a = some o -> jv o = true -> Z a = some o) {d : List D} {v : List V} (k : D.cy d = true) (h : aH K CL H d v) : aH K CL Z d v :=
 aH.rec (motive_1 := fun d v _ => d.kW = true -> bF K CL Z d v) (motive_2 := fun d v _ => D.cy d = true -> aH K CL Z d v) (motive_3 := fun d v _ => True) (motive_4 := fun d v _ => True) (motive_5 := fun d v _ => True)
   (fun _ => .non) (fun b _ => .bl b) (fun b _ => .int b) (fun b _ => .str b) (fun _ k => by rw [D.kW] at k; cases k) (fun b _ => .val b) (fun h _ r k => .tup (L5 zh h) (r (by rw [D.kW] at k; exact k))) (fun _ _ _ k => by rw [D.kW] at k; cases k) (fun _ _ _ k => by rw [D.kW] at k; cases k) (fun _ _ _ k => by rw [D.kW] at k; cases k) (fun _ _ _ k => by rw [D.kW] at k; cases k) (fun _ => .nil) (fun _ _ h r k => by rw [D.cy, anE] at k; exact .cons (h k.1) (r k.2)) trivial (fun _ _ _ _ => trivial) trivial (fun _ _ _ _ => trivial) trivial (fun _ _ _ _ => trivial) h k
theorem bJ.clean {Z1 : Hp} (zi : ∀ {d : D} {v : V}, d.kW = true -> bF K CL Z1 d v -> bF K CL Z d v) {kvs : List (Key × D)} {gs : List (Key × V)} (k : D.cy (kvs.map (·.2)) = true) (h : bJ K CL Z1 kvs gs) : bJ K CL Z kvs gs :=
 bJ.ind (P := fun kvs gs => D.cy (kvs.map (·.2)) = true -> bJ K CL Z kvs gs) (fun _ => .nil) (fun h _ i k => by rw [ani, D.cy, anE] at k; exact .cons (zi k.1 h) (i k.2)) h k
theorem dm.clean {Z1 : Hp} (zh : ∀ a xs, Z1 a = some (.tup xs) -> Z a = some (.tup xs)) (zi : ∀ {d : D} {v : V}, d.kW = true -> bF K CL Z1 d v -> bF K CL Z d v) {t : T} {v : V} {fp : List Addr} (k : t.clean = true) (h : dm K CL H Z1 t v fp) : dm K CL H Z t v fp :=
 dm.rec (motive_1 := fun t v fp _ => t.clean = true -> dm K CL H Z t v fp) (motive_2 := fun t v fp _ => T.fN t = true -> bE K CL H Z t v fp) (motive_3 := fun t v fp _ => T.bM t = true -> d9 K CL H Z t v fp) (motive_4 := fun t v fp _ => T.CF t = true -> wQ K CL H Z t v fp)
   (fun h k => .sh (zi (by rw [T.clean] at k; exact k) h)) (fun h _ r k => .tup (zh _ _ h) (r (by rw [T.clean] at k; exact k))) (fun h _ r k => .lst h (r (by rw [T.clean] at k; exact k))) (fun h _ r k => .ins h (r (by rw [T.clean] at k; exact k))) (fun h f k => .om h (bJ.clean zi (by rw [T.clean] at k; exact k) f)) (fun h _ r k => .dct h (r (by rw [T.clean] at k; exact k))) (fun _ r k => .pin (r (by rw [T.clean] at k; exact k))) (fun _ => .nil) (fun _ _ h r k => by rw [T.fN, anE] at k; exact .cons (h k.1) (r k.2)) (fun _ => .nil) (fun _ _ h r k => by rw [T.bM, anE] at k; exact .cons (h k.1) (r k.2)) (fun _ => .nil) (fun _ _ h r k => by rw [T.CF, anE] at k; exact .cons (h k.1) (r k.2)) h k
theorem cE.back {W W' : Hp} {fp : List Addr} (S : cE K CL b H Z δ σ ts vs) (hh : aG H H') (zw : aG Z W) (ww : aG W W') (wh : aG W' H') (new : ∀ a o, W' a = some o -> W a = none -> H a = none)
   (tp : ∀ a o, H' a = some o -> jv o = true -> W' a = some o) (r : dm K CL H' W' t v fp) (nd : fp.Nodup) (own : ∀ a ∈ fp, W' a = none /\ H a = none) (c : W = Z \/ t.clean = true) :
   ∃ Z', aG Z Z' /\ cE K CL b H' Z' δ σ (t :: ts) (v :: vs) := by
 classical
 let Z' : Hp := fun a => if (H a).isSome = true then Z a else W' a
 have zs : ∀ {a : Addr} {o : HO}, H a = some o -> Z' a = Z a := fun {a o} e => by
   show (if (H a).isSome = true then Z a else W' a) = Z a
   rw [amZ (by rw [e]; rfl)]
 have zn : ∀ {a : Addr}, H a = none -> Z' a = W' a := fun {a} e => by
   show (if (H a).isSome = true then Z a else W' a) = W' a
   rw [amV (by rw [e]; simp)]
 have sz : aG Z Z' := fun a o q => by rw [zs (S.zh a o q)]; exact q
 have zw' : ∀ a o, Z' a = some o -> W' a = some o := fun a o q => by
   cases e : H a with
   | none => rw [zn e] at q; exact q
   | some u => rw [zs e] at q; exact ww a o (zw a o q)
 have ztp : ∀ a o, H' a = some o -> jv o = true -> Z' a = some o := fun a o q i => by
   cases e : H a with
   | none => rw [zn e]; exact tp a o q i
   | some u =>
     rw [zs e]
     have := hh a u e
     rw [q] at this; cases this
     exact S.tp a o e i
 have r' : dm K CL H' Z' t v fp := by
   rcases c with c | c
   . have : Z' = W' := by
       funext a
       cases e : H a with
       | none => exact zn e
       | some u =>
         rw [zs e]
         cases q : W' a with
         | none =>
           cases q2 : Z a with
           | none => rfl
           | some o => rw [ww a o (zw a o q2)] at q; cases q
         | some o =>
           cases q2 : W a with
           | none => rw [new a o q q2] at e; cases e
           | some o2 =>
             have := ww a o2 q2
             rw [q] at this; cases this
             rw [← c]; exact q2
     rw [this]; exact r
   . refine dm.clean (fun a xs h => ?_) (fun {d v} k h => ?_) c r
     . exact ztp a _ (wh a _ h) rfl
     . exact bF.kW (H := H') ztp k (h.mono wh)
 obtain ⟨f0, g0, e0, r0, nd0, k0⟩ := S.rep
 have old : ∀ a ∈ f0 ++ g0, ∃ o, H a = some o := fun a ha => (am3.mp ha).elim (e0.there a) (r0.there a)
 have keep : ∀ a ∈ f0 ++ g0, H' a = H a := fun a ha => by
   obtain ⟨o, e⟩ := old a ha
   rw [e]; exact hh a o e
 refine ⟨Z', sz, ⟨⟨f0, fp ++ g0, e0.mono sz (fun a ha => keep a (am7 _ ha)), .cons r' (r0.mono sz fun a ha => keep a (amU _ ha)), ?_, fun a ha => ?_⟩, S.bh.trans hh, S.zz.trans sz, fun a o q => wh a o (zw' a o q), fun a o q z => ?_, ztp, S.tab⟩⟩
 . have hp : (f0 ++ (fp ++ g0)).Perm (fp ++ (f0 ++ g0)) := by
     rw [← am8, ← am8]
     exact anQ.append_right g0
   refine hp.nodup_iff.mpr (anI.mpr ⟨nd, nd0, fun a ha c hc e => ?_⟩)
   subst e
   obtain ⟨o, q⟩ := old a hc
   rw [(own a ha).2] at q; cases q
 . have : a ∈ f0 ++ g0 \/ a ∈ fp := by
     simp only [am3] at ha ⊢
     rcases ha with h | h | h
     . exact .inl (.inl h)
     . exact .inr h
     . exact .inl (.inr h)
   rcases this with h | h
   . obtain ⟨o, q⟩ := old a h
     exact ⟨by rw [zs q]; exact (k0 a h).1, (k0 a h).2⟩
   . exact ⟨by rw [zn (own a h).2]; exact (own a h).1, S.bh.free (own a h).2⟩
 . cases e : H a with
   | none => exact S.bh.free e
   | some u => rw [zs e] at q; exact S.new a o q z
end
section
variable {X : Cx} {CL : Str -> Addr} {b : Bx} {δ δ1 δ2 δ3 : List (Option T)} {e e1 e2 : Expr} {t t1 t2 : T} {d d1 d2 : D} {pos : Pos}
theorem aaq (h : cG X CL b e δ t δ1) : cV X CL b e δ t.fE δ1 := fun H Z σ ts vs Q S k => h H Z σ ts vs Q S fun v H' Z' z s S' => k v H' Z' z s S'.pop S'.view
theorem ah (h : cG X CL b e δ (.sh d) δ1) : cV X CL b e δ d δ1 := by have := aaq h; rwa [T.fE] at this
theorem dz (h : cV X CL b e δ d δ1) (i : d.kW = true) : cG X CL b e δ (.sh d) δ1 := fun H Z σ ts vs Q S k => h H Z σ ts vs Q S fun v H' Z' z s S' r => k v H' Z' z s (S'.push (bF.kW S'.tp i r))
theorem Jv (h : cG X CL b e δ t δ1) : cG X CL b e δ (.sh t.fE) δ1 := fun H Z σ ts vs Q S k => h H Z σ ts vs Q S fun v H' Z' z s S' => by
 obtain ⟨Z2, z2, S2⟩ := S'.QG
 exact k v H' Z2 (z.trans z2) s S2
theorem aj {i : Int} {j : Nat} : cG X CL b (.Constant (.int i) j pos) δ (.sh (.int i)) δ := fun H Z σ ts vs Q S k => dw aa3 (k _ _ Z (.refl _) (.refl _) (S.push (.int i)))
theorem gQ {i : Bool} {j : Nat} : cG X CL b (.Constant (.bool i) j pos) δ (.sh (.bl i)) δ := fun H Z σ ts vs Q S k => dw aeK (k _ _ Z (.refl _) (.refl _) (S.push (.bl i)))
theorem bB {x : Str} {j : Nat} : cG X CL b (.Constant (.str x) j pos) δ (.sh (.str x)) δ := fun H Z σ ts vs Q S k => dw aa4 (k _ _ Z (.refl _) (.refl _) (S.push (.str x)))
section
variable (i : Nat) {x : Str} (hi : X.N[i]? = some x := by rfl) (hv : Vis X.env.scope x := by first | exact Or.inl rfl | exact Or.inr (Or.inl rfl) | exact Or.inr (Or.inr rfl)) (hd : (x == ("__debug__" : Str)) = false := by decide) (jy : (x == ("__classdict__" : Str)) = false := by decide)
include hi hv hd jy
theorem abQ (h : δ[i]? = some (some (.sh d)) := by rfl) : cG X CL b (.Name x pos) δ (.sh d) δ := fun H Z σ ts vs Q S k => by
 obtain ⟨v, e, r⟩ := S.aao h
 exact dw (ow hi hv hd jy) ⟨v, e, k v H Z (.refl _) (.refl _) (S.push r)⟩
theorem VA (h : δ[i]? = some (some t) := by rfl) : cG X CL b (.Name x pos) δ (.sh t.fE) (δ.set i (some (.sh t.fE))) := fun H Z σ ts vs Q S k => by
 obtain ⟨v, Z', e, z, S'⟩ := S.Vz h
 exact dw (ow hi hv hd jy) ⟨v, e, k v H Z' z (.refl _) S'⟩
theorem VB (h : δ[i]? = some (some t) := by rfl) : cG X CL b (.Name x pos) δ t (δ.set i none) := fun H Z σ ts vs Q S k => by
 obtain ⟨v, e, S'⟩ := S.move h
 exact dw (ow hi hv hd jy) ⟨v, e, k v H Z (.refl _) (.refl _) S'⟩
theorem abR (h : δ[i]? = some (some t) := by rfl) : cV X CL b (.Name x pos) δ t.fE δ := fun H Z σ ts vs Q S k => by
 obtain ⟨v, e, r⟩ := S.look h
 exact dw (ow hi hv hd jy) ⟨v, e, k v H Z (.refl _) (.refl _) S r⟩
end
noncomputable def scV : D -> Option V
 | .non => some .non
 | .bl b => some (.bl b)
 | .int i => some (.int i)
 | .str x => some (.str x)
 | _ => none
theorem bF.sc {K : PySem.W.Frag} {Z : Hp} {d : D} {v w : V} (r : bF K CL Z d v) (h : scV d = some w) : v = w := by
 cases r <;> first | (exact anj h) | (cases h)
theorem VC {K : PySem.W.Frag} {Z : Hp} {d : D} {w : V} (h : scV d = some w) : bF K CL Z d w := by
 cases d <;> first | (cases h; constructor) | (cases h)
theorem rR {op : Operator} {r : R2} {w1 w2 w : V} (ho : vd X (binaryOp op) r) (h1 : cV X CL b e1 δ d1 δ1) (h2 : cV X CL b e2 δ1 d2 δ2) (s1 : scV d1 = some w1) (s2 : scV d2 = some w2) (s3 : scV d = some w)
   (hr : ∀ (H : Hp) (Q : VK), Q w H -> r w1 w2 H Q) : cG X CL b (.BinOp e1 op e2 pos) δ (.sh d) δ2 := fun H Z σ ts vs Q S k => by
 refine dw (Qi ho eN eN) (h1 H Z σ ts vs _ S fun v1 H1 Z1 z1 k1 S1 r1 => h2 H1 Z1 σ ts vs _ S1 fun v2 H2 Z2 z2 k2 S2 r2 => ?_)
 rw [r1.sc s1, r2.sc s2]
 exact hr H2 Q (k w H2 Z2 (z1.trans z2) (k1.trans k2) (S2.push (VC s3)))
theorem fK {i j : Int} (h1 : cV X CL b e1 δ (.int i) δ1) (h2 : cV X CL b e2 δ1 (.int j) δ2) : cG X CL b (.BinOp e1 .Add e2 pos) δ (.sh (.int (i + j))) δ2 := rR abr h1 h2 rfl rfl rfl fun _ _ q => ⟨i, j, rfl, rfl, q⟩
theorem oG {i j : Int} (h1 : cV X CL b e1 δ (.int i) δ1) (h2 : cV X CL b e2 δ1 (.int j) δ2) : cG X CL b (.BinOp e1 .Sub e2 pos) δ (.sh (.int (i - j))) δ2 := rR abt h1 h2 rfl rfl rfl fun _ _ q => ⟨i, j, rfl, rfl, q⟩
theorem rS {i j : Int} (h1 : cV X CL b e1 δ (.int i) δ1) (h2 : cV X CL b e2 δ1 (.int j) δ2) (c : Vi i j) : cG X CL b (.BinOp e1 .Mult e2 pos) δ (.sh (.int (i * j))) δ2 := rR abu h1 h2 rfl rfl rfl fun _ _ q => ⟨i, j, rfl, rfl, c, q⟩
theorem bG {i j : Int} (h1 : cV X CL b e1 δ (.int i) δ1) (h2 : cV X CL b e2 δ1 (.int j) δ2) (c : 0 < j) : cG X CL b (.BinOp e1 .Mod e2 pos) δ (.sh (.int (i % j))) δ2 := rR abv h1 h2 rfl rfl rfl fun _ _ q => ⟨i, j, rfl, rfl, c, q⟩
theorem ck {i j : Int} (h1 : cV X CL b e1 δ (.int i) δ1) (h2 : cV X CL b e2 δ1 (.int j) δ2) (c : ae2 i j) : cG X CL b (.BinOp e1 .FloorDiv e2 pos) δ (.sh (.int (i / j))) δ2 := rR Vj h1 h2 rfl rfl rfl fun _ _ q => ⟨i, j, rfl, rfl, c, q⟩
theorem Jw {i j : Int} (h1 : cV X CL b e1 δ (.int i) δ1) (h2 : cV X CL b e2 δ1 (.int j) δ2) (c : ae3 i j) : cG X CL b (.BinOp e1 .Pow e2 pos) δ (.sh (.int (i ^ j.toNat))) δ2 := rR abw h1 h2 rfl rfl rfl fun _ _ q => ⟨i, j, rfl, rfl, c, q⟩
theorem oH {x y : Str} (h1 : cV X CL b e1 δ (.str x) δ1) (h2 : cV X CL b e2 δ1 (.str y) δ2) (c : x.length + y.length <= sizeLine) : cG X CL b (.BinOp e1 .Add e2 pos) δ (.sh (.str (x ++ y))) δ2 := rR Ji h1 h2 rfl rfl rfl fun _ _ q => ⟨x, y, rfl, rfl, c, q⟩
theorem sU {op : CmpOp} {r : R2} {p : Bool} {w1 w2 : V} (ho : vd X (compareOp op) r) (h1 : cV X CL b e1 δ d1 δ1) (h2 : cV X CL b e2 δ1 d2 δ2) (s1 : scV d1 = some w1) (s2 : scV d2 = some w2)
   (hr : ∀ (H : Hp) (Q : VK), Q (.bl p) H -> r w1 w2 H Q) (hm : behindInMarks op e2 = false) : rD X CL b (.Compare e1 [op] [e2] pos) δ p δ2 /\ cG X CL b (.Compare e1 [op] [e2] pos) δ (.sh (.bl p)) δ2 := by
 constructor
 . intro H Z σ ts vs Q S k
   refine Gu (pY ho eN eN hm) (h1 H Z σ ts vs _ S fun v1 H1 Z1 z1 k1 S1 r1 => h2 H1 Z1 σ ts vs _ S1 fun v2 H2 Z2 z2 k2 S2 r2 => ?_)
   rw [r1.sc s1, r2.sc s2]
   exact hr H2 _ ⟨p, rfl, k H2 Z2 (z1.trans z2) (k1.trans k2) S2⟩
 . intro H Z σ ts vs Q S k
   refine dw (pX ho eN eN hm) (h1 H Z σ ts vs _ S fun v1 H1 Z1 z1 k1 S1 r1 => h2 H1 Z1 σ ts vs _ S1 fun v2 H2 Z2 z2 k2 S2 r2 => ?_)
   rw [r1.sc s1, r2.sc s2]
   exact hr H2 _ (k _ H2 Z2 (z1.trans z2) (k1.trans k2) (S2.push (.bl p)))
theorem eK {i j : Int} (h1 : cV X CL b e1 δ (.int i) δ1) (h2 : cV X CL b e2 δ1 (.int j) δ2) : rD X CL b (.Compare e1 [.Eq] [e2] pos) δ (decide (i = j)) δ2 /\ cG X CL b (.Compare e1 [.Eq] [e2] pos) δ (.sh (.bl (decide (i = j)))) δ2 :=
 sU Qk h1 h2 rfl rfl (fun _ _ q => ⟨rfl, by rw [show decide (V.int i = V.int j) = decide (i = j) by simp]; exact q⟩) (jR _)
theorem kX {i j : Int} (h1 : cV X CL b e1 δ (.int i) δ1) (h2 : cV X CL b e2 δ1 (.int j) δ2) : rD X CL b (.Compare e1 [.NotEq] [e2] pos) δ (!decide (i = j)) δ2 /\ cG X CL b (.Compare e1 [.NotEq] [e2] pos) δ (.sh (.bl (!decide (i = j)))) δ2 :=
 sU aaf h1 h2 rfl rfl (fun _ _ q => ⟨rfl, by rw [show decide (V.int i = V.int j) = decide (i = j) by simp]; exact q⟩) (jR _)
theorem eL {i j : Str} (h1 : cV X CL b e1 δ (.str i) δ1) (h2 : cV X CL b e2 δ1 (.str j) δ2) : rD X CL b (.Compare e1 [.Eq] [e2] pos) δ (decide (i = j)) δ2 /\ cG X CL b (.Compare e1 [.Eq] [e2] pos) δ (.sh (.bl (decide (i = j)))) δ2 :=
 sU Qk h1 h2 rfl rfl (fun _ _ q => ⟨rfl, by rw [show decide (V.str i = V.str j) = decide (i = j) by simp]; exact q⟩) (jR _)
theorem abT {i j : Str} (h1 : cV X CL b e1 δ (.str i) δ1) (h2 : cV X CL b e2 δ1 (.str j) δ2) : rD X CL b (.Compare e1 [.NotEq] [e2] pos) δ (!decide (i = j)) δ2 /\ cG X CL b (.Compare e1 [.NotEq] [e2] pos) δ (.sh (.bl (!decide (i = j)))) δ2 :=
 sU aaf h1 h2 rfl rfl (fun _ _ q => ⟨rfl, by rw [show decide (V.str i = V.str j) = decide (i = j) by simp]; exact q⟩) (jR _)
theorem Gy {i j : Int} (h1 : cV X CL b e1 δ (.int i) δ1) (h2 : cV X CL b e2 δ1 (.int j) δ2) : rD X CL b (.Compare e1 [.Lt] [e2] pos) δ (decide (i < j)) δ2 /\ cG X CL b (.Compare e1 [.Lt] [e2] pos) δ (.sh (.bl (decide (i < j)))) δ2 := sU ae5 h1 h2 rfl rfl (fun _ _ q => ⟨i, j, rfl, rfl, q⟩) (jR _)
theorem aar {i j : Int} (h1 : cV X CL b e1 δ (.int i) δ1) (h2 : cV X CL b e2 δ1 (.int j) δ2) : rD X CL b (.Compare e1 [.LtE] [e2] pos) δ (decide (i <= j)) δ2 /\ cG X CL b (.Compare e1 [.LtE] [e2] pos) δ (.sh (.bl (decide (i <= j)))) δ2 := sU ae6 h1 h2 rfl rfl (fun _ _ q => ⟨i, j, rfl, rfl, q⟩) (jR _)
theorem aas {i j : Int} (h1 : cV X CL b e1 δ (.int i) δ1) (h2 : cV X CL b e2 δ1 (.int j) δ2) : rD X CL b (.Compare e1 [.Gt] [e2] pos) δ (decide (j < i)) δ2 /\ cG X CL b (.Compare e1 [.Gt] [e2] pos) δ (.sh (.bl (decide (j < i)))) δ2 := sU ae7 h1 h2 rfl rfl (fun _ _ q => ⟨i, j, rfl, rfl, q⟩) (jR _)
theorem afq {i j : Int} (h1 : cV X CL b e1 δ (.int i) δ1) (h2 : cV X CL b e2 δ1 (.int j) δ2) : rD X CL b (.Compare e1 [.GtE] [e2] pos) δ (decide (j <= i)) δ2 /\ cG X CL b (.Compare e1 [.GtE] [e2] pos) δ (.sh (.bl (decide (j <= i)))) δ2 := sU ae8 h1 h2 rfl rfl (fun _ _ q => ⟨i, j, rfl, rfl, q⟩) (jR _)
end
section
variable {K : PySem.W.Frag} {CL : Str -> Addr} {H Z : Hp}
theorem bE.split : ∀ {as bs : List T} {us ws : List V} {gp : List Addr}, as.length = us.length -> bE K CL H Z (as ++ bs) (us ++ ws) gp -> ∃ g1 g2, gp = g1 ++ g2 /\ bE K CL H Z as us g1 /\ bE K CL H Z bs ws g2
 | [], _, [], _, gp, _, r => ⟨[], gp, rfl, .nil, r⟩
 | [], _, _ :: _, _, _, h, _ => by simp at h
 | _ :: _, _, [], _, _, h, _ => by simp at h
 | a :: as, bs, u :: us, ws, gp, h, r => by
   cases r with
   | @cons _ _ _ _ f1 f2 r1 r2 =>
     obtain ⟨g1, g2, e, h1, h2⟩ := bE.split (as := as) (us := us) (by simpa using h) r2
     exact ⟨f1 ++ g1, g2, by rw [e, am8], .cons r1 h1, h2⟩
theorem bE.app {as bs : List T} {us ws : List V} {g1 g2 : List Addr} (h : bE K CL H Z as us g1) (q : bE K CL H Z bs ws g2) : bE K CL H Z (as ++ bs) (us ++ ws) (g1 ++ g2) :=
 bE.ind (P := fun as us g1 => bE K CL H Z (as ++ bs) (us ++ ws) (g1 ++ g2)) q (fun r _ i => by rw [am8]; exact .cons r i) h
theorem bE.rev : ∀ {as : List T} {us : List V} {g : List Addr}, bE K CL H Z as.reverse us.reverse g -> ∃ g', bE K CL H Z as us g' /\ g'.Perm g
 | [], [], g, r => by
   have r' : bE K CL H Z [] [] g := r
   cases r'
   exact ⟨[], .nil, aoY _⟩
 | [], u :: us, g, r => by have := r.length; simp at this
 | a :: as, [], g, r => by have := r.length; simp at this
 | a :: as, u :: us, g, r => by
   rw [aoB, aoB] at r
   have hl := r.length
   obtain ⟨g1, g2, e, r1, r2⟩ := bE.split (by simp at hl ⊢; omega) r
   subst e
   obtain ⟨g', r', p⟩ := bE.rev r1
   cases r2 with
   | @cons _ _ _ _ f1 f2 q1 q2 =>
     cases q2
     refine ⟨f1 ++ g', .cons q1 r', ?_⟩
     rw [anu]
     exact (anV f1 p).trans anQ
theorem jB : ∀ (ds : List D), T.ju (ds.map T.sh) = ds
 | [] => rfl
 | d :: ds => by rw [ani, T.ju, jB ds, T.fE]
end
section
variable {K : PySem.W.Frag} {CL : Str -> Addr} {b : Bx} {H H' Z Z' : Hp} {δ δ' : List (Option T)} {σ σ' : L2.St} {ts tl : List T} {vs us : List V} {t : T} {v : V}
theorem cE.QI {p : Addr} (S : cE K CL b H Z δ σ (tl.reverse ++ ts) (us.reverse ++ vs)) (hl : us.length = tl.length) (hp : H p = none) :
   aG Z (upd Z p (.tup us)) /\ aG H (upd H p (.tup us)) /\ cE K CL b (upd H p (.tup us)) (upd Z p (.tup us)) δ σ (.tup tl :: ts) (.ref p :: vs) := by
 obtain ⟨fp, gp, e, r, nd, k⟩ := S.rep
 obtain ⟨g1, g2, eg, r1, r2⟩ := bE.split (by simp [hl]) r
 subst eg
 obtain ⟨g', r', pm⟩ := r1.rev
 have zp : Z p = none := S.zh.free hp
 have sz : aG Z (upd Z p (.tup us)) := aG.upd zp
 have sh : aG H (upd H p (.tup us)) := aG.upd hp
 have keep : ∀ a ∈ fp ++ (g1 ++ g2), a ≠ p := fun a ha => by
   have : ∃ o, H a = some o := by
     rcases am3.mp ha with h | h
     . exact e.there a h
     . exact r.there a h
   obtain ⟨o, q⟩ := this
   exact aK q hp
 have pm2 : (fp ++ (g' ++ g2)).Perm (fp ++ (g1 ++ g2)) := (pm.append_right g2).append_left fp
 have kk : ∀ a ∈ fp ++ (g' ++ g2), a ≠ p := fun a ha => keep a (pm2.mem_iff.mp ha)
 refine ⟨sz, sh, ⟨⟨fp, g' ++ g2, e.mono sz (fun a ha => aA (keep a (am7 _ ha))), .cons (.tup aV (r'.mono sz fun a ha => aA (kk a (by simp [ha])))) (r2.mono sz fun a ha => aA (keep a (by simp [ha]))), pm2.nodup_iff.mpr nd, fun a ha => ?_⟩, S.bh.trans sh, S.zz.trans sz, fun a o q => ?_, fun a o q z => ?_, fun a o q i => ?_, S.tab⟩⟩
 . exact ⟨by rw [aA (kk a ha)]; exact (k a (pm2.mem_iff.mp ha)).1, (k a (pm2.mem_iff.mp ha)).2⟩
 . by_cases ha : a = p
   . subst ha; rw [aV] at q ⊢; exact q
   . rw [aA ha] at q ⊢; exact S.zh a o q
 . by_cases ha : a = p
   . subst ha; exact S.bh.free hp
   . rw [aA ha] at q; exact S.new a o q z
 . by_cases ha : a = p
   . subst ha; rw [aV] at q ⊢; exact q
   . rw [aA ha] at q ⊢; exact S.tp a o q i
theorem cE.oJ {p : Addr} {g0 : List Addr} (S : cE K CL b H Z δ σ (tl.reverse ++ ts) (us.reverse ++ vs)) (hl : us.length = tl.length) (hp : H p = none) :
   aG H (upd H p (.lst us)) /\ cE K CL b (upd H p (.lst us)) Z δ σ (.lst tl :: ts) (.ref p :: vs) := by
 obtain ⟨fp, gp, e, r, nd, k⟩ := S.rep
 obtain ⟨g1, g2, eg, r1, r2⟩ := bE.split (by simp [hl]) r
 subst eg
 obtain ⟨g', r', pm⟩ := r1.rev
 have zp : Z p = none := S.zh.free hp
 have sh : aG H (upd H p (.lst us)) := aG.upd hp
 have keep : ∀ a ∈ fp ++ (g1 ++ g2), a ≠ p := fun a ha => by
   have : ∃ o, H a = some o := by
     rcases am3.mp ha with h | h
     . exact e.there a h
     . exact r.there a h
   obtain ⟨o, q⟩ := this
   exact aK q hp
 have pm2 : (fp ++ (g' ++ g2)).Perm (fp ++ (g1 ++ g2)) := (pm.append_right g2).append_left fp
 have kk : ∀ a ∈ fp ++ (g' ++ g2), a ≠ p := fun a ha => keep a (pm2.mem_iff.mp ha)
 have pm3 : (fp ++ ((p :: g') ++ g2)).Perm (p :: (fp ++ (g' ++ g2))) := by
   rw [anw]; exact aos
 refine ⟨sh, ⟨⟨fp, (p :: g') ++ g2, e.mono (.refl _) (fun a ha => aA (keep a (am7 _ ha))), .cons (.lst aV (r'.mono (.refl _) fun a ha => aA (kk a (by simp [ha])))) (r2.mono (.refl _) fun a ha => aA (keep a (by simp [ha]))), ?_, fun a ha => ?_⟩, S.bh.trans sh, S.zz, S.zh.trans sh, S.new, fun a o q i => ?_, S.tab⟩⟩
 . refine pm3.nodup_iff.mpr (aoa.mpr ⟨fun h => kk p h rfl, pm2.nodup_iff.mpr nd⟩)
 . rcases am1.mp (pm3.mem_iff.mp ha) with h | h
   . subst h; exact ⟨zp, S.bh.free hp⟩
   . exact k a (pm2.mem_iff.mp h)
 . by_cases ha : a = p
   . subst ha; rw [aV] at q; cases q; cases i
   . rw [aA ha] at q; exact S.tp a o q i
end
section
variable {X : Cx} {CL : Str -> Addr} {b : Bx} {δ δ1 δ2 δ3 : List (Option T)} {e e1 e2 e3 : Expr} {es : List Expr} {t t1 t2 : T} {d d1 d2 : D} {tl : List T} {ds : List D} {p q : Bool} {pos : Pos}
theorem dJ : Ju X CL b [] δ [] δ := fun H Z σ ts vs Q S k => NK fc (k [] H Z rfl (.refl _) (.refl _) S)
theorem gC (h1 : cG X CL b e δ t δ1) (h2 : Ju X CL b es δ1 tl δ2) (hs : starEach (e :: es) X.env = (false, eval e X.env) :: starEach es X.env := by exact bW rfl) : Ju X CL b (e :: es) δ (t :: tl) δ2 := fun H Z σ ts vs Q S k =>
 NK (cH eN Vx hs) (h1 H Z σ ts vs _ S fun v H1 Z1 z1 k1 S1 => h2 H1 Z1 σ _ _ _ S1 fun us H2 Z2 hl z2 k2 S2 => k (v :: us) H2 Z2 (by simp [hl]) (z1.trans z2) (k1.trans k2) (by
   rw [aoB, aoB, am8, am8]
   exact S2))
theorem aC : BAv X CL b [] δ [] δ := fun H Z σ ts vs Q S k => NK fc (k [] H Z (.refl _) (.refl _) S .nil)
theorem ai (h1 : cV X CL b e δ d δ1) (h2 : BAv X CL b es δ1 ds δ2) (hs : starEach (e :: es) X.env = (false, eval e X.env) :: starEach es X.env := by exact bW rfl) : BAv X CL b (e :: es) δ (d :: ds) δ2 := fun H Z σ ts vs Q S k =>
 NK (cH eN Vx hs) (h1 H Z σ ts vs _ S fun v H1 Z1 z1 k1 S1 r1 => h2 H1 Z1 σ _ _ _ S1 fun us H2 Z2 z2 k2 S2 r2 => k (v :: us) H2 Z2 (z1.trans z2) (k1.trans k2) S2 (.cons (r1.mono k2) r2))
theorem abU {j : Nat} (h : Ju X CL b es δ tl δ1) (hl : tl.length <= sizeLine) : cG X CL b (.Tuple es j pos) δ (.tup tl) δ1 := fun H Z σ ts vs Q S k =>
 dw (abz Vx) (h H Z σ ts vs _ S fun us H1 Z1 hu z1 k1 S1 => ⟨by rw [hu]; exact hl, fun p hp => by
   obtain ⟨a, c, S2⟩ := S1.QI hu hp
   exact k _ _ _ (z1.trans a) (k1.trans c) S2⟩)
theorem cW {j : Nat} (h : Ju X CL b es δ (ds.map T.sh) δ1) (hl : ds.length <= sizeLine) : cG X CL b (.Tuple es j pos) δ (.sh (.tup ds)) δ1 := by
 have := Jv (abU (pos := pos) (j := j) h (by simpa using hl))
 rwa [T.fE, jB] at this
theorem dM (h : Ju X CL b es δ tl δ1) (hl : tl.length <= sizeLine) : cG X CL b (.List es pos) δ (.lst tl) δ1 := fun H Z σ ts vs Q S k =>
 dw (abA Vx) (h H Z σ ts vs _ S fun us H1 Z1 hu z1 k1 S1 => ⟨by rw [hu]; exact hl, fun p hp => by
   obtain ⟨c, S2⟩ := S1.oJ (g0 := []) hu hp
   exact k _ _ _ z1 (k1.trans c) S2⟩)
theorem gR (h : cG X CL b e δ (.sh (.bl p)) δ1) (he : ∀ whole, isTrue e X.env whole = (do let v ← whole; standAt e.pos; holding [v] (truthy v)) := by intro _; rfl) : rD X CL b e δ p δ1 := fun H Z σ ts vs Q S k =>
 Gu (aa5 eN he) (h H Z σ ts vs _ S fun v H1 Z1 z1 k1 S1 => ⟨p, by have := S1.view; rw [T.fE] at this; exact this.sc rfl, k H1 Z1 z1 k1 S1.pop⟩)
theorem jT (h : rD X CL b e δ p δ1) : rD X CL b (.UnaryOp .Not e pos) δ (!p) δ1 := fun H Z σ ts vs Q S k => Gu (aa8 ptS) (h H Z σ ts vs _ S fun H1 Z1 z1 k1 S1 => k H1 Z1 z1 k1 S1)
noncomputable def abV (X : Cx) (e : Expr) : TT := fun σ H Q => ∀ (whole : Sem Value) (pins : List (Addr × Obj)) (s : Shared), Inv X pins σ H s -> wpAny (model X.prog X.w) X.A (isTrue e X.env whole) (TP X pins σ Q) X.xe s
theorem pwS {e : Expr} : PW X e (abV X e) := fun whole pins s _ _ _ I h => h whole pins s I
noncomputable def TWv (X : Cx) (CL : Str -> Addr) (b : Bx) (e : Expr) (δ : List (Option T)) (p : Bool) (δ' : List (Option T)) : Prop :=
 ∀ (H Z : Hp) (σ : L2.St) (ts : List T) (vs : List V) (Q : Bool -> Hp -> Prop), cE X.K CL b H Z δ σ ts vs -> (∀ H' Z', aG Z Z' -> aG H H' -> cE X.K CL b H' Z' δ' σ ts vs -> Q p H') -> abV X e σ H Q
theorem VD {t : TT} (h : PW X e t) {σ : L2.St} {H : Hp} {Q : Bool -> Hp -> Prop} (q : t σ H Q) : abV X e σ H Q := fun whole pins s I => h whole pins s σ H Q I q
theorem iQ (h : TWv X CL b e δ p δ1) : rD X CL b e δ p δ1 := fun H Z σ ts vs Q S k pins s I => h H Z σ ts vs Q S k _ pins s I
theorem gD (h : rD X CL b e δ p δ1) : TWv X CL b (.BoolOp .And [e] pos) δ p δ1 := fun H Z σ ts vs Q S k => VD (Vd ptS) (h H Z σ ts vs _ S k)
theorem mW (h : rD X CL b e δ p δ1) : TWv X CL b (.BoolOp .Or [e] pos) δ p δ1 := fun H Z σ ts vs Q S k => VD (aa6 ptS) (h H Z σ ts vs _ S k)
theorem eO (h : rD X CL b e δ p δ1) (h2 : p = true -> TWv X CL b (.BoolOp .And (e2 :: es) pos) δ1 q δ1) : TWv X CL b (.BoolOp .And (e :: e2 :: es) pos) δ (p && q) δ1 := fun H Z σ ts vs Q S k =>
 VD (aa7 ptS pwS) (h H Z σ ts vs _ S fun H1 Z1 z1 k1 S1 => by
   cases p with
   | true => exact Nz (h2 rfl H1 Z1 σ ts vs _ S1 fun H2 Z2 z2 k2 S2 => k H2 Z2 (z1.trans z2) (k1.trans k2) S2)
   | false => exact Ny (k H1 Z1 z1 k1 S1))
theorem oi (h : rD X CL b e δ p δ1) (h2 : p = false -> TWv X CL b (.BoolOp .Or (e2 :: es) pos) δ1 q δ1) : TWv X CL b (.BoolOp .Or (e :: e2 :: es) pos) δ (p || q) δ1 := fun H Z σ ts vs Q S k =>
 VD (aeL ptS pwS) (h H Z σ ts vs _ S fun H1 Z1 z1 k1 S1 => by
   cases p with
   | true => exact Nz (k H1 Z1 z1 k1 S1)
   | false => exact Ny (h2 rfl H1 Z1 σ ts vs _ S1 fun H2 Z2 z2 k2 S2 => k H2 Z2 (z1.trans z2) (k1.trans k2) S2))
theorem yL {op : BoolOp} (h : cG X CL b e δ t δ1) : cG X CL b (.BoolOp op [e] pos) δ t δ1 := fun H Z σ ts vs Q S k => dw (aa9 eN) (h H Z σ ts vs _ S k)
theorem Jx (h : cG X CL b e δ (.sh (.bl p)) δ1) (h2 : p = true -> cG X CL b (.BoolOp .And (e2 :: es) pos) δ1 (.sh (.bl q)) δ1) : cG X CL b (.BoolOp .And (e :: e2 :: es) pos) δ (.sh (.bl (p && q))) δ1 := fun H Z σ ts vs Q S k =>
 dw (abb eN eN) (h H Z σ ts vs _ S fun v H1 Z1 z1 k1 S1 => by
   have hv : v = .bl p := by have := S1.view; rw [T.fE] at this; exact this.sc rfl
   refine ⟨p, hv, ?_⟩
   cases p with
   | true => exact Nz (h2 rfl H1 Z1 σ ts vs _ S1.pop fun v H2 Z2 z2 k2 S2 => k v H2 Z2 (z1.trans z2) (k1.trans k2) S2)
   | false => exact Ny (k _ H1 Z1 z1 k1 (S1.pop.push (.bl false))))
theorem aau (h : cG X CL b e δ (.sh (.bl p)) δ1) (h2 : p = false -> cG X CL b (.BoolOp .Or (e2 :: es) pos) δ1 (.sh (.bl q)) δ1) : cG X CL b (.BoolOp .Or (e :: e2 :: es) pos) δ (.sh (.bl (p || q))) δ1 := fun H Z σ ts vs Q S k =>
 dw (aeO eN eN) (h H Z σ ts vs _ S fun v H1 Z1 z1 k1 S1 => by
   have hv : v = .bl p := by have := S1.view; rw [T.fE] at this; exact this.sc rfl
   refine ⟨p, hv, ?_⟩
   cases p with
   | true => exact Nz (k _ H1 Z1 z1 k1 (S1.pop.push (.bl true)))
   | false => exact Ny (h2 rfl H1 Z1 σ ts vs _ S1.pop fun v H2 Z2 z2 k2 S2 => k v H2 Z2 (z1.trans z2) (k1.trans k2) S2))
theorem abX (h : cG X CL b e δ (.sh (.bl p)) δ1) : cG X CL b (.UnaryOp .Not e pos) δ (.sh (.bl (!p))) δ1 := fun H Z σ ts vs Q S k =>
 dw (L2.abd eN) (h H Z σ ts vs _ S fun v H1 Z1 z1 k1 S1 => ⟨p, by have := S1.view; rw [T.fE] at this; exact this.sc rfl, k _ H1 Z1 z1 k1 (S1.pop.push (.bl (!p)))⟩)
theorem xN {K : PySem.W.Frag} {Z : Hp} {vs : List V} {k : Int} (r : aH K CL Z ds vs) (h : sQ ds k = some d) : ∃ v, sQ vs k = some v /\ bF K CL Z d v := by
 unfold sQ at h ⊢
 rw [← r.length]
 cases e : Nu ds.length k with
 | none => rw [e] at h; cases h
 | some j =>
   rw [e] at h
   exact r.get h
theorem aY {k : Int} (h1 : cV X CL b e1 δ (.tup ds) δ1) (h2 : cV X CL b e2 δ1 (.int k) δ2) (hk : sQ ds k = some d) (hs : pZ e2 := by exact fun _ _ => rfl) : cV X CL b (.Subscript e1 e2 pos) δ d δ2 := fun H Z σ ts vs Q S kk =>
 dw (Gm Qt eN eN hs) (h1 H Z σ ts vs _ S fun v1 H1 Z1 z1 k1 S1 r1 => h2 H1 Z1 σ ts vs _ S1 fun v2 H2 Z2 z2 k2 S2 r2 => by
   have r1' := r1.mono k2
   cases r1' with
   | tup hq rr =>
     obtain ⟨v, hv, rv⟩ := xN rr hk
     exact ⟨_, _, k, v, rfl, r2.sc rfl, hq, hv, kk v H2 Z2 (z1.trans z2) (k1.trans k2) S2 rv⟩)
theorem aP {k : Int} (h1 : cV X CL b e1 δ (.lst ds) δ1) (h2 : cV X CL b e2 δ1 (.int k) δ2) (hk : sQ ds k = some d) (hs : pZ e2 := by exact fun _ _ => rfl) : cV X CL b (.Subscript e1 e2 pos) δ d δ2 := fun H Z σ ts vs Q S kk =>
 dw (Gm L0 eN eN hs) (h1 H Z σ ts vs _ S fun v1 H1 Z1 z1 k1 S1 r1 => h2 H1 Z1 σ ts vs _ S1 fun v2 H2 Z2 z2 k2 S2 r2 => by
   have r1' := r1.mono k2
   cases r1' with
   | lst hq rr =>
     obtain ⟨v, hv, rv⟩ := xN rr hk
     exact ⟨_, _, k, v, rfl, r2.sc rfl, hq, hv, kk v H2 Z2 (z1.trans z2) (k1.trans k2) S2 rv⟩)
theorem QJ {k : Int} {x : Str} {c : Nat} (h1 : cV X CL b e1 δ (.str x) δ1) (h2 : cV X CL b e2 δ1 (.int k) δ2) (hl : x.length <= sizeLine) (hk : sQ x.cps.toList k = some c) (hs : pZ e2 := by exact fun _ _ => rfl) : cG X CL b (.Subscript e1 e2 pos) δ (.sh (.str ⟨#[c]⟩)) δ2 := fun H Z σ ts vs Q S kk =>
 dw (Gm abE eN eN hs) (h1 H Z σ ts vs _ S fun v1 H1 Z1 z1 k1 S1 r1 => h2 H1 Z1 σ ts vs _ S1 fun v2 H2 Z2 z2 k2 S2 r2 =>
   ⟨x, k, c, r1.sc rfl, r2.sc rfl, hl, hk, kk _ H2 Z2 (z1.trans z2) (k1.trans k2) (S2.push (.str _))⟩)
theorem abZ {k : Int} (h1 : cG X CL b e1 δ (.sh (.tup ds)) δ1) (h2 : cV X CL b e2 δ1 (.int k) δ2) (hk : sQ ds k = some d) (hs : pZ e2 := by exact fun _ _ => rfl) : cG X CL b (.Subscript e1 e2 pos) δ (.sh d) δ2 := fun H Z σ ts vs Q S kk =>
 dw (Gm Qt eN eN hs) (h1 H Z σ ts vs _ S fun v1 H1 Z1 z1 k1 S1 => h2 H1 Z1 σ _ _ _ S1 fun v2 H2 Z2 z2 k2 S2 r2 => by
   obtain ⟨fp, gp, _, r, _, _⟩ := S2.rep
   cases r with
   | cons r _ =>
     cases r with
     | sh r =>
       cases r with
       | tup hq rr =>
         obtain ⟨v, hv, rv⟩ := xN rr hk
         exact ⟨_, _, k, v, rfl, r2.sc rfl, aG.Vv S2.zh hq, hv, kk v H2 Z2 (z1.trans z2) (k1.trans k2) (S2.pop.push rv)⟩)
theorem QK {k : Int} (h1 : cG X CL b e1 δ (.sh (.lst ds)) δ1) (h2 : cV X CL b e2 δ1 (.int k) δ2) (hk : sQ ds k = some d) (hs : pZ e2 := by exact fun _ _ => rfl) : cG X CL b (.Subscript e1 e2 pos) δ (.sh d) δ2 := fun H Z σ ts vs Q S kk =>
 dw (Gm L0 eN eN hs) (h1 H Z σ ts vs _ S fun v1 H1 Z1 z1 k1 S1 => h2 H1 Z1 σ _ _ _ S1 fun v2 H2 Z2 z2 k2 S2 r2 => by
   obtain ⟨fp, gp, _, r, _, _⟩ := S2.rep
   cases r with
   | cons r _ =>
     cases r with
     | sh r =>
       cases r with
       | lst hq rr =>
         obtain ⟨v, hv, rv⟩ := xN rr hk
         exact ⟨_, _, k, v, rfl, r2.sc rfl, S2.zh.seq hq, hv, kk v H2 Z2 (z1.trans z2) (k1.trans k2) (S2.pop.push rv)⟩)
end
section
variable {K : PySem.W.Frag} {CL : Str -> Addr} {b : Bx} {H H' Z Z' : Hp} {δ δ' : List (Option T)} {σ σ' : L2.St} {ts tl : List T} {vs us : List V} {t : T} {v : V}
theorem cE.sV : ∀ {ds : List D} {us : List V} {ts : List T} {vs : List V}, aH K CL Z ds us -> cE K CL b H Z δ σ ts vs -> cE K CL b H Z δ σ ((ds.map T.sh).reverse ++ ts) (us.reverse ++ vs)
 | _, _, _, _, .nil, S => S
 | _, _, ts, vs, .cons (d := d) (v := v) (ds := ds) (vs := us) r t, S => by
   rw [ani, aoB, aoB, am8, am8]
   exact cE.sV t (S.push r)
end
section
variable {X : Cx} {CL : Str -> Addr} {b : Bx} {δ δ1 δ2 δ3 : List (Option T)} {e e1 e2 e3 : Expr} {es : List Expr} {t t1 t2 : T} {d d1 d2 : D} {tl : List T} {ds : List D} {p q : Bool} {pos pp : Pos}
theorem sW (hm : X.mg "len" = none) (h : cV X CL b e δ (.lst ds) δ1) (hg : Gl X "len" := by rfl) (hs : starEach [e] X.env = (false, eval e X.env) :: starEach [] X.env := by exact bW rfl) (ve : (backTo pos (starEach ([] : List Expr) X.env)).any (·.1) = false := by rfl) : cG X CL b (.Call (.Name "len" pp) [e] [] pos) δ (.sh (.int ds.length)) δ1 := fun H Z σ ts vs Q S k =>
 dw (oB Cz hg hm PySem.boot_len (cH eN fc hs) (he := hs)) (h H Z σ ts vs _ S fun v H1 Z1 z1 k1 S1 r => by
   cases r with
   | lst hq rr => exact ⟨_, _, rfl, .inl hq, by rw [← rr.length]; exact k _ H1 Z1 z1 k1 (S1.push (.int _))⟩)
theorem ef (hm : X.mg "list" = none) (h : cV X CL b e δ (.lst ds) δ1) (hi : D.cy ds = true) (hg : Gl X "list" := by rfl) (hv : bootBuiltins "list" = some (.type "list") := by rfl) (hs : starEach [e] X.env = (false, eval e X.env) :: starEach [] X.env := by exact bW rfl) : cG X CL b (.Call (.Name "list" pp) [e] [] pos) δ (.lst (ds.map T.sh)) δ1 := fun H Z σ ts vs Q S k =>
 dw (jP CB hg hm hv (cH eN fc hs) (he := hs)) (h H Z σ ts vs _ S fun v H1 Z1 z1 k1 S1 r => by
   cases r with
   | lst hq rr =>
     refine ⟨_, _, rfl, .inl hq, fun l hl => ?_⟩
     obtain ⟨c, S2⟩ := (cE.sV (aH.kW S1.tp hi rr) S1).oJ (g0 := []) (by simp [rr.length]) hl
     exact k _ _ _ z1 (k1.trans c) S2)
noncomputable def i7 (K : PySem.W.Frag) (CL : Str -> Addr) {A : Type} (n : Nat) (arg : A -> List D) (Pre : A -> Prop) (res : A -> T) : Sp := fun vs H Q _ =>
 ∃ (W : Hp) (a : A), aG W H /\ (∀ c o, H c = some o -> jv o = true -> W c = some o) /\ aH K CL W (arg a) vs /\ (arg a).length = n /\ Pre a /\ mV CL W ∧
   ∀ v H' W' fp, aG H H' -> aG W W' -> aG W' H' -> (∀ c o, W' c = some o -> W c = none -> H c = none) -> (∀ c o, H' c = some o -> jv o = true -> W' c = some o) →
     dm K CL H' W' (res a) v fp -> fp.Nodup -> (∀ c ∈ fp, W' c = none /\ H c = none) -> Q v H'
section
variable {A : Type} {k n : Nat} {f : Addr} {fd : FuncData} {ps : List Str} {arg : A -> List D} {Pre : A -> Prop} {res : A -> T} {x : Str}
theorem VF (a : A) (F : bL X.prog X.w X.K X.mg X.base fM k f fd ps (i7 X.K CL n arg Pre res)) (hr : fJ k X.A) (hm : X.mg x = some (.ref f)) (hk : PySem.W.keepIn X.K (.ref f) = true) (hb : Binds X.K fd ps [])
   (h : BAv X CL b (e :: es) δ (arg a) δ1) (hn : (arg a).length = n) (hp : Pre a) (hc : (res a).clean = true) (hg : Gl X x)
   (AU : (x == ("__debug__" : Str)) = false := by decide) (he : starEach (e :: es) X.env = (false, eval e X.env) :: starEach es X.env := by exact bW rfl) (ve : (backTo pos (starEach es X.env)).any (·.1) = false := by rfl) :
   cG X CL b (.Call (.Name x pp) (e :: es) [] pos) δ (res a) δ1 := fun H Z σ ts vs Q S kk =>
 dw (Vm F hr hg hm hk hb .nil L1 Vx AU he ve) (h H Z σ ts vs _ S fun us H1 Z1 z1 k1 S1 r => by
   rw [anu]
   refine ⟨H1, a, .refl _, fun _ _ q _ => q, r, hn, hp, S1.NP, fun v H' W' fp hh ww wh nw tp rt nd own => ?_⟩
   obtain ⟨Z', z', S'⟩ := S1.back hh S1.zh ww wh nw tp rt nd own (.inr hc)
   exact kk v H' Z' (z1.trans z') (k1.trans hh) S')
end
variable {D D' : dF} {st : Stmt} {gu afr : List Stmt}
theorem Meets.to {K : PySem.W.Frag} {Z : Hp} {ts : List T} {vs : List V} {E : Ends} (M : Meets K CL b Z ts vs D E) (h1 : ∀ δ, D'.nx δ -> D.nx δ) (h2 : ∀ t δ, D'.rt t δ -> D.rt t δ) (h3 : ∀ δ, D'.bk δ -> D.bk δ) (h4 : ∀ δ, D'.ct δ -> D.ct δ) : Meets K CL b Z ts vs D' E :=
 ⟨fun _ _ _ _ s S k => M.nx _ _ _ _ s S (h1 _ k), fun _ _ _ _ _ _ s S k => M.rt _ _ _ _ _ _ s S (h2 _ _ k), fun _ _ _ _ s S k => M.bk _ _ _ _ s S (h3 _ k), fun _ _ _ _ s S k => M.ct _ _ _ _ s S (h4 _ k)⟩
theorem au (h : D.nx δ) : fF X CL b [] δ D := fun H Z σ ts vs E S M => afn Ve (M.nx δ σ H Z (.refl _) S h)
theorem eB (h : UX X CL b st δ { D with nx := fun δ1 => fF X CL b gu δ1 D }) : fF X CL b (st :: gu) δ D := fun H Z σ ts vs E S M =>
 afn (Qc psS Vy) (h H Z σ ts vs _ S ⟨fun δ' σ' H' Z' s S' k => k H' Z' σ' ts vs E S' (M.mono s), M.rt, M.bk, M.ct⟩)
theorem QL (h : D.bk δ) : UX X CL b (.Break pos) δ D := fun H Z σ ts vs E S M => xC Qd (M.bk δ σ H Z (.refl _) S h)
theorem VG (h : D.ct δ) : UX X CL b (.Continue pos) δ D := fun H Z σ ts vs E S M => xC Gb (M.ct δ σ H Z (.refl _) S h)
theorem ab0 (h : cG X CL b e δ t δ1) (k : D.rt t δ1) : UX X CL b (.Return (some e) pos) δ D := fun H Z σ ts vs E S M => xC (abf eN) (h H Z σ ts vs _ S fun v H1 Z1 z1 k1 S1 => M.rt t v H1 Z1 δ1 σ z1 S1 k)
theorem afs (h : rD X CL b e δ p δ1) (h1 : p = true -> fF X CL b gu δ1 D) (h2 : p = false -> fF X CL b afr δ1 D) : UX X CL b (.If e gu afr pos) δ D := fun H Z σ ts vs E S M =>
 xC (aeS ptS Vy Vy) (h H Z σ ts vs _ S fun H1 Z1 z1 k1 S1 => by
   cases p with
   | true => exact Nz (h1 rfl H1 Z1 σ ts vs E S1 (M.mono z1))
   | false => exact Ny (h2 rfl H1 Z1 σ ts vs E S1 (M.mono z1)))
theorem QM (i : Nat) {x : Str} {pos' : Pos} (h : cG X CL b e δ t δ1) (k : D.nx (δ1.set i (some t))) (hl : i < δ1.length := by decide) (hN : X.N.Nodup := by assumption) (hi : X.N[i]? = some x := by rfl) (hx : Loc X.env.scope x := by first | exact .inl rfl | exact .inr rfl)
   (hs : swapsWith e (some (.Name x pos')) pos.line X.env = pure false := by rfl) (hf : X.fn x = true \/ X.env.scope.names.lookup x = some .local := by first | exact .inl rfl | exact .inr rfl | assumption) : UX X CL b (.Assign [.Name x pos'] e pos) δ D := fun H Z σ ts vs E S M =>
 xC (abn hN hi hx eN hs hf) (h H Z σ ts vs _ S fun v H1 Z1 z1 k1 S1 => M.nx _ _ H1 Z1 z1 (S1.set hl) k)
end
noncomputable def entry (N : List Str) (ds : List D) : List (Option T) := ds.map (fun d => some (T.sh d)) ++ List.replicate (N.length - ds.length) none
theorem jU {K : PySem.W.Frag} {CL : Str -> Addr} {H Z : Hp} : ∀ {ds : List D} {vs : List V} (n : Nat), aH K CL Z ds vs -> gj K CL H Z (ds.map (fun d => some (T.sh d)) ++ List.replicate n none) (vs.map some ++ List.replicate n none) []
 | _, _, 0, .nil => .nil
 | _, _, n + 1, .nil => .skip (jU (ds := []) (vs := []) n .nil)
 | _, _, n, .cons r t => .cons (fp := []) (gp := []) (.sh r) (jU n t)
theorem aX {P : Program} {w : World} {K : PySem.W.Frag} {mg : Str -> Option Value} {base : Heap} {CL : Str -> Addr} {x qual : Str} {st : Stmt} {f : Addr} {fd : FuncData} {N ps : List Str} {k : Nat} {A : Type} {arg : A -> List D} {Pre : A -> Prop} {res : A -> T} (F : gZ K x qual st f fd) (S : aJ N ps (ao st))
   (hb : ∀ (di : Value) (Ar : Around) (outer : List Env) (s : Shared) (H : Hp) (E : XK) (b : Bx) (a : A), fJ k (Ar.deeper (envOfC qual (ao st) s.heap.objs.size f di)) -> Pre a →
     fF (yH fM P w K mg base N qual (ao st) f di Ar outer s H E).UU CL b (gB st) (entry N (arg a)) { nx := fun _ => res a = .sh .non, rt := fun t _ => t = res a }) :
   bL P w K mg base fM (k + 1) f fd ps (i7 K CL ps.length arg Pre res) := by
 refine F.ok S (fun vs H Q E h => ?_) (fun di Ar outer s H vs Q E hr h => ?_)
 . obtain ⟨W, a, _, _, r, hl, _⟩ := h
   rw [← r.length]; exact hl
 . obtain ⟨W, a, wh, tp, r, hl, hp, tb, kk⟩ := h
   refine ⟨_, Vy, hb di Ar outer s H E ⟨H, W⟩ a hr hp H W _ [] [] _ ⟨⟨[], [], ?_, .nil, an5, fun a ha => by cases ha⟩, .refl _, .refl _, wh, fun a o q z => ?_, tp, tb⟩ ⟨fun δ' σ' H' Z' s' S' e => ?_, fun t v H' Z' δ' σ' s' S' e => ?_, fun _ _ _ _ _ _ e => e.elim, fun _ _ _ _ _ _ e => e.elim⟩⟩
   . unfold entry L2.start
     rw [← r.length]
     exact jU _ r
   . have q' : W a = some o := q
     have z' : W a = none := z
     rw [q'] at z'; cases z'
   . exact kk .non H' Z' [] S'.bh S'.zz S'.zh S'.new S'.tp (by rw [show res a = .sh .non from e]; exact .sh .non) an5 fun a ha => by cases ha
   . have e' : t = res a := e
     subst e'
     obtain ⟨fp, gp, _, r', nd, own⟩ := S'.rep
     cases r' with
     | @cons _ _ _ _ f1 f2 r1 r2 =>
       have h1 := (anI.mp nd).2.1
       exact kk v H' Z' f1 S'.bh S'.zz S'.zh S'.new S'.tp r1 (anI.mp h1).1 fun a ha => own a (amU _ (am7 _ ha))
section
variable {prog : Program} {w : World} {A : Around} {R : Result -> Shared -> Prop} {s : Shared}
theorem CG {elt target iter : Expr} {ifs : List Expr} {scope : Scope} {pos : Pos} {it acc : Value} {env : Env} (I : Nat -> Shared -> Prop)
   (turn : ∀ n s, I n s -> wpAny (model prog w) A (pyNext it) (fun r s₁ => match r with
     | none => R (.ok .next) s₁
     | some v => wpAny (model prog w) A (letOwnedTupleGo target it v) (fun _ s₁' => wpAny (model prog w) A (assign target env v) (fun _ s₂ =>
         wpAny (model prog w) A (forIn ifs true fun c r => if r = true then do let ok ← isTrue c env (eval c env); pure (ForInStep.yield ok) else pure (ForInStep.yield r)) (fun ok s₃ =>
           if ok = true then wpAny (model prog w) A (eval elt env) (fun x s₄ =>
             wpAny (model prog w) A (call (.builtin "list.append") [acc, x]) (fun _ s₅ => ∃ m, m < n /\ I m s₅) (fun _ _ => False) s₄) (fun _ _ => False) s₃
           else ∃ m, m < n /\ I m s₃) (fun _ _ => False) s₂) (fun _ _ => False) s₁') (fun _ _ => False) s₁) (fun _ _ => False) s)
   (n : Nat) (h : I n s) :
   codeAny (model prog w) A (.compLoop (.ListComp elt [⟨target, iter, ifs, 0⟩] scope pos) 0 it acc env) R s := by
 refine codeAny_loop rfl I (fun n s hI => ?_) n h
 show wpAny _ A ((compTurn (.ListComp elt [⟨target, iter, ifs, 0⟩] scope pos) 0 it acc env).onRaise (fun x => do noteFrame x env; theTreesLotGoes x)) _ _ s
 refine wpAny_noted ?_
 rw [compTurn_list]
 refine anh (wpAny_standAt (anh (aok (turn n s hI) (fun r s₁ h₁ => ?_) fun _ _ h' => h'.elim)))
 cases r with
 | none => exact anM h₁
 | some v =>
   refine anh (aok h₁ (fun _ s₁' h₁' => ?_) fun _ _ h' => h'.elim)
   refine anh (aok h₁' (fun _ s₂ h₂ => anh (aok h₂ (fun ok s₃ h₃ => ?_) fun _ _ h' => h'.elim)) fun _ _ h' => h'.elim)
   cases ok with
   | false => exact anM ⟨rfl, h₃⟩
   | true =>
     exact anh (anh (aok h₃ (fun x s₄ h₄ => anh (aok h₄ (fun _ s₅ h₅ => anM (anM ⟨rfl, h₅⟩)) fun _ _ h' => h'.elim)) fun _ _ h' => h'.elim))
end
noncomputable def c6 (env : Env) : List (Str × NameKind) -> List (Str × Addr) -> List (Str × Addr)
 | [], cs => cs
 | (n, k) :: r, cs => c6 env r (if k == .free then (n, (env.cells.lookup n).getD 0) :: cs else cs)
theorem kY {scope : Scope} {env : Env} (h : ∀ x ∈ scope.names, x.2 = .free -> ∃ c, env.cells.lookup x.1 = some c) : closureFor scope env = pure (c6 env scope.names []) := by
 have go : ∀ (l : List (Str × NameKind)) (cs : List (Str × Addr)), (∀ x ∈ l, x.2 = .free -> ∃ c, env.cells.lookup x.1 = some c) →
     (forIn l cs fun x r => match x with | (name, kind) => if (kind == NameKind.free) = true then do let a ← cellOf env name; pure (ForInStep.yield ((name, a) :: r)) else pure (ForInStep.yield r) : Sem (List (Str × Addr))) = pure (c6 env l cs) := by
   intro l
   induction l with
   | nil => intro cs _; rfl
   | cons x r ih =>
     intro cs hx
     obtain ⟨n, k⟩ := x
     rw [List.forIn_cons]
     by_cases hk : k = .free
     . subst hk
       obtain ⟨c, hc⟩ := hx (n, .free) am0 rfl
       have e : cellOf env n = pure c := by unfold cellOf; rw [hc]
       simp only [aom, aoO, e, pure_bind]
       rw [ih _ fun y hy => hx y (am2 _ hy)]
       simp only [c6, aom, aoO]
       rw [hc]; rfl
     . have hb : (k == NameKind.free) = false := by simpa using hk
       simp only [hb, anW, aoy, pure_bind]
       rw [ih _ fun y hy => hx y (am2 _ hy)]
       simp only [c6, hb, anW, aoy]
 unfold closureFor
 have := go scope.names [] h
 simp only [bind_pure] at this ⊢
 exact this
theorem mX {env : Env} : ∀ {l : List (Str × NameKind)} {cs : List (Str × Addr)} {y : Str} {c : Addr}, (∀ x ∈ l, x.2 = .free -> ∃ c, env.cells.lookup x.1 = some c) -> (∀ y c, cs.lookup y = some c -> env.cells.lookup y = some c) →
   (c6 env l cs).lookup y = some c -> env.cells.lookup y = some c
 | [], cs, y, c, _, h, e => h y c e
 | (n, k) :: r, cs, y, c, hx, h, e => by
   refine mX (l := r) (fun z hz => hx z (am2 _ hz)) (fun z d hz => ?_) e
   by_cases hk : k = .free
   . subst hk
     obtain ⟨c', hc⟩ := hx (n, .free) am0 rfl
     simp only [aom, aoO, hc, Option.getD_some, anx] at hz
     by_cases hzn : (z == n) = true
     . rw [hzn] at hz
       have : z = n := by simpa using hzn
       subst this
       cases hz
       exact hc
     . have : (z == n) = false := by simpa using hzn
       rw [this] at hz
       exact h z d hz
   . have hb : (k == NameKind.free) = false := by simpa using hk
     rw [hb] at hz
     exact h z d hz
theorem wU {env : Env} {y : Str} : ∀ {l : List (Str × NameKind)} {cs : List (Str × Addr)}, (∃ c, cs.lookup y = some c) -> ∃ c, (c6 env l cs).lookup y = some c
 | [], cs, h => h
 | (n, k) :: r, cs, h => by
   refine wU (l := r) ?_
   by_cases hk : (k == NameKind.free) = true
   . rw [amZ hk, anx]
     by_cases hy : (y == n) = true
     . rw [hy]; exact ⟨_, rfl⟩
     . have : (y == n) = false := by simpa using hy
       rw [this]; exact h
   . rw [amV hk]; exact h
theorem jV {env : Env} {y : Str} : ∀ {l : List (Str × NameKind)} {cs : List (Str × Addr)}, l.lookup y = some .free -> ∃ c, (c6 env l cs).lookup y = some c
 | [], _, h => by simp at h
 | (n, k) :: r, cs, h => by
   rw [anx] at h
   by_cases hy : (y == n) = true
   . rw [hy] at h
     cases h
     refine wU (l := r) ?_
     rw [amZ (by rfl), anx, hy]
     exact ⟨_, rfl⟩
   . have : (y == n) = false := by simpa using hy
     rw [this] at h
     exact jV (l := r) h
noncomputable def dW (X : Cx) (scope : Scope) (Nc : List Str) (C : Addr) (s : Shared) (H : Hp) (fp : List Addr) : Cx where
 prog := X.prog
 w := X.w
 K := X.K
 mg := X.mg
 base := X.base
 A := X.A
 N := Nc
 s₀ := s
 H₀ := H
 env := compEnvC scope (c6 X.env scope.names []) C X.env
 outer := X.stack
 stack := X.stack
 ex := fp
 fn := fun _ => false
 calm := X.calm
 pn := []
 xe := fun _ _ => False
structure f6 (X : Cx) (scope : Scope) (x : Str) (Nc : List Str) (ix : List Nat) : Prop where
 kind : scope.kind = .function
 vm : ∀ y ∈ scope.names, y.2 ≠ .cell
 nd : Nc.Nodup
 names : ∀ y ∈ scope.names, y.2 = .local -> scope.names.lookup y.1 = some .local
 own : scope.names.lookup x = some .local
 frees : ∀ y ∈ scope.names, y.2 = .free -> scope.names.lookup y.1 = some .free /\ (X.env.kindOf y.1 = some .cell \/ X.env.kindOf y.1 = some .free)
 hd : Nc = x :: ix.filterMap (X.N[·]?)
 ixs : ∀ i ∈ ix, ∃ y, X.N[i]? = some y /\ scope.names.lookup y = some .free
theorem fO {env : Env} : ∀ {names : List (Str × NameKind)} {x : Str} {k : NameKind}, names.lookup x = some k -> 
   (names.map fun (n, k) => if (k == NameKind.free && env.scope.kind == .function && env.kindOf n == some .cell) then (n, NameKind.cell) else (n, k)).lookup x = some (if (k == NameKind.free && env.scope.kind == .function && env.kindOf x == some .cell) then .cell else k)
 | [], _, _, h => by simp at h
 | (n, k') :: r, x, k, h => by
   have ih := @fO env r x k
   show List.lookup x ((if (k' == NameKind.free && env.scope.kind == .function && env.kindOf n == some .cell) = true then (n, NameKind.cell) else (n, k')) :: _) = _
   cases hx : x == n with
   | true =>
     simp only [anx, hx] at h
     cases h
     have e : x = n := by simpa using hx
     subst e
     split <;> simp [anx]
   | false =>
     simp only [anx, hx] at h
     split
     . simp only [anx, hx]; exact ih h
     . simp only [anx, hx]; exact ih h
theorem jx {env : Env} : ∀ {names : List (Str × NameKind)} {x : Str}, names.lookup x = none -> 
   (names.map fun (n, k) => if (k == NameKind.free && env.scope.kind == .function && env.kindOf n == some .cell) then (n, NameKind.cell) else (n, k)).lookup x = none
 | [], _, _ => rfl
 | (n, k') :: r, x, h => by
   have ih := @jx env r x
   show List.lookup x ((if (k' == NameKind.free && env.scope.kind == .function && env.kindOf n == some .cell) = true then (n, NameKind.cell) else (n, k')) :: _) = _
   cases hx : x == n with
   | true => simp only [anx, hx] at h; cases h
   | false =>
     simp only [anx, hx] at h
     split
     . simp only [anx, hx]; exact ih h
     . simp only [anx, hx]; exact ih h
section
variable {X : Cx} {scope : Scope} {x : Str} {Nc : List Str} {ix : List Nat} {pins : List (Addr × Obj)} {σ : L2.St} {H : Hp} {s : Shared}
noncomputable def vn (σ : L2.St) (ix : List Nat) (o : Option V) : L2.St := o :: ix.map fun i => (σ[i]?).getD none
theorem NR {fp : List Addr} {jQ : List (Addr × Obj)} {σ' : L2.St} {H' : Hp} {s' : Shared} {h'' : Heap} (I : Inv X pins σ H s) (wR : ∀ b ∈ fp, jz X pins H b)
   (J : Inv (dW X scope Nc s.heap.objs.size s H fp) jQ σ' H' s') (hs : Heap.SameBut s.heap.objs.size s'.heap h'') : Inv X pins σ H' { s' with heap := h'' } := by
 have un : Un (P1 X.stack) fp H H' s.heap s'.heap := J.base
 have un2 : Un (P1 X.stack) fp H H' s.heap h'' := by
   have ne : ∀ b o, s.heap.get? b = some o -> b ≠ s.heap.objs.size := fun b o e => anA (ang e)
   refine ⟨fun b o e n hb hx => (hs.2 b (ne b o e)).trans (un.keep b o e n hb hx), fun b o e n hb hx => ?_, un.free, fun b o e hx => ?_, un.Cm, un.ju, un.Cp⟩
   . obtain ⟨sl, q⟩ := un.slot b o e n hb hx
     exact ⟨sl, (hs.2 b (ne b o e)).trans q⟩
   . obtain ⟨o', q⟩ := un.there b o e hx
     exact ⟨o', (hs.2 b (ne b o e)).trans q⟩
 have nC : H' s.heap.objs.size = none := J.free
 have dU : rP X.prog X.w H' h'' := fun b u e => by
   refine (J.dU b u e).Ck (fun c v hc q => (hs.2 c ?_).trans q) (fun _ q => q) fun _ _ q => q
   rintro rfl
   rcases hc with z | z
   . subst z; rw [nC] at e; cases e
   . rw [nC] at z; cases z
 obtain ⟨hh, g, d, t, os'⟩ := s'
 obtain rfl : os' = s.os := J.os
 show L2.Inv X pins σ H' { s with heap := h'', gens := g, drawn := d, toks := t }
 exact I.call (h' := h'') (g' := g) (d' := d) (t' := t) (ch := fp) un2 dU J.bare fun b hb => ⟨(wR b hb).2.2.2.1, (wR b hb).2.1, (wR b hb).2.2.2.2.1, (wR b hb).2.2.2.2.2⟩
noncomputable def ab1 (X : Cx) : List Expr -> TT
 | [] => fun _ H Q => Q true H
 | [c] => Vw X c
 | _ => fun _ _ _ => False
theorem QN {ifs : List Expr} {Q : Bool -> Hp -> Prop} (I : Inv X pins σ H s) (h : ab1 X ifs σ H Q) (hx : X.xe = fun _ _ => False) :
   wpAny (model X.prog X.w) X.A (forIn ifs true fun c r => if r = true then do let ok ← isTrue c X.env (eval c X.env); pure (ForInStep.yield ok) else pure (ForInStep.yield r)) (TP X pins σ Q) (fun _ _ => False) s := by
 match ifs, h with
 | [], h => exact wpAny_tests_nil ⟨H, I, h⟩
 | [c], h =>
   have := h pins s I
   rw [hx] at this
   exact wpAny_tests_one this
end
noncomputable def TIv (X : Cx) (CL : Str -> Addr) (b : Bx) (ifs : List Expr) (δ : List (Option T)) (p : Bool) : Prop :=
 match ifs with
 | [] => p = true
 | [c] => rD X CL b c δ p δ
 | _ => False
theorem TIv.sem {X : Cx} {CL : Str -> Addr} {b : Bx} {ifs : List Expr} {δ : List (Option T)} {p : Bool} (h : TIv X CL b ifs δ p) {H Z : Hp} {σ : L2.St} {Q : Bool -> Hp -> Prop} (S : cE X.K CL b H Z δ σ [] [])
   (k : ∀ H' Z', aG Z Z' -> aG H H' -> cE X.K CL b H' Z' δ σ [] [] -> Q p H') : ab1 X ifs σ H Q := by
 match ifs, h with
 | [], h =>
   have e : p = true := h
   subst e
   exact k H Z (.refl _) (.refl _) S
 | [c], h => exact (show rD X CL b c δ p δ from h) H Z σ [] [] Q S k
theorem iR {ts : List T} : (T.lst ts).clean = T.fN ts := by rw [T.clean]
theorem yM {g : D -> T} : ∀ {ds : List D}, (∀ d ∈ ds, (g d).clean = true) -> T.fN (ds.map g) = true
 | [], _ => by rw [List.map_nil, T.fN]
 | d :: ds, h => by
   rw [ani, T.fN, h d am0, yM fun e he => h e (am2 _ he)]
   rfl
section
variable {X : Cx} {CL : Str -> Addr} {b : Bx} {H Z W1 : Hp} {δ δc : List (Option T)} {σ : L2.St} {ts : List T} {vs us : List V} {ds : List D} {scope : Scope} {Nc : List Str} {ix : List Nat} {elt : Expr} {ifs : List Expr} {p : D -> Bool} {g : D -> T} {J : It}
end
section
variable {K : PySem.W.Frag} {CL : Str -> Addr} {b : Bx} {H H' Z Z' : Hp} {δ δ' : List (Option T)} {σ σ' : L2.St} {ts tl : List T} {vs us : List V} {t : T} {v : V}
theorem bE.at : ∀ {tl : List T} {us : List V} {fp : List Addr} {j : Nat} {t : T}, bE K CL H Z tl us fp -> tl[j]? = some t -> ∃ v f1 f2 f3, us[j]? = some v /\ fp = f1 ++ (f2 ++ f3) /\ dm K CL H Z t v f2 ∧
   ∀ {H' : Hp} {t' : T} {v' : V} {g : List Addr}, (∀ a ∈ f1 ++ f3, H' a = H a) -> dm K CL H' Z t' v' g -> bE K CL H' Z (tl.set j t') (us.set j v') (f1 ++ (g ++ f3))
 | _, _, _, _, _, .nil, e => by simp at e
 | _, _, _, 0, _, .cons (fp := fp) (gp := gp) r q, e => by
   simp at e
   subst e
   exact ⟨_, [], fp, gp, rfl, rfl, r, fun {H' t' v' g} k r' => bE.cons (fp := g) (gp := gp) r' (bE.mono (fp := gp) (.refl _) (fun a ha => k a (by simpa using ha)) q)⟩
 | _, _, _, j + 1, t, .cons (fp := fp) (gp := gp) r q, e => by
   obtain ⟨v, f1, f2, f3, h1, h2, h3, h4⟩ := bE.at (j := j) (t := t) q (by simpa using e)
   refine ⟨v, fp ++ f1, f2, f3, by simpa using h1, by rw [h2, List.append_assoc], h3, fun k r' => ?_⟩
   rw [am8]
   exact .cons (r.mono (.refl _) fun a ha => k a (by simp [ha])) (h4 (fun a ha => k a (by rw [am8]; exact amU _ ha)) r')
theorem sX {α : Type} {l : List α} {i : Nat} {x : α} (h : l[i]? = some x) : l.set i x = l := by
 apply aoo
 intro j
 rw [List.getElem?_set]
 split
 . rename_i e; subst e
   split
   . exact h.symm
   . rename_i h2; rw [aoP (by omega)]
 . rfl
theorem cE.write {a : Addr} {xs : List V} {f1 f2 f3 g gp gp' : List Addr} {δ2 : List (Option T)} (S : cE K CL b H Z δ σ ts vs) (nd : ((f1 ++ (f2 ++ f3)) ++ gp).Nodup) (own : ∀ c ∈ (f1 ++ (f2 ++ f3)) ++ gp, Z c = none /\ b.B c = none) (ha : a ∈ f2)
   (hH : ∃ o, H a = some o) (e' : gj K CL (upd H a (.lst xs)) Z δ2 σ (f1 ++ (g ++ f3))) (r' : bE K CL (upd H a (.lst xs)) Z tl us gp') (pm : ((f1 ++ (g ++ f3)) ++ gp').Nodup) (sub : ∀ c ∈ (f1 ++ (g ++ f3)) ++ gp', c ∈ (f1 ++ (f2 ++ f3)) ++ gp) :
   cE K CL b (upd H a (.lst xs)) Z δ2 σ tl us := by
 have oa := own a (by simp [ha])
 refine ⟨⟨_, _, e', r', pm, fun c hc => own c (sub c hc)⟩, fun c o q => ?_, S.zz, fun c o q => ?_, S.new, fun c o q i => ?_, S.tab⟩
 . rw [aA (aK q oa.2)]; exact S.bh c o q
 . rw [aA (aK q oa.1)]; exact S.zh c o q
 . by_cases hc : c = a
   . subst hc; rw [aV] at q; cases q; cases i
   . rw [aA hc] at q; exact S.tp c o q i
theorem cE.append {i : Nat} (S : cE K CL b H Z δ σ (t :: ts) (v :: vs)) (hi : δ[i]? = some (some (.lst tl))) :
   ∃ a us, σ[i]? = some (some (.ref a)) /\ H a = some (.lst us) /\ us.length = tl.length /\ cE K CL b (upd H a (.lst (us ++ [v]))) Z (δ.set i (some (.lst (tl ++ [t])))) σ ts vs := by
 obtain ⟨fp, gp, e, r, nd, k⟩ := S.rep
 obtain ⟨v0, f1, f2, f3, hv, wR, rt, put, _⟩ := e.get hi
 subst wR
 cases rt with
 | @lst a us _ g ha rs =>
   cases r with
   | @cons _ _ _ _ ft gr q1 q2 =>
     have ne : ∀ c ∈ (f1 ++ (g ++ f3)) ++ (ft ++ gr), c ≠ a := fun c hc e => by
       subst e
       have hp : ((f1 ++ ((c :: g) ++ f3)) ++ (ft ++ gr)).Perm (c :: ((f1 ++ (g ++ f3)) ++ (ft ++ gr))) := by
         rw [anw, ← anw]
         exact (aos.append_right _)
       exact (aoa.mp (hp.nodup_iff.mp nd)).1 hc
     refine ⟨a, us, hv, ha, rs.length.symm, ?_⟩
     have r1 : dm K CL (upd H a (.lst (us ++ [v]))) Z (.lst (tl ++ [t])) (.ref a) (a :: (g ++ (ft ++ []))) :=
       .lst aV (bE.app (rs.mono (.refl _) fun c hc => aA (ne c (by simp [hc]))) (.cons (q1.mono (.refl _) fun c hc => aA (ne c (by simp [hc]))) .nil))
     have e2 := put (H' := upd H a (.lst (us ++ [v]))) (.refl _) (fun c hc => aA (ne c (by
       rcases am3.mp hc with h | h
       . simp [h]
       . simp [h]))) r1
     rw [sX hv] at e2
     have hp : ((f1 ++ ((a :: (g ++ (ft ++ []))) ++ f3)) ++ gr).Perm ((f1 ++ ((a :: g) ++ f3)) ++ (ft ++ gr)) := by
       simp only [anu, anw, am8]
       refine anV f1 (List.Perm.cons a (anV g ?_))
       rw [← am8, ← am8]
       exact anQ.append_right gr
     exact S.write nd k (am0) ⟨_, ha⟩ e2 (q2.mono (.refl _) fun c hc => aA (ne c (by simp [hc]))) (hp.nodup_iff.mpr nd) fun c hc => hp.mem_iff.mp hc
theorem cE.setAt {i j : Nat} (S : cE K CL b H Z δ σ (t :: ts) (v :: vs)) (hi : δ[i]? = some (some (.lst tl))) (hj : j < tl.length) :
   ∃ a us, σ[i]? = some (some (.ref a)) /\ H a = some (.lst us) /\ us.length = tl.length /\ cE K CL b (upd H a (.lst (us.set j v))) Z (δ.set i (some (.lst (tl.set j t)))) σ ts vs := by
 obtain ⟨fp, gp, e, r, nd, k⟩ := S.rep
 obtain ⟨v0, f1, f2, f3, hv, wR, rt, put, _⟩ := e.get hi
 subst wR
 cases rt with
 | @lst a us _ g ha rs =>
   cases r with
   | @cons _ _ _ _ ft gr q1 q2 =>
     have ne : ∀ c ∈ (f1 ++ (g ++ f3)) ++ (ft ++ gr), c ≠ a := fun c hc e => by
       subst e
       have hp : ((f1 ++ ((c :: g) ++ f3)) ++ (ft ++ gr)).Perm (c :: ((f1 ++ (g ++ f3)) ++ (ft ++ gr))) := by
         rw [anw, ← anw]
         exact (aos.append_right _)
       exact (aoa.mp (hp.nodup_iff.mp nd)).1 hc
     refine ⟨a, us, hv, ha, rs.length.symm, ?_⟩
     obtain ⟨vj, g1, g2, g3, _, hg, _, set⟩ := rs.at (amW hj)
     subst hg
     have r1 : dm K CL (upd H a (.lst (us.set j v))) Z (.lst (tl.set j t)) (.ref a) (a :: (g1 ++ (ft ++ g3))) :=
       .lst aV (set (fun c hc => aA (ne c (by
         rcases am3.mp hc with h | h
         . simp [h]
         . simp [h]))) (q1.mono (.refl _) fun c hc => aA (ne c (by simp [hc]))))
     have e2 := put (H' := upd H a (.lst (us.set j v))) (.refl _) (fun c hc => aA (ne c (by
       rcases am3.mp hc with h | h
       . simp [h]
       . simp [h]))) r1
     rw [sX hv] at e2
     have hp : ((f1 ++ ((a :: (g1 ++ (ft ++ g3))) ++ f3)) ++ gr).Perm ((f1 ++ ((a :: (g1 ++ g3)) ++ f3)) ++ (ft ++ gr)) := by
       simp only [anw, am8]
       refine anV f1 (List.Perm.cons a (anV g1 ?_))
       have := (anQ (l₁ := ft) (l₂ := g3 ++ f3)).append_right gr
       simp only [am8] at this
       exact this
     have sb : ((f1 ++ ((a :: (g1 ++ g3)) ++ f3)) ++ (ft ++ gr)).Sublist ((f1 ++ ((a :: (g1 ++ (g2 ++ g3))) ++ f3)) ++ (ft ++ gr)) := by
       refine anJ (anJ (anC _) (anJ (List.Sublist.cons₂ a ?_) (anC _))) (anC _)
       exact anJ (anC _) (aob _ _)
     exact S.write nd k (am0) ⟨_, ha⟩ e2 (q2.mono (.refl _) fun c hc => aA (ne c (by simp [hc]))) (hp.nodup_iff.mpr (nd.sublist sb)) fun c hc => sb.subset (hp.mem_iff.mp hc)
end
section
variable {X : Cx} {CL : Str -> Addr} {b : Bx} {δ δ1 δ2 : List (Option T)} {e e2 : Expr} {t : T} {tl UY tt tt0 : List T} {D : dF} {pos pp pa pb : Pos}
theorem ab3 (i : Nat) {x : Str} (h0 : δ[i]? = some (some (.lst UY))) (h : cG X CL b e δ t δ1) (h1 : δ1[i]? = some (some (.lst tl))) (hl : tl.length < sizeLine) (k : D.nx (δ1.set i (some (.lst (tl ++ [t])))))
   (hi : X.N[i]? = some x := by rfl) (hv : Vis X.env.scope x := by first | exact Or.inl rfl | exact Or.inr (Or.inl rfl) | exact Or.inr (Or.inr rfl)) (hd : (x == ("__debug__" : Str)) = false := by decide) (jy : (x == ("__classdict__" : Str)) = false := by decide)
   (yJ : attributeBase (.Name x pp) "append" X.env (eval (.Name x pp) X.env) = eval (.Name x pp) X.env := by rfl)
   (Js : ((backTo pb (starEach [e] X.env)).all (fun x => !x.1) && (backToKw pb (keywordEach [] X.env)).all (fun x => x.1.isSome) && decide ([e].length + ([] : List Keyword).length + (if ([] : List Keyword).isEmpty then 0 else 1) < 30)) = true := by rfl)
   (hline : (pa.endLine == pb.line) = true := by rfl) (hs : starEach [e] X.env = (false, eval e X.env) :: starEach [] X.env := by exact bW rfl) (xD : swapsWith (.Call (.Attribute (.Name x pp) "append" pa) [e] [] pb) none pos.line X.env = pure false := by rfl) :
   UX X CL b (.Expr (.Call (.Attribute (.Name x pp) "append" pa) [e] [] pb) pos) δ D := fun H Z σ ts vs E S M =>
 xC (Vf (aak PySem.F.plainAttrs_list PySem.F.slot_list_append PySem.F.type_list_append BF (ow hi hv hd jy) (cH eN fc hs) yJ Js hline hs rfl) xD) (by
   obtain ⟨v0, e0, r0⟩ := S.look h0
   refine ⟨v0, e0, ?_, ?_⟩
   . rw [T.fE] at r0
     cases r0 with
     | lst hq _ => exact .inl ⟨rfl, _, hq⟩
   . refine h H Z σ ts vs _ S fun v H1 Z1 z1 k1 S1 => ?_
     obtain ⟨a, us, ea, ha, hu, S2⟩ := S1.append h1
     rw [e0] at ea
     cases ea
     exact ⟨a, us, v, rfl, rfl, ha, by rw [hu]; exact hl, M.nx _ σ _ Z1 z1 S2 k⟩)
end
noncomputable def afv : Option (Option T) -> Option T
 | some (some t) => some (.sh t.fE)
 | _ => none
noncomputable def shO : Option (Option T) -> Option T
 | some (some (T.sh d)) => some (.sh d)
 | _ => none
noncomputable def yN (δ : List (Option T)) (ix : List Nat) : List (Option T) := ix.map fun i => afv δ[i]?
noncomputable def Gz (δ : List (Option T)) (ix : List Nat) : List (Option T) := ix.map fun i => shO δ[i]?
section
variable {K : PySem.W.Frag} {CL : Str -> Addr} {b : Bx} {H Z : Hp} {δ : List (Option T)} {σ : L2.St} {ts : List T} {vs : List V}
theorem sY (S : cE K CL b H Z δ σ ts vs) : ∀ (ix : List Nat) (H' : Hp), gj K CL H' H (yN δ ix) (ix.map fun i => (σ[i]?).getD none) []
 | [], _ => .nil
 | i :: r, H' => by
   have ih := sY S r H'
   show gj K CL H' H (afv δ[i]? :: yN δ r) (((σ[i]?).getD none) :: r.map fun i => (σ[i]?).getD none) []
   cases e : δ[i]? with
   | none => exact .skip ih
   | some o =>
     cases o with
     | none => exact .skip ih
     | some t =>
       obtain ⟨v, hv, rv⟩ := S.look e
       rw [hv]
       exact .cons (fp := []) (gp := []) (.sh rv) ih
theorem GA (S : cE K CL b H Z δ σ ts vs) : ∀ (ix : List Nat) (H' : Hp), gj K CL H' Z (Gz δ ix) (ix.map fun i => (σ[i]?).getD none) []
 | [], _ => .nil
 | i :: r, H' => by
   have ih := GA S r H'
   show gj K CL H' Z (shO δ[i]? :: Gz δ r) (((σ[i]?).getD none) :: r.map fun i => (σ[i]?).getD none) []
   cases e : δ[i]? with
   | none => exact .skip ih
   | some o =>
     cases o with
     | none => exact .skip ih
     | some t =>
       cases t with
       | sh d =>
         obtain ⟨v, hv, rv⟩ := S.aao e
         rw [hv]
         exact .cons (fp := []) (gp := []) (.sh rv) ih
       | tup _ => exact .skip ih
       | lst _ => exact .skip ih
       | ins _ _ => exact .skip ih
       | om _ => exact .skip ih
       | dct _ => exact .skip ih
       | pin _ _ => exact .skip ih
end
section
variable {X : Cx} {CL : Str -> Addr} {b : Bx} {δ δ1 : List (Option T)} {scope : Scope} {x : Str} {Nc : List Str} {ix : List Nat} {elt iter : Expr} {ifs : List Expr} {px pos : Pos} {ds : List D}
structure Comes (X : Cx) (CL : Str -> Addr) (b : Bx) (δ1 : List (Option T)) (σ : L2.St) (ts : List T) (vs : List V) (Z H : Hp) (ds : List D) (J : It) (H1 : Hp) : Prop where
 ex : ∃ Z1 us, aG Z Z1 /\ aG H H1 /\ cE X.K CL b H1 Z1 δ1 σ ts vs /\ aH X.K CL Z1 ds us /\ (∀ i H2, aG Z1 H2 -> i < ds.length -> J.go i H2) ∧
   (∀ i H2 x H', aG Z1 H2 -> i < ds.length -> J.UW i H2 x H' -> H' = H2 /\ us[i]? = some x) /\ (∀ H2, aG Z1 H2 -> J.stop ds.length H2)
noncomputable def UZ (X : Cx) (CL : Str -> Addr) (b : Bx) (tg e : Expr) (δ : List (Option T)) (ds : List D) (δ1 : List (Option T)) : Prop :=
 ∃ wi, PI X tg e wi /\ ∀ (H Z : Hp) (σ : L2.St) (ts : List T) (vs : List V) (R : It -> Hp -> Prop), cE X.K CL b H Z δ σ ts vs -> (∀ J H1, Comes X CL b δ1 σ ts vs Z H ds J H1 -> R J H1) -> wi σ H R
theorem eS {tg : Expr} (h : cG X CL b iter δ (.sh (.lst ds)) δ1) : UZ X CL b tg iter δ ds δ1 := by
 refine ⟨_, LQ eN, fun H Z σ ts vs R S k => h H Z σ ts vs _ S fun v H1 Z1 z1 k1 S1 => ?_⟩
 obtain ⟨fp, gp, _, r, _, _⟩ := S1.rep
 cases r with
 | cons r _ =>
   cases r with
   | sh r =>
     cases r with
     | @lst a us _ hq rr =>
       refine ⟨a, rfl, ⟨us, S1.zh.seq hq⟩, k _ _ ⟨Z1, us, z1, k1, S1.pop, rr, fun i H2 s hi => ?_, fun i H2 y H' s hi hy => ⟨hy.1, hy.2 us (s.seq hq)⟩, fun H2 s => ⟨us, s.seq hq, by rw [rr.length]; exact am5 _⟩⟩⟩
       have I0 : i < us.length := by rw [← rr.length]; exact hi
       exact ⟨us, us[i], s.seq hq, by simp [I0]⟩
theorem yO {tg : Expr} (h : cG X CL b iter δ (.sh (.tup ds)) δ1) : UZ X CL b tg iter δ ds δ1 := by
 refine ⟨_, abp eN, fun H Z σ ts vs R S k => h H Z σ ts vs _ S fun v H1 Z1 z1 k1 S1 => ?_⟩
 obtain ⟨fp, gp, _, r, _, _⟩ := S1.rep
 cases r with
 | cons r _ =>
   cases r with
   | sh r =>
     cases r with
     | @tup a us _ hq rr =>
       refine ⟨a, rfl, ⟨us, aG.Vv S1.zh hq⟩, k _ _ ⟨Z1, us, z1, k1, S1.pop, rr, fun i H2 s hi => ?_, fun i H2 y H' s hi hy => ⟨hy.1, hy.2 us (aG.Vv s hq)⟩, fun H2 s => ⟨us, aG.Vv s hq, by rw [rr.length]; exact am5 _⟩⟩⟩
       have I0 : i < us.length := by rw [← rr.length]; exact hi
       exact ⟨us, us[i], aG.Vv s hq, by simp [I0]⟩
noncomputable def b8 (lo : Int) (n : Nat) : List D := (List.range n).map fun (i : Nat) => D.int (lo + i)
theorem GB {K : PySem.W.Frag} {Z : Hp} (lo : Int) (n : Nat) : aH K CL Z (b8 lo n) ((List.range n).map fun (i : Nat) => V.int (lo + i)) := by
 unfold b8
 generalize List.range n = l
 induction l with
 | nil => exact .nil
 | cons i r ih => exact .cons (.int _) ih
theorem fP {tg : Expr} {pr pc : Pos} {n : Int} (hm : X.mg "range" = none) (h : cV X CL b iter δ (.int n) δ1) (hn : -(2 ^ 62) <= n /\ n < 2 ^ 62) (hg : Gl X "range") (Qe : starEach [iter] X.env = [(false, eval iter X.env)] := by rfl) (ab4 : starEach [iter] X.env = (false, eval iter X.env) :: starEach [] X.env := by exact bW rfl) :
   UZ X CL b tg (.Call (.Name "range" pr) [iter] [] pc) δ (b8 0 n.toNat) δ1 := by
 refine ⟨_, Ni hg hm (cH eN fc ab4) Qe, fun H Z σ ts vs R S k => h H Z σ ts vs _ S fun v H1 Z1 z1 k1 S1 r => ⟨n, by rw [r.sc rfl], hn.1, hn.2, k _ _ ⟨Z1, _, z1, k1, S1, GB 0 n.toNat, fun i H2 s hi => ?_, fun i H2 y H' s hi hy => ?_, fun H2 s => ?_⟩⟩⟩
 . show i < n.toNat
   have : (b8 0 n.toNat).length = n.toNat := by simp [b8]
   omega
 . have I0 : i < n.toNat := by simpa [b8] using hi
   refine ⟨hy.1, ?_⟩
   rw [anq, an7 I0, hy.2]
   rfl
 . show n.toNat <= (b8 0 n.toNat).length
   simp [b8]
theorem NS {tg : Expr} {pr pc : Pos} {e1 e2 : Expr} {δ2 : List (Option T)} {m n : Int} (hm : X.mg "range" = none) (h1 : cV X CL b e1 δ (.int m) δ1) (h2 : cV X CL b e2 δ1 (.int n) δ2) (hn : -(2 ^ 62) <= m /\ m < 2 ^ 62 /\ -(2 ^ 62) <= n /\ n < 2 ^ 62) (hg : Gl X "range")
   (Qe : starEach [e1, e2] X.env = [(false, eval e1 X.env), (false, eval e2 X.env)] := by rfl) (ab4 : starEach [e2] X.env = [(false, eval e2 X.env)] := by rfl) (aiv : starEach [e1, e2] X.env = (false, eval e1 X.env) :: starEach [e2] X.env := by rfl) (aiw : starEach [e2] X.env = (false, eval e2 X.env) :: starEach [] X.env := by rfl) :
   UZ X CL b tg (.Call (.Name "range" pr) [e1, e2] [] pc) δ (b8 m (n - m).toNat) δ2 := by
 refine ⟨_, Nj hg hm (cH eN (cH eN fc aiw) aiv) Qe ab4, fun H Z σ ts vs R S k => h1 H Z σ ts vs _ S fun v H1 Z1 z1 k1 S1 r => h2 H1 Z1 σ ts vs _ S1 fun v2 H2 Z2 z2 k2 S2 r2 => ⟨m, n, by rw [r.sc rfl, r2.sc rfl], hn, k _ _ ⟨Z2, _, z1.trans z2, k1.trans k2, S2, GB m (n - m).toNat, fun i H2 s hi => ?_, fun i H2 y H' s hi hy => ?_, fun H2 s => ?_⟩⟩⟩
 . show i < (n - m).toNat
   have : (b8 m (n - m).toNat).length = (n - m).toNat := by simp [b8]
   omega
 . have I0 : i < (n - m).toNat := by simpa [b8] using hi
   refine ⟨hy.1, ?_⟩
   rw [anq, an7 I0, hy.2]
   rfl
 . show (n - m).toNat <= (b8 m (n - m).toNat).length
   simp [b8]
theorem ab5 {D : dF} {gu : List Stmt} (i : Nat) {pos' : Pos} (P : Nat -> List (Option T) -> Prop) (h : UZ X CL b (.Name x pos') iter δ ds δ1) (h0 : P 0 δ1) (hl : ∀ j δ, P j δ -> i < δ.length)
   (hs : ∀ j d δ, ds[j]? = some d -> P j δ -> fF X CL b gu (δ.set i (some (.sh d))) { nx := P (j + 1), rt := D.rt, bk := D.nx, ct := P (j + 1) }) (hd : ∀ δ, P ds.length δ -> D.nx δ)
   (hp : PassesOwn (model X.prog X.w) X.A X.env X.xe) (hc : X.calm = true) (hN : X.N.Nodup) (hi : X.N[i]? = some x) (hx : Loc X.env.scope x) (hf : X.fn x = true \/ X.env.scope.names.lookup x = some .local) (hq : ∀ x, foldedSetIterable iter X.env x = pure x := by intro _; rfl) :
   UX X CL b (.For (.Name x pos') iter gu [] pos) δ D := fun H Z σ ts vs E S M => by
 obtain ⟨wi, pi, hw⟩ := h
 refine xC (Qh hp hc pi (sP hN hi hx hf) Vy hq) (hw H Z σ ts vs _ S fun J H1 zz => ?_)
 obtain ⟨Z1, us, z1, k1, S1, rr, go, yl, st⟩ := zz
 refine ⟨fun j m σ H2 => m = ds.length - j /\ j <= ds.length /\ ∃ Z2 δ2, aG Z1 Z2 /\ cE X.K CL b H2 Z2 δ2 σ ts vs /\ P j δ2, ⟨_, rfl, ans _, Z1, δ1, .refl _, S1, h0⟩, ?_⟩
 rintro j m σ H2 ⟨rfl, hj, Z2, δ2, s, S2, p2⟩
 by_cases rE : j < ds.length
 . refine .inr ⟨go j H2 (s.trans S2.zh) rE, fun σ' H' => ∃ Z2 δ2, aG Z1 Z2 /\ cE X.K CL b H' Z2 δ2 σ' ts vs /\ P (j + 1) δ2, fun σ' H' h => ⟨ds.length - (j + 1), by omega, rfl, rE, h⟩, fun y H' hy => ?_⟩
   obtain ⟨e, hu⟩ := yl j H2 y H' (s.trans S2.zh) rE hy
   subst e
   obtain ⟨d, Va, rd⟩ := rr.NF hu
   have S3 := (S2.push (rd.mono s)).set (hl j δ2 p2)
   exact hs j d δ2 Va p2 _ Z2 _ ts vs _ S3 ⟨fun δ' σ' H' Z' s' S' k => ⟨Z', δ', s.trans s', S', k⟩, fun t v H' Z' δ' σ' s' S' k => M.rt t v H' Z' δ' σ' (z1.trans (s.trans s')) S' k, fun δ' σ' H' Z' s' S' k => M.nx δ' σ' H' Z' (z1.trans (s.trans s')) S' k, fun δ' σ' H' Z' s' S' k => ⟨Z', δ', s.trans s', S', k⟩⟩
 . have e : j = ds.length := by omega
   subst e
   exact .inl ⟨st H2 (s.trans S2.zh), M.nx δ2 σ H2 Z2 (z1.trans s) S2 (hd δ2 p2)⟩
noncomputable def Block (X : Cx) (CL : Str -> Addr) (scope : Scope) (Nc : List Str) (ifs : List Expr) (elt : Expr) (δc : List (Option T)) (ds : List D) (p : D -> Bool) (g : D -> T) : Prop :=
 ∀ C s0 H0 f0 b' d, d ∈ ds -> TIv (dW X scope Nc C s0 H0 f0) CL b' ifs (some (.sh d) :: δc) (p d) /\ (p d = true -> cG (dW X scope Nc C s0 H0 f0) CL b' elt (some (.sh d) :: δc) (g d) (some (.sh d) :: δc))
variable {p : D -> Bool} {g : D -> T} {δc : List (Option T)}
end
section
variable {X : Cx} {CL : Str -> Addr} {b : Bx} {δ δ1 : List (Option T)} {scope : Scope} {x : Str} {Nc : List Str} {ix : List Nat} {elt iter : Expr} {ifs : List Expr} {px pos : Pos} {ds : List D} {p : D -> Bool} {g : D -> T} {δc : List (Option T)}
noncomputable def isD : L3.D -> String -> Option Bool
 | .non, n => if n = "int" \/ n = "str" \/ n = "list" \/ n = "tuple" \/ n = "bool" \/ n = "dict" then some false else none
 | .bl _, n => if n = "int" \/ n = "bool" then some true else if n = "str" \/ n = "list" \/ n = "tuple" \/ n = "dict" then some false else none
 | .int _, n => if n = "int" then some true else if n = "str" \/ n = "list" \/ n = "tuple" \/ n = "bool" \/ n = "dict" then some false else none
 | .str _, n => if n = "str" then some true else if n = "int" \/ n = "list" \/ n = "tuple" \/ n = "bool" \/ n = "dict" then some false else none
 | .lst _, n => if n = "list" then some true else if n = "int" \/ n = "str" \/ n = "tuple" \/ n = "bool" \/ n = "dict" then some false else none
 | .tup _, n => if n = "tuple" then some true else if n = "int" \/ n = "str" \/ n = "list" \/ n = "bool" \/ n = "dict" then some false else none
 | _, _ => none
noncomputable def ab6 (t n : String) : Option Bool := if (Value.type t == Value.type n) = true then some true else if PySem.W.kitMeta n = true then (fastBuiltinMro t).map (·.contains (.type n)) else none
theorem lQ {K : PySem.W.Frag} {t n : String} : PySem.W.kitOne K (.type t) (.type n) = ab6 t n := rfl
theorem QO : (["NoneType", "bool", "int", "str", "list", "tuple"].all fun t => ["int", "str", "list", "tuple", "bool", "dict"].all fun n => ab6 t n == some (t == n || (t == "bool" && n == "int"))) = true := by decide +kernel
theorem qb {t n : String} (ht : t ∈ ["NoneType", "bool", "int", "str", "list", "tuple"]) (hn : n ∈ ["int", "str", "list", "tuple", "bool", "dict"]) : ab6 t n = some (t == n || (t == "bool" && n == "int")) := by
 have := QO
 rw [an0] at this
 have h := this t ht
 rw [an0] at h
 simpa using h n hn
noncomputable def tyD : L3.D -> Option String
 | .non => some "NoneType"
 | .bl _ => some "bool"
 | .int _ => some "int"
 | .str _ => some "str"
 | .lst _ => some "list"
 | .tup _ => some "tuple"
 | _ => none
theorem NT : lP X (.builtin "isinstance") (fun xs H Q => ∃ y n d t, xs = [y, .ty n] /\ bF X.K CL H d y /\ tyD d = some t /\ n ∈ ["int", "str", "list", "tuple", "bool", "dict"] /\ Q (.bl (t == n || (t == "bool" && n == "int"))) H) := by
 intro pins s σ H xs us Q I r h
 obtain ⟨y, n, d, t, rfl, rd, ht, hn, q⟩ := h
 obtain ⟨u, u2, rfl, ru, ru2⟩ := r.two
 cases (show u2 = Value.type n from ru2)
 have fin : ∀ tk, EP X pins σ Q (.bool (t == n || (t == "bool" && n == "int"))) { s with toks := tk } := fun tk => ⟨.bl _, H, I.tok tk, rfl, q⟩
 cases rd with
 | non => cases ht; cases (show u = Value.none from ru); exact aoL PySem.W.kitx_none I.F3 True.intro (lQ.trans (qb (by decide) hn)) (fun z => nomatch z) fin
 | bl c => cases ht; cases (show u = Value.bool c from ru); exact aoL PySem.W.kitx_bool I.F3 True.intro (lQ.trans (qb (by decide) hn)) (fun z => nomatch z) fin
 | int c => cases ht; obtain ⟨tt, e⟩ := (show ∃ t, u = Value.int c t from ru); cases e; exact aoL PySem.W.kitx_int I.F3 True.intro (lQ.trans (qb (by decide) hn)) (fun z => nomatch z) fin
 | str c => cases ht; obtain ⟨tt, e⟩ := (show ∃ t, u = Value.str c t from ru); cases e; exact aoL PySem.W.kitx_str I.F3 True.intro (lQ.trans (qb (by decide) hn)) (fun z => nomatch z) fin
 | @lst a ws _ hq rr =>
   cases ht
   cases (show u = Value.ref a from ru)
   obtain ⟨its, _, pl, _⟩ := I.list hq
   obtain ⟨o, n', e, c, _⟩ := pl
   exact aoL PySem.W.kitx_list I.F3 ⟨o, e, c⟩ (lQ.trans (qb (by decide) hn)) (fun z => nomatch z) fin
 | @tup a ws _ hq rr =>
   cases ht
   cases (show u = Value.ref a from ru)
   obtain ⟨its, _, pl, _⟩ := I.tuple hq
   obtain ⟨o, e, c, _⟩ := pl
   exact aoL PySem.W.kitx_tuple I.F3 ⟨o, e, c⟩ (lQ.trans (qb (by decide) hn)) (fun z => nomatch z) fin
 | ins _ _ => cases ht
 | any _ => cases ht
 | val _ => cases ht
 | om _ _ => cases ht
 | dct _ _ => cases ht
theorem CH {e : Expr} {d : L3.D} {t n : String} {nm : Str} {pp pq : Pos} (hm : X.mg "isinstance" = none) (hmn : X.mg nm = none) (hg : Gl X "isinstance") (hgn : Gl X nm) (hbn : bootBuiltins nm = some (.type n)) (hnm : nm ≠ "__name__") (hnd : (nm == ("__debug__" : Str)) = false) (h : cV X CL b e δ d δ1) (ht : tyD d = some t) (hn : n ∈ ["int", "str", "list", "tuple", "bool", "dict"])
   (hs : starEach [e, .Name nm pq] X.env = (false, eval e X.env) :: starEach [.Name nm pq] X.env := by exact bW rfl) :
   cG X CL b (.Call (.Name "isinstance" pp) [e, .Name nm pq] [] pos) δ (.sh (.bl (t == n || (t == "bool" && n == "int")))) δ1 := fun H Z σ ts vs Q S k =>
 dw (oB (NT (CL := CL)) hg hm boot_isinstance (cH eN (cH (Vc hgn hmn hbn (v := .ty n) rfl hnm hnd) fc) hs) (he := hs)) (h H Z σ ts vs _ S fun v H1 Z1 z1 k1 S1 r =>
   ⟨v, n, d, t, rfl, r, ht, hn, k _ H1 Z1 z1 k1 (S1.push (.bl _))⟩)
end
theorem aL {n : Nat} (h : Nat.ble n 1000 = true) : n <= sizeLine := anY (cA (amX h))
structure Vn (X : Cx) (i : Nat) (x : Str) : Prop where
 hi : X.N[i]? = some x
 hv : Vis X.env.scope x
 hd : (x == ("__debug__" : Str)) = false
 jy : (x == ("__classdict__" : Str)) = false
structure Ln (X : Cx) (i : Nat) (x : Str) : Prop extends Vn X i x where
 loc : Loc X.env.scope x
 hf : X.fn x = true \/ X.env.scope.names.lookup x = some .local
structure Gx (X : Cx) : Prop where
 nd : X.N.Nodup
 calm : X.calm = true
 xe : X.xe = fun _ _ => False
structure Fc (X : Cx) (CL : Str -> Addr) (x : Str) (k n : Nat) {A : Type} (arg : A -> List D) (Pre : A -> Prop) (res : A -> T) : Prop where
 ex : ∃ f fd ps, bL X.prog X.w X.K X.mg X.base fM k f fd ps (i7 X.K CL n arg Pre res) /\ X.mg x = some (.ref f) /\ PySem.W.keepIn X.K (.ref f) = true /\ Binds X.K fd ps []
 room : fJ k X.A
section
variable {X : Cx} {CL : Str -> Addr} {b : Bx} {δ δ1 δ2 : List (Option T)} {e e1 e2 : Expr} {es : List Expr} {d : L3.D} {t : T} {i : Nat} {x : Str} {pos pp : Pos} {D : dF} {gu : List Stmt} {ds : List L3.D}
theorem v_ (n : Vn X i x) (h : δ[i]? = some (some (.sh d)) := by rfl) : cG X CL b (.Name x pos) δ (.sh d) δ := abQ i n.hi n.hv n.hd n.jy h
theorem vF (n : Vn X i x) (h : δ[i]? = some (some t) := by rfl) : cG X CL b (.Name x pos) δ (.sh t.fE) (δ.set i (some (.sh t.fE))) := VA i n.hi n.hv n.hd n.jy h
theorem vM (n : Vn X i x) (h : δ[i]? = some (some t) := by rfl) : cG X CL b (.Name x pos) δ t (δ.set i none) := VB i n.hi n.hv n.hd n.jy h
theorem vB (n : Vn X i x) (h : δ[i]? = some (some t) := by rfl) : cV X CL b (.Name x pos) δ t.fE δ := abR i n.hi n.hv n.hd n.jy h
theorem dB {k : Int} (h : cV X CL b e δ (.int k) δ1) : cG X CL b (.UnaryOp .USub e pos) δ (.sh (.int (-k))) δ1 := fun H Z σ ts vs Q S kk =>
 dw (ae0 abx eN) (h H Z σ ts vs _ S fun v H1 Z1 z1 k1 S1 r => ⟨k, r.sc rfl, kk _ H1 Z1 z1 k1 (S1.push (.int _))⟩)
theorem vL (n : Vn X i x) (h : δ[i]? = some (some (.lst (ds.map T.sh))) := by rfl) : cV X CL b (.Name x pos) δ (.lst ds) δ := by
 have := vB (CL := CL) (b := b) (pos := pos) n h
 rwa [T.fE, jB] at this
theorem c_ {k n : Nat} {A : Type} {arg : A -> List L3.D} {Pre : A -> Prop} {res : A -> T} (a : A) (F : Fc X CL x k n arg Pre res) (hg : Gl X x) (h : BAv X CL b (e :: es) δ (arg a) δ1) (hp : Pre a) (hc : (res a).clean = true) (hn : (arg a).length = n := by rfl)
   (AU : (x == ("__debug__" : Str)) = false := by decide) (he : starEach (e :: es) X.env = (false, eval e X.env) :: starEach es X.env := by exact bW rfl) (ve : (backTo pos (starEach es X.env)).any (·.1) = false := by rfl) :
   cG X CL b (.Call (.Name x pp) (e :: es) [] pos) δ (res a) δ1 := by
 obtain ⟨f, fd, ps, F1, m, k, b⟩ := F.ex
 exact VF a F1 F.room m k b h hn hp hc hg AU he ve
theorem aW {pos' : Pos} (g : Gx X) (n : Ln X i x) (h : cG X CL b e δ t δ1) (k : fF X CL b gu (δ1.set i (some t)) D) (hl : i < δ1.length := by exact amX rfl) (hs : swapsWith e (some (.Name x pos')) pos.line X.env = pure false := by rfl) :
   fF X CL b (.Assign [.Name x pos'] e pos :: gu) δ D := eB (QM i h k hl g.nd n.hi n.loc hs n.hf)
theorem aU (h : cG X CL b e δ t δ1) (k : D.rt t δ1) : fF X CL b (.Return (some e) pos :: gu) δ D := eB (ab0 h k)
theorem cQ {p : Bool} {a c : List Stmt} (h : rD X CL b e δ p δ1) (h1 : p = true -> fF X CL b a δ1 { D with nx := fun δ2 => fF X CL b gu δ2 D }) (h2 : p = false -> fF X CL b c δ1 { D with nx := fun δ2 => fF X CL b gu δ2 D }) : fF X CL b (.If e a c pos :: gu) δ D := eB (afs h h1 h2)
theorem fF.to {D' : dF} (h : fF X CL b gu δ D') (h1 : ∀ δ, D'.nx δ -> D.nx δ) (h2 : ∀ t δ, D'.rt t δ -> D.rt t δ) (h3 : ∀ δ, D'.bk δ -> D.bk δ) (h4 : ∀ δ, D'.ct δ -> D.ct δ) : fF X CL b gu δ D := fun H Z σ ts vs E S M => h H Z σ ts vs E S (M.to h1 h2 h3 h4)
theorem BI {p : Bool} {a c : List Stmt} (J : List (Option T) -> Prop) (h : rD X CL b e δ p δ1) (h1 : p = true -> fF X CL b a δ1 { D with nx := J }) (h2 : p = false -> fF X CL b c δ1 { D with nx := J }) (k : ∀ δ2, J δ2 -> fF X CL b gu δ2 D) : fF X CL b (.If e a c pos :: gu) δ D :=
 cQ h (fun hp => fF.to (h1 hp) k (fun _ _ q => q) (fun _ q => q) (fun _ q => q)) (fun hp => fF.to (h2 hp) k (fun _ _ q => q) (fun _ q => q) (fun _ q => q))
theorem eZ {body : List Stmt} {pos' : Pos} (g : Gx X) (n : Ln X i x) (P : Nat -> List (Option T) -> Prop) (h : UZ X CL b (.Name x pos') e δ ds δ1) (h0 : P 0 δ1) (hl : ∀ j δ, P j δ -> i < δ.length)
   (hs : ∀ j d δ, ds[j]? = some d -> P j δ -> fF X CL b body (δ.set i (some (.sh d))) { nx := P (j + 1), rt := D.rt, bk := fun δ2 => fF X CL b gu δ2 D, ct := P (j + 1) }) (hd : ∀ δ, P ds.length δ -> fF X CL b gu δ D) (hq : ∀ x, foldedSetIterable e X.env x = pure x := by intro _; rfl) :
   fF X CL b (.For (.Name x pos') e body [] pos :: gu) δ D :=
 eB (ab5 (D := { D with nx := fun δ1 => fF X CL b gu δ1 D }) i P h h0 hl hs hd (by rw [g.xe]; exact PassesOwn.never) g.calm g.nd n.hi n.loc n.hf hq)
theorem jW {e : Expr} {o : Option Expr} {l : Nat} {env : Env} (h : ∃ c, swapsWith e o l env = pure c) : swapsWith e o l env = pure true \/ swapsWith e o l env = pure false := by
 obtain ⟨c, h⟩ := h
 cases c
 . exact .inr h
 . exact .inl h
theorem fh {scope : Scope} {Nc : List Str} {C : Addr} {s : Shared} {H : Hp} {fp : List Addr} (h1 : Nc[i]? = some x) (h2 : scope.names.lookup x = some .local) (hd : (x == ("__debug__" : Str)) = false := by decide) (jy : (x == ("__classdict__" : Str)) = false := by decide) : Vn (dW X scope Nc C s H fp) i x :=
 ⟨h1, .inl (lookup_relabel_local h2), hd, jy⟩
theorem gk {scope : Scope} {Nc : List Str} {C : Addr} {s : Shared} {H : Hp} {fp : List Addr} (h1 : Nc[i]? = some x) (h2 : scope.names.lookup x = some .free) (hd : (x == ("__debug__" : Str)) = false := by decide) (jy : (x == ("__classdict__" : Str)) = false := by decide) : Vn (dW X scope Nc C s H fp) i x := by
 refine ⟨h1, ?_, hd, jy⟩
 have q := fO (env := X.env) h2
 show (relabel scope X.env).names.lookup x = some .local \/ (relabel scope X.env).names.lookup x = some .cell \/ (relabel scope X.env).names.lookup x = some .free
 rw [show (relabel scope X.env).names.lookup x = _ from q]
 split
 . exact .inr (.inl rfl)
 . exact .inr (.inr rfl)
theorem jC {scope : Scope} {Nc : List Str} {C : Addr} {s : Shared} {H : Hp} {fp : List Addr} (h2 : scope.names.lookup x = some .globalImplicit) : Gl (dW X scope Nc C s H fp) x := by
 have q := fO (env := X.env) h2
 show (relabel scope X.env).names.lookup x = some .globalImplicit
 rw [show (relabel scope X.env).names.lookup x = _ from q]
 rfl
theorem mY {scope : Scope} {Nc : List Str} {C : Addr} {s : Shared} {H : Hp} {fp : List Addr} {k n : Nat} {A : Type} {arg : A -> List L3.D} {Pre : A -> Prop} {res : A -> T} (F : Fc X CL x k n arg Pre res) : Fc (dW X scope Nc C s H fp) CL x k n arg Pre res := ⟨F.ex, F.room⟩
end
section
variable {X : Cx} {CL : Str -> Addr} {b : Bx} {δ δ1 δ2 : List (Option T)} {e e1 e2 : Expr} {es : List Expr} {ds : List L3.D} {pos : Pos}
theorem QS {i j : Bool} (h1 : cV X CL b e1 δ (.bl i) δ1) (h2 : cV X CL b e2 δ1 (.bl j) δ2) : rD X CL b (.Compare e1 [.Eq] [e2] pos) δ (decide (i = j)) δ2 /\ cG X CL b (.Compare e1 [.Eq] [e2] pos) δ (.sh (.bl (decide (i = j)))) δ2 :=
 sU Qk h1 h2 rfl rfl (fun _ _ q => ⟨rfl, by rw [show decide (V.bl i = V.bl j) = decide (i = j) by simp]; exact q⟩) (jR _)
theorem VH (h : Ju X CL b es δ (ds.map T.sh) δ1) (hl : ds.length <= sizeLine := by exact aL rfl) : cG X CL b (.List es pos) δ (.sh (.lst ds)) δ1 := by
 have := Jv (dM (pos := pos) h (by simpa using hl))
 rwa [T.fE, jB] at this
end
section
variable {X : Cx} {CL : Str -> Addr} {b : Bx} {δ δ1 : List (Option T)} {e : Expr} {d : L3.D} {t : String} {pos pp pq : Pos}
theorem BJ : bootBuiltins "int" = some (.type "int") := by decide +kernel
theorem isI (hm : X.mg "isinstance" = none) (hmn : X.mg "int" = none) (hg : Gl X "isinstance") (hgn : Gl X "int") (h : cV X CL b e δ d δ1) (ht : tyD d = some t := by rfl) (hs : starEach [e, .Name "int" pq] X.env = (false, eval e X.env) :: starEach [.Name "int" pq] X.env := by exact bW rfl) :
   cG X CL b (.Call (.Name "isinstance" pp) [e, .Name "int" pq] [] pos) δ (.sh (.bl (t == "int" || (t == "bool" && "int" == "int")))) δ1 := CH hm hmn hg hgn BJ (by decide) (by decide) h ht (by decide) hs
theorem Jy : bootBuiltins "bool" = some (.type "bool") := by decide +kernel
theorem isB (hm : X.mg "isinstance" = none) (hmn : X.mg "bool" = none) (hg : Gl X "isinstance") (hgn : Gl X "bool") (h : cV X CL b e δ d δ1) (ht : tyD d = some t := by rfl) (hs : starEach [e, .Name "bool" pq] X.env = (false, eval e X.env) :: starEach [.Name "bool" pq] X.env := by exact bW rfl) :
   cG X CL b (.Call (.Name "isinstance" pp) [e, .Name "bool" pq] [] pos) δ (.sh (.bl (t == "bool" || (t == "bool" && "bool" == "int")))) δ1 := CH hm hmn hg hgn Jy (by decide) (by decide) h ht (by decide) hs
theorem bZ : bootBuiltins "list" = some (.type "list") := by decide +kernel
theorem isL (hm : X.mg "isinstance" = none) (hmn : X.mg "list" = none) (hg : Gl X "isinstance") (hgn : Gl X "list") (h : cV X CL b e δ d δ1) (ht : tyD d = some t := by rfl) (hs : starEach [e, .Name "list" pq] X.env = (false, eval e X.env) :: starEach [.Name "list" pq] X.env := by exact bW rfl) :
   cG X CL b (.Call (.Name "isinstance" pp) [e, .Name "list" pq] [] pos) δ (.sh (.bl (t == "list" || (t == "bool" && "list" == "int")))) δ1 := CH hm hmn hg hgn bZ (by decide) (by decide) h ht (by decide) hs
theorem GC : bootBuiltins "tuple" = some (.type "tuple") := by decide +kernel
end
noncomputable def iS (sc : Scope) (l : List (Str × NameKind)) : Bool := l.all fun p => sc.names.lookup p.1 == some p.2
theorem cX {sc : Scope} {l : List (Str × NameKind)} (h : iS sc l = true) (i : Nat) {x : Str} {k : NameKind} (hi : l[i]? = some (x, k)) : sc.names.lookup x = some k := by
 unfold iS at h
 rw [an0] at h
 exact beq_iff_eq.mp (h _ (ant hi))
inductive VJ (X : Cx) : List Nat -> List Str -> Prop where
 | nil : VJ X [] []
 | cons {i : Nat} {y : Str} {ix : List Nat} {ys : List Str} (n : Vn X i y) (k : X.env.kindOf y = some .cell \/ X.env.kindOf y = some .free) (r : VJ X ix ys) : VJ X (i :: ix) (y :: ys)
noncomputable def QT (scope : Scope) (x : Str) (GD : List Str) : Bool :=
 scope.kind == .function && scope.names.lookup x == some .local && GD.all (fun y => scope.names.lookup y == some .free) && decide ((x :: GD).Nodup) &&
   scope.names.all fun y => y.2 != .cell && (y.2 != .local || scope.names.lookup y.1 == some .local) && (y.2 != .free || (GD.contains y.1 && scope.names.lookup y.1 == some .free))
theorem cI {X : Cx} {scope : Scope} {x : Str} {ix : List Nat} {GD : List Str} (c : VJ X ix GD) (ok : QT scope x GD = true) : f6 X scope x (x :: GD) ix := by
 unfold QT at ok
 simp only [anE, an0, aof, beq_iff_eq] at ok
 obtain ⟨⟨⟨⟨h1, h2⟩, h3⟩, h4⟩, h5⟩ := ok
 have kc : ∀ y ∈ GD, X.env.kindOf y = some .cell \/ X.env.kindOf y = some .free := by
   clear h3 h4 h5
   induction c with
   | nil => intro y hy; cases hy
   | cons n k r ih =>
     intro y hy
     rcases am1.mp hy with e | hy
     . subst e; exact k
     . exact ih y hy
 refine ⟨h1, fun y hy e => ?_, h4, fun y hy e => ?_, h2, fun y hy e => ?_, ?_, fun i hi => ?_⟩
 . have := (h5 y hy).1.1
   rw [e] at this
   simp at this
 . have := (h5 y hy).1.2
   rw [e] at this
   simpa using this
 . have := (h5 y hy).2
   rw [e] at this
   simp at this
   exact ⟨this.2, kc _ this.1⟩
 . congr 1
   clear h3 h4 h5 kc
   induction c with
   | nil => rfl
   | cons n k r ih => rw [an6, n.hi, ← ih]
 . clear h4 h5 kc
   induction c with
   | nil => cases hi
   | @cons i' y ix ys n k r ih =>
     rcases am1.mp hi with e | hi
     . subst e; exact ⟨y, n.hi, h3 y am0⟩
     . exact ih (fun z hz => h3 z (am2 _ hz)) hi
noncomputable def D.yP : D -> Int
 | .int i => i
 | _ => 0
noncomputable def D.toS : D -> Str
 | .str x => x
 | _ => Str.empty
theorem fQ {bs : List Int} {k : Int} (h0 : 0 <= k) (h1 : k < bs.length) : sQ (bs.map D.int) k = some (.int (bs.getD k.toNat 0)) := by
 obtain ⟨j, rfl⟩ : ∃ j : Nat, k = j := ⟨k.toNat, by omega⟩
 refine bI ?_
 have hl : j < bs.length := by omega
 rw [anq, amW hl]
 simp [List.getD, hl]
theorem cj : ∀ (bs : List Int), D.cy (bs.map D.int) = true
 | [] => rfl
 | i :: r => by rw [ani, D.cy, cj r]; rfl
theorem jk {lo : Int} {n j : Nat} {d : D} (h : (b8 lo n)[j]? = some d) : d = .int (lo + j) /\ j < n := by
 have hl : j < n := by
   have := (anf.mp h).1
   simpa [b8] using this
 refine ⟨?_, hl⟩
 unfold b8 at h
 rw [anq, an7 hl] at h
 exact (anj h).symm
theorem gS {α : Type} (l : List α) : l.filter (fun _ => true) = l := by simp
theorem GF {K : PySem.W.Frag} {CL : Str -> Addr} {Z : Hp} : ∀ (ns : List Int), aH K CL Z (ns.map D.int) (ns.map V.int)
 | [] => .nil
 | n :: r => .cons (.int n) (GF r)
mutual
noncomputable def D.toPy : D -> PyData
 | .non => .none
 | .bl b => .bool b
 | .int i => .int i
 | .str x => .str x
 | .tup ds => .tuple (D.oK ds)
 | .lst ds => .list (D.oK ds)
 | .ins _ _ => .none
 | .om _ => .none
 | .dct _ => .none
 | .any => .none
 | .val _ => .none
noncomputable def D.oK : List D -> List PyData
 | [] => []
 | d :: ds => d.toPy :: D.oK ds
end
inductive kZ : Nat -> D -> Prop where
 | non (n : Nat) : kZ n .non
 | bl (n : Nat) (b : Bool) : kZ n (.bl b)
 | int (n : Nat) (i : Int) : kZ n (.int i)
 | str (n : Nat) (x : Str) (h : PyData.strOk x = true) : kZ n (.str x)
 | tup {n : Nat} {ds : List D} (h : ∀ d ∈ ds, kZ n d) : kZ (n + 1) (.tup ds)
 | lst {n : Nat} {ds : List D} (h : ∀ d ∈ ds, kZ n d) : kZ (n + 1) (.lst ds)
noncomputable def NV (a b : D) : Bool := PyData.eqv a.toPy b.toPy
theorem kZ.ab9 {n : Nat} : ∀ {ds : List D}, (∀ d ∈ ds, d.toPy.canLay0 = true /\ d.toPy.depth <= n) -> PyData.canLayAll0 (D.oK ds) = true /\ PyData.depthAll (D.oK ds) <= n
 | [], _ => ⟨by rw [D.oK, PyData.canLayAll0], by rw [D.oK, PyData.depthAll]; exact ans _⟩
 | d :: ds, h => by
   have h1 := h d am0
   have h2 := kZ.ab9 (ds := ds) fun e he => h e (am2 _ he)
   rw [D.oK, PyData.canLayAll0, PyData.depthAll, h1.1, h2.1]
   exact ⟨rfl, Nat.max_le.mpr ⟨h1.2, h2.2⟩⟩
theorem kZ.lay {n : Nat} {d : D} (h : kZ n d) : d.toPy.canLay0 = true /\ d.toPy.depth <= n := by
 induction h with
 | non n => exact ⟨by rw [D.toPy, PyData.canLay0], by rw [D.toPy, PyData.depth]; exact ans _⟩
 | bl n b => exact ⟨by rw [D.toPy, PyData.canLay0], by rw [D.toPy, PyData.depth]; exact ans _⟩
 | int n i => exact ⟨by rw [D.toPy, PyData.canLay0], by rw [D.toPy, PyData.depth]; exact ans _⟩
 | str n x hx => exact ⟨by rw [D.toPy, PyData.canLay0]; exact hx, by rw [D.toPy, PyData.depth]; exact ans _⟩
 | @tup n ds _ ih =>
   have := kZ.ab9 ih
   rw [D.toPy, PyData.canLay0, PyData.depth]
   exact ⟨this.1, by omega⟩
 | @lst n ds _ ih =>
   have := kZ.ab9 ih
   rw [D.toPy, PyData.canLay0, PyData.depth]
   exact ⟨this.1, by omega⟩
theorem sZ {n : Nat} {d : D} (h : kZ n d) : NV d d = true := SeqAt.eqv_refl _ h.lay.1
section
variable {X : Cx} {CL : Str -> Addr} {pins : List (Addr × Obj)} {σ : L2.St} {H : Hp} {s : Shared}
theorem CJ (I : L2.Inv X pins σ H s) {n : Nat} {d : D} {v : V} {u : Value} (hd : kZ n d) (q : bF X.K CL H d v) (r : RelV v u) : ∃ as, Reads s.heap u d.toPy as := by
 refine bF.rec (motive_1 := fun d v _ => ∀ (n : Nat) (u : Value), kZ n d -> RelV v u -> ∃ as, Reads s.heap u d.toPy as)
   (motive_2 := fun ds vs _ => ∀ (n : Nat) (us : List Value), (∀ d ∈ ds, kZ n d) -> Vals vs us -> ∃ as, ReadsAll s.heap us (D.oK ds) as) (motive_3 := fun _ _ _ => True) (motive_4 := fun _ _ _ => True) (motive_5 := fun _ _ _ => True)
   (fun _ _ _ r => ?non) (fun b _ _ _ r => ?bl) (fun i _ _ _ r => ?int) (fun x _ _ _ r => ?str) (fun _ _ _ hd _ => by cases hd) (fun _ _ _ hd _ => by cases hd) (fun hq _ ih n u hd r => ?tup) (fun hq _ ih n u hd r => ?lst) (fun _ _ _ _ _ hd _ => by cases hd) (fun _ _ _ _ _ hd _ => by cases hd) (fun _ _ _ _ _ hd _ => by cases hd)
   (fun _ _ _ r => ?nil) (fun _ _ ih ihs n us h r => ?cons) trivial (fun _ _ _ _ => trivial) trivial (fun _ _ _ _ => trivial) trivial (fun _ _ _ _ => trivial) q n u hd r
 case non => cases r; rw [D.toPy]; exact ⟨[], .none⟩
 case bl => cases r; rw [D.toPy]; exact ⟨[], .bool b⟩
 case int => obtain ⟨t, rfl⟩ := r; rw [D.toPy]; exact ⟨[], .int i t⟩
 case str => obtain ⟨t, rfl⟩ := r; rw [D.toPy]; exact ⟨[], .str x t⟩
 case tup =>
   cases hd with
   | tup hd =>
     cases r
     obtain ⟨its, rv, ⟨o, e, c, k, dt⟩, _⟩ := I.tuple hq
     obtain ⟨as, ra⟩ := ih _ _ hd rv
     rw [D.toPy]
     exact ⟨as, .tuple e c dt (by simpa using ra)⟩
 case lst =>
   cases hd with
   | lst hd =>
     cases r
     obtain ⟨its, rv, ⟨o, k, e, c, _, dt⟩, _⟩ := I.list hq
     obtain ⟨as, ra⟩ := ih _ _ hd rv
     rw [D.toPy]
     exact ⟨_, .list e c dt (by simpa using ra)⟩
 case nil => cases r; rw [D.oK]; exact ⟨[], .nil⟩
 case cons =>
   cases r with
   | cons r rs =>
     obtain ⟨as, ra⟩ := ih n _ (h _ am0) r
     obtain ⟨bs, rb⟩ := ihs n _ (fun e he => h e (am2 _ he)) rs
     rw [D.oK]
     exact ⟨as ++ bs, .cons ra rb⟩
end
section
variable {X : Cx} {CL : Str -> Addr} {b : Bx} {δ δ1 δ2 δ3 : List (Option T)} {e e1 e2 e3 : Expr} {d1 d2 : D} {ds : List D} {pos p2 pp : Pos} {n m : Nat} {i : Nat} {x : Str} {t : T} {gu : List Stmt} {DD : dF}
theorem acd (hu : X.A.units + 64 < cLine) : vd X (compareOp .Eq) (fun x y H Q => ∃ a c, bF X.K CL H a x /\ bF X.K CL H c y /\ kZ 60 a /\ kZ 60 c /\ Q (.bl (NV a c)) H) := by
 intro pins s σ H x y v u Q I rx ry h
 obtain ⟨a, c, ra, rc, da, dc, q⟩ := h
 obtain ⟨as, r1⟩ := CJ I da ra rx
 obtain ⟨bs, r2⟩ := CJ I dc rc ry
 exact SeqAt.rcAt_reads r1 r2 da.lay.1 dc.lay.1 (by have := da.lay.2; omega) X.prog X.w X.xe _ ⟨.bl _, H, I, rfl, q⟩
theorem ace (hu : X.A.units + 64 < cLine) : vd X (compareOp .NotEq) (fun x y H Q => ∃ a c, bF X.K CL H a x /\ bF X.K CL H c y /\ kZ 60 a /\ kZ 60 c /\ Q (.bl (!NV a c)) H) := by
 intro pins s σ H x y v u Q I rx ry h
 obtain ⟨a, c, ra, rc, da, dc, q⟩ := h
 obtain ⟨as, r1⟩ := CJ I da ra rx
 obtain ⟨bs, r2⟩ := CJ I dc rc ry
 exact SeqAt.rcNeAt_reads r1 r2 da.lay.1 dc.lay.1 (by have := da.lay.2; omega) X.prog X.w X.xe _ ⟨.bl _, H, I, rfl, q⟩
theorem afx {op : CmpOp} {f : Bool -> Bool} (ho : vd X (compareOp op) (fun x y H Q => ∃ a c, bF X.K CL H a x /\ bF X.K CL H c y /\ kZ 60 a /\ kZ 60 c /\ Q (.bl (f (NV a c))) H)) (h1 : cV X CL b e1 δ d1 δ1) (h2 : cV X CL b e2 δ1 d2 δ2) (k1 : kZ 60 d1) (k2 : kZ 60 d2)
   (hm : behindInMarks op e2 = false) : rD X CL b (.Compare e1 [op] [e2] pos) δ (f (NV d1 d2)) δ2 /\ cG X CL b (.Compare e1 [op] [e2] pos) δ (.sh (.bl (f (NV d1 d2)))) δ2 := by
 constructor
 . intro H Z σ ts vs Q S k
   refine Gu (pY ho eN eN hm) (h1 H Z σ ts vs _ S fun v1 H1 Z1 z1 k1' S1 r1 => h2 H1 Z1 σ ts vs _ S1 fun v2 H2 Z2 z2 k2' S2 r2 => ?_)
   exact ⟨d1, d2, r1.mono k2', r2, k1, k2, _, rfl, k H2 Z2 (z1.trans z2) (k1'.trans k2') S2⟩
 . intro H Z σ ts vs Q S k
   refine dw (pX ho eN eN hm) (h1 H Z σ ts vs _ S fun v1 H1 Z1 z1 k1' S1 r1 => h2 H1 Z1 σ ts vs _ S1 fun v2 H2 Z2 z2 k2' S2 r2 => ?_)
   exact ⟨d1, d2, r1.mono k2', r2, k1, k2, k _ H2 Z2 (z1.trans z2) (k1'.trans k2') (S2.push (.bl _))⟩
theorem acf (hu : X.A.units + 64 < cLine) (h1 : cV X CL b e1 δ d1 δ1) (h2 : cV X CL b e2 δ1 d2 δ2) (k1 : kZ 60 d1) (k2 : kZ 60 d2) : rD X CL b (.Compare e1 [.Eq] [e2] pos) δ (NV d1 d2) δ2 /\ cG X CL b (.Compare e1 [.Eq] [e2] pos) δ (.sh (.bl (NV d1 d2))) δ2 :=
 afx (f := fun b => b) (acd hu) h1 h2 k1 k2 (jR _)
theorem CK (hu : X.A.units + 64 < cLine) (h1 : cV X CL b e1 δ d1 δ1) (h2 : cV X CL b e2 δ1 d2 δ2) (k1 : kZ 60 d1) (k2 : kZ 60 d2) : rD X CL b (.Compare e1 [.NotEq] [e2] pos) δ (!NV d1 d2) δ2 /\ cG X CL b (.Compare e1 [.NotEq] [e2] pos) δ (.sh (.bl (!NV d1 d2))) δ2 :=
 afx (f := fun b => !b) (ace hu) h1 h2 k1 k2 (jR _)
noncomputable def cutD {α : Type} (xs : List α) (lo hi : Option Int) : List α := (xs.drop (HT.vf xs.length 0 lo)).take (HT.vf xs.length xs.length hi - HT.vf xs.length 0 lo)
theorem aH.drop {K : PySem.W.Frag} {Z : Hp} : ∀ {ds : List L3.D} {vs : List V} (n : Nat), aH K CL Z ds vs -> aH K CL Z (ds.drop n) (vs.drop n)
 | _, _, 0, r => r
 | _, _, _ + 1, .nil => .nil
 | _, _, n + 1, .cons _ t => aH.drop n t
theorem aH.take {K : PySem.W.Frag} {Z : Hp} : ∀ {ds : List L3.D} {vs : List V} (n : Nat), aH K CL Z ds vs -> aH K CL Z (ds.take n) (vs.take n)
 | _, _, 0, _ => .nil
 | _, _, _ + 1, .nil => .nil
 | _, _, n + 1, .cons r t => .cons r (aH.take n t)
theorem aH.cut {K : PySem.W.Frag} {Z : Hp} {ds : List L3.D} {vs : List V} (r : aH K CL Z ds vs) (lo hi : Option Int) : aH K CL Z (cutD ds lo hi) (Nt vs lo hi) := by
 unfold cutD Nt
 rw [r.length]
 exact (r.drop _).take _
theorem tu : ∀ {ds : List L3.D}, D.cy ds = true -> ∀ d ∈ ds, d.kW = true
 | [], _, _, h => by cases h
 | d :: ds, k, e, h => by
   rw [D.cy, anE] at k
   rcases am1.mp h with h | h
   . subst h; exact k.1
   . exact tu k.2 e h
theorem mZ : ∀ {ds : List L3.D}, (∀ d ∈ ds, d.kW = true) -> D.cy ds = true
 | [], _ => rfl
 | d :: ds, h => by rw [D.cy, h d am0, mZ fun e he => h e (am2 _ he)]; rfl
theorem VL {α : Type} {xs : List α} {lo hi : Option Int} {x : α} (h : x ∈ cutD xs lo hi) : x ∈ xs := List.mem_of_mem_drop (aoQ h)
noncomputable def TOv (X : Cx) (CL : Str -> Addr) (b : Bx) (e : Option Expr) (δ : List (Option T)) (k : Option Int) (δ' : List (Option T)) : Prop :=
 ∃ t, PO X e t /\ ∀ (H Z : Hp) (σ : L2.St) (ts : List T) (vs : List V) (Q : Option Int -> Hp -> Prop), cE X.K CL b H Z δ σ ts vs -> (∀ H' Z', aG Z Z' -> aG H H' -> cE X.K CL b H' Z' δ' σ ts vs -> Q k H') -> t σ H Q
theorem xO : TOv X CL b none δ none δ := ⟨_, Vq, fun H Z σ ts vs Q S k => k H Z (.refl _) (.refl _) S⟩
theorem xP {k : Int} (h : cV X CL b e δ (.int k) δ1) : TOv X CL b (some e) δ (some k) δ1 := ⟨_, Vr eN, fun H Z σ ts vs Q S kk => h H Z σ ts vs _ S fun v H1 Z1 z1 k1 S1 r => ⟨k, r.sc rfl, kk H1 Z1 z1 k1 S1⟩⟩
theorem yQ {lo hi : Option Expr} {l h : Option Int} (h1 : cV X CL b e δ (.lst ds) δ1) (hi1 : D.cy ds = true) (h2 : TOv X CL b lo δ1 l δ2) (h3 : TOv X CL b hi δ2 h δ3) : cG X CL b (.Subscript e (.Slice lo hi none p2) pos) δ (.lst ((cutD ds l h).map T.sh)) δ3 := fun H Z σ ts vs Q S k => by
 obtain ⟨t2, po2, w2⟩ := h2
 obtain ⟨t3, po3, w3⟩ := h3
 refine dw (Gj Vs eN po2 po3) (h1 H Z σ ts vs _ S fun v H1 Z1 z1 k1 S1 r => w2 H1 Z1 σ ts vs _ S1 fun H2 Z2 z2 k2 S2 => w3 H2 Z2 σ ts vs _ S2 fun H3 Z3 z3 k3 S3 => ?_)
 have r' := r.mono (k2.trans k3)
 cases r' with
 | lst hq rr =>
   refine ⟨_, _, rfl, hq, fun p hp => ?_⟩
   have rc := aH.kW S3.tp (mZ fun d hd => tu hi1 d (VL hd)) (rr.cut l h)
   obtain ⟨c, S4⟩ := (cE.sV rc S3).oJ (g0 := []) (by simp [rc.length]) hp
   exact k _ _ _ (z1.trans (z2.trans z3)) (k1.trans (k2.trans (k3.trans c))) S4
theorem BK (hm : X.mg "tuple" = none) (h : cV X CL b e δ (.lst ds) δ1) (hi : D.cy ds = true) (hg : Gl X "tuple") (hs : starEach [e] X.env = (false, eval e X.env) :: starEach [] X.env := by exact bW rfl) : cG X CL b (.Call (.Name "tuple" pp) [e] [] pos) δ (.sh (.tup ds)) δ1 := fun H Z σ ts vs Q S k =>
 dw (jP AW hg hm GC (cH eN fc hs) (he := hs)) (h H Z σ ts vs _ S fun v H1 Z1 z1 k1 S1 r => by
   cases r with
   | lst hq rr =>
     refine ⟨_, _, rfl, .inl ⟨hq, fun l hl => ?_⟩⟩
     obtain ⟨a, c, S2⟩ := (cE.sV (aH.kW S1.tp hi rr) S1).QI (by simp [rr.length]) hl
     obtain ⟨Z3, z3, S3⟩ := S2.QG
     rw [T.fE, jB] at S3
     exact k _ _ Z3 (z1.trans (a.trans z3)) (k1.trans c) S3)
theorem kD {tl UY : List T} {pa pb : Pos} (n : Vn X i x) (h0 : δ[i]? = some (some (.lst UY))) (h : cG X CL b e δ t δ1) (h1 : δ1[i]? = some (some (.lst tl))) (hl : tl.length <= 1000000) (k : fF X CL b gu (δ1.set i (some (.lst (tl ++ [t])))) DD)
   (yJ : attributeBase (.Name x pp) "append" X.env (eval (.Name x pp) X.env) = eval (.Name x pp) X.env := by rfl)
   (Js : ((backTo pb (starEach [e] X.env)).all (fun x => !x.1) && (backToKw pb (keywordEach [] X.env)).all (fun x => x.1.isSome) && decide ([e].length + ([] : List Keyword).length + (if ([] : List Keyword).isEmpty then 0 else 1) < 30)) = true := by rfl)
   (hline : (pa.endLine == pb.line) = true := by rfl) (hs : starEach [e] X.env = (false, eval e X.env) :: starEach [] X.env := by exact bW rfl) (xD : swapsWith (.Call (.Attribute (.Name x pp) "append" pa) [e] [] pb) none pos.line X.env = pure false := by rfl) :
   fF X CL b (.Expr (.Call (.Attribute (.Name x pp) "append" pa) [e] [] pb) pos :: gu) δ DD :=
 eB (ab3 i h0 h h1 (Nat.lt_of_le_of_lt hl (by rw [anG]; decide)) k n.hi n.hv n.hd n.jy yJ Js hline hs xD)
theorem aax {tl : List T} {k : Int} {j : Nat} {ps : Pos} (n : Vn X i x) (h : cG X CL b e δ t δ1) (h2 : cV X CL b e2 δ1 (.int k) δ1) (h1 : δ1[i]? = some (some (.lst tl))) (hk : Nu tl.length k = some j) (kk : fF X CL b gu (δ1.set i (some (.lst (tl.set j t)))) DD)
   (ha : ∀ v, assign (.Subscript (.Name x pp) e2 ps) X.env v = (do
     let ov ← holding [v] (eval (.Name x pp) X.env)
     let iv ← holding [v, ov] (eval e2 X.env)
     standAt ps
     holding [v, ov, iv] (setItem ov iv v)
     release [v, ov, iv] []) := by intro _; rfl)
   (hs : swapsWithSole [.Subscript (.Name x pp) e2 ps] e pos.line X.env = pure false := by rfl) (hw : swappedStores [.Subscript (.Name x pp) e2 ps] e X.env = pure none := by rfl) (ha1 : (assignEach [.Subscript (.Name x pp) e2 ps] X.env).map (·.2) = [assign (.Subscript (.Name x pp) e2 ps) X.env] := by rfl) :
   fF X CL b (.Assign [.Subscript (.Name x pp) e2 ps] e pos :: gu) δ DD := by
 refine eB fun H Z σ ts vs E S M => xC (abm eN (abl (ow n.hi n.hv n.hd n.jy) eN set_list ha) hs hw ha1) (h H Z σ ts vs _ S fun v H1 Z1 z1 k1 S1 => ?_)
 have hj : j < tl.length := (Cv hk).2.1
 obtain ⟨v0, e0, _⟩ := S1.look h1
 refine ⟨v0, e0, ?_⟩
 refine h2 H1 Z1 σ _ _ _ S1 fun v2 H2 Z2 z2 k2 S2 r2 => ?_
 obtain ⟨a, us, ea, QH, hu, S3⟩ := S2.setAt h1 hj
 rw [e0] at ea
 cases ea
 exact ⟨a, us, k, j, rfl, r2.sc rfl, QH, by rw [hu]; exact hk, M.nx _ σ _ Z2 (z1.trans z2) S3 kk⟩
theorem cT {n : Nat} (hn : ds.length = n) (hm : X.mg "len" = none) (h : cV X CL b e δ (.lst ds) δ1) (hg : Gl X "len") (hs : starEach [e] X.env = (false, eval e X.env) :: starEach [] X.env := by exact bW rfl) : cG X CL b (.Call (.Name "len" pp) [e] [] pos) δ (.sh (.int n)) δ1 := by
 subst hn
 exact sW hm h hg hs
theorem cF (h : cG X CL b e δ (.lst (ds.map T.sh)) δ1) : cV X CL b e δ (.lst ds) δ1 := by
 have := aaq h
 rwa [T.fE, jB] at this
theorem VM {ds' : List L3.D} (h : cG X CL b e δ (.lst (ds.map T.sh)) δ1) (e' : ds = ds') : cV X CL b e δ (.lst ds') δ1 := e' ▸ cF h
end
theorem dN {α : Type} {f : α -> D} {l : List α} {k : Int} (z : α) (h0 : 0 <= k) (h1 : k < l.length) : sQ (l.map f) k = some (f (l.getD k.toNat z)) := by
 obtain ⟨j, rfl⟩ : ∃ j : Nat, k = j := ⟨k.toNat, by omega⟩
 refine bI ?_
 have hl : j < l.length := by omega
 rw [anq, amW hl]
 simp [List.getD, hl]
theorem GH {α β : Type} {f : α -> β} {l : List α} {lo hi : Option Int} : cutD (l.map f) lo hi = (cutD l lo hi).map f := by
 unfold cutD
 rw [amY, List.map_take, List.map_drop]
noncomputable def VN (l : Bool) (ds : List D) : D := match l with
 | true => .lst ds
 | false => .tup ds
theorem jX {α : Type} {f : α -> D} (h : ∀ a, (f a).kW = true) : ∀ (l : List α), D.cy (l.map f) = true
 | [] => rfl
 | a :: l => by rw [ani, D.cy, h a, jX h l]; rfl
section
variable {X : Cx} {CL : Str -> Addr} {b : Bx} {δ δ1 δ2 δ3 : List (Option T)} {e e1 e2 e3 : Expr} {es : List Expr} {d d1 d2 : D} {ds : List D} {pos p2 pp : Pos} {n m : Nat} {i : Nat} {x : Str} {t : T} {gu : List Stmt} {DD : dF}
theorem VP {k : Int} {u : Tok} (hm : X.mg x = some (.int k u)) (hg : Gl X x) (hd : (x == ("__debug__" : Str)) = false := by decide) : cG X CL b (.Name x pos) δ (.sh (.int k)) δ := fun H Z σ ts vs Q S kk =>
 dw (Vb (v := .int k) hg hm ⟨u, rfl⟩ hd) (kk _ H Z (.refl _) (.refl _) (S.push (.int k)))
theorem g6 {k : Int} (hm : ∃ u, X.mg x = some (.int k u)) (hg : Gl X x) (hd : (x == ("__debug__" : Str)) = false := by decide) : cG X CL b (.Name x pos) δ (.sh (.int k)) δ := by
 obtain ⟨u, hm⟩ := hm
 exact VP hm hg hd
theorem vE (n : Vn X i x) (h : δ[i]? = some (some t)) (e : t.fE = d) : cV X CL b (.Name x pos) δ d δ := e ▸ vB n h
theorem tD (x : Str) : ∀ l : List Str, inV (.str x) (l.map V.str) = decide (x ∈ l)
 | [] => by simp [inV]
 | y :: l => by
   have ih := tD x l
   unfold inV at ih ⊢
   rw [ani, an4, ih]
   have e : ∀ a c : Str, Qu (.str a) (.str c) = (a == c) := fun _ _ => rfl
   rw [e]
   by_cases h : y = x
   . subst h; simp
   . have h' : ¬ x = y := fun e => h e.symm
     simp [h, h']
theorem aH.strs {K : PySem.W.Frag} {Z : Hp} : ∀ {l : List Str} {vs : List V}, aH K CL Z (l.map D.str) vs -> vs = l.map V.str
 | [], _, r => by
   have r' : aH K CL Z [] _ := r
   cases r'; rfl
 | y :: l, _, r => by
   have r' : aH K CL Z (D.str y :: l.map D.str) _ := r
   cases r' with
   | cons r1 r2 => rw [r1.sc rfl, aH.strs r2]; rfl
theorem g7 : ∀ l : List Str, (l.map V.str).all rC = true
 | [] => rfl
 | y :: l => by rw [ani, ao1, g7 l]; rfl
theorem afz {l : List Str} (h1 : cV X CL b e1 δ (.str x) δ1) (h2 : cV X CL b e2 δ1 (.tup (l.map .str)) δ2) (hm : behindInMarks .In e2 = false) :
   rD X CL b (.Compare e1 [.In] [e2] pos) δ (decide (x ∈ l)) δ2 /\ cG X CL b (.Compare e1 [.In] [e2] pos) δ (.sh (.bl (decide (x ∈ l)))) δ2 := by
 constructor
 . intro H Z σ ts vs Q S k
   refine Gu (pY qa eN eN hm) (h1 H Z σ ts vs _ S fun v1 H1 Z1 z1 k1 S1 r1 => h2 H1 Z1 σ ts vs _ S1 fun v2 H2 Z2 z2 k2 S2 r2 => ?_)
   cases r2 with
   | tup hq rr =>
     have e := rr.strs
     subst e
     refine ⟨_, _, rfl, .inr hq, by rw [r1.sc rfl]; rfl, g7 l, _, rfl, ?_⟩
     rw [amV ane, r1.sc rfl, tD]
     exact k H2 Z2 (z1.trans z2) (k1.trans k2) S2
 . intro H Z σ ts vs Q S k
   refine dw (pX qa eN eN hm) (h1 H Z σ ts vs _ S fun v1 H1 Z1 z1 k1 S1 r1 => h2 H1 Z1 σ ts vs _ S1 fun v2 H2 Z2 z2 k2 S2 r2 => ?_)
   cases r2 with
   | tup hq rr =>
     have e := rr.strs
     subst e
     refine ⟨_, _, rfl, .inr hq, by rw [r1.sc rfl]; rfl, g7 l, ?_⟩
     rw [amV ane, r1.sc rfl, tD]
     exact k _ H2 Z2 (z1.trans z2) (k1.trans k2) (S2.push (.bl _))
theorem QV {l : List Str} {j : Nat} (h1 : cV X CL b e1 δ (.str x) δ1) (h2 : Ju X CL b es δ1 ((l.map D.str).map T.sh) δ2) (hl : (l.map D.str).length <= sizeLine := by exact aL rfl) :
   rD X CL b (.Compare e1 [.In] [.Tuple es j p2] pos) δ (decide (x ∈ l)) δ2 /\ cG X CL b (.Compare e1 [.In] [.Tuple es j p2] pos) δ (.sh (.bl (decide (x ∈ l)))) δ2 := afz h1 (ah (cW h2 hl)) rfl
theorem VQ {p : Bool} (hm : X.mg "int" = none) (h : cV X CL b e δ (.bl p) δ1) (hg : Gl X "int") (hs : starEach [e] X.env = (false, eval e X.env) :: starEach [] X.env := by exact bW rfl) : cG X CL b (.Call (.Name "int" pp) [e] [] pos) δ (.sh (.int (if p then 1 else 0))) δ1 := fun H Z σ ts vs Q S k =>
 dw (jP Nm hg hm BJ (cH eN fc hs) (he := hs)) (h H Z σ ts vs _ S fun v H1 Z1 z1 k1 S1 r => .inr ⟨p, by rw [r.sc rfl], k _ H1 Z1 z1 k1 (S1.push (.int _))⟩)
noncomputable def yR : Expr -> Option Str
 | .Constant (.str x) _ _ => some x
 | _ => none
noncomputable def vo : List Expr -> Option (List Str)
 | [] => some []
 | e :: es => (yR e).bind fun x => (vo es).map (x :: ·)
theorem GJ {e : Expr} {x : Str} (h : yR e = some x) : ∃ j p, e = .Constant (.str x) j p := by
 unfold yR at h
 split at h
 . cases h; exact ⟨_, _, rfl⟩
 . cases h
theorem xQ : ∀ {es : List Expr} {l : List Str}, vo es = some l -> Ju X CL b es δ ((l.map D.str).map T.sh) δ
 | [], l, h => by
   have e : l = [] := (anj h).symm
   subst e
   exact dJ
 | e :: es, l, h => by
   rw [vo] at h
   obtain ⟨x, hx, h⟩ := Option.bind_eq_some_iff.mp h
   obtain ⟨l', hl, rfl⟩ := Option.map_eq_some_iff.mp h
   obtain ⟨j, p, rfl⟩ := GJ hx
   exact gC bB (xQ hl)
end
theorem QW {α : Type} {l : List α} {k : Int} (z : α) (h0 : 0 <= k) (h1 : k < l.length) : sQ l k = some (l.getD k.toNat z) := by
 obtain ⟨j, rfl⟩ : ∃ j : Nat, k = j := ⟨k.toNat, by omega⟩
 refine bI ?_
 have hl : j < l.length := by omega
 rw [amW hl]
 simp [List.getD, hl]
theorem str_len (x y : Str) : (x ++ y).length = x.length + y.length := by
 show (x.cps ++ y.cps).size = _
 rw [Array.size_append]; rfl
theorem vp (x y : Str) (h1 : PyData.strOk x = true) (h2 : PyData.strOk y = true) : PyData.strOk (x ++ y) = true := by
 unfold PyData.strOk at *
 show (x.cps ++ y.cps).all _ = true
 rw [Array.all_append, h1, h2]; rfl
theorem oM (l : List Int) : T.fN ((l.map D.int).map T.sh) = true := by
 rw [anF]
 induction l with
 | nil => rfl
 | cons i r ih => rw [ani, T.fN, ih]; rfl
section
variable {X : Cx} {tg : Expr}
end
section
variable {X : Cx} {CL : Str -> Addr} {b : Bx} {δ δ1 : List (Option T)} {e : Expr} {ds : List D} {tg : Expr} {pr pc : Pos}
end
section
variable {K : PySem.W.Frag} {CL : Str -> Addr} {b : Bx} {H Z : Hp} {δ : List (Option T)} {σ : L2.St} {ts tt : List T} {vs : List V} {t : T}
end
section
variable {X : Cx} {CL : Str -> Addr} {b : Bx} {δ : List (Option T)} {tt : List T} {t : T} {i : Nat} {x : Str} {pp pc ps : Pos} {kj : Nat}
end
section
variable {X : Cx} {CL : Str -> Addr} {b : Bx} {δ δ1 : List (Option T)} {e : Expr} {ds : List D} {t : T} {i : Nat} {x : Str} {pos pp p2 : Pos} {kj : Nat}
theorem vFL (n : Vn X i x) (h : δ[i]? = some (some (.lst (ds.map T.sh)))) : cG X CL b (.Name x pos) δ (.sh (.lst ds)) (δ.set i (some (.sh (.lst ds)))) := by
 have := vF (CL := CL) (b := b) (pos := pos) n h
 rwa [T.fE, jB] at this
end
section
variable {K : PySem.W.Frag} {CL : Str -> Addr} {b : Bx} {H H' Z Z' : Hp} {δ δ' : List (Option T)} {σ σ' : L2.St} {ts tl : List T} {vs us : List V} {t : T} {v : V}
theorem oF.get : ∀ {fs : List (Str × D)} {gs : List (Str × V)} {f : Str} {d : D}, oF K CL Z fs gs -> fs.lookup f = some d -> ∃ v, gs.lookup f = some v /\ bF K CL Z d v
 | _, _, _, _, .nil, e => by simp at e
 | _, _, f, d, .cons (x := x) r t, e => by
   rw [anx] at e ⊢
   cases h : f == x with
   | true => rw [h] at e; cases e; exact ⟨_, rfl, r⟩
   | false => rw [h] at e; exact oF.get t e
noncomputable def AX (f : Str) (t : T) : List (Str × T) -> List (Str × T)
 | [] => [(f, t)]
 | (g, x) :: r => if g = f then (g, t) :: r else (g, x) :: AX f t r
theorem d9.length {fs : List (Str × T)} {gs : List (Str × V)} {fp : List Addr} (h : d9 K CL H Z fs gs fp) : fs.length = gs.length :=
 d9.ind (P := fun d v _ => d.length = v.length) rfl (fun _ _ i => congrArg (· + 1) i) h
theorem d9.put {f : Str} {g : List Addr} (q : dm K CL H Z t v g) : ∀ {fs : List (Str × T)} {gs : List (Str × V)} {fp : List Addr}, d9 K CL H Z fs gs fp →
   ∃ L6 f', d9 K CL H Z (AX f t fs) (jS f v gs) L6 /\ f'.Sublist fp /\ L6.Perm (g ++ f')
 | _, _, _, .nil => ⟨g ++ [], [], .cons q .nil, anC _, aoY _⟩
 | _, _, _, .cons (x := x) (fp := fp) (gp := gp) r rs => by
   rw [AX, jS]
   by_cases h : x = f
   . rw [amZ h, amZ h]
     exact ⟨g ++ gp, gp, .cons q rs, aob _ _, aoY _⟩
   . rw [amV h, amV h]
     obtain ⟨p, p', h1, h2, h3⟩ := d9.put (f := f) q rs
     refine ⟨fp ++ p, fp ++ p', .cons r h1, anJ (anC _) h2, (anV fp h3).trans ?_⟩
     rw [← am8, ← am8]
     exact anQ.append_right p'
theorem cE.QX {a : Addr} {o : HO} {L6 gp fp gp' : List Addr} {δ2 : List (Option T)} (hm : jv o = false) (S : cE K CL b H Z δ σ ts vs) (own : ∀ c ∈ fp ++ gp, Z c = none /\ b.B c = none) (ha : a ∈ fp ++ gp)
   (e' : gj K CL (upd H a o) Z δ2 σ L6) (r' : bE K CL (upd H a o) Z tl us gp') (pm : (L6 ++ gp').Nodup) (sub : ∀ c ∈ L6 ++ gp', c ∈ fp ++ gp) :
   cE K CL b (upd H a o) Z δ2 σ tl us := by
 have oa := own a ha
 refine ⟨⟨_, _, e', r', pm, fun c hc => own c (sub c hc)⟩, fun c u q => ?_, S.zz, fun c u q => ?_, S.new, fun c u q i => ?_, S.tab⟩
 . rw [aA (aK q oa.2)]; exact S.bh c u q
 . rw [aA (aK q oa.1)]; exact S.zh c u q
 . by_cases hc : c = a
   . subst hc; rw [aV] at q; cases q; rw [hm] at i; cases i
   . rw [aA hc] at q; exact S.tp c u q i
theorem cE.setField {i : Nat} {x : Addr} {c f : Str} {fs : List (Str × T)} (S : cE K CL b H Z δ σ (t :: ts) (v :: vs)) (hi : δ[i]? = some (some (.pin x (.ins c fs)))) :
   ∃ dx gs, σ[i]? = some (some (.ref x)) /\ H x = some (.ins (CL c) dx gs) /\ gs.length = fs.length /\ cE K CL b (upd H x (.ins (CL c) dx (jS f v gs))) Z (δ.set i (some (.pin x (.ins c (AX f t fs))))) σ ts vs := by
 obtain ⟨fp, gp, e, r, nd, k⟩ := S.rep
 obtain ⟨v0, f1, f2, f3, hv, wR, rt, put, _⟩ := e.get hi
 subst wR
 cases rt with
 | pin rt =>
 cases rt with
 | @ins a dx _ gs _ g ha rs =>
   cases r with
   | @cons _ _ _ _ ft gr q1 q2 =>
     have ne : ∀ c ∈ (f1 ++ (g ++ f3)) ++ (ft ++ gr), c ≠ x := fun c hc e => by
       subst e
       have hp : ((f1 ++ ((c :: g) ++ f3)) ++ (ft ++ gr)).Perm (c :: ((f1 ++ (g ++ f3)) ++ (ft ++ gr))) := by
         rw [anw, ← anw]
         exact (aos.append_right _)
       exact (aoa.mp (hp.nodup_iff.mp nd)).1 hc
     refine ⟨dx, gs, hv, ha, rs.length.symm, ?_⟩
     have q1' := q1.mono (H' := upd H x (.ins (CL c) dx (jS f v gs))) (.refl _) fun c hc => aA (ne c (by simp [hc]))
     have rs' := rs.mono (H' := upd H x (.ins (CL c) dx (jS f v gs))) (.refl _) fun c hc => aA (ne c (by simp [hc]))
     obtain ⟨p, p', h1, h2, h3⟩ := d9.put (f := f) q1' rs'
     have r1 : dm K CL (upd H x (.ins (CL c) dx (jS f v gs))) Z (.pin x (.ins c (AX f t fs))) (.ref x) (x :: p) := .pin (.ins aV h1)
     have e2 := put (H' := upd H x (.ins (CL c) dx (jS f v gs))) (.refl _) (fun c hc => aA (ne c (by
       rcases am3.mp hc with h | h
       . simp [h]
       . simp [h]))) r1
     rw [sX hv] at e2
     have hp : ((f1 ++ ((x :: p) ++ f3)) ++ gr).Perm ((f1 ++ ((x :: p') ++ f3)) ++ (ft ++ gr)) := by
       have h4 : ((f1 ++ ((x :: p) ++ f3)) ++ gr).Perm ((f1 ++ ((x :: (ft ++ p')) ++ f3)) ++ gr) := ((h3.cons x).append_right f3).append_left f1 |>.append_right gr
       refine h4.trans ?_
       simp only [anw, am8]
       refine anV f1 (List.Perm.cons x ?_)
       have := (anQ (l₁ := ft) (l₂ := p' ++ f3)).append_right gr
       simp only [am8] at this
       exact this
     have sb : ((f1 ++ ((x :: p') ++ f3)) ++ (ft ++ gr)).Sublist ((f1 ++ ((x :: g) ++ f3)) ++ (ft ++ gr)) :=
       anJ (anJ (anC _) (anJ (List.Sublist.cons₂ x h2) (anC _))) (anC _)
     exact S.QX rfl k (by simp) e2 (q2.mono (.refl _) fun c hc => aA (ne c (by simp [hc]))) (hp.nodup_iff.mpr (nd.sublist sb)) fun c hc => sb.subset (hp.mem_iff.mp hc)
end
section
variable {X : Cx} {CL : Str -> Addr} {b : Bx} {δ δ1 δ2 : List (Option T)} {e : Expr} {es : List Expr} {t : T} {d : D} {c f x : Str} {fs : List (Str × D)} {pos pp : Pos} {DD : dF} {i : Nat}
theorem gn (hc : wM X.K (CL c)) (n : bD X.K (CL c) f) (h : cV X CL b e δ (.ins c fs) δ1) (hl : fs.lookup f = some d) (hb : attributeBase e f X.env (eval e X.env) = eval e X.env := by rfl) :
   cV X CL b (.Attribute e f pos) δ d δ1 := fun H Z σ ts vs Q S k =>
 dw (Qm eN hb) (h H Z σ ts vs _ S fun v H' Z' z s S' r => by
   cases r with
   | @ins a dx _ gs _ ha rf =>
     obtain ⟨w, hw, rw'⟩ := rf.get hl
     exact ⟨a, CL c, dx, gs, w, rfl, ha, hc, n, hw, k w H' Z' z s S' rw'⟩)
theorem CM (hc : wM X.K (CL c)) (n : bD X.K (CL c) f) (h : cG X CL b e δ (.sh (.ins c fs)) δ1) (hl : fs.lookup f = some d) (hb : attributeBase e f X.env (eval e X.env) = eval e X.env := by rfl) :
   cG X CL b (.Attribute e f pos) δ (.sh d) δ1 := fun H Z σ ts vs Q S k =>
 dw (Qm eN hb) (h H Z σ ts vs _ S fun v H' Z' z s S' => by
   obtain ⟨fp, gp, _, r, _, _⟩ := S'.rep
   cases r with
   | cons r _ =>
     cases r with
     | sh r =>
       cases r with
       | @ins a dx _ gs _ ha rf =>
         obtain ⟨w, hw, rw'⟩ := rf.get hl
         exact ⟨a, CL c, dx, gs, w, rfl, S'.zh _ _ ha, hc, n, hw, k w H' Z' z s (S'.pop.push rw')⟩)
theorem tE {gu : List Stmt} {a : Addr} {gs : List (Str × T)} {pa pb pc : Pos} (hc : wM X.K (CL c)) (n : bD X.K (CL c) f) (nm : Vn X i x) (h : cG X CL b e δ t δ1) (h1 : δ1[i]? = some (some (.pin a (.ins c gs)))) (hl : gs.length < 1000)
   (k : fF X CL b gu (δ1.set i (some (.pin a (.ins c (AX f t gs))))) DD) (hs : swapsWith e (some (.Attribute (.Name x pa) f pb)) pc.line X.env = pure false := by rfl) :
   fF X CL b (.Assign [.Attribute (.Name x pa) f pb] e pc :: gu) δ DD := eB fun H Z σ ts vs E S M =>
 xC (aby (ow nm.hi nm.hv nm.hd nm.jy) eN hs) (h H Z σ ts vs _ S fun v H' Z' z s S' => by
   obtain ⟨dx, ws, hv, hx, hlen, S2⟩ := S'.setField (f := f) h1
   exact ⟨.ref a, hv, a, CL c, dx, ws, rfl, hx, hc, n, by rw [hlen]; exact hl, M.nx _ σ _ Z' z S2 k⟩)
end
noncomputable def spI (K : PySem.W.Frag) (CL : Str -> Addr) {A : Type} (c : Str) (n : Nat) (arg : A -> List D) (Pre : A -> Prop) (res : A -> List (Str × T)) : Sp := fun vs H Q _ =>
 ∃ (W H0 : Hp) (a : A) (x dx : Addr) (us : List V), vs = .ref x :: us /\ H0 x = none /\ H0 dx = none /\ dx ≠ x /\ H = upd (upd H0 dx (.own x)) x (.ins (CL c) dx []) ∧
   aG W H0 /\ (∀ c o, H0 c = some o -> jv o = true -> W c = some o) /\ aH K CL W (arg a) us /\ (arg a).length + 1 = n /\ Pre a /\ mV CL W ∧
   ∀ H' W' fp, aG H0 H' -> aG W W' -> aG W' H' -> (∀ c o, W' c = some o -> W c = none -> H0 c = none) -> (∀ c o, H' c = some o -> jv o = true -> W' c = some o) →
     dm K CL H' W' (.ins c (res a)) (.ref x) fp -> fp.Nodup -> (∀ c ∈ fp, W' c = none /\ H0 c = none) -> Q .non H'
section
variable {X : Cx} {CL : Str -> Addr} {b : Bx} {δ δ1 δ2 : List (Option T)} {e o : Expr} {es : List Expr} {pos pp apos : Pos}
variable {A : Type} {k n : Nat} {f : Addr} {fd : FuncData} {ps : List Str} {arg : A -> List D} {Pre : A -> Prop} {x c m : Str}
theorem VR {res : A -> List (Str × T)} (a : A) (M : Mk X.K (CL c) f) (F : bL X.prog X.w X.K X.mg X.base fM k f fd ps (spI X.K CL c n arg Pre res)) (hr : fJ (k + 1) X.A) (hm : X.mg x = some (.ref (CL c))) (hb : Binds X.K fd ps [])
   (h : BAv X CL b (e :: es) δ (arg a) δ1) (hn : (arg a).length + 1 = n) (hp : Pre a) (hc : T.bM (res a) = true) (hg : Gl X x)
   (AU : (x == ("__debug__" : Str)) = false := by decide) (he : starEach (e :: es) X.env = (false, eval e X.env) :: starEach es X.env := by exact bW rfl) (ve : (backTo pos (starEach es X.env)).any (·.1) = false := by rfl) :
   cG X CL b (.Call (.Name x pp) (e :: es) [] pos) δ (.ins c (res a)) δ1 := fun H Z σ ts vs Q S kk =>
 dw (LZ M F hr hg hm hb .nil L1 Vx AU he ve) (h H Z σ ts vs _ S fun us H1 Z1 z1 k1 S1 r x dx hx hdx ne => by
   rw [anu]
   refine ⟨H1, H1, a, x, dx, us, rfl, hx, hdx, ne, rfl, .refl _, fun _ _ q _ => q, r, hn, hp, S1.NP, fun H' W' fp hh ww wh nw tp rt nd own => ⟨rfl, ?_⟩⟩
   obtain ⟨Z', z', S'⟩ := S1.back hh S1.zh ww wh nw tp rt nd own (.inr (by rw [T.clean]; exact hc))
   exact kk _ H' Z' (z1.trans z') (k1.trans hh) S')
end
theorem L7 {P : Program} {w : World} {K : PySem.W.Frag} {mg : Str -> Option Value} {base : Heap} {CL : Str -> Addr} {x qual c : Str} {st : Stmt} {f : Addr} {fd : FuncData} {N ps : List Str} {k : Nat} {A : Type} {arg : A -> List D} {Pre : A -> Prop} {res : A -> List (Str × T)} (F : gZ K x qual st f fd) (S : aJ N ps (ao st))
   (hb : ∀ (di : Value) (Ar : Around) (outer : List Env) (s : Shared) (H : Hp) (E : XK) (b : Bx) (a : A) (y : Addr), fJ k (Ar.deeper (envOfC qual (ao st) s.heap.objs.size f di)) -> Pre a →
     fF (yH fM P w K mg base N qual (ao st) f di Ar outer s H E).UU CL b (gB st) (some (.pin y (.ins c [])) :: ((arg a).map (fun d => some (T.sh d)) ++ List.replicate (N.length - ((arg a).length + 1)) none))
       { nx := fun δ => δ[0]? = some (some (.pin y (.ins c (res a)))), rt := fun _ _ => False }) :
   bL P w K mg base fM (k + 1) f fd ps (spI K CL c ps.length arg Pre res) := by
 refine F.ok S (fun vs H Q E h => ?_) (fun di Ar outer s H vs Q E hr h => ?_)
 . obtain ⟨W, H0, a, y, dx, us, rfl, _, _, _, _, _, _, r, hl, _⟩ := h
   rw [anr, ← r.length]; exact hl
 . obtain ⟨W, H0, a, y, dx, us, rfl, hy, hdx, ne, rfl, wh, tp, r, hl, hp, tb, kk⟩ := h
   have old : ∀ {d : Addr} {o : HO}, H0 d = some o -> upd (upd H0 dx (.own y)) y (.ins (CL c) dx []) d = some o := fun {d o} q => by
     rw [aA (aK q hy), aA (aK q hdx)]; exact q
   refine ⟨_, Vy, hb di Ar outer s _ E ⟨H0, W⟩ a y hr hp _ W _ [] [] _ ⟨⟨[y] ++ [], [], ?_, .nil, by simp, fun d hd => ?_⟩, fun d o q => old q, .refl _, fun d o q => old (wh d o q), fun d o q z => ?_, fun d o q i => ?_, tb⟩ ⟨fun δ' σ' H' Z' s' S' e => ?_, fun t v H' Z' δ' σ' s' S' e => e.elim, fun _ _ _ _ _ _ e => e.elim, fun _ _ _ _ _ _ e => e.elim⟩⟩
   . unfold L2.start
     rw [ani, anr, anw, ← r.length]
     exact .cons (.pin (.ins aV .nil)) (jU _ r)
   . have : d = y := by simpa using hd
     subst this
     exact ⟨abO wh hy, hy⟩
   . have q' : W d = some o := q
     have z' : W d = none := z
     rw [q'] at z'; cases z'
   . by_cases h1 : d = y
     . subst h1; rw [aV] at q; cases q; cases i
     . rw [aA h1] at q
       by_cases h2 : d = dx
       . subst h2; rw [aV] at q; cases q; cases i
       . rw [aA h2] at q; exact tp d o q i
   . obtain ⟨fp, gp, eE, _, nd, own⟩ := S'.rep
     obtain ⟨v, f1, f2, f3, hv, wR, rt, _, _⟩ := eE.get e
     subst wR
     cases rt with
     | pin rt =>
       refine kk H' Z' f2 S'.bh S'.zz S'.zh S'.new S'.tp rt ?_ fun d hd => own d (by simp [hd])
       have h1 := (anI.mp nd).1
       exact (anI.mp (anI.mp h1).2.1).1
section
variable {X : Cx} {CL : Str -> Addr} {b : Bx} {δ δ1 δ2 : List (Option T)} {e e1 e2 : Expr} {es : List Expr} {t : T} {d : D} {ds Jz : List D} {x : Str} {pos pp : Pos} {DD : dF} {i : Nat} {gu body : List Stmt}
theorem L8 (g : Gx X) (P : Nat -> List (Option T) -> Prop) (m : Nat) (h0 : P m δ)
   (hs : ∀ m δ, P m δ -> ∃ p δ1, rD X CL b e δ p δ1 ∧
     (p = true -> fF X CL b body δ1 { nx := fun δ2 => ∃ m', m' < m /\ P m' δ2, rt := DD.rt, bk := fun δ2 => fF X CL b gu δ2 DD, ct := fun δ2 => ∃ m', m' < m /\ P m' δ2 }) /\ (p = false -> fF X CL b gu δ1 DD)) :
   fF X CL b (.While e body [] pos :: gu) δ DD := eB fun H Z σ ts vs E S M =>
 xC (Qf (by rw [g.xe]; exact PassesOwn.never) ptS Vy) (by
   refine ⟨fun m σ H => ∃ Z2 δ2, aG Z Z2 /\ cE X.K CL b H Z2 δ2 σ ts vs /\ P m δ2, ⟨m, Z, δ, .refl _, S, h0⟩, ?_⟩
   rintro m σ H ⟨Z2, δ2, z2, S2, p2⟩
   obtain ⟨p, δ3, ht, h1, h2⟩ := hs m δ2 p2
   refine ht H Z2 σ ts vs _ S2 fun H3 Z3 z3 k3 S3 => ?_
   cases p with
   | true =>
     rw [amZ rfl]
     refine ⟨fun σ' H' => ∃ m', m' < m /\ ∃ Z2 δ2, aG Z Z2 /\ cE X.K CL b H' Z2 δ2 σ' ts vs /\ P m' δ2, fun σ' H' q => q, ?_⟩
     refine h1 rfl H3 Z3 σ ts vs _ S3 ⟨fun δ' σ' H' Z' s' S' ⟨m', l, q⟩ => ⟨m', l, Z', δ', z2.trans (z3.trans s'), S', q⟩, fun t v H' Z' δ' σ' s' S' q => M.rt t v H' Z' δ' σ' (z2.trans (z3.trans s')) S' q,
       fun δ' σ' H' Z' s' S' q => M.nx δ' σ' H' Z' (z2.trans (z3.trans s')) S' q, fun δ' σ' H' Z' s' S' ⟨m', l, q⟩ => ⟨m', l, Z', δ', z2.trans (z3.trans s'), S', q⟩⟩
   | false =>
     rw [amV (by decide)]
     exact M.nx δ3 σ H3 Z3 (z2.trans z3) S3 (h2 rfl))
noncomputable def afC (K : PySem.W.Frag) : R2 := fun x y H Q => ∃ l b xs zs, x = .ref l /\ y = .ref b /\ oj K H l xs /\ oj K H b zs /\ xs.length + zs.length <= sizeLine /\ ∀ p, H p = none -> Q (.ref p) (upd H p (.lst (xs ++ zs)))
theorem VW : vd X (binaryOp .Add) (afC X.K) := by
 intro pins s σ H x y v u Q I rx ry h
 obtain ⟨l, b, xs, zs, rfl, rfl, hH, hB, hz, q⟩ := h
 cases rx
 cases ry
 obtain ⟨its, r, pl, _⟩ := I.list hH
 obtain ⟨acg, r2, pl2, _⟩ := I.list hB
 have e1 := r.length
 have e2 := r2.length
 obtain ⟨⟨c1, dd, da1, sl⟩, ho, hc, n, hd⟩ := pl.isList
 obtain ⟨⟨c2, dd2, da2, sl2⟩, ho2, hc2, n2, hd2⟩ := pl2.isList
 cases hc; cases hc2; cases hd; cases hd2
 refine concat_meets ⟨_, ho, rfl⟩ ⟨_, ho2, rfl⟩ noFill_list_add seq_list_add PySem.F.slot_list_add PySem.F.entry_list_add (PySem.F.args_list_add_2 (Value.ref l) (Value.ref b))
   (list_addW l b its.toArray acg.toArray n n2 dd dd2 sl sl2 (by rw [ano, ano]; omega)) ⟨ho, ho2, ?_⟩
 have ea : its.toArray ++ acg.toArray = (its ++ acg).toArray := by simp
 rw [ea]
 exact ⟨.ref _, _, I.afg (t' := s.toks) (r.append r2) (by rw [anm]; omega), rfl, q _ I.fresh⟩
theorem aH.app {K : PySem.W.Frag} {Z : Hp} {ds Jz : List L3.D} {vs vs2 : List V} (h : aH K CL Z ds vs) (r2 : aH K CL Z Jz vs2) : aH K CL Z (ds ++ Jz) (vs ++ vs2) :=
 aH.ind (P := fun ds vs => aH K CL Z (ds ++ Jz) (vs ++ vs2)) r2 (fun r _ i => .cons r i) h
theorem tF (h1 : cV X CL b e1 δ (.lst ds) δ1) (h2 : cV X CL b e2 δ1 (.lst Jz) δ2) (i1 : D.cy ds = true) (i2 : D.cy Jz = true) (hz : ds.length + Jz.length <= sizeLine) :
   cG X CL b (.BinOp e1 .Add e2 pos) δ (.lst ((ds ++ Jz).map T.sh)) δ2 := fun H Z σ ts vs Q S k =>
 dw (Qi VW eN eN) (h1 H Z σ ts vs _ S fun v1 H1 Z1 z1 k1 S1 r1 => h2 H1 Z1 σ ts vs _ S1 fun v2 H2 Z2 z2 k2 S2 r2 => by
   have r1' := r1.mono k2
   cases r1' with
   | lst hq1 rr1 =>
     cases r2 with
     | lst hq2 rr2 =>
       refine ⟨_, _, _, _, rfl, rfl, hq1, hq2, by rw [← rr1.length, ← rr2.length]; exact hz, fun p hp => ?_⟩
       have rc := aH.app (aH.kW S2.tp i1 rr1) (aH.kW S2.tp i2 rr2)
       obtain ⟨c, S4⟩ := (cE.sV rc S2).oJ (g0 := []) (by simp [rc.length, rr1.length, rr2.length]) hp
       exact k _ _ _ (z1.trans z2) (k1.trans (k2.trans c)) S4)
theorem boot_str : bootBuiltins "str" = some (.type "str") := by decide +kernel
theorem Ma {i : Int} (hm : X.mg "str" = none) (hg : Gl X "str") (h : cV X CL b e δ (.int i) δ1) (hi : i.natAbs.log2 < 1920) (hs : starEach [e] X.env = (false, eval e X.env) :: starEach [] X.env := by exact bW rfl) :
   cG X CL b (.Call (.Name "str" pp) [e] [] pos) δ (.sh (.str (toString i))) δ1 := fun H Z σ ts vs Q S k =>
 dw (jP Cu hg hm boot_str (cH eN fc hs) (he := hs)) (h H Z σ ts vs _ S fun v H1 Z1 z1 k1 S1 r => by
   rw [r.sc rfl]
   exact ⟨i, rfl, hi, k _ H1 Z1 z1 k1 (S1.push (.str _))⟩)
end
structure Fm (X : Cx) (CL : Str -> Addr) (x : Str) (k n : Nat) {A : Type} (arg : A -> List D) (Pre : A -> Prop) (res : A -> List (Str × T)) : Prop where
 ex : ∃ f fd ps, Mk X.K (CL x) f /\ bL X.prog X.w X.K X.mg X.base fM k f fd ps (spI X.K CL x n arg Pre res) /\ X.mg x = some (.ref (CL x)) /\ Binds X.K fd ps []
 room : fJ (k + 1) X.A
noncomputable def QY (N : List Str) (y : Addr) (c : Str) (ds : List D) : List (Option T) := some (.pin y (.ins c [])) :: (ds.map (fun d => some (T.sh d)) ++ List.replicate (N.length - (ds.length + 1)) none)
section
variable {X : Cx} {CL : Str -> Addr} {b : Bx} {δ δ1 δ2 : List (Option T)} {e e1 e2 o : Expr} {es : List Expr} {d : L3.D} {t : T} {i : Nat} {x c m : Str} {pos pp apos : Pos} {D : dF} {gu : List Stmt} {ds : List L3.D}
theorem mk_ {k n : Nat} {A : Type} {arg : A -> List L3.D} {Pre : A -> Prop} {res : A -> List (Str × T)} (a : A) (F : Fm X CL x k n arg Pre res) (hg : Gl X x) (h : BAv X CL b (e :: es) δ (arg a) δ1) (hp : Pre a) (hc : T.bM (res a) = true) (hn : (arg a).length + 1 = n := by rfl)
   (AU : (x == ("__debug__" : Str)) = false := by decide) (he : starEach (e :: es) X.env = (false, eval e X.env) :: starEach es X.env := by exact bW rfl) (ve : (backTo pos (starEach es X.env)).any (·.1) = false := by rfl) :
   cG X CL b (.Call (.Name x pp) (e :: es) [] pos) δ (.ins x (res a)) δ1 := by
 obtain ⟨f, fd, ps, M, F1, m, b⟩ := F.ex
 exact VR a M F1 F.room m b h hn hp hc hg AU he ve
end
theorem tG {α : Type} {f : Str} {d : α} {fs : List (Str × α)} : ((f, d) :: fs).lookup f = some d := by
 rw [anx, aom]
theorem i9 {α : Type} {f g : Str} {d : α} {fs : List (Str × α)} (h : (f == g) = false) : ((g, d) :: fs).lookup f = fs.lookup f := by
 rw [anx, h]
theorem g8 {f : Str} {t : T} : AX f t [] = [(f, t)] := rfl
theorem cg {f g : Str} {t u : T} {fs : List (Str × T)} (h : ¬ g = f) : AX f t ((g, u) :: fs) = (g, u) :: AX f t fs := by
 rw [AX, amV h]
section
variable {X : Cx} {CL : Str -> Addr} {b : Bx} {δ δ1 δ2 : List (Option T)} {e1 e2 : Expr} {x : Str} {pos : Pos} {d : L3.D}
theorem tH (x : Int) : ∀ l : List Int, inV (.int x) (l.map V.int) = decide (x ∈ l)
 | [] => by simp [inV]
 | y :: l => by
   have ih := tH x l
   unfold inV at ih ⊢
   rw [ani, an4, ih]
   by_cases h : y = x
   . subst h; simp [Qu]
   . have h' : ¬ x = y := fun e => h e.symm
     simp [Qu, h, h']
theorem aH.ints {K : PySem.W.Frag} {Z : Hp} : ∀ {l : List Int} {vs : List V}, aH K CL Z (l.map D.int) vs -> vs = l.map V.int
 | [], _, r => by
   have r' : aH K CL Z [] _ := r
   cases r'; rfl
 | y :: l, _, r => by
   have r' : aH K CL Z (D.int y :: l.map D.int) _ := r
   cases r' with
   | cons r1 r2 => rw [r1.sc rfl, aH.ints r2]; rfl
theorem g9 : ∀ l : List Int, (l.map V.int).all rC = true
 | [] => rfl
 | y :: l => by rw [ani, ao1, g9 l]; rfl
noncomputable def yS (d : L3.D) : Option (List L3.D) := match d with
 | .lst ds => some ds
 | .tup ds => some ds
 | _ => none
theorem bF.yS {K : PySem.W.Frag} {Z : Hp} {v : V} {ds : List L3.D} (r : bF K CL Z d v) (h : L3.yS d = some ds) : ∃ p us, v = .ref p /\ (oj K Z p us \/ yE K Z p us) /\ aH K CL Z ds us := by
 cases r with
 | tup hq rr => cases h; exact ⟨_, _, rfl, .inr hq, rr⟩
 | lst hq rr => cases h; exact ⟨_, _, rfl, .inl hq, rr⟩
 | non => cases h
 | bl => cases h
 | int => cases h
 | str => cases h
 | any => cases h
 | val => cases h
 | om => cases h
 | dct => cases h
 | ins => cases h
theorem ic {l : List Int} {i : Int} (h1 : cV X CL b e1 δ (.int i) δ1) (h2 : cV X CL b e2 δ1 d δ2) (hd : L3.yS d = some (l.map .int)) (hm : behindInMarks .In e2 = false) :
   rD X CL b (.Compare e1 [.In] [e2] pos) δ (decide (i ∈ l)) δ2 /\ cG X CL b (.Compare e1 [.In] [e2] pos) δ (.sh (.bl (decide (i ∈ l)))) δ2 := by
 constructor
 . intro H Z σ ts vs Q S k
   refine Gu (pY qa eN eN hm) (h1 H Z σ ts vs _ S fun v1 H1 Z1 z1 k1 S1 r1 => h2 H1 Z1 σ ts vs _ S1 fun v2 H2 Z2 z2 k2 S2 r2 => ?_)
   obtain ⟨p, us, rfl, hq, rr⟩ := bF.yS r2 hd
   have e := rr.ints
   subst e
   refine ⟨_, _, rfl, hq, by rw [r1.sc rfl]; rfl, g9 l, _, rfl, ?_⟩
   rw [amV ane, r1.sc rfl, tH]
   exact k H2 Z2 (z1.trans z2) (k1.trans k2) S2
 . intro H Z σ ts vs Q S k
   refine dw (pX qa eN eN hm) (h1 H Z σ ts vs _ S fun v1 H1 Z1 z1 k1 S1 r1 => h2 H1 Z1 σ ts vs _ S1 fun v2 H2 Z2 z2 k2 S2 r2 => ?_)
   obtain ⟨p, us, rfl, hq, rr⟩ := bF.yS r2 hd
   have e := rr.ints
   subst e
   refine ⟨_, _, rfl, hq, by rw [r1.sc rfl]; rfl, g9 l, ?_⟩
   rw [amV ane, r1.sc rfl, tH]
   exact k _ H2 Z2 (z1.trans z2) (k1.trans k2) (S2.push (.bl _))
theorem tK {l : List Int} {i : Int} (h1 : cV X CL b e1 δ (.int i) δ1) (h2 : cV X CL b e2 δ1 d δ2) (hd : L3.yS d = some (l.map .int)) (hm : behindInMarks .NotIn e2 = false) :
   rD X CL b (.Compare e1 [.NotIn] [e2] pos) δ (!decide (i ∈ l)) δ2 /\ cG X CL b (.Compare e1 [.NotIn] [e2] pos) δ (.sh (.bl (!decide (i ∈ l)))) δ2 := by
 constructor
 . intro H Z σ ts vs Q S k
   refine Gu (pY jA eN eN hm) (h1 H Z σ ts vs _ S fun v1 H1 Z1 z1 k1 S1 r1 => h2 H1 Z1 σ ts vs _ S1 fun v2 H2 Z2 z2 k2 S2 r2 => ?_)
   obtain ⟨p, us, rfl, hq, rr⟩ := bF.yS r2 hd
   have e := rr.ints
   subst e
   refine ⟨_, _, rfl, hq, by rw [r1.sc rfl]; rfl, g9 l, _, rfl, ?_⟩
   rw [amZ rfl, r1.sc rfl, tH]
   exact k H2 Z2 (z1.trans z2) (k1.trans k2) S2
 . intro H Z σ ts vs Q S k
   refine dw (pX jA eN eN hm) (h1 H Z σ ts vs _ S fun v1 H1 Z1 z1 k1 S1 r1 => h2 H1 Z1 σ ts vs _ S1 fun v2 H2 Z2 z2 k2 S2 r2 => ?_)
   obtain ⟨p, us, rfl, hq, rr⟩ := bF.yS r2 hd
   have e := rr.ints
   subst e
   refine ⟨_, _, rfl, hq, by rw [r1.sc rfl]; rfl, g9 l, ?_⟩
   rw [amZ rfl, r1.sc rfl, tH]
   exact k _ H2 Z2 (z1.trans z2) (k1.trans k2) (S2.push (.bl _))
theorem CN {l : List Str} (h1 : cV X CL b e1 δ (.str x) δ1) (h2 : cV X CL b e2 δ1 d δ2) (hd : L3.yS d = some (l.map .str)) (hm : behindInMarks .NotIn e2 = false) :
   rD X CL b (.Compare e1 [.NotIn] [e2] pos) δ (!decide (x ∈ l)) δ2 /\ cG X CL b (.Compare e1 [.NotIn] [e2] pos) δ (.sh (.bl (!decide (x ∈ l)))) δ2 := by
 constructor
 . intro H Z σ ts vs Q S k
   refine Gu (pY jA eN eN hm) (h1 H Z σ ts vs _ S fun v1 H1 Z1 z1 k1 S1 r1 => h2 H1 Z1 σ ts vs _ S1 fun v2 H2 Z2 z2 k2 S2 r2 => ?_)
   obtain ⟨p, us, rfl, hq, rr⟩ := bF.yS r2 hd
   have e := rr.strs
   subst e
   refine ⟨_, _, rfl, hq, by rw [r1.sc rfl]; rfl, g7 l, _, rfl, ?_⟩
   rw [amZ rfl, r1.sc rfl, tD]
   exact k H2 Z2 (z1.trans z2) (k1.trans k2) S2
 . intro H Z σ ts vs Q S k
   refine dw (pX jA eN eN hm) (h1 H Z σ ts vs _ S fun v1 H1 Z1 z1 k1 S1 r1 => h2 H1 Z1 σ ts vs _ S1 fun v2 H2 Z2 z2 k2 S2 r2 => ?_)
   obtain ⟨p, us, rfl, hq, rr⟩ := bF.yS r2 hd
   have e := rr.strs
   subst e
   refine ⟨_, _, rfl, hq, by rw [r1.sc rfl]; rfl, g7 l, ?_⟩
   rw [amZ rfl, r1.sc rfl, tD]
   exact k _ H2 Z2 (z1.trans z2) (k1.trans k2) (S2.push (.bl _))
end
section
variable {X : Cx} {CL : Str -> Addr} {b : Bx} {δ δ1 δ2 : List (Option T)} {e : Expr} {es : List Expr} {d : L3.D} {ds : List L3.D} {t : T} {i : Nat} {x : Str} {pos pp : Pos} {DD : dF} {gu : List Stmt}
theorem cR : Ju X CL b [] δ (([] : List L3.D).map T.sh) δ := dJ
theorem aM (h1 : cG X CL b e δ (.sh d) δ1) (h2 : Ju X CL b es δ1 (ds.map T.sh) δ2) (hs : starEach (e :: es) X.env = (false, eval e X.env) :: starEach es X.env := by exact bW rfl) : Ju X CL b (e :: es) δ ((d :: ds).map T.sh) δ2 := gC h1 h2 hs
theorem kE (h : Ju X CL b es δ (ds.map T.sh) δ1) (hl : ds.length <= sizeLine) : cG X CL b (.List es pos) δ (.lst (ds.map T.sh)) δ1 := dM h (by simpa using hl)
theorem oN (l : List Str) : D.cy (l.map L3.D.str) = true := jX (fun _ => rfl) _
theorem m5 (h : cG X CL b e δ (.lst (ds.map T.sh)) δ1) : cG X CL b e δ (.sh (.lst ds)) δ1 := by
 have := Jv h
 rwa [T.fE, jB] at this
theorem VX (h : DD.bk δ) : fF X CL b (.Break pos :: gu) δ DD := eB (QL h)
theorem aci (h : DD.ct δ) : fF X CL b (.Continue pos :: gu) δ DD := eB (VG h)
theorem oO {d2 : L3.D} (h : cV X CL b e δ d δ1) (q : d = d2) : cV X CL b e δ d2 δ1 := q ▸ h
theorem aN {t2 : T} (h : cG X CL b e δ t δ1) (q : t = t2) : cG X CL b e δ t2 δ1 := q ▸ h
end
structure AY (Z H Z' H' : Hp) : Prop where
 z : aG Z Z'
 h : aG H H'
 zh : aG Z' H'
 new : ∀ a o, Z' a = some o -> Z a = none -> H a = none
 tp : ∀ a o, H' a = some o -> jv o = true -> Z' a = some o
theorem AY.refl {Z H : Hp} (zh : aG Z H) (tp : ∀ a o, H a = some o -> jv o = true -> Z a = some o) : AY Z H Z H := ⟨.refl _, .refl _, zh, fun a o q z => (by rw [q] at z; cases z), tp⟩
theorem AY.tup {Z H : Hp} {p : Addr} {xs : List V} (zh : aG Z H) (tp : ∀ a o, H a = some o -> jv o = true -> Z a = some o) (hp : H p = none) : AY Z H (upd Z p (.tup xs)) (upd H p (.tup xs)) := by
 have zp : Z p = none := zh.free hp
 refine ⟨aG.upd zp, aG.upd hp, fun a o q => ?_, fun a o q z => ?_, fun a o q i => ?_⟩
 . by_cases e : a = p
   . subst e; rw [aV] at q ⊢; exact q
   . rw [aA e] at q ⊢; exact zh a o q
 . by_cases e : a = p
   . subst e; exact hp
   . rw [aA e, z] at q; cases q
 . by_cases e : a = p
   . subst e; rw [aV] at q ⊢; exact q
   . rw [aA e] at q ⊢; exact tp a o q i
section
variable {K : PySem.W.Frag} {CL : Str -> Addr} {b : Bx} {H H' Z Z' : Hp} {δ : List (Option T)} {σ : L2.St} {ts : List T} {vs : List V}
theorem cE.grow (S : cE K CL b H Z δ σ ts vs) (g : AY Z H Z' H') : cE K CL b H' Z' δ σ ts vs := by
 obtain ⟨fp, gp, e, r, nd, k⟩ := S.rep
 have old : ∀ a ∈ fp ++ gp, ∃ o, H a = some o := fun a ha => (am3.mp ha).elim (e.there a) (r.there a)
 have keep : ∀ a ∈ fp ++ gp, H' a = H a := fun a ha => by
   obtain ⟨o, q⟩ := old a ha
   rw [q]; exact g.h a o q
 refine ⟨⟨fp, gp, e.mono g.z (fun a ha => keep a (am7 _ ha)), r.mono g.z (fun a ha => keep a (amU _ ha)), nd, fun a ha => ⟨?_, (k a ha).2⟩⟩, S.bh.trans g.h, S.zz.trans g.z, g.zh, fun a o q z => ?_, g.tp, S.tab⟩
 . cases q : Z' a with
   | none => rfl
   | some o =>
     obtain ⟨u, hu⟩ := old a ha
     rw [g.new a o q (k a ha).1] at hu; cases hu
 . cases e2 : Z a with
   | none => exact S.bh.free (g.new a o q e2)
   | some u =>
     have := g.z a u e2
     rw [q] at this; cases this
     exact S.new a o e2 z
noncomputable def Mb (δ : List (Option T)) : List Nat -> List D -> List (Option T)
 | i :: is, d :: ds => Mb (δ.set i (some (.sh d))) is ds
 | _, _ => δ
noncomputable def yT (σ : L2.St) : List Nat -> List V -> L2.St
 | i :: is, v :: vs => yT (σ.set i (some v)) is vs
 | _, _ => σ
theorem cE.sets {ps : List D} {ys : List V} : ∀ {is : List Nat} {δ : List (Option T)} {σ : L2.St}, cE K CL b H Z δ σ ts vs -> aH K CL Z ps ys -> (∀ i ∈ is, i < δ.length) -> cE K CL b H Z (Mb δ is ps) (yT σ is ys) ts vs := by
 intro is
 induction is generalizing ps ys with
 | nil =>
   intro δ σ S r _
   cases ps <;> cases ys <;> exact S
 | cons i is ih =>
   intro δ σ S r hl
   cases r with
   | nil => exact S
   | cons r rr => exact ih ((S.push r).set (hl i am0)) rr (fun j hj => by rw [List.length_set]; exact hl j (am2 _ hj))
end
section
variable {X : Cx} {CL : Str -> Addr} {b : Bx} {δ δ1 : List (Option T)} {ds : List D} {iter tg : Expr} {pos : Pos}
structure CP (X : Cx) (CL : Str -> Addr) (b : Bx) (δ1 : List (Option T)) (σ : L2.St) (ts : List T) (vs : List V) (Z H : Hp) (ds : List D) (J : It) (H1 : Hp) : Prop where
 ex : ∃ Z1, aG Z Z1 /\ aG H H1 /\ cE X.K CL b H1 Z1 δ1 σ ts vs /\ (∀ i H2, aG Z1 H2 -> i < ds.length -> J.go i H2) ∧
   (∀ i Z2 H2 x H', aG Z1 Z2 -> aG Z2 H2 -> (∀ a o, H2 a = some o -> jv o = true -> Z2 a = some o) -> i < ds.length -> J.UW i H2 x H' -> ∃ Z3 d, ds[i]? = some d /\ AY Z2 H2 Z3 H' /\ bF X.K CL Z3 d x) /\ (∀ H2, aG Z1 H2 -> J.stop ds.length H2)
noncomputable def GIt (X : Cx) (CL : Str -> Addr) (b : Bx) (tg e : Expr) (δ : List (Option T)) (ds : List D) (δ1 : List (Option T)) : Prop :=
 ∃ wi, PI X tg e wi /\ ∀ (H Z : Hp) (σ : L2.St) (ts : List T) (vs : List V) (R : It -> Hp -> Prop), cE X.K CL b H Z δ σ ts vs -> (∀ J H1, CP X CL b δ1 σ ts vs Z H ds J H1 -> R J H1) -> wi σ H R
theorem aaz (h : UZ X CL b tg iter δ ds δ1) : GIt X CL b tg iter δ ds δ1 := by
 obtain ⟨wi, pi, hw⟩ := h
 refine ⟨wi, pi, fun H Z σ ts vs R S k => hw H Z σ ts vs R S fun J H1 zz => ?_⟩
 obtain ⟨Z1, us, z1, k1, S1, rr, go, yl, st⟩ := zz
 refine k J H1 ⟨Z1, z1, k1, S1, go, fun i Z2 H2 x H' s1 s2 tp hi hy => ?_, st⟩
 obtain ⟨e, hu⟩ := yl i H2 x H' (s1.trans s2) hi hy
 subst e
 obtain ⟨d, hd, rd⟩ := rr.NF hu
 exact ⟨Z2, d, hd, .refl s2 tp, rd.mono s1⟩
noncomputable def Tgt (X : Cx) (CL : Str -> Addr) (tg : Expr) (is : List Nat) (parts : D -> Option (List D)) : Prop :=
 ∃ t : TG, PG X tg t /\ ∀ (Z H : Hp) (d : D) (ps : List D) (x : V) (σ : L2.St) (Q : L2.St -> Hp -> Prop), aG Z H -> bF X.K CL Z d x -> parts d = some ps -> (∀ ys, aH X.K CL Z ps ys -> Q (yT σ is ys) H) -> t x σ H Q
noncomputable def part1 (d : D) : Option (List D) := some [d]
noncomputable def part2 : D -> Option (List D)
 | .tup [a, c] => some [a, c]
 | _ => none
theorem NW {d : D} {ps : List D} (h : part2 d = some ps) : ∃ d1 d2, d = .tup [d1, d2] /\ ps = [d1, d2] := by
 unfold part2 at h
 split at h
 . cases h; exact ⟨_, _, rfl, rfl⟩
 . cases h
theorem JA {K : PySem.W.Frag} {i j : Nat} {Z H : Hp} {d : D} {ps : List D} {x : V} {σ : L2.St} {Q : L2.St -> Hp -> Prop} (zh : aG Z H) (r : bF K CL Z d x) (e : part2 d = some ps) (k : ∀ ys, aH K CL Z ps ys -> Q (yT σ [i, j] ys) H) : abj K 2 (Gd (wJ i) (Gd (wJ j) abi)) x σ H Q := by
 obtain ⟨d1, d2, rfl, rfl⟩ := NW e
 cases r with
 | tup hq rr =>
   cases rr with
   | cons r1 rr =>
     cases rr with
     | cons r2 rr =>
       cases rr
       exact ⟨_, _, rfl, aG.Vv zh hq, rfl, _, _, rfl, _, _, rfl, rfl, k _ (.cons r1 (.cons r2 .nil))⟩
theorem QZ {i : Nat} {x : Str} {px : Pos} (hN : X.N.Nodup) (n : Ln X i x) : Tgt X CL (.Name x px) [i] part1 :=
 ⟨wJ i, sP hN n.hi n.loc n.hf, fun Z H d ps x σ Q zh r e k => by
   cases e
   exact k [x] (.cons r .nil)⟩
theorem VY {i j k : Nat} {x y : Str} {px py pt : Pos} (hN : X.N.Nodup) (hc : X.calm = true) (n : Ln X i x) (m : Ln X j y) (hs : (assignEach [.Name x px, .Name y py] X.env).map (·.2) = assign (.Name x px) X.env :: (assignEach [.Name y py] X.env).map (·.2) := by rfl) (Jh : (assignEach [.Name y py] X.env).map (·.2) = assign (.Name y py) X.env :: (assignEach [] X.env).map (·.2) := by rfl)
   (hn : (assignEach [.Name x px, .Name y py] X.env).length = 2 := by rfl) (Qe : (assignEach [.Name x px, .Name y py] X.env).findIdx? (·.1) = none := by rfl) : Tgt X CL (.Tuple [.Name x px, .Name y py] k pt) [i, j] part2 :=
 ⟨abj X.K 2 (Gd (wJ i) (Gd (wJ j) abi)), abk hc (Ge (sP hN n.hi n.loc n.hf) (Ge (sP hN m.hi m.loc m.hf) Vg Jh) hs) hn Qe, fun Z H d ps x σ Q zh r e k => JA zh r e k⟩
theorem VZ {D : dF} {gu : List Stmt} (is : List Nat) (parts : L3.D -> Option (List L3.D)) (P : Nat -> List (Option T) -> Prop) (h : GIt X CL b tg iter δ ds δ1) (ht : Tgt X CL tg is parts) (h0 : P 0 δ1) (hl : ∀ j δ, P j δ -> ∀ i ∈ is, i < δ.length)
   (hs : ∀ j d δ, ds[j]? = some d -> P j δ -> ∃ ps, parts d = some ps /\ fF X CL b gu (Mb δ is ps) { nx := P (j + 1), rt := D.rt, bk := D.nx, ct := P (j + 1) }) (hd : ∀ δ, P ds.length δ -> D.nx δ)
   (hp : PassesOwn (model X.prog X.w) X.A X.env X.xe) (hc : X.calm = true) (hq : ∀ x, foldedSetIterable iter X.env x = pure x := by intro _; rfl) :
   UX X CL b (.For tg iter gu [] pos) δ D := fun H Z σ ts vs E S M => by
 obtain ⟨wi, pi, hw⟩ := h
 obtain ⟨t, pg, ht⟩ := ht
 refine xC (Qh hp hc pi pg Vy hq) (hw H Z σ ts vs _ S fun J H1 zz => ?_)
 obtain ⟨Z1, z1, k1, S1, go, yl, st⟩ := zz
 refine ⟨fun j m σ H2 => m = ds.length - j /\ j <= ds.length /\ ∃ Z2 δ2, aG Z1 Z2 /\ cE X.K CL b H2 Z2 δ2 σ ts vs /\ P j δ2, ⟨_, rfl, ans _, Z1, δ1, .refl _, S1, h0⟩, ?_⟩
 rintro j m σ H2 ⟨rfl, hj, Z2, δ2, s, S2, p2⟩
 by_cases rE : j < ds.length
 . refine .inr ⟨go j H2 (s.trans S2.zh) rE, fun σ' H' => ∃ Z2 δ2, aG Z1 Z2 /\ cE X.K CL b H' Z2 δ2 σ' ts vs /\ P (j + 1) δ2, fun σ' H' h => ⟨ds.length - (j + 1), by omega, rfl, rE, h⟩, fun y H' hy => ?_⟩
   obtain ⟨Z3, d, Va, gr, rd⟩ := yl j Z2 H2 y H' s S2.zh S2.tp rE hy
   obtain ⟨ps, hps, hb⟩ := hs j d δ2 Va p2
   have S3 := S2.grow gr
   refine ht Z3 H' d ps y σ _ S3.zh rd hps fun ys rys => ?_
   have S4 := S3.sets (is := is) rys (hl j δ2 p2)
   have s3 := s.trans gr.z
   exact hb _ Z3 _ ts vs _ S4 ⟨fun δ' σ' H' Z' s' S' k => ⟨Z', δ', s3.trans s', S', k⟩, fun t v H' Z' δ' σ' s' S' k => M.rt t v H' Z' δ' σ' (z1.trans (s3.trans s')) S' k, fun δ' σ' H' Z' s' S' k => M.nx δ' σ' H' Z' (z1.trans (s3.trans s')) S' k, fun δ' σ' H' Z' s' S' k => ⟨Z', δ', s3.trans s', S', k⟩⟩
 . have e : j = ds.length := by omega
   subst e
   exact .inl ⟨st H2 (s.trans S2.zh), M.nx δ2 σ H2 Z2 (z1.trans s) S2 (hd δ2 p2)⟩
theorem acj {D : dF} {body gu : List Stmt} {is : List Nat} {parts : L3.D -> Option (List L3.D)} (g : Gx X) (ht : Tgt X CL tg is parts) (P : Nat -> List (Option T) -> Prop) (h : GIt X CL b tg iter δ ds δ1) (h0 : P 0 δ1) (hl : ∀ j δ, P j δ -> ∀ i ∈ is, i < δ.length)
   (hs : ∀ j d δ, ds[j]? = some d -> P j δ -> ∃ ps, parts d = some ps /\ fF X CL b body (Mb δ is ps) { nx := P (j + 1), rt := D.rt, bk := fun δ2 => fF X CL b gu δ2 D, ct := P (j + 1) }) (hd : ∀ δ, P ds.length δ -> fF X CL b gu δ D) (hq : ∀ x, foldedSetIterable iter X.env x = pure x := by intro _; rfl) :
   fF X CL b (.For tg iter body [] pos :: gu) δ D :=
 eB (VZ (D := { D with nx := fun δ1 => fF X CL b gu δ1 D }) is parts P h ht h0 hl hs hd (by rw [g.xe]; exact PassesOwn.never) g.calm hq)
end
structure oQ (X : Cx) (scope : Scope) (xs : List Str) (Nc : List Str) (ix : List Nat) : Prop where
 kind : scope.kind = .function
 vm : ∀ y ∈ scope.names, y.2 ≠ .cell
 nd : Nc.Nodup
 names : ∀ y ∈ scope.names, y.2 = .local -> scope.names.lookup y.1 = some .local
 own : ∀ x ∈ xs, scope.names.lookup x = some .local
 frees : ∀ y ∈ scope.names, y.2 = .free -> scope.names.lookup y.1 = some .free /\ (X.env.kindOf y.1 = some .cell \/ X.env.kindOf y.1 = some .free)
 hd : Nc = xs ++ ix.filterMap (X.N[·]?)
 ixs : ∀ i ∈ ix, ∃ y, X.N[i]? = some y /\ scope.names.lookup y = some .free
noncomputable def NX (σ : L2.St) (ix : List Nat) (os : List (Option V)) : L2.St := os ++ ix.map fun i => (σ[i]?).getD none
section
variable {X : Cx} {scope : Scope} {xs : List Str} {Nc : List Str} {ix : List Nat} {pins : List (Addr × Obj)} {σ : L2.St} {H : Hp} {s : Shared}
theorem GK {fp : List Addr} (sc : oQ X scope xs Nc ix) (I : Inv X pins σ H s) (wR : ∀ b ∈ fp, jz X pins H b /\ b < s.heap.objs.size) {h' : Heap} {m : Str -> Option Value} {tk : Nat}
   (hn : h'.Ns s.heap.objs.size m) (hk : ∀ b o, s.heap.get? b = some o -> h'.get? b = some o) :
   Inv (dW X scope Nc s.heap.objs.size s H fp) [] (NX σ ix (List.replicate xs.length none)) H { s with heap := h', toks := tk } := by
 have frees : ∀ y ∈ scope.names, y.2 = .free -> ∃ c, X.env.cells.lookup y.1 = some c := fun y hy e => I.ok.has y.1 (sc.frees y hy e).2
 have sub : ∀ {y : Str} {c : Addr}, (c6 X.env scope.names []).lookup y = some c -> X.env.cells.lookup y = some c := fun {y c} e => mX frees (fun _ _ z => by cases z) e
 have hlen : (NX σ ix (List.replicate xs.length none)).length = Nc.length := by
   have all : ∀ l : List Nat, (∀ i ∈ l, ∃ y, X.N[i]? = some y /\ scope.names.lookup y = some .free) -> (l.filterMap (X.N[·]?)).length = l.length := by
     intro l
     induction l with
     | nil => intro _; rfl
     | cons i r ih =>
       intro h
       obtain ⟨y, e, _⟩ := h i am0
       rw [an6, e]
       show _ + 1 = _ + 1
       rw [ih fun j hj => h j (am2 _ hj)]
   unfold NX
   rw [sc.hd, anm, anm, amY, aon, all ix sc.ixs]
 have C0 : s.heap.get? s.heap.objs.size = none := Heap.get?_none_of_le (am5 _)
 refine ⟨⟨I.ok.mod, sc.kind, I.ok.glob, I.ok.blt, am5 _, fun y z c h1 h2 => I.ok.inj y z c (sub h1) (sub h2), fun y hy => ?_, fun y c hf _ => (by cases (show false = true from hf)), I.ok.hd, I.ok.frames, .inl rfl, fun b hb => ⟨anA (wR b hb).2, fun y c e => (wR b hb).1.2.2.2.2.1 y c (sub e)⟩, I.bs, anL I.ok.UT I.sz, fun b o e hb => ?_, fun b hb hf => ?_, I.stack, I.Cr⟩,
   rfl, I.bare, Un.kept hk, ⟨m, hn, fun i y v h1 h2 h3 => ?_⟩, fun y c e => ?_, I.dU.fresh (am5 _), fun y c e => I.ou y c (sub e), fun p hp => absurd (show p ∈ ([] : List (Addr × Obj)) from hp) (by simp), I.dU.kept hk, hlen⟩
 . 
   have hy' : (relabel scope X.env).names.lookup y = some .cell \/ (relabel scope X.env).names.lookup y = some .free := hy
   cases e : scope.names.lookup y with
   | none => 
     have := jx (env := X.env) e
     rcases hy' with q | q <;> (rw [show (relabel scope X.env).names.lookup y = none from this] at q; cases q)
   | some k =>
     have q := fO (env := X.env) e
     have hk : k = .free := by
       by_cases hk : k = .free
       . exact hk
       . have hb : (k == NameKind.free) = false := by simpa using hk
         rw [amV (by rw [hb]; simp)] at q
         have nc : k ≠ .cell := fun z => by
           subst z
           exact sc.vm _ (an1 e) rfl
         rcases hy' with z | z
         . rw [show (relabel scope X.env).names.lookup y = some k from q] at z
           exact absurd (anj z) nc
         . rw [show (relabel scope X.env).names.lookup y = some k from q] at z
           exact absurd (anj z) hk
     subst hk
     exact jV e
 . 
   rcases (wR b hb).1.2.2.2.1 with z | z
   . exact I.ok.P9 b o e z
   . exact absurd (anD (ang e) (anL I.ok.UT z)) (aoI _)
 . rcases am1.mp (I.Cq b hf) with z | z
   . exact (wR b hb).1.2.1 z
   . exact (wR b hb).1.2.2.1 z
 . 
   unfold NX at h2
   by_cases hi : i < xs.length
   . rw [aoT (by rw [aon]; exact hi), List.getElem?_replicate, amZ hi] at h2
     cases h2
   . obtain ⟨n, rfl⟩ : ∃ n, i = xs.length + n := ⟨i - xs.length, by omega⟩
     rw [aol (by rw [aon]; omega), aon, Nat.add_sub_cancel_left, anq] at h2
     cases ei : ix[n]? with
     | none => rw [ei] at h2; cases h2
     | some j =>
       rw [ei] at h2
       have Q0 : (σ[j]?).getD none = some v := anj h2
       have hj : σ[j]? = some (some v) := by
         cases q : σ[j]? with
         | none => rw [q] at Q0; cases Q0
         | some o => rw [q] at Q0; exact congrArg some Q0
       obtain ⟨y', hy1, V0⟩ := sc.ixs j (ant ei)
       have hNc : Nc[xs.length + n]? = some y' := by
         have all : ∀ (l : List Nat) (i : Nat), (∀ j ∈ l, ∃ y, X.N[j]? = some y /\ scope.names.lookup y = some .free) -> l[i]? = some j -> (l.filterMap (X.N[·]?))[i]? = some y' := by
           intro l
           induction l with
           | nil => intro i _ h; simp at h
           | cons a r ih =>
             intro i h hi
             obtain ⟨ya, ea, _⟩ := h a am0
             rw [an6, ea]
             cases i with
             | zero =>
               simp at hi
               subst hi
               rw [hy1] at ea
               cases ea
               rfl
             | succ i => exact ih i (fun j hj => h j (List.mem_cons_of_mem _ hj)) (by simpa using hi)
         rw [sc.hd, aol (by omega), Nat.add_sub_cancel_left]
         exact all ix n sc.ixs ei
       have ey : y' = y := by
         have h1' : Nc[xs.length + n]? = some y := h1
         rw [hNc] at h1'
         exact anj h1'
       subst ey
       have yI := (sc.frees (y', .free) (an1 V0) rfl).2
       have ack : Vis X.env.scope y' := yI.elim (fun z => .inr (.inl z)) (fun z => .inr (.inr z))
       obtain ⟨m0, hn0, hl0⟩ := I.loc
       obtain ⟨u, ru, lk⟩ := hl0 j y' v hy1 hj ack
       refine ⟨u, ru, ?_⟩
       rcases lk with ⟨kk, _⟩ | ⟨_, c, hc, wI⟩
       . rcases yI with z | z
         . rw [kk] at z; cases z
         . rw [kk] at z; cases z
       . obtain ⟨c', Qa⟩ := jV (env := X.env) (cs := []) V0
         have : c' = c := by
           have := sub Qa
           rw [hc] at this
           exact (anj this).symm
         subst this
         obtain ⟨o, ho, hd⟩ := wI
         refine .inr ⟨?_, c', Qa, o, hk _ _ ho, hd⟩
         have q := fO (env := X.env) V0
         show (relabel scope X.env).names.lookup y' = some .cell \/ (relabel scope X.env).names.lookup y' = some .free
         rw [show (relabel scope X.env).names.lookup y' = _ from q]
         split
         . exact .inl rfl
         . exact .inr rfl
 . obtain ⟨v, o, ho, hd⟩ := I.cell y c (sub e)
   exact ⟨v, o, hk _ _ ho, hd⟩
noncomputable def Q5 (X : Cx) (tg elt : Expr) (ifs : List Expr) (n : Nat) (σ : L2.St) (ix : List Nat) (D : Addr) (N : Hp -> Prop) (xv : V) (os : List (Option V)) (H3 : Hp) : Prop :=
 ∃ t : TG, PG X tg t /\ t xv (NX σ ix os) H3 fun σ8 H4 => ∃ os', os'.length = n /\ σ8 = NX σ ix os' /\ ab1 X ifs σ8 H4 fun ok H5 =>
   if ok = true then Gs X elt σ8 H5 fun y H6 => ∃ acc, H6 D = some (.lst acc) /\ acc.length < sizeLine /\ N (upd H6 D (.lst (acc ++ [y]))) else N H5
theorem yU {elt iter tg : Expr} {pos : Pos} {ifs : List Expr} {J : It} {fp : List Addr} {it : Addr} {tn : Nat -> Heap -> Prop} {G : Addr -> Hp -> Prop} {RR : Value -> Addr -> Result -> Shared -> Prop} {E : Value -> Shared -> Prop}
   (sc : oQ X scope xs Nc ix) (hc : X.calm = true) (I : Inv X pins σ H s) (Tn : Turn X.prog X.w X.K tg J fp it tn) (st : tn 0 s.heap) (hf : ∀ b ∈ fp, jz X pins H b)
   (loop : ∀ D, H D = none -> ∃ W : Nat -> Nat -> Hp -> Prop, (∃ m, W 0 m (upd H D (.lst []))) /\ ∀ i m H2, W i m H2 -> (J.stop i H2 /\ G D H2) ∨
     (J.go i H2 /\ ∃ N : Hp -> Prop, (∀ H', N H' -> ∃ m', m' < m /\ W (i + 1) m' H') /\ ∀ xv H3, J.UW i H2 xv H3 -> ∀ C s0 H0 f0 os, os.length = xs.length -> Q5 (dW X scope Nc C s0 H0 f0) tg elt ifs xs.length σ ix D N xv os H3))
   (hRR : ∀ D C s' H', (∃ m, s'.heap.Ns C m) -> (∃ o, s'.heap.get? C = some o /\ ∀ v, o.data ≠ .cell v) -> H' C = none -> (C ≠ X.env.locals /\ C ∉ X.fs /\ X.s₀.heap.objs.size <= C /\ (∀ y c, X.env.cells.lookup y = some c -> c ≠ C) /\ ∀ q ∈ X.pn ++ pins, q.1 ≠ C) -> (∀ h', Heap.SameBut C s'.heap h' -> Inv X pins σ H' { s' with heap := h' }) -> G D H' -> RR (.ref D) C (.ok .next) s') :
   wpAny (model X.prog X.w) X.A (newList []) (fun acc s₃ => wpAny (model X.prog X.w) X.A (newFunctionEnv scope X.env.globals (c6 X.env scope.names []) [] X.env.qual none .none (some X.env)) (fun Q6 s₄ =>
     codeAny (model X.prog X.w) X.A (.compStart (.ListComp elt [⟨tg, iter, ifs, 0⟩] scope pos) 0 (.ref it) acc { Q6 with scope := relabel scope X.env }) (RR acc Q6.locals) s₄) E s₃) E s := by
 refine wpAny_newObj_type ?_
 have I3 : Inv X pins σ (upd H s.heap.objs.size (.lst [])) { s with heap := s.heap.push { cls := .type "list", dict := none, data := .seq ([] : List Value).toArray } } :=
   I.laid (t' := s.toks) (fun b u e => ana _ e) (am5 _) ⟨by show 0 <= sizeLine; exact ans _, [], 0, .nil, anv _ rfl⟩
 have hD : H s.heap.objs.size = none := I.dU.fresh (am5 _)
 obtain ⟨W, ⟨m0, w0⟩, turn⟩ := loop _ hD
 have Q7 : ∀ b ∈ fp, jz X pins (upd H s.heap.objs.size (.lst [])) b /\ b < (s.heap.push { cls := .type "list", dict := none, data := .seq ([] : List Value).toArray }).objs.size := fun b hb => by
   obtain ⟨f0, f1⟩ := hf b hb
   obtain ⟨o, ho, _⟩ := Tn.obj 0 _ st b hb
   have rE := ang ho
   refine ⟨⟨by rw [aA (anA rE)]; exact f0, f1⟩, ?_⟩
   rw [Heap.size_push]; exact Nat.lt_succ_of_lt rE
 have st3 : tn 0 (s.heap.push { cls := .type "list", dict := none, data := .seq ([] : List Value).toArray }) := Tn.keep 0 _ _ st fun b _ o e => ana _ e
 generalize hs3 : ({ s with heap := s.heap.push { cls := .type "list", dict := none, data := .seq ([] : List Value).toArray } } : Shared) = s3 at I3 ⊢
 have hh3 : s3.heap = s.heap.push { cls := .type "list", dict := none, data := .seq ([] : List Value).toArray } := by rw [← hs3]
 rw [← hh3] at Q7 st3
 refine wpAny_newFunctionEnv sc.vm (by intro y hy; simp at hy) (fun h₁ acn aco => ?_) sc.kind
 have old : ∀ b o, s3.heap.get? b = some o -> h₁.get? b = some o := fun b o e => (aco.2 b (anA (ang e))).trans (ana _ e)
 have J0 := GK (tk := s3.toks + ([] : List (Str × Value)).length) sc I3 Q7 acn old
 have st4 : tn 0 h₁ := Tn.keep 0 _ _ st3 fun b _ o e => old b o e
 have aaC : ∀ s4 : Shared, s4 = { s3 with heap := h₁, toks := s3.toks + ([] : List (Str × Value)).length } -> codeAny (model X.prog X.w) X.A (.compLoop (.ListComp elt [⟨tg, iter, ifs, 0⟩] scope pos) 0 (.ref it) (.ref s.heap.objs.size) (compEnvC scope (c6 X.env scope.names []) s3.heap.objs.size X.env)) (RR (.ref s.heap.objs.size) s3.heap.objs.size) s4 := by
   rintro s4 rfl
   have stat : ∀ {H' : Hp}, (∀ b ∈ fp, H' b = none) -> ∀ b ∈ fp, jz (dW X scope Nc s3.heap.objs.size s3 (upd H s.heap.objs.size (.lst [])) fp) [] H' b := fun {H'} hn b hb => by
     obtain ⟨⟨f0, f1, f2, f3, f4, f5⟩, rE⟩ := Q7 b hb
     refine ⟨hn b hb, anA rE, fun z => ?_, .inl hb, fun y c e => f4 y c (mX (fun y hy e => I.ok.has y.1 (sc.frees y hy e).2) (fun _ _ z => by cases z) e), fun p hp => absurd (show p ∈ ([] : List (Addr × Obj)) from hp) (by simp)⟩
     rcases am1.mp (I3.Cq b z) with q | q
     . exact f1 q
     . exact f2 q
   refine CG (fun n s' => ∃ i o H', o.length = xs.length /\ Inv (dW X scope Nc s3.heap.objs.size s3 (upd H s.heap.objs.size (.lst [])) fp) [] (NX σ ix o) H' s' /\ tn i s'.heap /\ (∀ b ∈ fp, H' b = none) /\ W i n H') ?_ m0 ⟨0, _, _, aon, J0, st4, fun b hb => (Q7 b hb).1.1, w0⟩
   rintro n s5 ⟨i, o5, H5, ol5, I5, st5, fr5, w5⟩
   rcases turn i n H5 w5 with ⟨stop, g⟩ | ⟨go, N, hN, step⟩
   . refine fz (Tn.done (dW X scope Nc s3.heap.objs.size s3 (upd H s.heap.objs.size (.lst [])) fp) rfl rfl rfl hc i [] s5 _ H5 _ I5 (stat fr5) st5 stop) fun r s6 zz => ?_
     obtain ⟨hr, I6⟩ := zz
     subst hr
     obtain ⟨m6, hn6, _⟩ := I6.loc
     obtain ⟨oc, esc, epc, hoc, hdc, _⟩ := id hn6
     have fpC := I3.Ct (am5 s3.heap.objs.size) (H' := fun _ => none) rfl
     refine hRR _ _ s6 H5 ⟨m6, hn6⟩ ⟨oc, hoc, fun v z => by rw [hdc] at z; cases z⟩ I6.free ⟨fpC.2.1, fpC.2.2.1, ?_, fpC.2.2.2.2.1, fpC.2.2.2.2.2⟩ (fun h' hs' => NR I3 (fun b hb => (Q7 b hb).1) I6 hs') g
     exact I3.sz
   . refine fz (Tn.item (dW X scope Nc s3.heap.objs.size s3 (upd H s.heap.objs.size (.lst [])) fp) rfl rfl rfl hc i [] s5 _ H5 _ I5 (stat fr5) st5 go) fun r s6 zz => ?_
     obtain ⟨u, hr, h6⟩ := zz
     subst hr
     refine fz h6 fun _ s7 zz => ?_
     obtain ⟨xv, H7, I7, r7, y7, st7, fr7⟩ := zz
     have I7' := I7.pinned (stat fr7) (Tn.obj _ _ st7)
     obtain ⟨t, hg, ht⟩ := step xv _ y7 s3.heap.objs.size s3 (upd H s.heap.objs.size (.lst [])) fp o5 ol5
     refine fz (hg _ s7 _ H7 xv u _ I7' r7 ht) fun _ s8 zz => ?_
     obtain ⟨σ8, H8, I8, os8, ol8, e8, h8⟩ := zz
     subst e8
     refine fz (QN I8 h8 rfl) fun ok s9 zz => ?_
     obtain ⟨H9, I9, q9⟩ := zz
     have again : ∀ {Ha : Hp} {sa : Shared}, Inv (dW X scope Nc s3.heap.objs.size s3 (upd H s.heap.objs.size (.lst [])) fp) ([] ++ yF fp s7.heap) (NX σ ix os8) Ha sa -> N Ha -> ∃ m, m < n /\ ∃ i o H', o.length = xs.length /\ Inv (dW X scope Nc s3.heap.objs.size s3 (upd H s.heap.objs.size (.lst [])) fp) [] (NX σ ix o) H' sa /\ tn i sa.heap /\ (∀ b ∈ fp, H' b = none) /\ W i m H' := fun {Ha sa} Ia na => by
       obtain ⟨m', hm, wa⟩ := hN Ha na
       refine ⟨m', hm, i + 1, os8, Ha, ol8, Ia.oA, Tn.keep _ _ _ st7 fun b hb o e => (Ia.pin (b, o) (amU _ (amU _ (iP hb e)))).1, fun b hb => ?_, wa⟩
       obtain ⟨o, e, d⟩ := Tn.obj _ _ st7 b hb
       exact (Ia.pin (b, o) (amU _ (amU _ (iP hb e)))).2.1
     cases ok with
     | false =>
       rw [amV ane] at q9 ⊢
       exact again I9 q9
     | true =>
       rw [amZ rfl] at q9 ⊢
       refine fz (q9 _ s9 I9) fun v sa zz => ?_
       obtain ⟨y, Ha, Ia, ra, acc, V1, hlen, na⟩ := zz
       refine fz (BF (X := dW X scope Nc s3.heap.objs.size s3 (upd H s.heap.objs.size (.lst [])) fp) _ sa _ Ha (.ref s.heap.objs.size) [y] (.ref s.heap.objs.size) [v] (fun _ Hb => Hb = upd Ha s.heap.objs.size (.lst (acc ++ [y]))) Ia rfl (.cons ra .nil) ⟨_, acc, y, rfl, rfl, V1, hlen, rfl⟩) fun _ sb zz => ?_
       obtain ⟨_, Hb, Ib, _, eb⟩ := zz
       subst eb
       exact again Ib na
 exact codeAny_compStart_list (aaC _ rfl) (Tn.self _ 0 _ _ _ st4 (aaC _ rfl))
end
noncomputable def NZ (ps : List D) : List (Option T) := ps.map fun p => some (.sh p)
theorem BL : ∀ {ys : List V} {os : List (Option V)} {pre r : L2.St}, os.length = ys.length -> yT (pre ++ (os ++ r)) (List.range' pre.length ys.length) ys = pre ++ (ys.map some ++ r)
 | [], os, pre, r, h => by
   have : os = [] := List.length_eq_zero_iff.mp h
   subst this
   rfl
 | y :: ys, os, pre, r, h => by
   match os, h with
   | o :: os, h =>
     show yT ((pre ++ (o :: (os ++ r))).set pre.length (some y)) (List.range' (pre.length + 1) ys.length) ys = _
     rw [List.set_append_right _ _ (am5 _), Nat.sub_self, List.set_cons_zero]
     have := BL (ys := ys) (os := os) (pre := pre ++ [some y]) (r := r) (by simpa using h)
     simp only [anm, anr, aog, am8, List.singleton_append] at this
     rw [this]
     simp
theorem V2 {K : PySem.W.Frag} {CL : Str -> Addr} {H Z : Hp} : ∀ {ps : List D} {ys : List V} {δc : List (Option T)} {σc : L2.St}, aH K CL Z ps ys -> gj K CL H Z δc σc [] -> gj K CL H Z (NZ ps ++ δc) (ys.map some ++ σc) [] := fun {ps ys δc σc} h e =>
 aH.ind (P := fun ps ys => gj K CL H Z (NZ ps ++ δc) (ys.map some ++ σc) []) e (fun r _ i => .cons (fp := []) (gp := []) (.sh r) i) h
section
variable {X : Cx} {CL : Str -> Addr} {b : Bx} {H Z W1 : Hp} {δ δc : List (Option T)} {σ : L2.St} {ts : List T} {vs : List V} {ds : List D} {scope : Scope} {Nc : List Str} {n : Nat} {ix : List Nat} {elt tg : Expr} {ifs : List Expr} {p : D -> Bool} {g : D -> T} {J : It} {parts : D -> Option (List D)}
noncomputable def vq (X : Cx) (CL : Str -> Addr) (scope : Scope) (Nc : List Str) (n : Nat) (tg : Expr) (parts : D -> Option (List D)) (ifs : List Expr) (elt : Expr) (δc : List (Option T)) (ds : List D) (p : D -> Bool) (g : D -> T) : Prop :=
 ∀ C s0 H0 f0 b', Tgt (dW X scope Nc C s0 H0 f0) CL tg (List.range' 0 n) parts /\ ∀ d, d ∈ ds -> ∃ ps, parts d = some ps /\ ps.length = n /\ TIv (dW X scope Nc C s0 H0 f0) CL b' ifs (NZ ps ++ δc) (p d) /\ (p d = true -> cG (dW X scope Nc C s0 H0 f0) CL b' elt (NZ ps ++ δc) (g d) (NZ ps ++ δc))
structure GW (K : PySem.W.Frag) (CL : Str -> Addr) (H W1 : Hp) (D : Addr) (l : List T) (k : Nat) (H2 Z2 : Hp) (Ja : List V) (fp : List Addr) : Prop where
 a1 : aG H H2
 a2 : aG W1 Z2
 a3 : aG Z2 H2
 a4 : Z2 D = none
 a5 : ∀ a o, Z2 a = some o -> W1 a = none -> H a = none
 a6 : ∀ a o, H2 a = some o -> jv o = true -> Z2 a = some o
 a7 : H2 D = some (.lst Ja)
 a8 : bE K CL H2 Z2 l Ja fp
 a9 : fp.Nodup
 b1 : D ∉ fp
 b2 : ∀ a ∈ fp, Z2 a = none /\ H a = none
 b3 : Ja.length <= k
theorem rT (S : cE X.K CL b H Z δ σ ts vs) (zw : aG Z W1) (wh : aG W1 H) (tp : ∀ a o, H a = some o -> jv o = true -> W1 a = some o)
   (cap : ∀ H', gj X.K CL H' W1 δc (ix.map fun i => (σ[i]?).getD none) []) (inner : vq X CL scope Nc n tg parts ifs elt δc ds p g)
   (N1 : ∀ i H2, aG W1 H2 -> i < ds.length -> J.go i H2)
   (hy : ∀ i Z2 H2 x H', aG W1 Z2 -> aG Z2 H2 -> (∀ a o, H2 a = some o -> jv o = true -> Z2 a = some o) -> i < ds.length -> J.UW i H2 x H' -> ∃ Z3 d, ds[i]? = some d /\ AY Z2 H2 Z3 H' /\ bF X.K CL Z3 d x)
   (Qe : ∀ H2, aG W1 H2 -> J.stop ds.length H2) (hlen : ds.length <= sizeLine) (c : W1 = Z \/ ∀ d ∈ ds, (g d).clean = true) :
   ∀ D, H D = none -> ∃ W : Nat -> Nat -> Hp -> Prop, (∃ m, W 0 m (upd H D (.lst []))) /\ ∀ i m H2, W i m H2 -> (J.stop i H2 /\ ∃ Z2, aG Z Z2 /\ aG H H2 /\ cE X.K CL b H2 Z2 δ σ (.lst ((ds.filter p).map g) :: ts) (.ref D :: vs)) ∨
     (J.go i H2 /\ ∃ N : Hp -> Prop, (∀ H', N H' -> ∃ m', m' < m /\ W (i + 1) m' H') /\ ∀ xv H3, J.UW i H2 xv H3 -> ∀ C s0 H0 f0 os, os.length = n -> Q5 (dW X scope Nc C s0 H0 f0) tg elt ifs n σ ix D N xv os H3) := by
 intro D hD
 have wD : W1 D = none := wh.free hD
 refine ⟨fun i m H2 => m = ds.length - i /\ i <= ds.length /\ ∃ Z2 Ja fp, GW X.K CL H W1 D (((ds.take i).filter p).map g) i H2 Z2 Ja fp, ⟨ds.length, rfl, ans _, W1, [], [], aG.upd hD, .refl _, wh.trans (aG.upd hD), wD, fun a o q z => ?_, fun a o q i => ?_, aV, .nil, an5, by simp, by simp, by simp⟩, ?_⟩
 . rw [q] at z; cases z
 . by_cases ha : a = D
   . subst ha; rw [aV] at q; cases q; cases i
   . rw [aA ha] at q; exact tp a o q i
 . rintro i m H2 ⟨rfl, hi, Z2, Ja, fp, hh, wz, zh, zD, nw, tp2, hD2, ra, nd, nD, own, hav⟩
   by_cases rE : i < ds.length
   . refine .inr ⟨N1 i H2 (wz.trans zh) rE, fun H' => ∃ Z2 Ja fp, GW X.K CL H W1 D (((ds.take (i + 1)).filter p).map g) (i + 1) H' Z2 Ja fp, fun H' h => ⟨ds.length - (i + 1), by omega, rfl, rE, h⟩, fun xv H3 y C s0 H0 f0 os hos => ?_⟩
     obtain ⟨Z3, d, hd, gr, rd⟩ := hy i Z2 H2 xv H3 wz zh tp2 rE y
     have acq : ∀ a, Z2 a = none -> (∃ o, H2 a = some o) -> Z3 a = none := fun a e ⟨o, e2⟩ => by
       cases q : Z3 a with
       | none => rfl
       | some u => rw [gr.new a u q e] at e2; cases e2
     have nw3 : ∀ a o, Z3 a = some o -> W1 a = none -> H a = none := fun a o q z => by
       cases e : Z2 a with
       | none => exact hh.free (gr.new a o q e)
       | some u =>
         have := gr.z a u e
         rw [q] at this; cases this
         exact nw a o e z
     have ra3 : bE X.K CL H3 Z3 (((ds.take i).filter p).map g) Ja fp := ra.mono gr.z fun a ha => by
       obtain ⟨o, e⟩ := ra.there a ha
       rw [e]; exact gr.h a o e
     have ow3 : ∀ a ∈ fp, Z3 a = none /\ H a = none := fun a ha => ⟨acq a (own a ha).1 (ra.there a ha), (own a ha).2⟩
     have zD3 : Z3 D = none := acq D zD ⟨_, hD2⟩
     have hD3 : H3 D = some (.lst Ja) := gr.h D _ hD2
     have hh3 := hh.trans gr.h
     have wz3 := wz.trans gr.z
     have zh3 := gr.zh
     have tp3 := gr.tp
     clear own nw ra zD hD2 hh wz zh tp2 gr acq
     have acs : d ∈ ds := ant hd
     have AJ : ds.take (i + 1) = ds.take i ++ [d] := by rw [anO, hd]; rfl
     obtain ⟨tgt, inn⟩ := inner C s0 H0 f0 ⟨H3, Z3⟩
     obtain ⟨ps, hps, ve, it, ie⟩ := inn d acs
     obtain ⟨t, pg, ht⟩ := tgt
     refine ⟨t, pg, ht Z3 H3 d ps xv _ _ zh3 rd hps fun ys rys => ?_⟩
     have hyl : ys.length = n := by rw [← rys.length]; exact ve
     have es : yT (NX σ ix os) (List.range' 0 n) ys = NX σ ix (ys.map some) := by
       have := BL (ys := ys) (os := os) (pre := []) (r := ix.map fun i => (σ[i]?).getD none) (by rw [hos, hyl])
       rw [hyl] at this
       exact this
     refine ⟨ys.map some, by rw [amY]; exact hyl, es, ?_⟩
     rw [es]
     have S0 : cE X.K CL ⟨H3, Z3⟩ H3 Z3 (NZ ps ++ δc) (NX σ ix (ys.map some)) [] [] :=
       ⟨⟨[], [], V2 rys ((cap H3).mono wz3 fun a ha => by cases ha), .nil, an5, fun a ha => by cases ha⟩, .refl _, .refl _, zh3, fun a o q z => (by have z' : Z3 a = none := z; rw [show Z3 a = some o from q] at z'; cases z'), tp3, (S.afo.mono zw).mono wz3⟩
     refine it.sem S0 fun H4 Z4 z4 k4 S4 => ?_
     have aiM : ∀ a ∈ fp, H4 a = H3 a := fun a ha => by
       obtain ⟨o, e⟩ := ra3.there a ha
       rw [e]; exact k4 a o e
     have Q8 : ∀ a, Z3 a = none -> (∃ o, H3 a = some o) -> Z4 a = none := fun a e ⟨o, e2⟩ => by
       cases q : Z4 a with
       | none => rfl
       | some u =>
         have := S4.new a u q e
         rw [show H3 a = none from this] at e2; cases e2
     cases hp : p d with
     | false =>
       refine Ny ⟨Z4, Ja, fp, hh3.trans k4, wz3.trans z4, S4.zh, Q8 D zD3 ⟨_, hD3⟩, fun a o q z => ?_, S4.tp, k4 D _ hD3, ?_, nd, nD, fun a ha => ⟨Q8 a (ow3 a ha).1 (ra3.there a ha), (ow3 a ha).2⟩, by omega⟩
       . cases e : Z3 a with
         | none => exact hh3.free (S4.new a o q e)
         | some u => 
           have := z4 a u e
           rw [q] at this; cases this
           exact nw3 a o e z
       . rw [AJ, anZ, aop (by simp [hp]), aoM, anu]
         exact ra3.mono z4 aiM
     | true =>
       refine Nz ((ie hp) H4 Z4 (NX σ ix (ys.map some)) [] [] _ S4 fun yv H5 Z5 z5 k5 S5 => ⟨Ja, k5 D _ (k4 D _ hD3), by omega, ?_⟩)
       obtain ⟨f1, g1, e1, r1, nd1, afE⟩ := S5.rep
       cases r1 with
       | @cons _ _ _ _ fy fn ry rn =>
         cases rn
         rw [anu] at nd1 afE
         have ndy : fy.Nodup := (anI.mp nd1).2.1
         have V3 : ∀ a ∈ fy, Z5 a = none /\ H3 a = none := fun a ha => afE a (amU _ ha)
         have JB : ∀ a, Z3 a = none -> (∃ o, H3 a = some o) -> Z5 a = none := fun a e ⟨o, e2⟩ => by
           cases q : Z5 a with
           | none => rfl
           | some u =>
             have := S5.new a u q e
             rw [show H3 a = none from this] at e2; cases e2
         have yD : ∀ a ∈ fy, a ≠ D := fun a ha e => by
           subst e
           rw [(V3 a ha).2] at hD3; cases hD3
         have h5D : H5 D = some (.lst Ja) := k5 D _ (k4 D _ hD3)
         have sD : aG H (upd H5 D (.lst (Ja ++ [yv]))) := fun a o q => by
           rw [aA (aK q hD)]
           exact k5 a o (k4 a o (hh3 a o q))
         refine ⟨Z5, Ja ++ [yv], fp ++ fy, sD, wz3.trans (z4.trans z5), fun a o q => ?_, JB D zD3 ⟨_, hD3⟩, fun a o q z => ?_, fun a o q im => ?_, aV, ?_, ?_, ?_, fun a ha => ?_, ?_⟩
         . rw [aA (aK q (JB D zD3 ⟨_, hD3⟩))]; exact S5.zh a o q
         . cases e : Z3 a with
           | none => exact hh3.free (S5.new a o q e)
           | some u =>
             have := z5 a u (z4 a u e)
             rw [q] at this; cases this
             exact nw3 a o e z
         . by_cases ha : a = D
           . subst ha; rw [aV] at q; cases q; cases im
           . rw [aA ha] at q; exact S5.tp a o q im
         . rw [AJ, anZ, aoe hp, aoM, aoU]
           refine bE.app (ra3.mono (z4.trans z5) fun a ha => ?_) (by
             have := bE.cons (fp := fy) (gp := []) (ry.mono (.refl _) fun a ha => aA (yD a ha)) (bE.nil (H := upd H5 D (.lst (Ja ++ [yv]))) (Z := Z5))
             rwa [anu] at this)
           have : a ≠ D := fun e => nD (e ▸ ha)
           rw [aA this]
           obtain ⟨o, e⟩ := ra3.there a ha
           rw [e]; exact k5 a o (k4 a o e)
         . refine anI.mpr ⟨nd, ndy, fun a ha a' QH e => ?_⟩
           subst e
           obtain ⟨o, e⟩ := ra3.there a ha
           rw [(V3 a QH).2] at e; cases e
         . intro h
           rcases am3.mp h with h | h
           . exact nD h
           . exact yD D h rfl
         . rcases am3.mp ha with h | h
           . exact ⟨JB a (ow3 a h).1 (ra3.there a h), (ow3 a h).2⟩
           . exact ⟨(V3 a h).1, hh3.free (V3 a h).2⟩
         . rw [anm, List.length_singleton]; omega
   . have e : i = ds.length := by omega
     subst e
     refine .inl ⟨Qe H2 (wz.trans zh), ?_⟩
     rw [anK] at ra
     obtain ⟨Z', z', S'⟩ := S.back (H' := H2) (W := W1) (W' := Z2) (t := .lst ((ds.filter p).map g)) (v := .ref D) (fp := D :: fp) hh zw wz zh nw tp2 (.lst hD2 ra) (aoa.mpr ⟨nD, nd⟩) (fun a ha => by
       rcases am1.mp ha with h | h
       . subst h; exact ⟨zD, hD⟩
       . exact own a h) (c.imp id fun c => by
         rw [iR]
         exact yM fun d hd => c d (anB.mp hd).1)
     exact ⟨Z', z', hh, S'⟩
end
section
variable {X : Cx} {CL : Str -> Addr} {b : Bx} {δ δ1 : List (Option T)} {scope : Scope} {xs : List Str} {Nc : List Str} {ix : List Nat} {elt iter tg : Expr} {ifs : List Expr} {pos : Pos} {ds : List D} {p : D -> Bool} {g : D -> T} {δc : List (Option T)} {parts : D -> Option (List D)}
theorem BO {J : It} {fp : List Addr} {it : Addr} {tn : Nat -> Heap -> Prop} {pins : List (Addr × Obj)} {σ : L2.St} {H H1 Z : Hp} {s : Shared} {ts : List T} {vs : List V} {RR : Value -> Addr -> Result -> Shared -> Prop} {E : Value -> Shared -> Prop}
   (sc : oQ X scope xs Nc ix) (hc : X.calm = true) (C : CP X CL b δ1 σ ts vs Z H ds J H1) (I : L2.Inv X pins σ H1 s) (Tn : Turn X.prog X.w X.K tg J fp it tn) (st : tn 0 s.heap) (hf : ∀ b ∈ fp, jz X pins H1 b)
   (hb : (δc = yN δ1 ix /\ ∀ d ∈ ds, (g d).clean = true) \/ δc = Gz δ1 ix) (inner : vq X CL scope Nc xs.length tg parts ifs elt δc ds p g) (hlen : ds.length <= sizeLine)
   (hRR : ∀ D C s' H' Z', (∃ m, s'.heap.Ns C m) -> (∃ o, s'.heap.get? C = some o /\ ∀ v, o.data ≠ .cell v) -> H' C = none -> (C ≠ X.env.locals /\ C ∉ X.fs /\ X.s₀.heap.objs.size <= C /\ (∀ y c, X.env.cells.lookup y = some c -> c ≠ C) /\ ∀ q ∈ X.pn ++ pins, q.1 ≠ C) -> (∀ h', Heap.SameBut C s'.heap h' -> L2.Inv X pins σ H' { s' with heap := h' }) -> aG Z Z' -> aG H H' -> cE X.K CL b H' Z' δ1 σ (.lst ((ds.filter p).map g) :: ts) (.ref D :: vs) -> RR (.ref D) C (.ok .next) s') :
   wpAny (model X.prog X.w) X.A (newList []) (fun acc s₃ => wpAny (model X.prog X.w) X.A (newFunctionEnv scope X.env.globals (c6 X.env scope.names []) [] X.env.qual none .none (some X.env)) (fun Q6 s₄ =>
     codeAny (model X.prog X.w) X.A (.compStart (.ListComp elt [⟨tg, iter, ifs, 0⟩] scope pos) 0 (.ref it) acc { Q6 with scope := relabel scope X.env }) (RR acc Q6.locals) s₄) E s₃) E s := by
 obtain ⟨Z1, z1, k1, S1, go, yl, stp⟩ := C.ex
 have lp : ∀ D, H1 D = none -> ∃ W : Nat -> Nat -> Hp -> Prop, (∃ m, W 0 m (upd H1 D (.lst []))) /\ ∀ i m H2, W i m H2 -> (J.stop i H2 /\ ∃ Z2, aG Z1 Z2 /\ aG H1 H2 /\ cE X.K CL b H2 Z2 δ1 σ (.lst ((ds.filter p).map g) :: ts) (.ref D :: vs)) ∨
     (J.go i H2 /\ ∃ N : Hp -> Prop, (∀ H', N H' -> ∃ m', m' < m /\ W (i + 1) m' H') /\ ∀ xv H3, J.UW i H2 xv H3 -> ∀ C s0 H0 f0 os, os.length = xs.length -> Q5 (dW X scope Nc C s0 H0 f0) tg elt ifs xs.length σ ix D N xv os H3) := by
   rcases hb with ⟨e, cl⟩ | e
   . subst e
     exact rT (W1 := H1) S1 S1.zh (.refl _) (fun _ _ q _ => q) (sY S1 ix) inner (fun i H2 s => go i H2 (S1.zh.trans s)) (fun i Z2 H2 y H' s => yl i Z2 H2 y H' (S1.zh.trans s)) (fun H2 s => stp H2 (S1.zh.trans s)) hlen (.inr cl)
   . subst e
     exact rT (W1 := Z1) S1 (.refl _) S1.zh S1.tp (GA S1 ix) inner go yl stp hlen (.inl rfl)
 exact yU sc hc I Tn st hf lp fun D C s' H' m io nC ch ci ⟨Z', z', k', S'⟩ => hRR D C s' H' Z' m io nC ch ci (z1.trans z') (k1.trans k') S'
theorem oR (sc : oQ X scope xs Nc ix) {pins : List (Addr × Obj)} {σ : L2.St} {H : Hp} {s : Shared} (I : L2.Inv X pins σ H s) : closureFor scope X.env = pure (c6 X.env scope.names []) :=
 kY fun y hy e => I.ok.has y.1 (sc.frees y hy e).2
theorem GL (sc : oQ X scope xs Nc ix) (hc : X.calm = true) (h : GIt X CL b tg iter δ ds δ1) (hb : (δc = yN δ1 ix /\ ∀ d ∈ ds, (g d).clean = true) \/ δc = Gz δ1 ix) (inner : vq X CL scope Nc xs.length tg parts ifs elt δc ds p g) (hlen : ds.length <= sizeLine)
   (hs : ∀ x, foldedSetIterable iter X.env x = pure x := by intro _; rfl) : cG X CL b (.ListComp elt [⟨tg, iter, ifs, 0⟩] scope pos) δ (.lst ((ds.filter p).map g)) δ1 := fun H Z σ ts vs Q S k pins s I => by
 obtain ⟨wi, pi, hw⟩ := h
 rw [eval_ListComp]
 refine aoV (use := none) rfl hs (oR sc I) sc.kind sc.names ?_
 refine fz (pi pins s σ H _ I (hw H Z σ ts vs (fun J H1 => CP X CL b δ1 σ ts vs Z H ds J H1) S fun J H1 C => C)) fun v s1 h1 => fz h1 fun itv s2 zz => ?_
 obtain ⟨it, fp, tn, J, H1, e, I1, Tn, st, hf, C⟩ := zz
 subst e
 refine BO (RR := fun acc C => compPost (model X.prog X.w) X.A X.xe none (EP X pins σ Q) acc C) sc hc C I1 Tn st hf hb inner hlen fun D C' s' H' Z' m io nC ch ci z' k' S' => ?_
 obtain ⟨m, hn⟩ := m
 exact ⟨m, hn, fun h' hs' => ⟨.ref D, H', ci h' hs', rfl, k _ H' Z' z' k' S'⟩⟩
theorem V4 {D : dF} {y : Str} {py afF : Pos} (i : Nat) (sc : oQ X scope xs Nc ix) (hc : X.calm = true) (h : GIt X CL b tg iter δ ds δ1) (hb : (δc = yN δ1 ix /\ ∀ d ∈ ds, (g d).clean = true) \/ δc = Gz δ1 ix) (inner : vq X CL scope Nc xs.length tg parts ifs elt δc ds p g) (hlen : ds.length <= sizeLine)
   (k : D.nx (δ1.set i (some (.lst ((ds.filter p).map g))))) (hl : i < δ1.length) (hN : X.N.Nodup) (hi : X.N[i]? = some y) (hx : Loc X.env.scope y) (hf' : X.fn y = true \/ X.env.scope.names.lookup y = some .local)
   (xD : swapsWith (.ListComp elt [⟨tg, iter, ifs, 0⟩] scope pos) (some (.Name y py)) afF.line X.env = pure true)
   (hs : ∀ x, foldedSetIterable iter X.env x = pure x := by intro _; rfl) : UX X CL b (.Assign [.Name y py] (.ListComp elt [⟨tg, iter, ifs, 0⟩] scope pos) afF) δ D := fun H Z σ ts vs E S M pins s I => by
 obtain ⟨wi, pi, hw⟩ := h
 rw [exec_Assign_Name_used _ _ _ _ xD]
 refine anh (wpAny_standAt (anh ?_))
 show wpAny _ X.A (do let _ ← comprehension (.ListComp elt [⟨tg, iter, ifs, 0⟩] scope pos) scope X.env _ (newList []) false (eval iter X.env) (some (assign (.Name y py) X.env))) _ _ s
 refine anh (aok (aoV (use := some (assign (.Name y py) X.env)) (Q := fun _ s' => SP X pins E .next s') rfl hs (oR sc I) sc.kind sc.names ?_) (fun _ s' hq => anM (anM hq)) fun _ _ e => e)
 refine fz (pi pins s σ H _ I (hw H Z σ ts vs (fun J H1 => CP X CL b δ1 σ ts vs Z H ds J H1) S fun J H1 C => C)) fun v s1 h1 => fz h1 fun itv s2 zz => ?_
 obtain ⟨it, fp, tn, J, H1, e, I1, Tn, st, hf, C⟩ := zz
 subst e
 refine BO (RR := fun acc C => compPost (model X.prog X.w) X.A X.xe (some (assign (.Name y py) X.env)) (fun _ s' => SP X pins E .next s') acc C) sc hc C I1 Tn st hf hb inner hlen fun D' C' s' H' Z' m io nC ch ci z' k' S' => ?_
 obtain ⟨m, hn⟩ := m
 obtain ⟨o, ho, wI⟩ := io
 have I' : L2.Inv X pins σ H' s' := ci s'.heap (.refl ..)
 have I2 : L2.Inv X (pins ++ [(C', o)]) σ H' s' := I'.xJ fun q hq => by
   rcases am3.mp hq with z | z
   . exact I'.pin q (amU _ z)
   . have e : q = (C', o) := by simpa using z
     subst e
     exact ⟨ho, nC, ch.1, ch.2.1, wI⟩
 show wpAny _ X.A (assign (.Name y py) X.env (.ref D')) _ _ s'
 have hg : PG X (.Name y py) (wJ i) := sP hN hi hx hf'
 refine fz (hg _ s' σ H' (.ref D') (.ref D') (fun σ8 H8 => σ8 = σ.set i (some (.ref D')) /\ H8 = H') I2 rfl ⟨rfl, rfl⟩) fun _ s8 zz => ?_
 obtain ⟨σ8, H8, I8, e8, e8'⟩ := zz
 subst e8
 subst e8'
 obtain ⟨hC8, nC8, _⟩ := I8.pin (C', o) (amU _ (amU _ (by simp)))
 refine ⟨m, hn.at' fun o' e' => by rw [ho] at e'; cases e'; exact hC8, fun h' hs' => ?_⟩
 have I9 : L2.Inv X pins (σ.set i (some (.ref D'))) _ s8 := I8.xJ fun q hq => I8.pin q (amU _ (am7 _ hq))
 have I10 := I9.turned (it := C') (h' := h') (t' := s8.toks) (fun b o hb e => (hs'.2 b hb).trans e) nC8 ch.1.symm.symm (.inr ch.2.2.1) ch.2.2.2.1 ch.2.2.2.2
 exact ⟨_, _, I10, M.nx _ _ _ Z' z' (S'.set hl) k⟩
theorem acu {D : dF} {gu : List Stmt} {i : Nat} {x : Str} {pos' pc : Pos} (gx : Gx X) (n : Ln X i x) (sc : oQ X scope xs Nc ix) (h : GIt X CL b tg iter δ ds δ1)
   (hb : (δc = yN δ1 ix /\ ∀ d ∈ ds, (g d).clean = true) \/ δc = Gz δ1 ix) (inner : vq X CL scope Nc xs.length tg parts ifs elt δc ds p g) (hlen : ds.length <= sizeLine) (k : fF X CL b gu (δ1.set i (some (.lst ((ds.filter p).map g)))) D) (hl : i < δ1.length)
   (xD : swapsWith (.ListComp elt [⟨tg, iter, ifs, 0⟩] scope pc) (some (.Name x pos')) pos.line X.env = pure true \/ swapsWith (.ListComp elt [⟨tg, iter, ifs, 0⟩] scope pc) (some (.Name x pos')) pos.line X.env = pure false) (hs : ∀ x, foldedSetIterable iter X.env x = pure x := by intro _; rfl) :
   fF X CL b (.Assign [.Name x pos'] (.ListComp elt [⟨tg, iter, ifs, 0⟩] scope pc) pos :: gu) δ D := by
 rcases xD with xD | xD
 . exact eB (V4 i sc gx.calm h hb inner hlen k hl gx.nd n.hi n.loc n.hf xD hs)
 . exact eB (QM i (GL sc gx.calm h hb inner hlen hs) k hl gx.nd n.hi n.loc xD n.hf)
theorem acv {i : Nat} {x : Str} {C : Addr} {s : Shared} {H : Hp} {fp : List Addr} (h1 : Nc[i]? = some x) (h2 : scope.names.lookup x = some .local) (hd : (x == ("__debug__" : Str)) = false := by decide) (jy : (x == ("__classdict__" : Str)) = false := by decide) : Ln (dW X scope Nc C s H fp) i x :=
 ⟨fh h1 h2 hd jy, .inl (lookup_relabel_local h2), .inr (lookup_relabel_local h2)⟩
end
noncomputable def Ite (K : PySem.W.Frag) (a : Addr) : It :=
 ⟨fun i H => ∃ xs x, oj K H a xs /\ xs[i]? = some x, fun i H x H' => ∃ T y, H T = none /\ x = .ref T /\ (∀ xs, oj K H a xs -> xs[i]? = some y) /\ H' = upd H T (.tup [.int i, y]), fun i H => ∃ xs, oj K H a xs /\ xs.length <= i⟩
theorem N2 {P : Program} {w : World} {K : PySem.W.Frag} {elts : List Expr} {kk : Nat} {pt : Pos} (a e it : Addr) (jl : e ≠ it) : Turn P w K (.Tuple elts kk pt) (Ite K a) [e, it] e (fun i h => (∃ old, PySem.IsEnum h e it i old) /\ h.IsListIter it a i) where
 mem := by simp
 obj := fun i h st b hb => by
   obtain ⟨⟨old, he⟩, hit⟩ := st
   rcases am1.mp hb with z | z
   . subst z
     exact ⟨_, he, fun v z => by
       have z' : Data.fields _ = Data.cell v := z
       cases z'⟩
   . have z : b = it := by simpa using z
     subst z
     obtain ⟨o, e, c, d⟩ := hit
     exact ⟨o, e, fun v z => by rw [d] at z; cases z⟩
 keep := fun i h h' st k => by
   obtain ⟨⟨old, he⟩, hit⟩ := st
   exact ⟨⟨old, k e (by simp) _ he⟩, hit.at fun o q => k it (by simp) o q⟩
 item := by
   intro X hP hw hK hc i pins s σ H E I hf st hg
   subst hP hw hK
   obtain ⟨xs, x, hq, hx⟩ := hg
   obtain ⟨its, rv, p, hz⟩ := I.list hq
   obtain ⟨u, hu, ru⟩ := rv.get hx
   obtain ⟨⟨old, he⟩, hit⟩ := st
   have fe := hf e (by simp)
   have fi := hf it (by simp)
   have hT0 : H s.heap.objs.size = none := I.dU.fresh (am5 _)
   have fT := I.Ct (am5 s.heap.objs.size) hT0
   refine PySem.wpAny_pyNext_enum_item he hit p.isList (x := u) (by simpa using hu) jl fun h' ho aiO hT hsz hk => ⟨_, rfl, ?_⟩
   refine PySem.wpAny_letOwnedTupleGo_enum ho fun h2 he2 Jh => ?_
   replace Jh : Heap.SameBut e h' h2 := Jh
   have eT : e < s.heap.objs.size := ang he
   have keep : ∀ b o, b ≠ e -> b ≠ it -> s.heap.get? b = some o -> h2.get? b = some o := fun b o h1 h3 q => (Jh.2 b h1).trans (hk b o h1 h3 q)
   have hT2 : h2.get? s.heap.objs.size = some { cls := .type "tuple", data := .seq #[.int i s.toks, u] } := (Jh.2 _ (Nat.ne_of_gt eT)).trans hT
   have nH : ∀ b o, H b = some o -> b ≠ e /\ b ≠ it /\ b ≠ s.heap.objs.size := fun b o q => ⟨fun z => (by rw [z, fe.1] at q; cases q), fun z => (by rw [z, fi.1] at q; cases q), fun z => (by rw [z, hT0] at q; cases q)⟩
   have I' : L2.Inv X pins σ (upd H s.heap.objs.size (.tup [.int i, x])) { s with heap := h2, toks := s.toks + 1 } := by
     refine I.step (g' := s.gens) (d' := s.drawn) (ch := [e, it, s.heap.objs.size]) (fun b hb => ?_) (fun b o _ _ hc q _ => ?_) (fun b o _ _ hc q _ => ⟨o.slots, ?_⟩) (fun b o hc q n => ?_) (fun b o hc q => ⟨o, ?_⟩) (fun b ys q => ?_) (fun b o u q => ?_) (fun b ps q => ⟨#[], ?_⟩) (fun m hm => ?_) (fun b o q => ?_) I.bare
     . rcases am1.mp hb with z | hb
       . subst z; exact ⟨fe.2.2.2.1, fe.2.1, fe.2.2.2.2.1, fe.2.2.2.2.2⟩
       . rcases am1.mp hb with z | hb
         . subst z; exact ⟨fi.2.2.2.1, fi.2.1, fi.2.2.2.2.1, fi.2.2.2.2.2⟩
         . have z : b = s.heap.objs.size := by simpa using hb
           subst z; exact ⟨fT.2.2.2.1, fT.2.1, fT.2.2.2.2.1, fT.2.2.2.2.2⟩
     . exact keep b o (fun z => hc (by simp [z])) (fun z => hc (by simp [z])) q
     . exact keep b o (fun z => hc (by simp [z])) (fun z => hc (by simp [z])) q
     . rw [aA (fun z => hc (by simp [z]))]; exact n
     . exact keep b o (fun z => hc (by simp [z])) (fun z => hc (by simp [z])) q
     . rw [aA (nH b _ q).2.2]; exact q
     . rw [aA (nH b _ q).2.2]; exact q
     . rw [aA (nH b _ q).2.2, q]; simp
     . obtain ⟨o, es, ep, ho, r⟩ := hm
       exact ⟨o, es, ep, keep _ o (Ne.symm fe.2.1) (Ne.symm fi.2.1) ho, r⟩
     . by_cases hb : b = s.heap.objs.size
       . subst hb
         rw [aV] at q
         cases q
         exact ⟨anY (cA (amX rfl)), [.int i s.toks, u], .cons ⟨s.toks, rfl⟩ (.cons ru .nil), ⟨_, hT2, rfl, _, rfl⟩⟩
       . rw [aA hb] at q
         refine (I.dU b o q).Ck (fun c v hc z => keep c v ?_ ?_ z) (fun c z => by rw [aA (nH c _ z).2.2]; exact z) (fun c ys z => by rw [aA (nH c _ z).2.2]; exact z) fun c ys z => by rw [aA (nH c _ z).2.2]; exact z
         . rcases hc with z | z
           . rw [z]; exact (nH b _ q).1
           . exact (nH c _ z).1
         . rcases hc with z | z
           . rw [z]; exact (nH b _ q).2.1
           . exact (nH c _ z).2.1
   have ei : ((i + 1 : Nat) : Int) = (i : Int) + 1 := by omega
   refine ⟨.ref s.heap.objs.size, _, I', rfl, ⟨_, x, hT0, rfl, fun ys hy => by rw [I.Ga hy hq]; exact hx, rfl⟩, ⟨⟨u, by rw [ei]; exact he2⟩, aiO.at fun o q => (Jh.2 it (Ne.symm jl)).trans q⟩, fun b hb => ?_⟩
   have hb' := hf b hb
   obtain ⟨o, U9, _⟩ : ∃ o, s.heap.get? b = some o /\ True := by
     rcases am1.mp hb with z | z
     . subst z; exact ⟨_, he, trivial⟩
     . have z : b = it := by simpa using z
       subst z
       obtain ⟨o, q, _⟩ := hit
       exact ⟨o, q, trivial⟩
   rw [aA (anA (ang U9))]
   exact hb'.1
 done := by
   intro X hP hw hK hc i pins s σ H E I hf st hg
   subst hP hw hK
   obtain ⟨xs, hq, hx⟩ := hg
   obtain ⟨its, rv, p, hz⟩ := I.list hq
   obtain ⟨⟨old, he⟩, hit⟩ := st
   obtain ⟨f0, f1, f2, f3, f4, f5⟩ := hf it (by simp)
   have hl := rv.length
   exact PySem.wpAny_pyNext_enum_end (I.ok.hd hc) he hit p.isList (by simp; omega) fun h' eb => ⟨rfl, I.turned (t' := s.toks) (fun b o hb e => eb b o hb e) f0 f1 f3 f4 f5⟩
 self := fun _ _ _ _ _ st h => by
   obtain ⟨⟨old, he⟩, _⟩ := st
   exact PySem.wpAny_pyIter_enum he h
section
variable {X : Cx} {elts : List Expr} {kk : Nat} {pt : Pos}
noncomputable def afG (K : PySem.W.Frag) (ta : TA) : TI := fun σ H R => ta σ H fun vs H1 => ∃ a xs, vs = [.ref a] /\ oj K H1 a xs /\ R (Ite K a) H1
theorem V5 {a : Expr} {ta : TA} {p pos : Pos} (hg : Gl X "enumerate") (hm : X.mg "enumerate" = none) (ha : PA X [a] ta) (hs : starEach [a] X.env = (false, eval a X.env) :: starEach [] X.env) : PI X (.Tuple elts kk pt) (.Call (.Name "enumerate" p) [a] [] pos) (afG X.K ta) := by
 intro pins s σ H R I h
 refine Call_ (rQ I hg hm boot_enumerate (aot (fz (ha pos pins s σ H _ I h) fun us s1 zz => ?_) hs rfl))
 obtain ⟨vs, H1, I1, r1, q1⟩ := zz
 obtain ⟨l, xs, e, hq, q⟩ := q1
 subst e
 cases r1 with
 | cons r rr =>
   cases rr
   cases r
   obtain ⟨its, rv, p, hz⟩ := I1.list hq
   refine PySem.call_enumerate_list p.isList fun h' he hit hsz hk => ?_
   have I2 : L2.Inv X pins σ H1 { s1 with heap := h' } := I1.kept (t' := s1.toks) fun b o e => hk b o e
   refine PySem.wpAny_pyIter_enum he ?_
   refine ⟨s1.heap.objs.size + 1, [s1.heap.objs.size + 1, s1.heap.objs.size], _, _, H1, rfl, I2, N2 l _ _ (Nat.succ_ne_self _), ⟨⟨_, he⟩, hit⟩, fun b hb => ?_, q⟩
   rcases am1.mp hb with z | z
   . subst z
     exact I1.Ct (aoE _) (I1.dU.fresh (aoE _))
   . have z : b = s1.heap.objs.size := by simpa using z
     subst z
     exact I1.Ct (am5 _) (I1.dU.fresh (am5 _))
end
noncomputable def yV (ds : List D) : List D := (List.range ds.length).map fun (i : Nat) => .tup [.int i, ds.getD i .non]
theorem vt (ds : List D) : (yV ds).length = ds.length := by simp [yV]
theorem N3 {ds : List D} {i : Nat} {d : D} (h : ds[i]? = some d) : (yV ds)[i]? = some (.tup [.int i, d]) := by
 have hi : i < ds.length := (anf.mp h).1
 unfold yV
 rw [anq, an7 hi]
 show some (D.tup [.int i, ds.getD i .non]) = _
 rw [am4, h]
 rfl
section
variable {X : Cx} {CL : Str -> Addr} {b : Bx} {δ δ1 : List (Option T)} {e : Expr} {ds : List D} {elts : List Expr} {kk : Nat} {pt pr pc : Pos}
theorem V6 (hm : X.mg "enumerate" = none) (h : cG X CL b e δ (.sh (.lst ds)) δ1) (hg : Gl X "enumerate") (hs : starEach [e] X.env = (false, eval e X.env) :: starEach [] X.env := by exact bW rfl) : GIt X CL b (.Tuple elts kk pt) (.Call (.Name "enumerate" pr) [e] [] pc) δ (yV ds) δ1 := by
 refine ⟨_, V5 hg hm (cH eN fc hs) hs, fun H Z σ ts vs R S k => h H Z σ ts vs _ S fun v H1 Z1 z1 k1 S1 => ?_⟩
 obtain ⟨fp, gp, _, r, _, _⟩ := S1.rep
 cases r with
 | cons r _ =>
   cases r with
   | sh r =>
     cases r with
     | @lst a us _ hq rr =>
       have hl := rr.length
       refine ⟨a, us, rfl, S1.zh.seq hq, k _ _ ⟨Z1, z1, k1, S1.pop, fun i H2 s hi => ?_, fun i Z2 H2 x H' s1 s2 tp hi hy => ?_, fun H2 s => ?_⟩⟩
       . rw [vt] at hi
         have I0 : i < us.length := by rw [← hl]; exact hi
         exact ⟨us, us[i], s.seq hq, amW I0⟩
       . rw [vt] at hi
         obtain ⟨T, y, hT, rfl, hx, rfl⟩ := hy
         obtain ⟨d, hd, rd⟩ := rr.NF (hx us ((s1.trans s2).seq hq))
         have gr : AY Z2 H2 _ _ := AY.tup (xs := [.int i, y]) s2 tp hT
         exact ⟨_, _, N3 hd, gr, .tup (yE.of aV) (.cons (.int _) (.cons ((rd.mono s1).mono gr.z) .nil))⟩
       . rw [vt]
         exact ⟨us, s.seq hq, by rw [← hl]; exact am5 _⟩
end
noncomputable def insI (x : Int) : List Int -> List Int
 | [] => [x]
 | y :: l => if x <= y then x :: y :: l else y :: insI x l
noncomputable def sortI : List Int -> List Int
 | [] => []
 | x :: l => insI x (sortI l)
theorem insI_perm (x : Int) : ∀ l, (insI x l).Perm (x :: l)
 | [] => .refl _
 | y :: l => by
   rw [insI]
   split
   . exact .refl _
   . exact ((insI_perm x l).cons y).trans (.swap x y l)
theorem sortI_perm : ∀ l, (sortI l).Perm l
 | [] => .refl _
 | x :: l => (insI_perm x (sortI l)).trans ((sortI_perm l).cons x)
theorem N4 {l : List Int} {x : Int} : x ∈ sortI l ↔ x ∈ l := (sortI_perm l).mem_iff
theorem BP (l : List Int) : (sortI l).length = l.length := (sortI_perm l).length_eq
theorem wV (x : Int) : ∀ {l : List Int}, l.Pairwise (· <= ·) -> (insI x l).Pairwise (· <= ·)
 | [], _ => List.pairwise_singleton _ _
 | y :: l, h => by
   rw [insI]
   obtain ⟨h1, h2⟩ := anR.mp h
   split
   . rename_i e
     refine anR.mpr ⟨fun z hz => ?_, h⟩
     rcases am1.mp hz with rfl | hz
     . exact e
     . exact Int.le_trans e (h1 z hz)
   . rename_i e
     refine anR.mpr ⟨fun z hz => ?_, wV x h2⟩
     rcases am1.mp ((insI_perm x l).mem_iff.mp hz) with rfl | hz
     . omega
     . exact h1 z hz
theorem tL : ∀ l, (sortI l).Pairwise (· <= ·)
 | [] => .nil
 | x :: l => wV x (tL l)
theorem wW : ∀ {a b : List Int}, a.Perm b -> a.Pairwise (· <= ·) -> b.Pairwise (· <= ·) -> a = b
 | [], b, p, _, _ => (List.nil_perm.mp p).symm
 | x :: a, [], p, _, _ => absurd p.length_eq (by simp)
 | x :: a, y :: b, p, ha, hb => by
   obtain ⟨a1, a2⟩ := anR.mp ha
   obtain ⟨b1, b2⟩ := anR.mp hb
   have e : x = y := by
     have h1 : x ∈ y :: b := p.mem_iff.mp am0
     have h2 : y ∈ x :: a := p.mem_iff.mpr am0
     rcases am1.mp h1 with e | h1
     . exact e
     . rcases am1.mp h2 with e | h2
       . exact e.symm
       . exact Int.le_antisymm (a1 y h2) (b1 x h1)
   subst e
   rw [wW (List.Perm.cons_inv p) a2 b2]
theorem Q9 {l z : List Int} (p : z.Perm l) (s : z.Pairwise (· <= ·)) : z = sortI l := wW (p.trans (sortI_perm l).symm) s (tL l)
theorem tM : ∀ {us : List Value} {ns : List Int}, IntsAre us ns -> Vals (ns.map V.int) us
 | _, _, .nil => .nil
 | _, _, .cons n t r => .cons ⟨t, rfl⟩ (tM r)
section
variable {X : Cx}
theorem CQ : lP X (.builtin "sorted") (fun xs H Q => ∃ p ns, xs = [.ref p] /\ oj X.K H p (ns.map .int) /\ ns.length < 64 /\ ∀ l, H l = none -> Q (.ref l) (upd H l (.lst ((sortI ns).map .int)))) := by
 intro pins s σ H xs us Q I r h
 obtain ⟨p, ns, rfl, hq, hl, q⟩ := h
 obtain ⟨u, rfl, rx⟩ := vals1 r
 cases rx
 obtain ⟨its, r', pl, hz⟩ := I.list hq
 have hlen := r'.length
 rw [amY] at hlen
 refine sorted_ints pl.isList (intsAre_of r') (by omega) fun out ns' a1 a2 a3 => ?_
 obtain ⟨e, he⟩ := sortedAll_at s.heap its out
 have e2 : ns' = sortI ns := Q9 a2 a3
 subst e2
 refine ⟨.ref (s.heap.objs.size + 1), _, I.laid (t' := s.toks) (fun _ _ => sortedAll_old) (aoE _) (show eY X.prog X.w _ _ _ (.lst ((sortI ns).map .int)) from ⟨?_, out.toList, e, tM a1, ?_⟩), rfl, q _ (I.dU.fresh (aoE _))⟩
 . rw [amY, BP]
   rw [amY] at hz
   exact hz
 . simpa using he
theorem tN : bootBuiltins "sorted" = some (.builtin "sorted") := by decide +kernel
end
section
variable {X : Cx} {CL : Str -> Addr} {b : Bx} {δ δ1 : List (Option T)} {e : Expr} {pos pp : Pos}
theorem vv {K : PySem.W.Frag} {Z : Hp} {l : List Int} {us : List V} (h : aH K CL Z (l.map D.int) us) : us = l.map V.int := by
 refine aH.ind (P := fun ds us => ∀ l : List Int, ds = l.map D.int -> us = l.map V.int) ?_ ?_ h l rfl
 . intro l e
   cases l with
   | nil => rfl
   | cons => cases e
 . intro d v ds vs r _ i l e
   cases l with
   | nil => cases e
   | cons a l =>
     injection e with e1 e2
     subst e1
     rw [i l e2]
     cases r
     rfl
theorem ints_rep {K : PySem.W.Frag} {Z : Hp} : ∀ (l : List Int), aH K CL Z (l.map D.int) (l.map V.int)
 | [] => .nil
 | _ :: l => .cons (.int _) (ints_rep l)
theorem JC {l : List Int} (hm : X.mg "sorted" = none) (h : cV X CL b e δ (.lst (l.map .int)) δ1) (hl : l.length < 64) (hg : Gl X "sorted") (hs : starEach [e] X.env = (false, eval e X.env) :: starEach [] X.env := by exact bW rfl) : cG X CL b (.Call (.Name "sorted" pp) [e] [] pos) δ (.lst (((sortI l).map D.int).map T.sh)) δ1 := fun H Z σ ts vs Q S k =>
 dw (oB CQ hg hm tN (cH eN fc hs) (he := hs)) (h H Z σ ts vs _ S fun v H1 Z1 z1 k1 S1 r => by
   cases r with
   | @lst a us _ hq rr =>
     have := vv rr
     subst this
     refine ⟨a, l, rfl, hq, hl, fun p hp => ?_⟩
     obtain ⟨c, S2⟩ := (cE.sV (ints_rep (sortI l)) S1).oJ (g0 := []) (by simp) hp
     exact k _ _ _ z1 (k1.trans c) S2)
end
section
variable {X : Cx}
end
section
variable {X : Cx} {CL : Str -> Addr} {b : Bx} {δ δ1 : List (Option T)} {e : Expr} {pos pp : Pos}
end
section
variable {prog : Program} {w : World} {A : Around} {s : Shared}
end
section
variable {prog : Program} {w : World} {A : Around} {s : Shared}
end
section
variable {X : Cx}
end
section
variable {X : Cx} {CL : Str -> Addr} {b : Bx} {δ δ1 : List (Option T)} {e : Expr} {ds : List D} {pos pp pq pr : Pos}
end
theorem ig {α β : Type} {f : α -> β} {l : List α} {j : Nat} {d : β} (h : (l.map f)[j]? = some d) : ∃ x, d = f x /\ l[j]? = some x /\ x ∈ l /\ j < l.length /\ l.drop j = x :: l.drop (j + 1) /\ l.take (j + 1) = l.take j ++ [x] := by
 rw [anq] at h
 cases hx : l[j]? with
 | none => rw [hx] at h; cases h
 | some x =>
   rw [hx] at h
   cases h
   have hj : j < l.length := (anf.mp hx).1
   have e : l[j] = x := (anf.mp hx).2
   exact ⟨x, rfl, rfl, ant hx, hj, by rw [aoD hj, e], by rw [anO, hx]; rfl⟩
theorem acw (n : Nat) {l : List Str} (h : ∀ x ∈ l, PyData.strOk x = true) : kZ (n + 1) (.lst (l.map L3.D.str)) := .lst fun d hd => by
 obtain ⟨i, hi, rfl⟩ := ank.mp hd
 exact .str _ _ (h i hi)
noncomputable def D.at1 : L3.D -> L3.D
 | .tup (a :: _) => a
 | d => d
section
variable {X : Cx} {CL : Str -> Addr} {b : Bx} {δ δ1 : List (Option T)} {e : Expr} {elts : List Expr} {kk : Nat} {pt pr pc : Pos}
theorem N5 {α : Type} (f : α -> L3.D) (z : α) (l : List α) : yV (l.map f) = (List.range l.length).map fun (i : Nat) => L3.D.tup [.int i, f (l.getD i z)] := by
 unfold yV
 rw [amY]
 apply an8
 intro i hi
 have hi : i < l.length := anN.mp hi
 have : (l.map f).getD i .non = f (l.getD i z) := by
   rw [am4, am4, anq, amW hi]
   rfl
 rw [this]
theorem Ra {α : Type} {f : α -> L3.D} {l : List α} (z : α) (hm : X.mg "enumerate" = none) (h : cG X CL b e δ (.sh (.lst (l.map f))) δ1) (hg : Gl X "enumerate") (hs : starEach [e] X.env = (false, eval e X.env) :: starEach [] X.env := by exact bW rfl) :
   GIt X CL b (.Tuple elts kk pt) (.Call (.Name "enumerate" pr) [e] [] pc) δ ((List.range l.length).map fun (i : Nat) => L3.D.tup [.int i, f (l.getD i z)]) δ1 := by
 have := V6 (elts := elts) (kk := kk) (pt := pt) (pr := pr) (pc := pc) hm h hg hs
 rwa [N5 f z l] at this
end
section
variable {K : PySem.W.Frag} {CL : Str -> Addr} {b : Bx} {H H' Z Z' : Hp} {δ δ' : List (Option T)} {σ σ' : L2.St} {ts tl : List T} {vs us : List V} {t : T} {v : V}
end
section
variable {X : Cx} {CL : Str -> Addr} {b : Bx} {δ δ1 δ2 : List (Option T)} {e e2 : Expr} {t : T} {tl UY tt tt0 : List T} {D : dF} {pos pp pa pb : Pos}
end
section
variable {X : Cx} {CL : Str -> Addr} {b : Bx} {δ δ1 : List (Option T)} {e : Expr} {t : T} {i : Nat} {x : Str} {pos pp : Pos} {DD : dF} {gu : List Stmt}
end
section
variable {X : Cx}
end
section
variable {K : PySem.W.Frag} {CL : Str -> Addr} {b : Bx} {H Z : Hp} {δ : List (Option T)} {σ : L2.St} {ts tl : List T} {vs : List V} {t : T} {v : V}
end
section
variable {X : Cx} {CL : Str -> Addr} {b : Bx} {δ δ1 : List (Option T)} {e : Expr} {t : T} {tl UY : List T} {D : dF} {pos pp pa pb pc : Pos} {kj i : Nat} {x : Str} {gu : List Stmt}
end
section
variable {X : Cx} {CL : Str -> Addr} {b : Bx} {δ δ1 : List (Option T)} {e : Expr} {pos pp : Pos}
end
section
variable {K : PySem.W.Frag} {CL : Str -> Addr} {b : Bx} {H Z : Hp} {δ : List (Option T)} {σ : L2.St} {ts tl tl2 : List T} {vs : List V} {v : V}
end
section
variable {X : Cx} {CL : Str -> Addr} {b : Bx} {δ δ1 : List (Option T)} {e : Expr} {tl UY tl2 : List T} {D : dF} {pos pp pa pb : Pos} {i : Nat} {x : Str} {gu : List Stmt}
end
section
variable {X : Cx} {CL : Str -> Addr} {b : Bx} {e1 e2 : Expr} {δ δ1 δ2 : List (Option T)} {ds : List L3.D} {pos : Pos}
noncomputable def afH (K : PySem.W.Frag) : R2 := fun x y H Q => ∃ l k xs, x = .ref l /\ y = .int k /\ oj K H l xs /\ -(2 ^ 63) <= k /\ k < 2 ^ 63 /\ xs.length * k.toNat <= sizeLine ∧
 ∀ p, H p = none -> Q (.ref p) (upd H p (.lst (List.replicate k.toNat xs).flatten))
theorem V7 : vd X (binaryOp .Mult) (afH X.K) := by
 intro pins s σ H x y v u Q I rx ry h
 obtain ⟨l, k, xs, rfl, rfl, hH, h1, h2, hz, q⟩ := h
 cases rx
 obtain ⟨t, rfl⟩ := ry
 obtain ⟨its, r, pl, _⟩ := I.list hH
 have hl := r.length
 obtain ⟨⟨c1, dd, da1, sl⟩, e, hc, n, hd⟩ := pl.isList
 cases hc; cases hd
 have hlen : its.toArray.size * k.toNat <= sizeLine := by rw [ano, ← hl]; exact hz
 have aiQ : ¬ its.toArray.size * k.toNat > (2 ^ 63 - 1) / 8 := by
   have : (sizeLine : Nat) <= (2 ^ 63 - 1) / 8 := by decide
   omega
 have aiR : ¬ (!Builtin.List.listFitsIndex k) = true := by
   rw [fitsIndex_both h1 h2]
   exact ane
 have afI : ¬ Builtin.List.listTooLong (its.toArray.size * k.toNat) = true := by
   rw [Qw hlen]
   exact ane
 have aiS : List.foldl (fun x1 x2 => x1 ++ x2) #[] (List.replicate (if its.toArray.isEmpty = true then 0 else k.toNat) its.toArray) = (List.replicate k.toNat its).flatten.toArray := by
   have f0 : ∀ m : Nat, List.foldl (fun x1 x2 => x1 ++ x2) #[] (List.replicate m its.toArray) = (List.replicate m its).flatten.toArray := fun m => by
     have := foldl_rep its m []
     rw [aoc] at this
     exact this
   rw [f0]
   cases its with
   | nil => simp
   | cons a r' => rw [amV (by simp)]
 refine wpAny_binaryOp_repeat_ref (T := "list") (U := "int") (by decide) ⟨_, e, rfl⟩ (fun s' => typeIs_int s' k t) noFill_list_mul F.fills_int_mul F.slot_int_rmul repeat_list F.slot_int_index.lookup
   (call_meets F.slot_int_rmul (typeIs_int s k t) F.entry_int_rmul (F.args_int_rmul_2 _ _) (lm_int_rmul_list_any k t l its.toArray n dd sl)
     ⟨e, rfl, ⟨_, e, rfl⟩, call_meets F.slot_list_mul ⟨_, e, rfl⟩ F.entry_list_mul (F.args_list_mul_2 _ _) (lm_list_mul_any l its.toArray n dd sl k t aiR aiQ afI) ⟨e, ?_⟩⟩)
 rw [aiS]
 exact ⟨.ref _, _, I.afg (t' := s.toks) (r.rep k.toNat) (by rw [len_rep, Nat.mul_comm]; exact hz), rfl, q _ I.fresh⟩
theorem aH.rep {K : PySem.W.Frag} {Z : Hp} {ds : List L3.D} {vs : List V} (r : aH K CL Z ds vs) : ∀ k : Nat, aH K CL Z (List.replicate k ds).flatten (List.replicate k vs).flatten
 | 0 => .nil
 | k + 1 => by
   rw [aoi, aoi, aoA, aoA]
   exact aH.app r (aH.rep r k)
theorem Mf {k : Int} (h1 : cV X CL b e1 δ (.lst ds) δ1) (h2 : cV X CL b e2 δ1 (.int k) δ2) (i1 : D.cy ds = true) (k1 : -(2 ^ 63) <= k) (k2 : k < 2 ^ 63) (hz : ds.length * k.toNat <= sizeLine) :
   cG X CL b (.BinOp e1 .Mult e2 pos) δ (.lst ((List.replicate k.toNat ds).flatten.map T.sh)) δ2 := fun H Z σ ts vs Q S kk =>
 dw (Qi V7 eN eN) (h1 H Z σ ts vs _ S fun v1 H1 Z1 z1 q1 S1 r1 => h2 H1 Z1 σ ts vs _ S1 fun v2 H2 Z2 z2 q2 S2 r2 => by
   have r1' := r1.mono q2
   cases r1' with
   | lst hq1 rr1 =>
     cases r2 with
     | int =>
       refine ⟨_, _, _, rfl, rfl, hq1, k1, k2, by rw [← rr1.length]; exact hz, fun p hp => ?_⟩
       have rc := aH.rep (aH.kW S2.tp i1 rr1) k.toNat
       obtain ⟨c, S4⟩ := (cE.sV rc S2).oJ (g0 := []) (by rw [amY, rc.length]) hp
       exact kk _ _ _ (z1.trans z2) (q1.trans (q2.trans c)) S4)
end
section
variable {X : Cx} {CL : Str -> Addr} {b : Bx} {δ : List (Option T)} {x : Str} {pos : Pos}
end
section
variable {X : Cx} {CL : Str -> Addr} {b : Bx} {e1 e2 e iter : Expr} {δ δ1 δ2 : List (Option T)} {pos : Pos}
end
section
variable {X : Cx} {CL : Str -> Addr} {b : Bx} {e : Expr} {δ δ1 δ2 δ3 : List (Option T)} {pos p2 : Pos}
noncomputable def aiT : V -> Option Int -> Option Int -> Hp -> VK -> Prop := fun x lo hi H Q => ∃ z, x = .str z /\ z.length <= sizeLine /\ Q (.str (Txt.slice z lo hi)) H
theorem acy : SlR X aiT := by
 intro pins s σ H x v vl vu lo hi sl Q I rx hs pl pu h
 obtain ⟨z, rfl, hz, q⟩ := h
 obtain ⟨t, rfl⟩ := rx
 obtain ⟨o, ho, hc, hd⟩ := hs
 have fin : ∀ t' k, EP X pins σ Q (.str (Txt.slice z lo hi) t') { s with toks := k } := fun t' k => ⟨.str _, H, I.tok k, ⟨t', rfl⟩, q⟩
 refine ⟨"str", _, F.slot_str_getitem.lookup, typeIs_str _ _ _, ?_⟩
 cases pl with
 | none =>
   cases pu with
   | none => exact aoH (l := none) (u := none) (st := none) ⟨o, ho, hc, hd⟩ rfl (post_val_or_str ⟨anL (Txt.slice_le z _ _) hz, fin⟩)
   | int j uj => exact aoH (l := none) (u := some (j, uj)) (st := none) ⟨o, ho, hc, hd⟩ rfl (post_val_or_str ⟨anL (Txt.slice_le z _ _) hz, fin⟩)
 | int i ui =>
   cases pu with
   | none => exact aoH (l := some (i, ui)) (u := none) (st := none) ⟨o, ho, hc, hd⟩ rfl (post_val_or_str ⟨anL (Txt.slice_le z _ _) hz, fin⟩)
   | int j uj => exact aoH (l := some (i, ui)) (u := some (j, uj)) (st := none) ⟨o, ho, hc, hd⟩ rfl (post_val_or_str ⟨anL (Txt.slice_le z _ _) hz, fin⟩)
theorem N6 {lo hi : Option Expr} {l h : Option Int} {z : Str} (h1 : cV X CL b e δ (.str z) δ1) (hz : z.length <= sizeLine) (h2 : TOv X CL b lo δ1 l δ2) (h3 : TOv X CL b hi δ2 h δ3) : cG X CL b (.Subscript e (.Slice lo hi none p2) pos) δ (.sh (.str (Txt.slice z l h))) δ3 := fun H Z σ ts vs Q S k => by
 obtain ⟨t2, po2, w2⟩ := h2
 obtain ⟨t3, po3, w3⟩ := h3
 refine dw (Gj acy eN po2 po3) (h1 H Z σ ts vs _ S fun v H1 Z1 z1 k1 S1 r => w2 H1 Z1 σ ts vs _ S1 fun H2 Z2 z2 k2 S2 => w3 H2 Z2 σ ts vs _ S2 fun H3 Z3 z3 k3 S3 => ?_)
 exact ⟨z, r.sc rfl, hz, k _ H3 Z3 (z1.trans (z2.trans z3)) (k1.trans (k2.trans k3)) (S3.push (.str _))⟩
end
end L3
namespace L3
open PySem PySem.Spec PyProof.Rows L2 PySem.Builtin PySem.Builtin.Str
section
variable {X : Cx} {CL : Str -> Addr} {b : Bx} {e o : Expr} {δ δ1 δ2 : List (Option T)} {pos apos : Pos}
end
end L3
namespace L3
open PySem PySem.Spec PyProof.Rows L2
section
variable {X : Cx} {CL : Str -> Addr} {b : Bx} {δ : List (Option T)} {pos pp : Pos} {x : Str}
theorem c0 {k n : Nat} {A : Type} {arg : A -> List L3.D} {Pre : A -> Prop} {res : A -> T} (a : A) (F : Fc X CL x k n arg Pre res) (hg : Gl X x) (ha : arg a = []) (hp : Pre a) (hc : (res a).clean = true) (hn : (arg a).length = n := by rfl)
   (AU : (x == ("__debug__" : Str)) = false := by decide) : cG X CL b (.Call (.Name x pp) [] [] pos) δ (res a) δ := by
 obtain ⟨f, fd, ps, F1, m, kk, bb⟩ := F.ex
 intro H Z σ ts vs Q S k
 refine dw (Qq F1 F.room hg m kk bb .nil L1 AU) ?_
 refine ⟨H, a, .refl _, fun _ _ q _ => q, by rw [ha]; exact .nil, hn, hp, S.NP, fun v H' W' fp hh ww wh nw tp rt nd own => ?_⟩
 obtain ⟨Z', z', S'⟩ := S.back hh S.zh ww wh nw tp rt nd own (.inr hc)
 exact k v H' Z' z' hh S'
end
noncomputable def N7 : Key -> D
 | .inl i => .int i
 | .inr x => .str x
noncomputable def Rb (kvs : List (Key × D)) (k : Key) : Option D := (kvs.find? fun kv => decide (kv.1 = k)).map (·.2)
noncomputable def yW (kvs : List (Key × D)) (k : Key) (d : D) : List (Key × D) :=
 if (kvs.any fun kv => decide (kv.1 = k)) = true then kvs.map (fun kv => if kv.1 = k then (kv.1, d) else kv) else kvs ++ [(k, d)]
section
variable {K : PySem.W.Frag} {CL : Str -> Addr} {b : Bx} {H Z : Hp} {δ : List (Option T)} {σ : L2.St} {ts tl : List T} {vs : List V} {t : T} {v : V} {d : D} {kvs : List (Key × D)} {gs : List (Key × V)}
theorem bJ.length {kvs : List (Key × D)} {gs : List (Key × V)} (h : bJ K CL Z kvs gs) : kvs.length = gs.length :=
 bJ.ind (P := fun kvs gs => kvs.length = gs.length) rfl (fun _ _ i => congrArg (· + 1) i) h
theorem bJ.keys {kvs : List (Key × D)} {gs : List (Key × V)} (h : bJ K CL Z kvs gs) : kvs.map (·.1) = gs.map (·.1) :=
 bJ.ind (P := fun kvs gs => kvs.map (·.1) = gs.map (·.1)) rfl (fun {x _ _ _ _} _ _ i => congrArg (x :: ·) i) h
theorem bJ.val {k : Key} : ∀ {kvs : List (Key × D)} {gs : List (Key × V)}, bJ K CL Z kvs gs -> (Rb kvs k = none /\ CD gs k = none) \/ ∃ d v, Rb kvs k = some d /\ CD gs k = some v /\ bF K CL Z d v
 | _, _, .nil => .inl ⟨rfl, rfl⟩
 | _, _, .cons (x := x) (d := d) (v := v) h r => by
   by_cases e : x = k
   . exact .inr ⟨d, v, by simp [Rb, e], yK e, h⟩
   . rcases bJ.val (k := k) r with ⟨h1, h2⟩ | ⟨d', v', h1, h2, h3⟩
     . exact .inl ⟨by simpa [Rb, e] using h1, by rw [sS e]; exact h2⟩
     . exact .inr ⟨d', v', by simpa [Rb, e] using h1, by rw [sS e]; exact h2, h3⟩
theorem bJ.any {k : Key} : ∀ {kvs : List (Key × D)} {gs : List (Key × V)}, bJ K CL Z kvs gs -> (kvs.any fun kv => decide (kv.1 = k)) = (gs.any fun kv => decide (kv.1 = k))
 | _, _, .nil => rfl
 | _, _, .cons _ r => by rw [an4, an4, bJ.any r]
theorem bJ.repl {k : Key} (q : bF K CL Z d v) : ∀ {kvs : List (Key × D)} {gs : List (Key × V)}, bJ K CL Z kvs gs -> bJ K CL Z (kvs.map (fun kv => if kv.1 = k then (kv.1, d) else kv)) (gs.map (fun kv => if kv.1 = k then (kv.1, v) else kv))
 | _, _, .nil => .nil
 | _, _, .cons (x := x) h r => by
   rw [ani, ani]
   by_cases e : x = k
   . rw [amZ e, amZ e]; exact .cons q (bJ.repl q r)
   . rw [amV e, amV e]; exact .cons h (bJ.repl q r)
theorem bJ.snoc {k : Key} (q : bF K CL Z d v) : ∀ {kvs : List (Key × D)} {gs : List (Key × V)}, bJ K CL Z kvs gs -> bJ K CL Z (kvs ++ [(k, d)]) (gs ++ [(k, v)])
 | _, _, .nil => .cons q .nil
 | _, _, .cons h r => .cons h (bJ.snoc q r)
theorem bJ.put {k : Key} (q : bF K CL Z d v) (r : bJ K CL Z kvs gs) : bJ K CL Z (yW kvs k d) (putK gs k v) := by
 unfold yW putK
 rw [r.any]
 split
 . exact r.repl q
 . exact r.snoc q
theorem bF.key {k : Key} (r : bF K CL Z (N7 k) v) : v = kV k := by
 cases k with
 | inl i => exact r.sc rfl
 | inr x => exact r.sc rfl
theorem V8 {Z : Hp} (k : Key) : bF K CL Z (N7 k) (kV k) := by
 cases k with
 | inl i => exact .int i
 | inr x => exact .str x
theorem GN {Z : Hp} : ∀ ks : List Key, aH K CL Z (ks.map N7) (ks.map kV)
 | [] => .nil
 | k :: ks => .cons (V8 k) (GN ks)
theorem cE.acz {p : Addr} (S : cE K CL b H Z δ σ ts vs) (hp : H p = none) : aG H (upd H p (.dK [])) /\ cE K CL b (upd H p (.dK [])) Z δ σ (.om [] :: ts) (.ref p :: vs) := by
 obtain ⟨fp, gp, e, r, nd, k⟩ := S.rep
 have zp : Z p = none := S.zh.free hp
 have sh : aG H (upd H p (.dK [])) := aG.upd hp
 have keep : ∀ a ∈ fp ++ gp, a ≠ p := fun a ha => by
   have : ∃ o, H a = some o := by
     rcases am3.mp ha with h | h
     . exact e.there a h
     . exact r.there a h
   obtain ⟨o, q⟩ := this
   exact aK q hp
 refine ⟨sh, ⟨⟨fp, [p] ++ gp, e.mono (.refl _) (fun a ha => aA (keep a (am7 _ ha))), .cons (.om aV .nil) (r.mono (.refl _) fun a ha => aA (keep a (by simp [ha]))), ?_, fun a ha => ?_⟩, S.bh.trans sh, S.zz, S.zh.trans sh, S.new, fun a o q i => ?_, S.tab⟩⟩
 . refine (aos (l₁ := fp) (l₂ := gp) (a := p)).nodup_iff.mpr (aoa.mpr ⟨fun h => keep p h rfl, nd⟩)
 . rcases am1.mp ((aos (l₁ := fp) (l₂ := gp) (a := p)).mem_iff.mp ha) with h | h
   . subst h; exact ⟨zp, S.bh.free hp⟩
   . exact k a h
 . by_cases ha : a = p
   . subst ha; rw [aV] at q; cases q; cases i
   . rw [aA ha] at q; exact S.tp a o q i
theorem cE.acA {i : Nat} (k : Key) (S : cE K CL b H Z δ σ (.sh d :: ts) (v :: vs)) (hi : δ[i]? = some (some (.om kvs))) :
   ∃ a gs, σ[i]? = some (some (.ref a)) /\ H a = some (.dK gs) /\ gs.length = kvs.length /\ cE K CL b (upd H a (.dK (putK gs k v))) Z (δ.set i (some (.om (yW kvs k d)))) σ ts vs := by
 obtain ⟨fp, gp, e, r, nd, kk⟩ := S.rep
 obtain ⟨v0, f1, f2, f3, hv, wR, rt, put, _⟩ := e.get hi
 subst wR
 cases rt with
 | @om a gs _ ha rs =>
   cases r with
   | @cons _ _ _ _ ft gr q1 q2 =>
     cases q1 with
     | sh q1 =>
       have ne : ∀ c ∈ (f1 ++ f3) ++ gr, c ≠ a := fun c hc e => by
         subst e
         have hp : ((f1 ++ ([c] ++ f3)) ++ ([] ++ gr)).Perm (c :: ((f1 ++ f3) ++ gr)) := by
           rw [aoc, List.singleton_append]
           exact (aos.append_right _)
         exact (aoa.mp (hp.nodup_iff.mp nd)).1 hc
       refine ⟨a, gs, hv, ha, rs.length.symm, ?_⟩
       have r1 : dm K CL (upd H a (.dK (putK gs k v))) Z (.om (yW kvs k d)) (.ref a) [a] := .om aV (rs.put q1)
       have e2 := put (H' := upd H a (.dK (putK gs k v))) (.refl _) (fun c hc => aA (ne c (by
         rcases am3.mp hc with h | h
         . simp [h]
         . simp [h]))) r1
       rw [sX hv] at e2
       exact S.QX rfl kk (by simp) e2 (q2.mono (.refl _) fun c hc => aA (ne c (by simp [hc]))) nd fun c hc => hc
end
theorem yX {X : Cx} (hc : X.calm = true) : lP X (.type "list") (fun xs H Q => ∃ p kvs, xs = [.ref p] /\ H p = some (.dK kvs) /\ ∀ l, H l = none -> Q (.ref l) (upd H l (.lst ((kvs.map (·.1)).map kV)))) := by
 intro pins s σ H xs us Q I r h
 obtain ⟨p, kvs, rfl, hq, q⟩ := h
 obtain ⟨u, rfl, rx⟩ := vals1 r
 cases rx
 obtain ⟨z, hd, ws, rel, dd⟩ := aan I.dU hq
 obtain ⟨ep, JD⟩ := dd.dictAt
 refine PySem.W.kdl_call (PySem.W.kdl_dict (knd := e9 X.prog X.w) (kvs := ws) (ep := ep) hd) (I.ok.hd hc) JD (by rw [← rel.length]; exact z) fun h' tk V9 c' hk e V1 => ?_
 have hl : V9.toList.length = ws.length := by rw [aoh]; exact V1.1
 have hv : Vals ((kvs.map (·.1)).map kV) V9.toList := by
   rw [rel.keys]
   have gen : ∀ (l : List (Key × Value)) (m : List Value), m.length = l.length -> (∀ (j : Nat) (x : Value), m[j]? = some x -> ∃ k y, l[j]? = some (k, y) /\ (e9 X.prog X.w).is k x = true) -> Vals ((l.map (·.1)).map kV) m := by
     intro l
     induction l with
     | nil => intro m hm _; cases m with
       | nil => exact .nil
       | cons _ _ => simp at hm
     | cons p l ih =>
       intro m hm hx
       cases m with
       | nil => simp at hm
       | cons x m =>
         obtain ⟨k, y, e1, e2⟩ := hx 0 x rfl
         simp at e1
         subst e1
         refine .cons ?_ (ih m (by simpa using hm) fun j x' hj => by simpa using hx (j + 1) x' (by simpa using hj))
         rcases dD e2 with ⟨i, t, h1, h2⟩ | ⟨i, t, h1, h2⟩
         . subst h1 h2; exact ⟨t, rfl⟩
         . subst h1 h2; exact ⟨t, rfl⟩
   exact gen ws V9.toList hl fun j x hj => V1.2 j x (by rw [← aow]; exact hj)
 refine ⟨.ref s.heap.objs.size, _, I.laid (t' := tk) hk (Nat.le_refl _) (show eY X.prog X.w _ h' _ (.lst ((kvs.map (·.1)).map kV)) from ⟨by simpa using z, V9.toList, c', hv, by simpa using e⟩), rfl, q _ (I.dU.fresh (Nat.le_refl _))⟩
section
variable {X : Cx} {CL : Str -> Addr} {b : Bx} {δ δ1 δ2 : List (Option T)} {e e1 e2 : Expr} {t : T} {d : L3.D} {D : dF} {pos pp ps : Pos} {i : Nat} {x : Str} {gu : List Stmt} {kvs : List (Key × L3.D)} {k : Key}
theorem Wa : cG X CL b (.Dict [] [] pos) δ (.om []) δ := fun H Z σ ts vs Q S kk => dw QC fun p hp => by
 obtain ⟨c, S1⟩ := S.acz hp
 exact kk _ _ Z (.refl _) c S1
theorem acB (k : Key) (hu : X.A.units + 64 < cLine) (n : Vn X i x) (h : cG X CL b e δ (.sh d) δ1) (h2 : cV X CL b e2 δ1 (N7 k) δ1) (h1 : δ1[i]? = some (some (.om kvs))) (hl : kvs.length <= 1000000) (kk : fF X CL b gu (δ1.set i (some (.om (yW kvs k d)))) D)
   (hs : swapsWith e (some (.Subscript (.Name x pp) e2 ps)) pos.line X.env = pure false := by rfl) :
   fF X CL b (.Assign [.Subscript (.Name x pp) e2 ps] e pos :: gu) δ D := eB fun H Z σ ts vs E S M =>
 xC (Vu (by omega) (ow n.hi n.hv n.hd n.jy) eN eN hs) (h H Z σ ts vs _ S fun v H1 Z1 z1 k1 S1 => by
   obtain ⟨v0, e0, _⟩ := S1.look h1
   refine ⟨v0, e0, h2 H1 Z1 σ _ _ _ S1 fun v2 H2 Z2 z2 k2 S2 r2 => ?_⟩
   obtain ⟨a, gs, ea, ha, hg, S3⟩ := S2.acA k h1
   rw [e0] at ea
   cases ea
   exact ⟨a, _, rfl, by rw [r2.key]; exact Qz.k ha (by rw [hg]; exact Nat.lt_of_le_of_lt hl (by rw [anG]; decide)), M.nx _ σ _ Z2 (z1.trans z2) S3 kk⟩)
theorem Rc (g : Gx X) (hm : X.mg "list" = none) (h : cV X CL b e δ (.om kvs) δ1) (hg : Gl X "list") (hs : starEach [e] X.env = (false, eval e X.env) :: starEach [] X.env := by exact bW rfl) : cG X CL b (.Call (.Name "list" pp) [e] [] pos) δ (.lst (((kvs.map (·.1)).map N7).map T.sh)) δ1 := fun H Z σ ts vs Q S k =>
 dw (jP (yX g.calm) hg hm bZ (cH eN fc hs) (he := hs)) (h H Z σ ts vs _ S fun v H1 Z1 z1 k1 S1 r => by
   cases r with
   | @om a gs _ ha rr =>
     refine ⟨a, gs, rfl, ha, fun l hl => ?_⟩
     rw [← rr.keys]
     obtain ⟨c, S2⟩ := (cE.sV (GN (kvs.map (·.1))) S1).oJ (g0 := []) (by simp) hl
     exact k _ _ _ z1 (k1.trans c) S2)
end
section
variable {K : PySem.W.Frag} {CL : Str -> Addr} {b : Bx} {H Z : Hp} {δ : List (Option T)} {σ : L2.St} {ts : List T} {vs : List V} {t : T} {v w : V} {f c : Str} {P5 : List (Str × T)}
theorem d9.Wb {ft : List Addr} (rt : dm K CL H Z t v ft) : ∀ {GO : List (Str × T)} {gs : List (Str × V)} {fp : List Addr}, d9 K CL H Z (GO ++ (f, .sh (.val v)) :: P5) gs fp -> ∃ L6, d9 K CL H Z (GO ++ (f, t) :: P5) gs L6 /\ L6.Perm (fp ++ ft)
 | [], _, _, r => by
   cases r with
   | @cons _ _ v' _ _ f1 gp h r =>
     cases h with
     | sh h =>
       cases h
       exact ⟨ft ++ gp, .cons rt r, anQ⟩
 | (y, u) :: GO, _, _, r => by
   cases r with
   | @cons _ _ v' _ _ f1 gp h r =>
     obtain ⟨L6, r', p⟩ := d9.Wb rt (GO := GO) r
     refine ⟨f1 ++ L6, .cons h r', ?_⟩
     rw [am8]
     exact p.append_left f1
theorem cE.Wb {GO : List (Str × T)} (S : cE K CL b H Z δ σ (.ins c (GO ++ (f, .sh (.val v)) :: P5) :: t :: ts) (w :: v :: vs)) : cE K CL b H Z δ σ (.ins c (GO ++ (f, t) :: P5) :: ts) (w :: vs) := by
 obtain ⟨fp, gp, e, r, nd, k⟩ := S.rep
 cases r with
 | @cons _ _ _ _ g1 g2 r1 r2 =>
   cases r2 with
   | @cons _ _ _ _ g3 g4 r3 r4 =>
     cases r1 with
     | @ins a dx _ gs _ fp1 ha rf =>
       obtain ⟨L6, rf', p⟩ := d9.Wb r3 rf
       have pm : (fp ++ ((a :: L6) ++ g4)).Perm (fp ++ ((a :: fp1) ++ (g3 ++ g4))) := by
         refine anV fp ?_
         rw [← am8]
         refine List.Perm.append_right g4 ?_
         rw [anw]
         exact List.Perm.cons a p
       exact ⟨⟨fp, (a :: L6) ++ g4, e, .cons (.ins ha rf') r4, pm.nodup_iff.mpr nd, fun c hc => k c (pm.mem_iff.mp hc)⟩, S.bh, S.zz, S.zh, S.new, S.tp, S.tab⟩
end
noncomputable def PAv (X : Cx) (CL : Str -> Addr) (b : Bx) (es : List Expr) (δ : List (Option T)) (dv : V -> List D) (t : T) (δ' : List (Option T)) : Prop :=
 ∀ (H Z : Hp) (σ : L2.St) (ts : List T) (vs : List V) (Q : List V -> Hp -> Prop), cE X.K CL b H Z δ σ ts vs →
   (∀ us H' Z' v, aG Z Z' -> aG H H' -> cE X.K CL b H' Z' δ' σ (t :: ts) (v :: vs) -> aH X.K CL H' (dv v) us -> Q us H') -> QF X es σ H Q
theorem T.yZ {f : Str} {v : V} {P5 : List (Str × T)} (h2 : T.bM P5 = true) : ∀ {GO : List (Str × T)}, T.bM GO = true -> T.bM (GO ++ (f, .sh (.val v)) :: P5) = true
 | [], _ => by rw [aoc, T.bM, h2]; rfl
 | (x, t) :: GO, h => by
   rw [T.bM, anE] at h
   rw [anw, T.bM, h.1, T.yZ h2 h.2]; rfl
section
variable {X : Cx} {CL : Str -> Addr} {b : Bx} {δ δ1 δ2 : List (Option T)} {e o : Expr} {es : List Expr} {pos pp apos : Pos} {t : T} {ds : List D} {d : D} {dv : V -> List D}
theorem Rf (h : cG X CL b e δ t δ1) (r : BAv X CL b es δ1 ds δ2) (hs : notStar e = true := by rfl) : PAv X CL b (e :: es) δ (fun v => .val v :: ds) t δ2 := fun H Z σ ts vs Q S k =>
 NK (cH eN Vx (bW hs)) (h H Z σ ts vs _ S fun v H1 Z1 z1 k1 S1 => r H1 Z1 σ _ _ _ S1 fun us H2 Z2 z2 k2 S2 r2 => k (v :: us) H2 Z2 v (z1.trans z2) (k1.trans k2) S2 (.cons (.val v) r2))
theorem GP (h : cV X CL b e δ d δ1) (r : PAv X CL b es δ1 dv t δ2) (hs : notStar e = true := by rfl) : PAv X CL b (e :: es) δ (fun v => d :: dv v) t δ2 := fun H Z σ ts vs Q S k =>
 NK (cH eN Vx (bW hs)) (h H Z σ ts vs _ S fun v H1 Z1 z1 k1 S1 r1 => r H1 Z1 σ ts vs _ S1 fun us H2 Z2 v2 z2 k2 S2 r2 => k (v :: us) H2 Z2 v2 (z1.trans z2) (k1.trans k2) S2 (.cons (r1.mono k2) r2))
variable {A : Type} {k n : Nat} {arg : A -> List D} {Pre : A -> Prop} {x c m f : Str}
theorem mkP {res : A -> List (Str × T)} (a : V -> A) {GO P5 : List (Str × T)} (F : Fm X CL x k n arg Pre res) (hg : Gl X x) (h : PAv X CL b (e :: es) δ dv t δ1) (ha : ∀ v, arg (a v) = dv v) (hp : ∀ v, Pre (a v)) (hr : ∀ v, res (a v) = GO ++ (f, .sh (.val v)) :: P5) (hc : T.bM GO = true) (hc2 : T.bM P5 = true) (hn : ∀ v, (arg (a v)).length + 1 = n := by exact fun _ => rfl)
   (AU : (x == ("__debug__" : Str)) = false := by decide) (he : starEach (e :: es) X.env = (false, eval e X.env) :: starEach es X.env := by exact bW rfl) (ve : (backTo pos (starEach es X.env)).any (·.1) = false := by rfl) :
   cG X CL b (.Call (.Name x pp) (e :: es) [] pos) δ (.ins x (GO ++ (f, t) :: P5)) δ1 := fun H Z σ ts vs Q S kk => by
 obtain ⟨f', fd, ps, M, F1, hm, hb⟩ := F.ex
 exact dw (LZ M F1 F.room hg hm hb .nil L1 Vx AU he ve) (h H Z σ ts vs _ S fun us H1 Z1 v z1 k1 S1 r y dx hx hdx ne => by
   rw [anu]
   refine ⟨H1, H1, a v, y, dx, us, rfl, hx, hdx, ne, rfl, .refl _, fun _ _ q _ => q, by rw [ha]; exact r, hn v, hp v, S1.NP, fun H' W' fp hh ww wh nw tp rt nd own => ⟨rfl, ?_⟩⟩
   obtain ⟨Z', z', S'⟩ := S1.back hh S1.zh ww wh nw tp rt nd own (.inr (by rw [T.clean, hr]; exact T.yZ hc2 hc))
   rw [hr] at S'
   exact kk _ H' Z' (z1.trans z') (k1.trans hh) S'.Wb)
end
section
variable {X : Cx}
theorem CT (bs : List Bool) : (List.range bs.length).any (fun i => bs.getD i true) = bs.any id := by
 induction bs with
 | nil => rfl
 | cons x bs ih =>
   rw [anr, List.range_succ_eq_map, an4, an4, List.any_map]
   have : ((fun i => (x :: bs).getD i true) ∘ Nat.succ) = fun i => bs.getD i true := by funext i; simp
   rw [this, ih]
   rfl
theorem Rg {bs : List Bool} {its : List Value} (r : Vals (bs.map V.bl) its) {i : Nat} {v : Value} (h : its.toArray[i]? = some v) : v = .bool (bs.getD i true) := by
 have h' : its[i]? = some v := by simpa using h
 have hl := r.length
 have hi : i < (bs.map V.bl).length := by
   rw [hl]
   exact (anf.mp h').1
 obtain ⟨u, hu, ru⟩ := r.get (amW hi)
 rw [h'] at hu
 cases hu
 have I0 : i < bs.length := by simpa using hi
 have e : bs.getD i true = bs[i] := by simp [I0]
 rw [e]
 rw [List.getElem_map] at ru
 exact ru
theorem N8 (hc : X.calm = true) : lP X (.builtin "any") (fun xs H Q => ∃ (p : Addr) (bs : List Bool), xs = [.ref p] /\ oj X.K H p (bs.map V.bl) /\ Q (.bl (bs.any id)) H) := by
 intro pins s σ H xs us Q I r h
 obtain ⟨p, bs, rfl, hq, q⟩ := h
 obtain ⟨u, rfl, rx⟩ := vals1 r
 cases rx
 obtain ⟨its, r', pl, hz⟩ := I.list hq
 have hl := pl.isList
 have rE : p < s.heap.objs.size := by obtain ⟨o, e, _⟩ := id hl; exact ang e
 have hlen : its.toArray.size = bs.length := by rw [ano, ← r'.length, amY]
 refine call_any_walk (wpAny_pyIter_list hl ⟨_, _, _, _, _, _, fun i => bs.getD i true, rfl, Walks.list (A := X.A.in1) (show X.A.in1.handled = none from I.ok.hd hc) _ p (anA rE) its.toArray, ⟨⟨_, anv _ rfl, rfl, rfl⟩, hl.at fun o e => ana _ e⟩, fun i v s Q E hP hQ => ?_, fun h' tk hk => ?_⟩)
 . rw [Rg r' hP]; exact aoz hQ
 . rw [hlen, CT]
   refine ⟨.bl _, H, I.kept (t' := tk) (fun b o e => hk b o (fun z => ?_) (ana _ e)), rfl, q⟩
   have := anb.mp z
   subst this
   exact absurd (ang e) (aoI _)
theorem N9 : bootBuiltins "any" = some (.builtin "any") := by decide +kernel
theorem GQ {K : PySem.W.Frag} {CL : Str -> Addr} {H : Hp} : ∀ {l : List Bool} {us : List V}, aH K CL H (l.map D.bl) us -> us = l.map V.bl
 | [], _, r => by
   have r' : aH K CL H [] _ := r
   cases r'; rfl
 | y :: l, _, r => by
   have r' : aH K CL H (D.bl y :: l.map D.bl) _ := r
   cases r' with
   | cons r1 r2 => rw [r1.sc rfl, GQ r2]; rfl
end
section
variable {X : Cx} {CL : Str -> Addr} {b : Bx} {δ δ1 : List (Option T)} {e : Expr} {pos pp : Pos} {l : List Bool}
theorem acC (g : Gx X) (hm : X.mg "any" = none) (h : cV X CL b e δ (.lst (l.map .bl)) δ1) (hg : Gl X "any") (hs : starEach [e] X.env = (false, eval e X.env) :: starEach [] X.env := by exact bW rfl) : cG X CL b (.Call (.Name "any" pp) [e] [] pos) δ (.sh (.bl (l.any id))) δ1 := fun H Z σ ts vs Q S k =>
 dw (oB (N8 g.calm) hg hm N9 (cH eN fc hs) (he := hs)) (h H Z σ ts vs _ S fun v H1 Z1 z1 k1 S1 r => by
   cases r with
   | @lst a us _ hq rr =>
     have := GQ rr
     subst this
     exact ⟨a, l, rfl, hq, k _ H1 Z1 z1 k1 (S1.push (.bl _))⟩)
end
namespace Rv
theorem Oa : PySem.Slot "reversed" "__init__" "object.__init__" :=
 .of (owner := "object") (n := "__init__") (by rw [typeLookup_type, builtinLookup_eq_fast]; kernel_rfl) (by decide +kernel) (by decide +kernel) (by decide +kernel)
   (by first | exact .inl (by decide +kernel) | exact .inr (by decide +kernel)) (by rw [isSubtype_type]; kernel_rfl)
theorem called : TypeCalled "reversed" "reversed.__new__" "object.__init__" :=
 ⟨by decide +kernel, by decide +kernel, ⟨_, _, PySem.F.mro_reversed⟩, PySem.F.made_reversed, by decide +kernel, PySem.F.sub_reversed_self, Oa⟩
noncomputable def obj (t : Addr) (i : Int) : Obj := { cls := .type "reversed", data := .fields #[.ref t, rawInt i] }
section
variable {prog : Program} {w : World} {A : Around} {E : Value -> Shared -> Prop} {s : Shared}
end
end Rv
namespace Rv
section
variable {prog : Program} {w : World} {A : Around} {E : Value -> Shared -> Prop} {s : Shared}
end
end Rv
section
variable {X : Cx} {tg : Expr}
end
section
variable {X : Cx} {CL : Str -> Addr} {b : Bx} {δ δ1 : List (Option T)} {e : Expr} {ds : List D} {tg : Expr} {pr pc : Pos}
end
section
variable {X : Cx} {CL : Str -> Addr} {b : Bx} {δ δ1 : List (Option T)} {e : Expr} {t : T} {tl UY tt tt0 : List T} {D : dF} {pos pp pa pb : Pos}
variable {gu : List Stmt} {i i2 : Nat} {x y : Str} {DD : dF}
end
section
variable {X : Cx} {CL : Str -> Addr} {b : Bx} {δ δ1 : List (Option T)} {e : Expr} {ds : List D} {tg : Expr} {pr pc : Pos} {l : Bool}
end
section
variable {X : Cx} {CL : Str -> Addr} {b : Bx} {δ : List (Option T)}
end
section
variable {K : PySem.W.Frag} {CL : Str -> Addr} {b : Bx} {H Z : Hp} {δ : List (Option T)} {σ : L2.St} {ts tl : List T} {vs : List V} {ds : List D} {us : List V}
end
section
variable {X : Cx} {CL : Str -> Addr} {b : Bx} {δ δ1 : List (Option T)} {e : Expr} {tl UY : List T} {ds : List L3.D} {D : dF} {pos pp pa pb : Pos} {i : Nat} {x : Str} {gu : List Stmt}
end
section
variable {X : Cx} {CL : Str -> Addr} {b : Bx} {δ δ1 δ2 δ3 : List (Option T)} {e e1 e2 : Expr} {ds Jz : List L3.D} {pos p2 : Pos}
end
section
variable {a₀ xs : Array Keyed} {ι : Nat -> Nat} {n : Nat}
structure Tag (a₀ xs : Array Keyed) (ι : Nat -> Nat) (n : Nat) : Prop where
 pl : ∀ k, k < a₀.size -> xs[k]? = a₀[ι k]?
 lo : ∀ k, k < n -> ι k < n
 hi : ∀ k, n <= k -> ι k = k
noncomputable def oS (xs : Array Keyed) (ι : Nat -> Nat) (n : Nat) : Prop := ∀ i j, i < j -> j < n -> PyProof.Rows.K xs i < PyProof.Rows.K xs j \/ (PyProof.Rows.K xs i = PyProof.Rows.K xs j /\ ι i < ι j)
noncomputable def AZ (xs : Array Keyed) (ι : Nat -> Nat) (n : Nat) : Prop := ∀ i j, i < j -> j < n -> PyProof.Rows.K xs j < PyProof.Rows.K xs i \/ (PyProof.Rows.K xs j = PyProof.Rows.K xs i /\ ι j < ι i)
theorem Tag.grow (h : Tag a₀ xs ι n) : Tag a₀ xs ι (n + 1) := ⟨h.pl, fun k hk => by
   by_cases e : k < n
   . have := h.lo k e
     omega
   . have := h.hi k (by omega)
     omega, fun k hk => h.hi k (by omega)⟩
theorem Tag.aiU (h : Tag a₀ xs ι n) {m : Nat} (hm : n <= m) : Tag a₀ xs ι m := ⟨h.pl, fun k hk => by
   by_cases e : k < n
   . have := h.lo k e
     omega
   . have := h.hi k (by omega)
     omega, fun k hk => h.hi k (by omega)⟩
noncomputable def turned (ι : Nat -> Nat) (i j : Nat) : Nat -> Nat := fun k => if i <= k /\ k < j then ι (i + j - 1 - k) else ι k
theorem Tag.turn (h : Tag a₀ xs ι n) {i j : Nat} (hj : j <= n) (hn : n <= a₀.size) (hs : xs.size = a₀.size) : Tag a₀ (mirror xs i j ((j - i) / 2)) (turned ι i j) n := by
 refine ⟨fun k hk => ?_, fun k hk => ?_, fun k hk => ?_⟩
 . rw [getElem?_mirror_all (by omega)]
   unfold turned
   split
   . exact h.pl _ (by omega)
   . exact h.pl _ hk
 . unfold turned
   split
   . exact h.lo _ (by omega)
   . exact h.lo _ hk
 . unfold turned
   rw [amV (by omega)]
   exact h.hi k hk
noncomputable def Ob (ι : Nat -> Nat) (k l : Nat) : Nat -> Nat := fun p => if p = l then ι k else if l < p /\ p <= k then ι (p - 1) else ι p
theorem Tag.sink (h : Tag a₀ xs ι n) {l : Nat} (hl : l <= n) (hn : n < a₀.size) (hs : xs.size = a₀.size) : Tag a₀ (bubble xs n (n - l)) (Ob ι n l) (n + 1) := by
 have hg := h.grow
 refine ⟨fun k hk => ?_, fun k hk => ?_, fun k hk => ?_⟩
 . rw [getElem?_bubble (by omega) (n - l) (by omega), show n - (n - l) = l by omega]
   unfold Ob
   split
   . exact h.pl _ (by omega)
   . split
     . exact h.pl _ (by omega)
     . exact h.pl _ hk
 . unfold Ob
   split
   . exact hg.lo _ (by omega)
   . split
     . exact hg.lo _ (by omega)
     . exact hg.lo _ hk
 . unfold Ob
   rw [amV (by omega), amV (by omega)]
   exact hg.hi k hk
theorem oS.le (h : oS xs ι n) {i j : Nat} (GR : i <= j) (hj : j < n) : PyProof.Rows.K xs i <= PyProof.Rows.K xs j := by
 by_cases e : i = j
 . subst e; exact Int.le_refl _
 . rcases h i j (by omega) hj with z | z <;> omega
end
section
variable {prog : Program} {w : World} {A : Around} {E : Value -> Shared -> Prop} {s : Shared} {a₀ : Array Keyed}
theorem GU {st : SortSt} {ι : Nat -> Nat} {a gw : Nat} {Q : AscSt -> SortSt -> Prop} (h0 : IntKeys a₀) (hn : gw <= a₀.size) (ha : 1 <= a) (han : a <= gw) (hB : SBase a₀ st)
   (ht : Tag a₀ (arrOf st) ι a) (hs : oS (arrOf st) ι a)
   (h : ∀ n, a <= n -> n <= gw -> Tag a₀ (arrOf st) ι n -> oS (arrOf st) ι n -> (n = gw \/ PyProof.Rows.K (arrOf st) n < PyProof.Rows.K (arrOf st) (n - 1)) -> Q (none, n) st) :
   wpS (model prog w) A E s (ascLoop a gw) Q st := by
 unfold ascLoop
 refine aoW (I := fun x c z => z = st /\ c = (none, x) /\ Tag a₀ (arrOf st) ι x /\ oS (arrOf st) ι x) ?one ?all ⟨rfl, rfl, ht, hs⟩
 case all =>
   rintro c z ⟨rfl, rfl, t, o⟩
   have e : max a gw = gw := by omega
   rw [e] at t o ⊢
   exact h gw han (am5 _) t o (.inl rfl)
 case one =>
   rintro x c z hax hxn ⟨rfl, rfl, t, o⟩
   dsimp only
   refine anS (wpS_ltK hB h0 (by omega) (by omega) ?_)
   by_cases hl : PyProof.Rows.K (arrOf z) x < PyProof.Rows.K (arrOf z) (x - 1)
   . simp only [hl, decide_true, aoO]
     exact an9 (h x hax (by omega) t o (.inr hl))
   . simp only [hl, decide_false, anW, aoy]
     refine an9 ⟨rfl, rfl, t.grow, fun i j GR hj => ?_⟩
     by_cases hjx : j < x
     . exact o i j GR hjx
     . have e : j = x := by omega
       subst e
       have q := o.le (i := i) (j := j - 1) (by omega) (by omega)
       have l1 := t.lo i GR
       have l2 := t.hi j (am5 _)
       omega
theorem GV {st : SortSt} {ι : Nat -> Nat} {n gw : Nat} {Q : Option Nat -> SortSt -> Prop} (h0 : IntKeys a₀) (hn : gw <= a₀.size) (h1 : 1 <= n) (Wc : n <= gw) (hB : SBase a₀ st)
   (ht : Tag a₀ (arrOf st) ι n) (hs : AZ (arrOf st) ι n)
   (h : ∀ m z κ, SBase a₀ z -> 1 <= m -> m <= gw -> Tag a₀ (arrOf z) κ m -> oS (arrOf z) κ m -> Q (some m) z) :
   wpS (model prog w) A E s (tail3 n gw) Q st := by
 unfold tail3
 have hz : n <= (arrOf st).size := by rw [hB.size]; omega
 have hB2 : SBase a₀ (setArr st (mirror (arrOf st) 0 n ((n - 0) / 2))) := hB.setArr (mirror_perm _ _ _ _)
 refine anS (wpS_reverse ?_)
 refine anS (GU (ι := turned ι 0 n) h0 hn h1 Wc hB2 (ht.turn (am5 _) (by omega) hB.size) ?_ fun m m1 m2 t o _ => an9 (h m _ _ hB2 (by omega) m2 t o))
 intro i j GR hj
 show PyProof.Rows.K (mirror (arrOf st) 0 n ((n - 0) / 2)) i < PyProof.Rows.K (mirror (arrOf st) 0 n ((n - 0) / 2)) j \/ _
 rw [K_mirror hz, K_mirror hz, amZ (by omega), amZ (by omega)]
 unfold turned
 rw [amZ (by omega), amZ (by omega)]
 exact hs _ _ (by omega) (by omega)
structure xE (xs : Array Keyed) (ι : Nat -> Nat) (p x : Nat) : Prop where
 f : AZ xs ι p
 l : ∀ i j, i < p -> p <= j -> j < x -> PyProof.Rows.K xs j < PyProof.Rows.K xs i
 e : ∀ i j, p <= i -> i < j -> j < x -> PyProof.Rows.K xs i = PyProof.Rows.K xs j /\ ι i < ι j
theorem xE.one {xs : Array Keyed} {ι : Nat -> Nat} {p : Nat} (h : xE xs ι p (p + 1)) : AZ xs ι (p + 1) := fun i j GR hj => by
 by_cases e : j < p
 . exact h.f i j GR e
 . exact .inl (h.l i j (by omega) (by omega) hj)
theorem xE.turn {xs : Array Keyed} {ι : Nat -> Nat} {p x : Nat} (h : xE xs ι p x) (hx : x <= xs.size) : AZ (mirror xs p x ((x - p) / 2)) (turned ι p x) x := by
 intro i j GR hj
 rw [K_mirror hx, K_mirror hx]
 unfold turned
 by_cases hi : p <= i
 . rw [amZ (by omega), amZ (by omega), amZ (by omega), amZ (by omega)]
   have q := h.e (p + x - 1 - j) (p + x - 1 - i) (by omega) (by omega) (by omega)
   exact .inr ⟨q.1, q.2⟩
 . rw [amV (show ¬ (p <= i /\ i < x) by omega), amV (show ¬ (p <= i /\ i < x) by omega)]
   by_cases hjp : p <= j
   . rw [amZ (by omega), amZ (by omega)]
     exact .inl (h.l _ _ (by omega) (by omega) (by omega))
   . rw [amV (by omega), amV (by omega)]
     exact h.f i j GR (by omega)
theorem AZ.le {xs : Array Keyed} {ι : Nat -> Nat} {n : Nat} (h : AZ xs ι n) {i j : Nat} (GR : i <= j) (hj : j < n) : PyProof.Rows.K xs j <= PyProof.Rows.K xs i := by
 by_cases e : i = j
 . subst e; exact Int.le_refl _
 . rcases h i j (by omega) hj with z | z <;> omega
theorem AZ.half {xs : Array Keyed} {ι : Nat -> Nat} {x : Nat} (h : AZ xs ι x) (hx : 0 < x) (hl : PyProof.Rows.K xs x < PyProof.Rows.K xs (x - 1)) : xE xs ι x (x + 1) :=
 ⟨h, fun i j hi h1 h2 => by
   have e : j = x := by omega
   subst e
   have := h.le (i := i) (j := j - 1) (by omega) (by omega)
   omega, fun i j h1 h2 h3 => by omega⟩
theorem Oc {st : SortSt} {ι : Nat -> Nat} {n gw : Nat} {Q : DescSt -> SortSt -> Prop} (h0 : IntKeys a₀) (hn : gw <= a₀.size) (Wc : n + 1 <= gw) (hB : SBase a₀ st)
   (ht : Tag a₀ (arrOf st) ι (n + 1)) (hs : xE (arrOf st) ι n (n + 1))
   (h : ∀ m AK z κ, SBase a₀ z -> n + 1 <= m -> m <= gw -> AK + 1 <= m -> Tag a₀ (arrOf z) κ m -> xE (arrOf z) κ (m - (AK + 1)) m -> Q (none, m, AK) z) :
   wpS (model prog w) A E s (descLoop (n + 1) gw) Q st := by
 unfold descLoop
 refine aoW (I := fun x c z => ∃ AK κ, c = (none, x, AK) /\ SBase a₀ z /\ AK + 1 <= x /\ Tag a₀ (arrOf z) κ x /\ xE (arrOf z) κ (x - (AK + 1)) x) ?one ?all ⟨0, ι, rfl, hB, by omega, ht, hs⟩
 case all =>
   rintro c z ⟨AK, κ, rfl, b2, q, t, o⟩
   have e : max (n + 1) gw = gw := by omega
   rw [e] at q t o ⊢
   exact h gw AK z κ b2 Wc (am5 _) q t o
 case one =>
   rintro x c z hax hxn ⟨AK, κ, rfl, b2, q, t, o⟩
   dsimp only
   have hz : x <= (arrOf z).size := by rw [b2.size]; omega
   refine anS (wpS_ltK b2 h0 (by omega) (by omega) ?_)
   by_cases hl : PyProof.Rows.K (arrOf z) x < PyProof.Rows.K (arrOf z) (x - 1)
   . simp only [hl, decide_true, aoO]
     by_cases hq : AK > 0
     . rw [amZ hq]
       have hm : ∀ k, PyProof.Rows.K (mirror (arrOf z) (x - (AK + 1)) x ((x - (x - (AK + 1))) / 2)) k = PyProof.Rows.K (arrOf z) k := K_mirror_equal hz fun k k1 k2 => by
         by_cases e : k = x - 1
         . rw [e]
         . exact (o.e k (x - 1) k1 (by omega) (by omega)).1
       refine anS (wpS_reverse (an9 ⟨0, turned κ (x - (AK + 1)) x, rfl, b2.setArr (mirror_perm _ _ _ _), by omega, (t.turn (am5 _) (by omega) b2.size).grow, ?_⟩))
       have hf := o.turn hz
       refine hf.half (by omega) ?_
       rw [hm, hm]
       exact hl
     . rw [amV hq]
       have e0 : AK = 0 := by omega
       subst e0
       obtain ⟨y, rfl⟩ : ∃ y, x = y + 1 := ⟨x - 1, by omega⟩
       have hf : AZ (arrOf z) κ (y + 1) := xE.one o
       exact an9 ⟨0, κ, rfl, b2, by omega, t.grow, hf.half (by omega) hl⟩
   . simp only [hl, decide_false, anW, aoy]
     refine anS (wpS_ltK b2 h0 (by omega) (by omega) ?_)
     by_cases hg : PyProof.Rows.K (arrOf z) (x - 1) < PyProof.Rows.K (arrOf z) x
     . simp only [hg, decide_true, aoO]
       exact an9 (h x AK z κ b2 hax (by omega) q t o)
     . simp only [hg, decide_false, anW, aoy]
       have he : PyProof.Rows.K (arrOf z) x = PyProof.Rows.K (arrOf z) (x - 1) := Int.le_antisymm (Int.not_lt.mp hg) (Int.not_lt.mp hl)
       refine an9 ⟨AK + 1, κ, rfl, b2, by omega, t.grow, ?_⟩
       rw [show x + 1 - (AK + 1 + 1) = x - (AK + 1) by omega]
       refine ⟨o.f, fun i j hi h1 h2 => ?_, fun i j h1 h2 h3 => ?_⟩
       . by_cases e : j = x
         . rw [e, he]
           exact o.l i (x - 1) hi (by omega) (by omega)
         . exact o.l i j hi h1 (by omega)
       . by_cases e : j = x
         . subst e
           have l1 := t.lo i h2
           have l2 := t.hi j (am5 _)
           refine ⟨?_, by omega⟩
           rw [he]
           by_cases e2 : i = j - 1
           . rw [e2]
           . exact (o.e i (j - 1) h1 (by omega) (by omega)).1
         . exact o.e i j h1 h2 (by omega)
theorem BQ {st : SortSt} {ι : Nat -> Nat} {n gw : Nat} {Q : Option Nat -> SortSt -> Prop} (h0 : IntKeys a₀) (hn : gw <= a₀.size) (Wc : n + 1 <= gw) (hB : SBase a₀ st)
   (ht : Tag a₀ (arrOf st) ι (n + 1)) (hs : xE (arrOf st) ι n (n + 1))
   (h : ∀ m z κ, SBase a₀ z -> 1 <= m -> m <= gw -> Tag a₀ (arrOf z) κ m -> oS (arrOf z) κ m -> Q (some m) z) :
   wpS (model prog w) A E s (descPart n gw) Q st := by
 unfold descPart
 refine anS (wpS_lift (wpAny_rule ⟨rfl, ?_⟩))
 refine anS (Oc h0 hn Wc hB ht hs fun m AK z κ b2 m1 m2 q t o => ?_)
 dsimp only
 have hz : m <= (arrOf z).size := by rw [b2.size]; omega
 by_cases hq : AK > 0
 . rw [amZ hq]
   exact anS (wpS_reverse (GV h0 hn (by omega) m2 (b2.setArr (mirror_perm _ _ _ _)) (t.turn (am5 _) (by omega) b2.size) (o.turn hz) h))
 . rw [amV hq]
   have e0 : AK = 0 := by omega
   subst e0
   obtain ⟨y, rfl⟩ : ∃ y, m = y + 1 := ⟨m - 1, by omega⟩
   exact GV h0 hn (by omega) m2 b2 t (xE.one o) h
theorem Rh {st : SortSt} {gw : Nat} {Q : Option Nat -> SortSt -> Prop} (h0 : IntKeys a₀) (hn : gw <= a₀.size) (h1 : 1 <= gw) (hB : SBase a₀ st) (ht : Tag a₀ (arrOf st) id 0)
   (h : ∀ m z κ, SBase a₀ z -> 1 <= m -> m <= gw -> Tag a₀ (arrOf z) κ m -> oS (arrOf z) κ m -> Q (some m) z) :
   wpS (model prog w) A E s (countRun' 0 gw) Q st := by
 rw [countRun0_eq]
 refine anS (GU (ι := id) h0 hn (am5 1) h1 hB (ht.aiU (by omega)) (fun i j GR hj => by omega) fun n n1 n2 t o hor => ?_)
 dsimp only
 by_cases Wc : n = gw
 . rw [if_pos (by simpa using Wc)]
   exact an9 (h n st id hB n1 n2 t o)
 . rw [if_neg (by simpa using Wc)]
   have rE := hor.resolve_left Wc
   have hz : n <= (arrOf st).size := by rw [hB.size]; omega
   by_cases hgt : n > 1
   . rw [amZ hgt]
     refine anS (wpS_ltK hB h0 (by omega) (by omega) ?_)
     by_cases hr : PyProof.Rows.K (arrOf st) 0 < PyProof.Rows.K (arrOf st) (n - 1)
     . simp only [hr, decide_true, aoO]
       exact an9 (h n st id hB n1 n2 t o)
     . simp only [hr, decide_false, anW, aoy]
       have tO : ∀ k, 0 <= k -> k < n -> PyProof.Rows.K (arrOf st) k = PyProof.Rows.K (arrOf st) (n - 1) := fun k _ hk => by
         have a1 := o.le (i := 0) (j := k) (by omega) hk
         have a2 := o.le (i := k) (j := n - 1) (by omega) (by omega)
         omega
       have hm := K_mirror_equal (i := 0) hz tO
       refine anS (wpS_reverse (BQ (ι := turned id 0 n) h0 hn (by omega) (hB.setArr (mirror_perm _ _ _ _)) (t.turn (am5 _) (by omega) hB.size).grow ?_ h))
       have hh : xE (arrOf st) id 0 n := ⟨fun i j _ hj => by omega, fun i j hi => by omega, fun i j i1 i2 i3 => ⟨by rw [tO i (by omega) (by omega), tO j (by omega) i3], i2⟩⟩
       refine (hh.turn hz).half (by omega) ?_
       rw [hm, hm]
       exact rE
   . rw [amV hgt]
     have e1 : n = 1 := by omega
     subst e1
     exact BQ h0 hn (by omega) hB t.grow ((show AZ (arrOf st) id 1 from fun i j GR hj => by omega).half (by omega) rE) h
theorem acD {l r k x : Nat} (h1 : l <= r) (h2 : r <= k) (h3 : r - l <= k - x) (h4 : ¬ l ≥ r) : l <= (l + r) / 2 /\ (l + r) / 2 <= k /\ (l + r) / 2 - l <= k - (x + 1) /\ (l + r) / 2 + 1 <= r /\ r - ((l + r) / 2 + 1) <= k - (x + 1) /\ (l + r) / 2 < k := by
 have a : l <= (l + r) / 2 := by omega
 have b : (l + r) / 2 < r := by omega
 generalize (l + r) / 2 = m at a b
 clear h1
 refine ⟨a, ?_, ?_, b, ?_, ?_⟩ <;> omega
theorem Ri {st : SortSt} {ι : Nat -> Nat} {n ok : Nat} {Q : Bool -> SortSt -> Prop} (h0 : IntKeys a₀) (hn : n <= a₀.size) (dU : ok <= n) (ho1 : 1 <= ok) (hB : SBase a₀ st) (ht : Tag a₀ (arrOf st) ι ok) (hs : oS (arrOf st) ι ok)
   (h : ∀ z κ, SBase a₀ z -> Tag a₀ (arrOf z) κ n -> oS (arrOf z) κ n -> Q true z) : wpS (model prog w) A E s (binarySort' 0 n ok) Q st := by
 rw [binarySort'_eq]
 simp only [Nat.zero_add]
 refine anS (wpS_mono (aoW (I := fun k c z => c = (none, ()) /\ SBase a₀ z /\ ∃ κ, Tag a₀ (arrOf z) κ k /\ oS (arrOf z) κ k)
   (Q := fun c z => c = (none, ()) /\ SBase a₀ z /\ ∃ κ, Tag a₀ (arrOf z) κ n /\ oS (arrOf z) κ n) ?one ?all ?new) ?post)
 case post =>
   rintro c z ⟨rfl, b2, κ, t, o⟩
   exact an9 (h z κ b2 t o)
 case new =>
   rw [show max ok 1 = ok by omega]
   exact ⟨rfl, hB, ι, ht, hs⟩
 case all =>
   rintro c z ⟨hc, b2, κ, t, o⟩
   rw [show max (max ok 1) n = n by omega] at t o
   exact ⟨hc, b2, κ, t, o⟩
 case one =>
   rintro k c z U0 hkn ⟨rfl, b2, κ, t, o⟩
   have hk : k < a₀.size := by omega
   refine anS (wpS_mono (aoW (I := fun x c y => y = z /\ ∃ l r, c = (none, l, r) /\ l <= r /\ r <= k /\ r - l <= k - x /\ (∀ i, i < l -> PyProof.Rows.K (arrOf z) i <= PyProof.Rows.K (arrOf z) k) /\ (∀ i, r <= i -> i < k -> PyProof.Rows.K (arrOf z) k < PyProof.Rows.K (arrOf z) i))
     (Q := fun c y => y = z /\ ∃ l r, c = (none, l, r) /\ l <= k /\ (∀ i, i < l -> PyProof.Rows.K (arrOf z) i <= PyProof.Rows.K (arrOf z) k) /\ (∀ i, l <= i -> i < k -> PyProof.Rows.K (arrOf z) k < PyProof.Rows.K (arrOf z) i)) ?two ?fin ?beg) ?aft)
   case beg => exact ⟨rfl, 0, k, rfl, by omega, by omega, by omega, fun i hi => by omega, fun i g1 g2 => by omega⟩
   case fin =>
     rintro c y ⟨rfl, l, r, rfl, g1, g2, g3, g4, g5⟩
     have e : l = r := by omega
     subst e
     exact ⟨rfl, l, l, rfl, g2, g4, g5⟩
   case two =>
     rintro x c y _ hxk ⟨rfl, l, r, rfl, g1, g2, g3, g4, g5⟩
     dsimp only
     by_cases hge : l ≥ r
     . rw [amZ hge]
       have e : l = r := by omega
       subst e
       exact an9 ⟨rfl, l, l, rfl, g2, g4, g5⟩
     . rw [amV hge]
       have M := acD g1 g2 g3 hge
       refine anS (wpS_ltK b2 h0 hk (Nat.lt_trans M.2.2.2.2.2 hk) ?_)
       by_cases hl : PyProof.Rows.K (arrOf y) k < PyProof.Rows.K (arrOf y) ((l + r) / 2)
       . simp only [hl, decide_true, aoO]
         exact an9 ⟨rfl, l, (l + r) / 2, rfl, M.1, M.2.1, M.2.2.1, g4, fun i i1 i2 => Int.lt_of_lt_of_le hl (o.le i1 i2)⟩
       . simp only [hl, decide_false, anW, aoy]
         exact an9 ⟨rfl, (l + r) / 2 + 1, r, rfl, M.2.2.2.1, g2, M.2.2.2.2.1, fun i i1 => Int.le_trans (o.le (i := i) (j := (l + r) / 2) (Nat.lt_succ_iff.mp i1) M.2.2.2.2.2) (Int.not_lt.mp hl), g5⟩
   case aft =>
     rintro c y ⟨rfl, l, r, rfl, g2, g4, g5⟩
     show wpS _ _ _ _ (do moveDown' k l; pure (ForInStep.yield (none, ()))) _ _
     rw [moveDown'_eq]
     have hks : k < (arrOf y).size := by rw [b2.size]; exact hk
     refine anS (wpS_modify (an9 ⟨rfl, b2.setArr (bubble_perm _ _ _), Ob κ k l, t.sink g2 hk b2.size, ?_⟩))
     intro i j GR hj
     show PyProof.Rows.K (bubble (arrOf y) k (k - l)) i < PyProof.Rows.K (bubble (arrOf y) k (k - l)) j \/ (PyProof.Rows.K (bubble (arrOf y) k (k - l)) i = PyProof.Rows.K (bubble (arrOf y) k (k - l)) j /\ _)
     rw [K_bubble hks (by omega), K_bubble hks (by omega), show k - (k - l) = l by omega]
     unfold Ob
     have tk := t.hi k (am5 _)
     by_cases ei : i = l
     . rw [amZ ei, amZ ei, amV (show ¬ j = l by omega), amV (show ¬ j = l by omega), amZ (by omega), amZ (by omega)]
       exact .inl (g5 _ (by omega) (by omega))
     . rw [amV ei, amV ei]
       by_cases ej : j = l
       . rw [amZ ej, amZ ej, amV (by omega), amV (by omega)]
         have := g4 i (by omega)
         have := t.lo i (by omega)
         omega
       . rw [amV ej, amV ej]
         by_cases hi : l < i /\ i <= k
         . rw [amZ hi, amZ hi, amZ (by omega), amZ (by omega)]
           exact o _ _ (by omega) (by omega)
         . rw [amV hi, amV hi]
           by_cases hj2 : l < j /\ j <= k
           . rw [amZ hj2, amZ hj2]
             exact o _ _ (by omega) (by omega)
           . rw [amV hj2, amV hj2]
             exact o _ _ (by omega) (by omega)
noncomputable def Rj (a₀ : Array Keyed) (st : SortSt) : Prop := failedOf st = none /\ pendingOf st = #[(0, a₀.size, 0)] /\ ∃ κ, Tag a₀ (arrOf st) κ a₀.size /\ oS (arrOf st) κ a₀.size /\ (arrOf st).size = a₀.size
theorem aaF {st : SortSt} {κ : Nat -> Nat} (hB : SBase a₀ st) (t : Tag a₀ (arrOf st) κ a₀.size) (o : oS (arrOf st) κ a₀.size) : Rj a₀ (setPending st ((pendingOf st).push (0, a₀.size, 0))) :=
 ⟨hB.failed, by show (pendingOf st).push _ = _; rw [hB.pend]; rfl, κ, t, o, hB.size⟩
theorem Od {st : SortSt} {Q : Unit -> SortSt -> Prop} (h0 : IntKeys a₀) (hB : SBase a₀ st) (ht : Tag a₀ (arrOf st) id 0) (h2 : 2 <= a₀.size) (h64 : a₀.size < 64)
   (h : ∀ z κ, failedOf z = none -> Tag a₀ (arrOf z) κ a₀.size -> oS (arrOf z) κ a₀.size -> (arrOf z).size = a₀.size -> Q () z) : wpS (model prog w) A E s sortRuns' Q st := by
 rw [sortRuns'_eq]
 refine anS (wpS_get ?_)
 dsimp only
 have hmr : minRun' a₀.size a₀.size 0 = a₀.size := by
   obtain ⟨f, hf⟩ : ∃ f, a₀.size = f + 1 := ⟨a₀.size - 1, by omega⟩
   have q : minRun' (f + 1) a₀.size 0 = a₀.size := by
     rw [minRun'_succ, amZ h64]
     rfl
   rwa [← hf] at q
 rw [hB.size, hmr]
 refine anS (wpS_mono (aoW (I := fun x c z => (x = 0 /\ c = (none, 0) /\ SBase a₀ z /\ Tag a₀ (arrOf z) id 0) \/ (1 <= x /\ c = (none, a₀.size) /\ Rj a₀ z))
   (Q := fun c z => c = (none, a₀.size) /\ Rj a₀ z) ?one ?all (.inl ⟨rfl, rfl, hB, ht⟩)) ?aft)
 case all =>
   rintro c z (⟨hx, _⟩ | ⟨_, hc, hD⟩)
   . omega
   . exact ⟨hc, hD⟩
 case one =>
   rintro x c z _ hx (⟨rfl, rfl, b2, t0⟩ | ⟨hx1, rfl, hD⟩)
   . dsimp only
     rw [amV (by omega)]
     rw [Nat.sub_zero, Nat.min_self, Nat.zero_add]
     refine anS (Rh h0 (am5 _) (by omega) b2 t0 fun m z2 κ b3 m1 m2 t o => ?_)
     dsimp only
     by_cases hl : m < a₀.size
     . rw [amZ hl]
       refine anS (wpS_lift (wpAny_rule ⟨rfl, ?_⟩))
       refine anS (Ri h0 (am5 _) m2 m1 b3 t o fun z3 κ3 b4 t4 o4 => ?_)
       simp only [Bool.not_true, anW, aoy]
       refine anS (wpS_get ?_)
       have hb : (pendingOf z3).back? = none := by rw [b4.pend]; rfl
       rw [hb]
       dsimp only
       exact anS (wpS_modify (an9 (.inr ⟨by omega, by first | rfl | rw [Nat.zero_add], aaF b4 t4 o4⟩)))
     . rw [amV hl]
       have hm : m = a₀.size := by omega
       subst hm
       refine anS (wpS_get ?_)
       have hb : (pendingOf z2).back? = none := by rw [b3.pend]; rfl
       rw [hb]
       dsimp only
       exact anS (wpS_modify (an9 (.inr ⟨by omega, by first | rfl | rw [Nat.zero_add], aaF b3 t o⟩)))
   . dsimp only
     rw [amZ (am5 _)]
     exact an9 ⟨rfl, hD⟩
 case aft =>
   rintro c z ⟨rfl, hD⟩
   dsimp only
   refine anS (wpS_mono (aoW (I := fun _ c y => y = z /\ c = (none, ())) (Q := fun c y => y = z /\ c = (none, ())) ?_ (fun _ _ q => q) ⟨rfl, rfl⟩) ?_)
   . rintro x c y _ _ ⟨rfl, rfl⟩
     refine anS (wpS_get ?_)
     rw [amZ (by rw [hD.2.1]; exact am5 1)]
     exact an9 ⟨rfl, rfl⟩
   . rintro c y ⟨rfl, rfl⟩
     obtain ⟨κ, t, o, z1⟩ := hD.2.2
     exact an9 (h _ κ hD.1 t o z1)
end
section
variable {X : Cx}
end
section
variable {X : Cx} {CL : Str -> Addr} {b : Bx} {δ δ1 : List (Option T)} {e : Expr} {pos pp p1 p2 : Pos} {kj : Nat}
end
section
variable {X : Cx} {i : Nat} {x : Str}
theorem mkL (hi : X.N[i]? = some x) (h : X.env.scope.names.lookup x = some .local) (hf : X.fn x = true) (hd : (x == ("__debug__" : Str)) = false := by decide) (hc : (x == ("__classdict__" : Str)) = false := by decide) : Ln X i x := ⟨⟨hi, .inl h, hd, hc⟩, .inl h, .inl hf⟩
theorem mkC (hi : X.N[i]? = some x) (h : X.env.scope.names.lookup x = some .cell) (hf : X.fn x = true) (hd : (x == ("__debug__" : Str)) = false := by decide) (hc : (x == ("__classdict__" : Str)) = false := by decide) : Ln X i x := ⟨⟨hi, .inr (.inl h), hd, hc⟩, .inr h, .inl hf⟩
end
theorem bS {P : Program} {w : World} {K : PySem.W.Frag} {mg : Str -> Option Value} {base : Heap} {k : Nat} {f : Addr} {fd : FuncData} {ps : List Str} {sp : Sp} {x : Str} (G : bL P w K mg base fM k f fd ps sp) (m : mg x = some (.ref f)) (q : PySem.W.keepIn K (.ref f) = true) (b : Binds K fd ps []) :
   ∃ f fd ps, bL P w K mg base fM k f fd ps sp /\ mg x = some (.ref f) /\ PySem.W.keepIn K (.ref f) = true /\ Binds K fd ps [] := ⟨_, _, _, G, m, q, b⟩
section
variable {X : Cx} {CL : Str -> Addr} {b : Bx} {δ δ1 δc : List (Option T)} {scope : Scope} {y : Str} {Nc : List Str} {ix : List Nat} {elt iter : Expr} {ifs : List Expr} {px pc pos : Pos} {p : L3.D -> Bool} {g : L3.D -> T} {ds : List L3.D}
theorem Wd (sc : f6 X scope y Nc ix) : oQ X scope [y] Nc ix := ⟨sc.kind, sc.vm, sc.nd, sc.names, (fun x hx => by rw [anb] at hx; subst hx; exact sc.own), sc.frees, sc.hd, sc.ixs⟩
theorem acE (sc : f6 X scope y Nc ix) (h : Block X CL scope Nc ifs elt δc ds p g) (h1 : (y == ("__debug__" : Str)) = false) (h2 : (y == ("__classdict__" : Str)) = false) : vq X CL scope Nc [y].length (.Name y px) part1 ifs elt δc ds p g := fun C s0 H0 f0 b' =>
 ⟨QZ (i := 0) sc.nd (acv (by rw [sc.hd]; rfl) sc.own h1 h2), fun d hd => ⟨[d], rfl, rfl, (h C s0 H0 f0 b' d hd).1, (h C s0 H0 f0 b' d hd).2⟩⟩
theorem CV (sc : f6 X scope y Nc ix) (hc : X.calm = true) (h : UZ X CL b (.Name y px) iter δ ds δ1) (hb : (δc = yN δ1 ix /\ ∀ d ∈ ds, (g d).clean = true) \/ δc = Gz δ1 ix) (inner : Block X CL scope Nc ifs elt δc ds p g) (hlen : ds.length <= sizeLine)
   (hs : ∀ x, foldedSetIterable iter X.env x = pure x := by intro _; rfl) (h1 : (y == ("__debug__" : Str)) = false := by decide) (h2 : (y == ("__classdict__" : Str)) = false := by decide) : cG X CL b (.ListComp elt [⟨.Name y px, iter, ifs, 0⟩] scope pos) δ (.lst ((ds.filter p).map g)) δ1 :=
 GL (xs := [y]) (Wd sc) hc (aaz h) hb (acE sc inner h1 h2) hlen hs
theorem rV {D : dF} {gu : List Stmt} {i : Nat} {x : Str} {pos' : Pos} {gg : L3.D -> T} (g : Gx X) (n : Ln X i x) (sc : f6 X scope y Nc ix) (h : UZ X CL b (.Name y px) iter δ ds δ1) (hb : (δc = yN δ1 ix /\ ∀ d ∈ ds, (gg d).clean = true) \/ δc = Gz δ1 ix) (inner : Block X CL scope Nc ifs elt δc ds p gg)
   (hlen : ds.length <= sizeLine) (k : fF X CL b gu (δ1.set i (some (.lst ((ds.filter p).map gg)))) D) (hl : i < δ1.length)
   (xD : swapsWith (.ListComp elt [⟨.Name y px, iter, ifs, 0⟩] scope pc) (some (.Name x pos')) pos.line X.env = pure true \/ swapsWith (.ListComp elt [⟨.Name y px, iter, ifs, 0⟩] scope pc) (some (.Name x pos')) pos.line X.env = pure false) (hs : ∀ x, foldedSetIterable iter X.env x = pure x := by intro _; rfl)
   (h1 : (y == ("__debug__" : Str)) = false := by decide) (h2 : (y == ("__classdict__" : Str)) = false := by decide) : fF X CL b (.Assign [.Name x pos'] (.ListComp elt [⟨.Name y px, iter, ifs, 0⟩] scope pc) pos :: gu) δ D :=
 acu (xs := [y]) g n (Wd sc) (aaz h) hb (acE sc inner h1 h2) hlen k hl xD hs
end
section
variable {X : Cx} {CL : Str -> Addr} {b : Bx} {δ : List (Option T)} {i : Nat} {x : Str} {d : L3.D} {pos : Pos}
theorem aD (n : Ln X i x) (h : δ[i]? = some (some (.sh d)) := by rfl) : cV X CL b (.Name x pos) δ d δ := ah (v_ n.1 h)
end
structure bK (X : Cx) : Prop where
 g : Gx X
 u : X.A.units + 64 < cLine
noncomputable abbrev az (X : Cx) (CL : Str -> Addr) (b : Bx) (st : Stmt) (N : List Str) (l : List L3.D) (r : T) : Prop := fF X CL b (gB st) (entry N l) { nx := fun _ => r = .sh .non, rt := fun CW _ => CW = r }
noncomputable abbrev aB : NameKind := .globalImplicit
noncomputable abbrev av : NameKind := .local
theorem aQ {N P : List Str} {sc : Scope} (h1 : sc.kind = .function := by rfl) (h2 : sc.isCoroutine = false := by rfl) (h3 : sc.isGenerator = false := by rfl) (h4 : N.Nodup := by decide +kernel) (h5 : N.take P.length = P := by rfl) (h6 : ∀ x ∈ P, sc.names.lookup x = some .local \/ sc.names.lookup x = some .cell := by decide +kernel) (h7 : ∀ y ∈ sc.names, y.2 ≠ .free := by decide +kernel) : aJ N P sc := ⟨h1, h2, h3, h4, h5, h6, h7⟩
section
variable {X : Cx} {i : Nat} {x : Str} {tb : List (Str × NameKind)}
theorem bf (c : iS X.env.scope tb = true) (j : Nat) (hj : tb[j]? = some (x, .local) := by rfl) (hi : X.N[i]? = some x := by rfl) (hf : X.fn x = true := by rfl) (hd : (x == ("__debug__" : Str)) = false := by decide) (hc : (x == ("__classdict__" : Str)) = false := by decide) : Ln X i x := mkL hi (cX c j hj) hf hd hc
theorem F4 (c : iS X.env.scope tb = true) (j : Nat) (hj : tb[j]? = some (x, .cell) := by rfl) (hi : X.N[i]? = some x := by rfl) (hf : X.fn x = true := by rfl) (hd : (x == ("__debug__" : Str)) = false := by decide) (hc : (x == ("__classdict__" : Str)) = false := by decide) : Ln X i x := mkC hi (cX c j hj) hf hd hc
theorem cU (c : iS X.env.scope tb = true) (j : Nat) (hj : tb[j]? = some (x, .globalImplicit) := by rfl) : Gl X x := cX c j hj
theorem bX {CL : Str -> Addr} {k n m : Nat} {A : Type} {arg : A -> List D} {Pre : A -> Prop} {res : A -> T} (F : ∃ f fd ps, bL X.prog X.w X.K X.mg X.base fM k f fd ps (i7 X.K CL n arg Pre res) /\ X.mg x = some (.ref f) /\ PySem.W.keepIn X.K (.ref f) = true /\ Binds X.K fd ps []) (r : fJ m X.A) (h : k <= m := by decide) : Fc X CL x k n arg Pre res := ⟨F, r.mono h⟩
end
section
variable {K : PySem.W.Frag} {CL : Str -> Addr} {b : Bx} {H H' Z Z' : Hp} {δ δ' : List (Option T)} {σ σ' : L2.St} {ts tl : List T} {vs us : List V} {t : T} {v : V} {y : Addr} {i : Nat}
noncomputable def Wf (H : Hp) (gp : List Addr) : Hp := fun c => if c ∈ gp then none else H c
noncomputable def GX (K : PySem.W.Frag) (CL : Str -> Addr) {A : Type} (n : Nat) (arg : A -> List T) (Pre : A -> Prop) (res : A -> T) (out : A -> List T) : Sp := fun vs H Q _ =>
 ∃ (W : Hp) (a : A) (gp : List Addr), aG W (Wf H gp) /\ (∀ c o, H c = some o -> jv o = true -> W c = some o) /\ bE K CL H W (arg a) vs gp /\ gp.Nodup /\ (arg a).length = n /\ Pre a /\ mV CL W ∧
   ∀ v H' W' fp, aG (Wf H gp) H' -> aG W W' -> aG W' H' -> (∀ c o, W' c = some o -> W c = none -> Wf H gp c = none) -> (∀ c o, H' c = some o -> jv o = true -> W' c = some o) →
     bE K CL H' W' (res a :: out a) (v :: vs) fp -> fp.Nodup -> (∀ c ∈ fp, W' c = none /\ Wf H gp c = none) -> Q v H'
end
section
variable {K : PySem.W.Frag} {CL : Str -> Addr} {b : Bx} {H Z : Hp} {σ : L2.St} {ts : List T} {vs : List V}
end
section
variable {X : Cx} {CL : Str -> Addr} {b : Bx} {δ δ1 δ2 : List (Option T)} {e : Expr} {es : List Expr} {t : T} {d : L3.D} {pos pp : Pos} {D : dF} {i : Nat} {x : Str} {is : List Nat} {fx : List Addr -> Prop} {al : List Addr -> List T} {y : Addr}
variable {gu : List Stmt}
end
section
variable {X : Cx} {CL : Str -> Addr} {b : Bx} {δ δ1 δ2 : List (Option T)} {e e2 : Expr} {t : T} {tl UY tl2 : List T} {D : dF} {pos pp pa pb : Pos} {y : Addr} {gu : List Stmt}
section
variable {i : Nat} {x : Str}
end
end
noncomputable def m7 {α : Type} (g : α -> Int) (x : α) : List α -> List α
 | [] => [x]
 | y :: l => if g x <= g y then x :: y :: l else y :: m7 g x l
noncomputable def b9 {α : Type} (g : α -> Int) : List α -> List α
 | [] => []
 | x :: l => m7 g x (b9 g l)
section
variable {α β : Type} {g : α -> Int}
theorem vz (x : α) : ∀ l, (m7 g x l).Perm (x :: l)
 | [] => .refl _
 | y :: l => by
   rw [m7]
   split
   . exact .refl _
   . exact ((vz x l).cons y).trans (.swap x y l)
theorem jY : ∀ l : List α, (b9 g l).Perm l
 | [] => .refl _
 | x :: l => (vz x (b9 g l)).trans ((jY l).cons x)
theorem eU {l : List α} {x : α} : x ∈ b9 g l ↔ x ∈ l := (jY l).mem_iff
theorem iT (l : List α) : (b9 g l).length = l.length := (jY l).length_eq
theorem GY (f : β -> α) (x : β) : ∀ l, m7 g (f x) (l.map f) = (m7 (fun y => g (f y)) x l).map f
 | [] => rfl
 | y :: l => by
   rw [ani, m7, m7]
   split
   . rfl
   . rw [ani, GY f x l]
theorem iU (f : β -> α) : ∀ l : List β, b9 g (l.map f) = (b9 (fun y => g (f y)) l).map f
 | [] => rfl
 | x :: l => by rw [ani, b9, b9, iU f l, GY]
noncomputable def JF (g : Nat -> Int) (i j : Nat) : Prop := g i < g j \/ (g i = g j /\ i < j)
theorem JF.trans {g : Nat -> Int} {i j k : Nat} (a : JF g i j) (b : JF g j k) : JF g i k := by
 unfold JF at *; omega
theorem JF.irr {g : Nat -> Int} {i : Nat} (a : JF g i i) : False := by unfold JF at a; omega
theorem GZ {g : Nat -> Int} {x : Nat} : ∀ {l : List Nat}, l.Pairwise (JF g) -> (∀ y ∈ l, x < y) -> (m7 g x l).Pairwise (JF g)
 | [], _, _ => List.pairwise_singleton _ _
 | y :: l, h, hx => by
   obtain ⟨h1, h2⟩ := anR.mp h
   rw [m7]
   split
   . rename_i e
     refine anR.mpr ⟨fun z hz => ?_, h⟩
     have a1 : JF g x y := by have := hx y am0; unfold JF; omega
     rcases am1.mp hz with rfl | hz
     . exact a1
     . exact a1.trans (h1 z hz)
   . rename_i e
     refine anR.mpr ⟨fun z hz => ?_, GZ h2 fun z hz => hx z (am2 _ hz)⟩
     rcases am1.mp ((vz x l).mem_iff.mp hz) with rfl | hz
     . left; omega
     . exact h1 z hz
theorem vA {g : Nat -> Int} : ∀ {l : List Nat}, l.Pairwise (· < ·) -> (b9 g l).Pairwise (JF g)
 | [], _ => .nil
 | x :: l, h => by
   obtain ⟨h1, h2⟩ := anR.mp h
   exact GZ (vA h2) fun y hy => h1 y (eU.mp hy)
theorem CY {g : Nat -> Int} : ∀ {S A : List Nat}, S.Pairwise (JF g) -> A.Pairwise (JF g) -> (∀ a ∈ A, a ∈ S) -> A.length <= S.length /\ (A.length = S.length -> A = S)
 | [], A, _, _, h => by
   cases A with
   | nil => exact ⟨am5 _, fun _ => rfl⟩
   | cons a A => exact absurd (h a am0) (by simp)
 | s :: S, [], _, _, _ => ⟨ans _, fun e => by simp at e⟩
 | s :: S, a :: A, hS, hA, h => by
   obtain ⟨s1, s2⟩ := anR.mp hS
   obtain ⟨a1, a2⟩ := anR.mp hA
   by_cases e : a = s
   . subst e
     have q := CY s2 a2 fun z hz => (am1.mp (h z (am2 _ hz))).resolve_left fun e => by subst e; exact (a1 _ hz).irr
     refine ⟨by simpa using q.1, fun e => by rw [q.2 (by simpa using e)]⟩
   . have ha : a ∈ S := (am1.mp (h a am0)).resolve_left e
     have q := CY (A := a :: A) s2 hA fun z hz => by
       rcases am1.mp hz with rfl | hz
       . exact ha
       . refine (am1.mp (h z (am2 _ hz))).resolve_left fun e2 => ?_
         subst e2
         exact ((s1 a ha).trans (a1 _ hz)).irr
     exact ⟨by have := q.1; simp at this ⊢; omega, fun e3 => by have := q.1; simp at this e3; omega⟩
theorem Rk {l r : List α} {κ : Nat -> Nat} (hn : r.length = l.length) (pl : ∀ k, k < l.length -> r[k]? = l[κ k]?) (lo : ∀ k, k < l.length -> κ k < l.length)
   (st : ∀ i j x y, i < j -> r[i]? = some x -> r[j]? = some y -> g x < g y \/ (g x = g y /\ κ i < κ j)) : r = b9 g l := by
 cases l with
 | nil => cases r with
   | nil => rfl
   | cons a r => simp at hn
 | cons d l0 =>
   generalize hl : d :: l0 = l at *
   let f : Nat -> α := fun i => (l[i]?).getD d
   have hf : ∀ i, i < l.length -> l[i]? = some (f i) := fun i hi => by
     show _ = some ((l[i]?).getD d)
     rw [amW hi]; rfl
   have el : l = (List.range l.length).map f := aoo fun i => by
     rw [anq]
     by_cases hi : i < l.length
     . rw [hf i hi, an7 hi]; rfl
     . rw [List.getElem?_eq_none (by omega), List.getElem?_eq_none (by simpa using hi)]; rfl
   have er : r = ((List.range l.length).map κ).map f := aoo fun i => by
     rw [anq, anq]
     by_cases hi : i < l.length
     . rw [pl i hi, hf _ (lo i hi), an7 hi]; rfl
     . rw [List.getElem?_eq_none (by omega), List.getElem?_eq_none (by simpa using hi)]; rfl
   have gr : ∀ k, k < l.length -> r[k]? = some (f (κ k)) := fun k hk => (pl k hk).trans (hf _ (lo k hk))
   have eA : (List.range l.length).map κ = b9 (fun i => g (f i)) (List.range l.length) := by
     refine (CY (vA (List.pairwise_lt_range)) (List.pairwise_map.mpr ?_) fun a ha => ?_).2 ?_
     . refine List.Pairwise.imp_of_mem (R := (· < ·)) (fun {i j} hi hj GR => ?_) List.pairwise_lt_range
       exact st i j _ _ GR (gr i (anN.mp hi)) (gr j (anN.mp hj))
     . obtain ⟨k, hk, rfl⟩ := ank.mp ha
       exact eU.mpr (anN.mpr (lo k (anN.mp hk)))
     . rw [amY, iT]
   rw [er, eA, ← iU, ← el]
end
theorem BR {α : Type} {g : α -> Int} {x : α} : ∀ {A B : List α}, (∀ y ∈ A, g y < g x) -> m7 g x (A ++ B) = A ++ m7 g x B
 | [], _, _ => rfl
 | a :: A, B, h => by
   have ha := h a am0
   rw [anw, m7, amV (by omega), BR fun y hy => h y (am2 _ hy), anw]
theorem JG {α : Type} {g : α -> Int} {x : α} {B : List α} (h : ∀ y ∈ B, g x <= g y) : m7 g x B = x :: B := by
 cases B with
 | nil => rfl
 | cons b B => rw [m7, amZ (h b am0)]
theorem wX {α : Type} (g : α -> Nat) (n : Nat) : ∀ (l : List α), (∀ x ∈ l, g x < n) -> b9 (fun x => (g x : Int)) l = (List.range n).flatMap (fun i => l.filter (fun x => decide (g x = i)))
 | [], _ => by
   show [] = _
   induction (List.range n) with
   | nil => rfl
   | cons a l ih => rw [an2, ← ih]; rfl
 | x :: l, h => by
   have hx := h x am0
   have ih := wX g n l fun y hy => h y (am2 _ hy)
   rw [b9, ih]
   have hr : List.range n = List.range (g x) ++ (g x) :: List.range' (g x + 1) (n - g x - 1) := by
     rw [List.range_eq_range', List.range_eq_range', show n = g x + (1 + (n - g x - 1)) by omega, ← List.range'_append_1, show 1 + (n - g x - 1) = (n - g x - 1) + 1 by omega, List.range'_succ]
     simp
   have A : (List.range (g x)).flatMap (fun i => (x :: l).filter (fun y => decide (g y = i))) = (List.range (g x)).flatMap (fun i => l.filter (fun y => decide (g y = i))) := by
     rw [aoF, aoF]
     congr 1
     refine an8 fun i hi => ?_
     have := anN.mp hi
     rw [aop (by simp; omega)]
   have R : (List.range' (g x + 1) (n - g x - 1)).flatMap (fun i => (x :: l).filter (fun y => decide (g y = i))) = (List.range' (g x + 1) (n - g x - 1)).flatMap (fun i => l.filter (fun y => decide (g y = i))) := by
     rw [aoF, aoF]
     congr 1
     refine an8 fun i hi => ?_
     have := (List.mem_range'_1.mp hi).1
     rw [aop (by simp; omega)]
   rw [hr, aoG, aoG, an2, an2, A, R, aoe (by simp)]
   rw [BR, JG]
   . rfl
   . intro y hy
     rcases am3.mp hy with hy | hy
     . have := am9 (anB.mp hy).2
       omega
     . obtain ⟨i, hi, hy⟩ := List.mem_flatMap.mp hy
       have := am9 (anB.mp hy).2
       have := (List.mem_range'_1.mp hi).1
       omega
   . intro y hy
     obtain ⟨i, hi, hy⟩ := List.mem_flatMap.mp hy
     have := am9 (anB.mp hy).2
     have := anN.mp hi
     omega
theorem JH {pos pos' : Pos} {c cv : Value} (l : List Value) (h : TriplesOk l) (e : codeAmong pos (l ++ [rawInt pos'.line, rawInt pos'.col, c]) = some cv) : codeAmong pos l = some cv \/ cv = c := by
 fun_induction TriplesOk l with
 | case1 =>
   simp only [aoc, codeAmong, rawInt] at e
   split at e
   . exact .inr (anj e).symm
   . cases e
 | case2 a t b u x rest ih =>
   simp only [anw, codeAmong] at e ⊢
   split at e
   . rename_i hc; rw [amZ hc]; exact .inl e
   . rename_i hc; rw [amV hc]; exact ih h e
 | case3 l h1 h2 => exact h.elim
noncomputable def Rl (f : Addr) (q : Str) (ps : Arguments) (body : Expr) (sc : Scope) (cl : List (Str × Addr)) (c : Addr) : Heap -> Prop := fun h =>
 ∃ pm ctv, h.get? f = some (PySem.W.kla_obj "<lambda>" q ps body sc cl pm c ctv)
structure Oe (X : Cx) (CL : Str -> Addr) (x q : Str) : Prop where
 code : ∃ c, X.env.code = .ref c /\ PySem.W.CodeHd X.base c (CL x)
 blt : ∃ bm o, X.mg "__builtins__" = some (.ref bm) /\ bm ≠ builtinsNs /\ bm ≠ mainGlobals /\ X.base.get? bm = some o /\ o.cls = .type "module" /\ o.dict = some builtinsNs /\ o.data = .plain
 qual : X.env.qual ++ "<lambda>" = q
 tab : Gv x = true /\ CL x ≠ 0 /\ Gw x = q
section
variable {X : Cx} {CL : Str -> Addr} {pins : List (Addr × Obj)} {σ : L2.St} {H : Hp} {s : Shared} {x q : Str} {params : Arguments} {body : Expr} {scope : Scope} {pos : Pos}
theorem acF {Q : Value -> Shared -> Prop} (L : Oe X CL x q) (I : L2.Inv X pins σ H s) (ht : H (CL x) = some (.tabs q)) (F8 : ∀ y ∈ scope.names, y.2 = .free -> ∃ c, X.env.cells.lookup y.1 = some c)
   (acG : defaultsOf params X.env = ([], []))
   (k : ∀ f c H' s', L2.Inv X pins σ H' s' -> aG H H' -> H' f = some (.ext (Rl f q params body scope (c6 X.env scope.names []) c)) -> H' c = some (.M9 q) -> (∀ b o, H' b = some o -> jv o = true -> H b = some o) -> Q (.ref f) s') :
   wpAny (model X.prog X.w) X.A (eval (.Lambda params body scope pos) X.env) Q X.xe s := by
 obtain ⟨c, hc, hd⟩ := L.code
 obtain ⟨bm, ob, b1, b2, b3, b4, b5, b6, b7⟩ := L.blt
 obtain ⟨ps, hP, tr, cs⟩ := I.dU _ _ ht
 have jl : ∀ {b : Addr} {o : Obj}, X.base.get? b = some o -> b ≠ CL x := fun {b o} e z => by
   have := (I.bs _ _ e).2
   rw [z, ht] at this; cases this
 have hg : s.heap.Ns mainGlobals X.mg := by
   obtain ⟨o, es, ep, e, r⟩ := I.mod.glob
   exact ⟨o, es, ep, I.bk _ _ e, r⟩
 have hgP : mainGlobals ≠ CL x := by
   obtain ⟨o, _, _, e, _⟩ := I.mod.glob
   exact jl e
 have hb : s.heap.BuiltinsAt X.mg (CL x) := ⟨bm, ob, b1, b2, b3, jl b4, I.bk _ _ b4, b5, b6, b7⟩
 refine PySem.W.kla_eval acG ?_
 rw [L.qual]
 cases hf : codeAmong pos ps.toList with
 | none =>
   refine PySem.W.kla_makeFunction (kY F8) I.ok.glob hg hc (hd.keeps I.bk) hP tr hf hgP hb fun c' ctv h' tk hx hge rE ai2 htb => ?_
   obtain ⟨c₂, oc, vs, t, e2, hoc, hdc, hv⟩ := ai2
   cases e2
   have hn : H c' = none := I.dU.fresh hge
   have neP : ∀ {b : Addr}, H b = none -> b ≠ CL x := fun {b} e z => by rw [z, ht] at e; cases e
   have ne' : ∀ {b : Addr} {o : Obj}, s.heap.get? b = some o -> b ≠ c' := fun {b o} e => anA (anD (ang e) hge)
   have cP : CL x ≠ c' := ne' hP
   have un : Un X.fs [] H (upd H c' (.M9 q)) s.heap h' := by
     refine ⟨fun b o e n _ _ => hx b o (neP n) e, fun b o e n _ _ => ⟨o.slots, hx b o (neP n) e⟩, fun b o e n _ => by rw [aA (ne' e)]; exact n, fun b o e _ => ?_, fun b xs e => by rw [aA (aK e hn)]; exact e, fun b o u e => by rw [aA (aK e hn)]; exact e, fun b ps e => ⟨#[], by rw [aA (aK e hn), e]; simp⟩⟩
     by_cases z : b = CL x
     . exact ⟨_, z ▸ htb⟩
     . exact ⟨o, hx b o z e⟩
   have dU : rP X.prog X.w (upd H c' (.M9 q)) h' := fun b u e => by
     by_cases z : b = c'
     . subst z
       rw [aV] at e
       cases e
       exact ⟨oc, vs, t, hoc, hdc, hv⟩
     . rw [aA z] at e
       by_cases z2 : b = CL x
       . subst z2
         rw [ht] at e
         cases e
         refine ⟨_, htb, ?_, fun pos' cv ec => ?_⟩
         . rw [Array.toList_append]
           exact TriplesOk_snoc _ _ _ _ tr
         . rw [Array.toList_append] at ec
           rcases JH _ tr ec with q1 | q1
           . obtain ⟨c3, e3, e4⟩ := cs pos' cv q1
             exact ⟨c3, e3, by rw [aA (aK e4 hn)]; exact e4⟩
           . exact ⟨c', q1, aV⟩
       . refine (I.dU b u e).Ck (fun d v Va r => hx d v ?_ r) (fun d r => by rw [aA (aK r hn)]; exact r) (fun d xs r => by rw [aA (aK r hn)]; exact r) fun d z r => by rw [aA (aK r hn)]; exact r
         rintro rfl
         rcases Va with w | w
         . exact z2 w.symm
         . rw [ht] at w; cases w
   have I1 := I.un (t' := tk) un dU
   have f1 : (upd H c' (.M9 q)) h'.objs.size = none := dU.fresh (am5 _)
   have I2 := I1.laid (t' := tk) (a := h'.objs.size) (o := .ext (Rl h'.objs.size q params body scope (c6 X.env scope.names []) c')) (h' := h'.push (PySem.W.kla_obj "<lambda>" q params body scope (c6 X.env scope.names []) ((X.mg "__name__").getD .none) c' ctv))
     (fun b u e => ana _ e) (am5 _) ⟨⟨_, _, anv _ rfl⟩, ⟨_, anv _ rfl⟩, fun h1 h2 ⟨pm, ct, e⟩ kk => ⟨pm, ct, kk _ e⟩⟩
   refine k _ c' _ _ I2 (fun b o e => ?_) aV ?_ fun b o e im => ?_
   . have z1 := aK e hn
     have z2 : b ≠ h'.objs.size := fun z => by
       rw [← z, aA z1, e] at f1; cases f1
     rw [aA z2, aA z1]; exact e
   . rw [aA (anA rE), aV]
   . by_cases z2 : b = h'.objs.size
     . subst z2; rw [aV] at e; cases e; cases im
     . rw [aA z2] at e
       by_cases z1 : b = c'
       . subst z1; rw [aV] at e; cases e; cases im
       . rw [aA z1] at e; exact e
 | some cv =>
   obtain ⟨c', rfl, Qa⟩ := cs pos cv hf
   refine PySem.W.kla_makeFunctionHit (kY F8) I.ok.glob hg hc (hd.keeps I.bk) hP tr hf hb fun ctv h' tk hk hsz => ?_
   have I2 := I.laid (t' := tk) (a := h'.objs.size) (o := .ext (Rl h'.objs.size q params body scope (c6 X.env scope.names []) c')) (h' := h'.push (PySem.W.kla_obj "<lambda>" q params body scope (c6 X.env scope.names []) ((X.mg "__name__").getD .none) c' ctv))
     (fun b u e => ana _ (hk _ _ e)) hsz ⟨⟨_, _, anv _ rfl⟩, ⟨_, anv _ rfl⟩, fun h1 h2 ⟨pm, ct, e⟩ kk => ⟨pm, ct, kk _ e⟩⟩
   have f1 : H h'.objs.size = none := I.dU.fresh hsz
   refine k _ c' _ _ I2 (fun b o e => by rw [aA (aK e f1)]; exact e) aV (by rw [aA (aK Qa f1)]; exact Qa) fun b o e im => ?_
   by_cases z2 : b = h'.objs.size
   . subst z2; rw [aV] at e; cases e; cases im
   . rw [aA z2] at e; exact e
end
noncomputable def wY (X : Cx) (A : Around) (q : Str) (scope : Scope) (Nc : List Str) (f c : Addr) (s : Shared) (H : Hp) : Cx where
 prog := X.prog
 w := X.w
 K := X.K
 mg := X.mg
 base := X.base
 A := A.deeper (PySem.W.envX q scope s.heap.objs.size f (.ref c) (c6 X.env scope.names []))
 N := Nc
 s₀ := s
 H₀ := H
 env := PySem.W.envX q scope s.heap.objs.size f (.ref c) (c6 X.env scope.names [])
 outer := X.stack
 stack := PySem.W.envX q scope s.heap.objs.size f (.ref c) (c6 X.env scope.names []) :: X.stack
 ex := []
 fn := fun _ => false
 calm := true
 pn := []
 xe := fun _ _ => False
section
variable {X : Cx} {scope : Scope} {x q : Str} {Nc : List Str} {ix : List Nat} {pins : List (Addr × Obj)} {σ : L2.St} {H : Hp} {s : Shared} {A : Around} {f c : Addr}
theorem Og (sc : f6 X scope x Nc ix) (I : L2.Inv X pins σ H s) (hA : A.frames = some X.stack) (hh : A.handled = none) {h' : Heap} {tk : Nat} {u : Value} {v : V} (r : RelV v u)
   (hn : h'.Ns s.heap.objs.size (fun y => ([(x, u)] : List (Str × Value)).reverse.lookup y)) (hk : ∀ b o, s.heap.get? b = some o -> h'.get? b = some o) :
   L2.Inv (wY X A q scope Nc f c s H) [] (vn σ ix (some v)) H { s with heap := h', toks := tk } := by
 have frees : ∀ y ∈ scope.names, y.2 = .free -> ∃ c, X.env.cells.lookup y.1 = some c := fun y hy e => I.ok.has y.1 (sc.frees y hy e).2
 have sub : ∀ {y : Str} {c : Addr}, (c6 X.env scope.names []).lookup y = some c -> X.env.cells.lookup y = some c := fun {y c} e => mX frees (fun _ _ z => by cases z) e
 have hlen : (vn σ ix (some v)).length = Nc.length := by
   have all : ∀ l : List Nat, (∀ i ∈ l, ∃ y, X.N[i]? = some y /\ scope.names.lookup y = some .free) -> (l.filterMap (X.N[·]?)).length = l.length := by
     intro l
     induction l with
     | nil => intro _; rfl
     | cons i r ih =>
       intro h
       obtain ⟨y, e, _⟩ := h i am0
       rw [an6, e]
       show _ + 1 = _ + 1
       rw [ih fun j hj => h j (am2 _ hj)]
   unfold vn
   rw [sc.hd, anr, anr, amY, all ix sc.ixs]
 have nil : ∀ b : Addr, b ∉ (wY X A q scope Nc f c s H).ex := fun b z => absurd (show b ∈ ([] : List Addr) from z) (by simp)
 refine ⟨⟨I.ok.mod, sc.kind, rfl, rfl, am5 _, fun y z c h1 h2 => I.ok.inj y z c (sub h1) (sub h2), fun y hy => ?_, fun y c hf _ => (by cases (show false = true from hf)), fun _ => hh, Around.frames_deeper hA, .inr ⟨rfl, rfl⟩, fun b hb => absurd hb (nil b), I.bs, anL I.ok.UT I.sz, fun b o _ => nil b, fun b hb => absurd hb (nil b), I.stack, I.Cr⟩,
   rfl, I.bare, Un.kept hk, ⟨_, hn, fun i y w h1 h2 h3 => ?_⟩, fun y c e => ?_, I.dU.fresh (am5 _), fun y c e => I.ou y c (sub e), fun p hp => absurd (show p ∈ ([] : List (Addr × Obj)) from hp) (by simp), I.dU.kept hk, hlen⟩
 . have hy' : scope.names.lookup y = some .cell \/ scope.names.lookup y = some .free := hy
   rcases hy' with z | z
   . exact absurd rfl (sc.vm _ (an1 z))
   . exact jV z
 . unfold vn at h2
   cases i with
   | zero =>
     have Q0 : some (some v) = some (some w) := h2
     cases Q0
     have e : y = x := by
       have h1' : Nc[0]? = some y := h1
       rw [sc.hd] at h1'
       exact (anj h1').symm
     subst e
     refine ⟨u, r, .inl ⟨sc.own, ?_⟩⟩
     simp
   | succ i =>
     rw [List.getElem?_cons_succ, anq] at h2
     cases ei : ix[i]? with
     | none => rw [ei] at h2; cases h2
     | some j =>
       rw [ei] at h2
       have Q0 : (σ[j]?).getD none = some w := anj h2
       have hj : σ[j]? = some (some w) := by
         cases q : σ[j]? with
         | none => rw [q] at Q0; cases Q0
         | some o => rw [q] at Q0; exact congrArg some Q0
       obtain ⟨y', hy1, V0⟩ := sc.ixs j (ant ei)
       have hNc : Nc[i + 1]? = some y' := by
         have all : ∀ (l : List Nat) (i : Nat), (∀ j ∈ l, ∃ y, X.N[j]? = some y /\ scope.names.lookup y = some .free) -> l[i]? = some j -> (l.filterMap (X.N[·]?))[i]? = some y' := by
           intro l
           induction l with
           | nil => intro i _ h; simp at h
           | cons a r ih =>
             intro i h hi
             obtain ⟨ya, ea, _⟩ := h a am0
             rw [an6, ea]
             cases i with
             | zero =>
               simp at hi
               subst hi
               rw [hy1] at ea
               cases ea
               rfl
             | succ i => exact ih i (fun j hj => h j (List.mem_cons_of_mem _ hj)) (by simpa using hi)
         rw [sc.hd, List.getElem?_cons_succ]
         exact all ix i sc.ixs ei
       have ey : y' = y := by
         have h1' : Nc[i + 1]? = some y := h1
         rw [hNc] at h1'
         exact anj h1'
       subst ey
       have yI := (sc.frees (y', .free) (an1 V0) rfl).2
       have ack : Vis X.env.scope y' := yI.elim (fun z => .inr (.inl z)) (fun z => .inr (.inr z))
       obtain ⟨m0, hn0, hl0⟩ := I.loc
       obtain ⟨u', ru, lk⟩ := hl0 j y' w hy1 hj ack
       refine ⟨u', ru, ?_⟩
       rcases lk with ⟨kk, _⟩ | ⟨_, c', hc, wI⟩
       . rcases yI with z | z
         . rw [kk] at z; cases z
         . rw [kk] at z; cases z
       . obtain ⟨c2, Qa⟩ := jV (env := X.env) (cs := []) V0
         have : c2 = c' := by
           have := sub Qa
           rw [hc] at this
           exact (anj this).symm
         subst this
         obtain ⟨o, ho, hd⟩ := wI
         exact .inr ⟨.inr V0, c2, Qa, o, hk _ _ ho, hd⟩
 . obtain ⟨v, o, ho, hd⟩ := I.cell y c (sub e)
   exact ⟨v, o, hk _ _ ho, hd⟩
theorem Rm {params : Arguments} {body : Expr} {u : Value} {v : V} {Q : VK} (sc : f6 X scope x Nc ix) (I : L2.Inv X pins σ H s) (hA : A.frames = some X.stack) (hh : A.handled = none) (afJ : A.depth < recursionLimit)
   (hf : H f = some (.ext (Rl f q params body scope (c6 X.env scope.names []) c))) (hc : H c = some (.M9 q)) (r : RelV v u)
   (G0 : ∀ cl pm cd ct u, bindArgs (PySem.W.kla_fn "<lambda>" q params body scope cl pm cd ct) ⟨[u], []⟩ = pure [(x, u)]) (hco : scope.isCoroutine = false) (acH : scope.isGenerator = false)
   (h : Gs (wY X A q scope Nc f c s H) body (vn σ ix (some v)) H Q) : wpAny (model X.prog X.w) A (call (.ref f) [u]) (EP X pins σ Q) (fun _ _ => False) s := by
 obtain ⟨⟨pm, ctv, ho⟩, _⟩ := I.dU _ _ hf
 obtain ⟨oc, vs, t, e1, e2, e3⟩ := I.dU _ _ hc
 refine wpAny_call (PySem.W.kla_callFunE afJ ho rfl hco acH rfl ⟨c, oc, vs, t, rfl, e1, e2, e3⟩ ?_)
 rw [G0]
 refine anM (wpAny_newFunctionEnv sc.vm (fun y hy => ?_) (fun h₁ hns hsb => ?_) sc.kind)
 . rw [anb.mp hy]
   exact sc.own
 . have hk : ∀ b o, s.heap.get? b = some o -> h₁.get? b = some o := fun b o e => (hsb.2 b (anA (ang e))).trans (ana _ e)
   refine ⟨I.nolimit.keeps hk, ?_⟩
   show codeAny _ _ (.expr body (PySem.W.envX q scope s.heap.objs.size f (.ref c) (c6 X.env scope.names []))) _ _
   have J := Og (q := q) (f := f) (c := c) (tk := s.toks + ([(x, u)] : List (Str × Value)).length) sc I hA hh r hns hk
   refine PySem.W.kla_codeExpr (aok (h [] _ J) (fun w s' hl => ?_) fun e s' hx => False.elim hx)
   obtain ⟨v', H', J', rv, hq⟩ := hl
   exact I.after ⟨v', H', J'.os, J'.bare, J'.base, J'.dU, rv, hq⟩
end
section
variable {X : Cx} {pins : List (Addr × Obj)} {σ : L2.St} {H : Hp} {s : Shared}
theorem Oh {a : Addr} {o : HO} (I : L2.Inv X pins σ H s) (fp : jz X pins H a) (new : eY X.prog X.w (upd H a o) s.heap a o) : L2.Inv X pins σ (upd H a o) s := by
 have hn := fp.1
 refine I.step (H' := upd H a o) (h' := s.heap) (g' := s.gens) (d' := s.drawn) (t' := s.toks) (ch := [a]) (fun b hb => ?_) (fun b o _ _ _ e _ => e) (fun b o _ _ _ e _ => ⟨o.slots, e⟩) (fun b o hc _ n => by rw [aA fun z => hc (by simp [z])]; exact n)
   (fun b o _ e => ⟨o, e⟩) (fun b xs e => by rw [aA (aK e hn)]; exact e) (fun b o u e => by rw [aA (aK e hn)]; exact e) (fun b ps e => ⟨#[], by rw [aA (aK e hn), e]; simp⟩) (fun m hm => hm) (fun b u e => ?_) I.bare
 . have e : b = a := by simpa using hb
   subst e
   exact ⟨fp.2.2.2.1, fp.2.1, fp.2.2.2.2.1, fp.2.2.2.2.2⟩
 . by_cases z : b = a
   . subst z; rw [aV] at e; cases e; exact new
   . rw [aA z] at e
     exact (I.dU b u e).Ck (fun _ _ _ q => q) (fun c q => by rw [aA (aK q hn)]; exact q) (fun c xs q => by rw [aA (aK q hn)]; exact q) fun c z q => by rw [aA (aK q hn)]; exact q
end
noncomputable def rG (kz : List Int) (xs : List V) : List V := (b9 Prod.fst (kz.zip xs)).map Prod.snd
section
variable {α β : Type} {F : α -> β -> Prop} {g1 : α -> Int} {g2 : β -> Int}
theorem G3 (hg : ∀ p q, F p q -> g1 p = g2 q) {x : α} {y : β} (hx : F x y) {l1 : List α} {l2 : List β} (h : Paired F l1 l2) : Paired F (m7 g1 x l1) (m7 g2 y l2) := by
 induction h with
 | nil => exact .cons hx .nil
 | @cons p q l1 l2 r t i =>
   rw [m7, m7, hg x y hx, hg p q r]
   split
   . exact .cons hx (.cons r t)
   . exact .cons r i
theorem tP (hg : ∀ p q, F p q -> g1 p = g2 q) {l1 : List α} {l2 : List β} (h : Paired F l1 l2) : Paired F (b9 g1 l1) (b9 g2 l2) := by
 induction h with
 | nil => exact .nil
 | cons r _ i => exact G3 hg r i
end
theorem y9 : ∀ {ks us : List Value} {kz : List Int} {xs : List V}, IntsAre ks kz -> Vals xs us -> Paired (fun (p : Int × V) (q : Value × Value) => p.1 = numOf q.1 /\ RelV p.2 q.2) (kz.zip xs) (ks.zip us)
 | _, _, _, _, .nil, _ => by simp only [List.zip_nil_left]; exact .nil
 | _, _, _, _, .cons n t h, .nil => by simp only [List.zip_nil_right]; exact .nil
 | _, _, _, _, .cons n t h, .cons r rr => .cons ⟨rfl, r⟩ (y9 h rr)
theorem Rn {ps : List (Int × V)} {qs : List (Value × Value)} (h : Paired (fun (p : Int × V) (q : Value × Value) => p.1 = numOf q.1 /\ RelV p.2 q.2) ps qs) : Vals (ps.map Prod.snd) (qs.map Prod.snd) := by
 induction h with
 | nil => exact .nil
 | cons r _ i => exact .cons r.2 i
theorem G4 {keys : Array Value} {us : List Value} {xs : List V} {kz : List Int} (hk : IntsAre keys.toList kz) (r : Vals xs us) {arr : Array Keyed} {κ : Nat -> Nat}
   (t : Tag (keys.zip us.toArray) arr κ (keys.zip us.toArray).size) (o : oS arr κ (keys.zip us.toArray).size) (hz : arr.size = (keys.zip us.toArray).size) : Vals (rG kz xs) (arr.map (·.2)).toList := by
 have ez := ksk_zip keys us
 have el : (keys.toList.zip us).length = (keys.zip us.toArray).size := by rw [← ez, aoh]
 have e : arr.toList = b9 (fun p : Keyed => numOf p.1) (keys.toList.zip us) := by
   refine Rk (κ := κ) (by rw [el, aoh, hz]) (fun k hk => ?_) (fun k hk => ?_) fun i j x y GR hx hy => ?_
   . rw [el] at hk
     rw [aow, t.pl k hk, ← ez, aow]
   . rw [el] at hk ⊢
     exact t.lo k hk
   . rw [aow] at hx hy
     have hj : j < arr.size := (Array.getElem?_eq_some_iff.mp hy).1
     have q := o i j GR (by rw [← hz]; exact hj)
     unfold PyProof.Rows.K at q
     rw [hx, hy] at q
     exact q
 rw [Array.toList_map, e]
 exact Rn (tP (fun p q h => h.1) (y9 hk r))
section
variable {X : Cx} {pins : List (Addr × Obj)} {σ : L2.St} {H : Hp} {s : Shared} {a kS f l : Addr} {us : List Value} {xs : List V} {kz : List Int} {J : Hp -> Prop} {e1 : Nat} {A : Around} {E : Value -> Shared -> Prop} {P : PySem.Fin -> Shared -> Prop}
theorem xR {it : Addr} (I : L2.Inv X pins σ H s) (fp : jz X pins H it) (g : Obj -> Obj) : L2.Inv X pins σ H { s with heap := s.heap.update it g } := by
 have s1 := Heap.SameBut.update s.heap it g
 exact I.turned (t' := s.toks) (fun b o n q => (s1.2 b n).trans q) fp.1 fp.2.1 fp.2.2.2.1 fp.2.2.2.2.1 fp.2.2.2.2.2
theorem Mg {st : SortSt} {keys : Array Value} {e : Nat} (I : L2.Inv X pins σ H s) (fk : jz X pins H kS) (fa : jz X pins H a) (hka : kS ≠ a) (ok : s.heap.get? kS = some (seqObj "list" keys e)) (oa : s.heap.get? a = some (seqObj "list" #[] e1))
   (hks : keys.size < 64) (hsz : (arrOf st).size < 64) (U1 : failedOf st = none)
   (h : ∀ s' c, L2.Inv X pins σ H s' -> s'.heap.get? a = some (seqObj "list" ((arrOf st).map (·.2)) c) -> P (.done (.ret .none)) s') :
   wpAny (model X.prog X.w) A (ksk_tail a false e1 (.ref kS) st) P E s := by
 have s1 := Heap.SameBut.update s.heap kS (Obj.mapSeq fun _ => (#[] : Array Value))
 have I1 := xR I fk (Obj.mapSeq fun _ => (#[] : Array Value))
 have na1 : (s.heap.update kS (Obj.mapSeq fun _ => (#[] : Array Value))).get? a = some (seqObj "list" #[] e1) := (s1.2 a hka.symm).trans oa
 have I2 := xR I1 fa (Obj.mapSeq fun _ => (arrOf st).map (·.2))
 obtain ⟨c2, hc2⟩ : ∃ c2, ((s.heap.update kS (Obj.mapSeq fun _ => (#[] : Array Value))).update a (Obj.mapSeq fun _ => (arrOf st).map (·.2))).get? a = some (seqObj "list" ((arrOf st).map (·.2)) c2) :=
   ⟨_, get?_update_seq na1 fun _ => (arrOf st).map (·.2)⟩
 unfold ksk_tail
 try dsimp only
 refine anh (listUpdate_at ok rfl ?_ (by rw [anG]; omega) (ans _))
 refine anh (wpAny_letGo ?_)
 refine anh (seqEpoch_at na1 rfl ?_)
 refine anh (listUpdate_at na1 rfl ?_ (ans _) (by simp only [anW, aoy, Array.size_map]; rw [anG]; omega))
 rw [U1]
 simp only [bne_self_eq_false, anW, aoy]
 exact anM (h _ c2 I2 hc2)
theorem acJ {keys : Array Value} {e : Nat} (I : L2.Inv X pins σ H s) (fk : jz X pins H kS) (fa : jz X pins H a) (hka : kS ≠ a) (ok : s.heap.get? kS = some (seqObj "list" keys e)) (oa : s.heap.get? a = some (seqObj "list" #[] e1))
   (hk : IntsAre keys.toList kz) (hlen : kz.length = us.length) (h64 : us.length < 64) (r : Vals xs us)
   (h : ∀ s' out c, L2.Inv X pins σ H s' -> s'.heap.get? a = some (seqObj "list" out c) -> Vals (rG kz xs) out.toList -> P (.done (.ret .none)) s') :
   wpAny (model X.prog X.w) A (ksk_end a false us.toArray e1 (.ref kS) keys) P E s := by
 have hsz : keys.size = us.length := by
   have h1 := hk.length
   rw [aoh] at h1
   omega
 have hzs : (keys.zip us.toArray).size = us.length := by rw [Array.size_zip, hsz, ano, Nat.min_self]
 have t0 : ∀ n, Tag (keys.zip us.toArray) (keys.zip us.toArray) id n := fun n => ⟨fun _ _ => rfl, fun _ q => q, fun _ _ => rfl⟩
 unfold ksk_end
 try dsimp only
 simp only [anW, aoy]
 by_cases h2 : us.toArray.size < 2
 . rw [amZ h2, amZ h2]
   refine anh (anM ?_)
   rw [StateT.run_pure]
   refine anh (anM ?_)
   try dsimp only
   rw [ano] at h2
   refine Mg (st := SortSt.mk' general' (keys.zip us.toArray) #[] 7 none) I fk fa hka ok oa (by omega) (by show (keys.zip us.toArray).size < 64; omega) rfl fun s' c I' o' => h s' _ c I' o' ?_
   exact G4 hk r (arr := keys.zip us.toArray) (κ := id) (t0 _) (fun i j GR hj => by omega) rfl
 . rw [amV h2, amV h2]
   rw [ano] at h2
   rw [ksk_kind hk (by rw [hsz]; omega)]
   refine anh (anM ?_)
   refine anh (aok (Od (a₀ := keys.zip us.toArray) (st := SortSt.mk' oneType' (keys.zip us.toArray) #[] 7 none)
     (Q := fun _ Je => failedOf Je = none /\ ∃ κ, Tag (keys.zip us.toArray) (arrOf Je) κ (keys.zip us.toArray).size /\ oS (arrOf Je) κ (keys.zip us.toArray).size /\ (arrOf Je).size = (keys.zip us.toArray).size)
     (ksk_intKeys hk) ⟨Array.Perm.refl _, rfl, rfl, rfl⟩ (t0 _) (by rw [hzs]; omega) (by rw [hzs]; exact h64) fun z κ a1 a2 a3 a4 => ⟨a1, κ, a2, a3, a4⟩) ?_ fun _ _ e => e)
   rintro ⟨⟨⟩, Je⟩ s' ⟨rfl, hf, κ, t, o, hz⟩
   try dsimp only
   have hz' : (arrOf Je).size = (keys.zip us.toArray).size := hz
   exact Mg I fk fa hka ok oa (by omega) (by omega) hf fun s' c I' o' => h s' _ c I' o' (G4 hk r t o hz)
theorem fpk {b : Addr} {H' : Hp} (fp : jz X pins H b) (h : H' b = none) : jz X pins H' b := ⟨h, fp.2⟩
theorem Wg (I : L2.Inv X pins σ H s) (fk : jz X pins H kS) (fa : jz X pins H a) (hka : kS ≠ a) (ok : s.heap.get? kS = some (seqObj "list" #[] 0)) (oa : s.heap.get? a = some (seqObj "list" #[] e1)) (j0 : J H)
   (hlen : kz.length = us.length) (h64 : us.length < 64) (r : Vals xs us)
   (turn : ∀ (i : Nat) (x : V) (k : Int), xs[i]? = some x -> kz[i]? = some k -> ∀ (jQ : List (Addr × Obj)) (s' : Shared) (u : Value) (H' : Hp), L2.Inv X jQ σ H' s' -> J H' -> RelV x u →
     wpAny (model X.prog X.w) A (call (.ref f) [u]) (EP X jQ σ fun v H'' => v = .int k /\ J H'') (fun _ _ => False) s')
   (h : ∀ s' H' out c, L2.Inv X pins σ H' s' -> J H' -> H' a = none -> s'.heap.get? a = some (seqObj "list" out c) -> Vals (rG kz xs) out.toList -> P (.done (.ret .none)) s') :
   wpAny (model X.prog X.w) A (ksk_rest a (.ref f) false us.toArray e1 (.ref kS)) P E s := by
 unfold ksk_rest
 refine anh (wpAny_rule ?_)
 first
   | rw [List.forIn_toArray]
   | (rw [← Array.forIn_toList]; simp only [List.toList_toArray])
   | rw [← Array.forIn_toList]
 refine anh (ksk_fold (fun i s' => ∃ H' kA e, L2.Inv X pins σ H' s' /\ J H' /\ H' kS = none /\ H' a = none /\ s'.heap.get? kS = some (seqObj "list" kA e) /\ s'.heap.get? a = some (seqObj "list" #[] e1) /\ IntsAre kA.toList (kz.take i)) us 0 s
   ⟨H, #[], 0, I, j0, fk.1, fa.1, ok, oa, by simpa using IntsAre.nil⟩ ?step ?done)
 case step =>
   rintro j u s' hx ⟨H', kA, e, I', jj, nk, na, ok', oa', hk⟩
   simp only [Nat.zero_add] at hk ⊢
   have hj : j < us.length := (anf.mp hx).1
   obtain ⟨k, hkj⟩ : ∃ k, kz[j]? = some k := ⟨_, amW (by omega)⟩
   obtain ⟨x, hxx⟩ : ∃ x, xs[j]? = some x := ⟨_, amW (by rw [r.length]; exact hj)⟩
   have rx : RelV x u := by
     obtain ⟨u', e1, e2⟩ := r.get hxx
     rw [hx] at e1; cases e1; exact e2
   have hz : kA.size <= us.length := by
     have h1 := hk.length
     rw [aoh, aor] at h1
     omega
   have Ip := I'.pinned (fp := [kS, a]) (fun b hb => by
     rcases am1.mp hb with rfl | hb
     . exact fpk fk nk
     . rw [anb.mp hb]; exact fpk fa na) (fun b hb => by
     rcases am1.mp hb with rfl | hb
     . exact ⟨_, ok', fun v z => by cases z⟩
     . rw [anb.mp hb]; exact ⟨_, oa', fun v z => by cases z⟩)
   refine anh (wpAny_attempt (aok (turn j x k hxx hkj _ _ u H' Ip jj rx) (fun v s'' he => ?_) fun _ _ hF => hF.elim))
   obtain ⟨w, H2, I2, rw2, rfl, j2⟩ := he
   obtain ⟨t2, rfl⟩ := rw2
   try dsimp only
   have pk := I2.pin (kS, seqObj "list" kA e) (amU _ (amU _ (iP (by simp) ok')))
   have pa := I2.pin (a, seqObj "list" #[] e1) (amU _ (amU _ (iP (by simp) oa')))
   have I3 := xR I2.oA (fpk fk pk.2.1) (Obj.mapSeq (·.push (.int k t2)))
   have s1 := Heap.SameBut.update s''.heap kS (Obj.mapSeq (·.push (.int k t2)))
   obtain ⟨c2, hc2⟩ : ∃ c2, (s''.heap.update kS (Obj.mapSeq (·.push (.int k t2)))).get? kS = some (seqObj "list" (kA.push (.int k t2)) c2) := ⟨_, get?_update_seq pk.1 (·.push (.int k t2))⟩
   have ek : kz.take (j + 1) = kz.take j ++ [k] := by rw [anO, hkj]; simp
   have ea : (kA.push (Value.int k t2)).toList = kA.toList ++ [Value.int k t2] := by simp
   refine anh (listUpdate_at pk.1 rfl ?_ (by rw [anG]; omega) (anL (Nat.le_of_eq (Array.size_push ..)) (by rw [anG]; omega)))
   exact anM ⟨rfl, H2, kA.push (.int k t2), c2, I3, j2, pk.2.1, pa.2.1, hc2, (s1.2 a hka.symm).trans pa.1, by rw [ea, ek]; exact ksk_snoc hk⟩
 case done =>
   rintro s' ⟨H', kA, e, I', jj, nk, na, ok', oa', hk⟩
   have hk' : IntsAre kA.toList kz := by
     have e3 : kz.take (0 + us.length) = kz := aoN (by omega)
     rw [e3] at hk
     exact hk
   try dsimp only
   refine anh (listItems_at ok' rfl ?_)
   exact acJ I' (fpk fk nk) (fpk fa na) hka ok' oa' hk' hlen h64 r fun s2 out c I2 o2 v2 => h s2 H' out c I2 jj na o2 v2
theorem Wh {n : Nat} (I : L2.Inv X pins σ H s) (fa : jz X pins H a) (oa : s.heap.get? a = some (seqObj "list" us.toArray n)) (j0 : J H)
   (hlen : kz.length = us.length) (h64 : us.length < 64) (r : Vals xs us)
   (turn : ∀ (i : Nat) (x : V) (k : Int), xs[i]? = some x -> kz[i]? = some k -> ∀ (jQ : List (Addr × Obj)) (s' : Shared) (u : Value) (H' : Hp), L2.Inv X jQ σ H' s' -> J H' -> RelV x u →
     wpAny (model X.prog X.w) A (call (.ref f) [u]) (EP X jQ σ fun v H'' => v = .int k /\ J H'') (fun _ _ => False) s')
   (h : ∀ s' H' out c, L2.Inv X pins σ H' s' -> J H' -> H' a = none -> s'.heap.get? a = some (seqObj "list" out c) -> Vals (rG kz xs) out.toList -> P (.done (.ret .none)) s') :
   wpAny (model X.prog X.w) A (ksk_tree a (.ref f) false) P E s := by
 have ha : a < s.heap.objs.size := ang oa
 obtain ⟨e1, ho1⟩ : ∃ e1, (s.heap.update a (Obj.mapSeq fun _ => (#[] : Array Value))).get? a = some (seqObj "list" #[] e1) := ⟨_, get?_update_seq oa fun _ => #[]⟩
 have I1 := xR I fa (Obj.mapSeq fun _ => (#[] : Array Value))
 have hkS : ((s.heap.update a (Obj.mapSeq fun _ => (#[] : Array Value))).push (seqObj "tuple" us.toArray 0)).objs.size = s.heap.objs.size + 1 := by rw [size_push', Heap.size_update]
 have I2 : L2.Inv X pins σ H { s with heap := ((s.heap.update a (Obj.mapSeq fun _ => (#[] : Array Value))).push (seqObj "tuple" us.toArray 0)).push (seqObj "list" #[] 0) } :=
   I1.kept (t' := s.toks) fun b o e => ana _ (ana _ e)
 unfold ksk_tree
 refine anh (listItems_at oa rfl ?_)
 refine anh (listUpdate_at oa rfl ?_ (by rw [ano, anG]; omega) (ans _))
 refine anh (seqEpoch_at ho1 rfl ?_)
 refine anh (wpAny_newTuple ?_ (by show us.length <= _; rw [anG]; omega))
 refine anh (wpAny_newList ?_ (ans _))
 refine ao0 ?_
 refine Wg (s := { s with heap := ((s.heap.update a (Obj.mapSeq fun _ => (#[] : Array Value))).push (seqObj "tuple" us.toArray 0)).push (seqObj "list" #[] 0) }) (kS := ((s.heap.update a (Obj.mapSeq fun _ => (#[] : Array Value))).push (seqObj "tuple" us.toArray 0)).objs.size)
   I2 (I.Ct (by rw [hkS]; exact aoE _) (I.dU.fresh (by rw [hkS]; exact aoE _))) fa (by rw [hkS]; exact Nat.ne_of_gt (Nat.lt_succ_of_lt ha)) (anv _ rfl) (ana _ (ana _ ho1)) j0 hlen h64 r turn h
theorem Oi {Q : VK} (I : L2.Inv X pins σ H s) (hq : oj X.K H l xs) (hlen : kz.length = xs.length) (h64 : xs.length < 64) (j0 : J H)
   (turn : ∀ (i : Nat) (x : V) (k : Int), xs[i]? = some x -> kz[i]? = some k -> ∀ (jQ : List (Addr × Obj)) (s' : Shared) (u : Value) (H' : Hp), L2.Inv X jQ σ H' s' -> J H' -> RelV x u →
     wpAny (model X.prog X.w) X.A.in1.in1 (call (.ref f) [u]) (EP X jQ σ fun v H'' => v = .int k /\ J H'') (fun _ _ => False) s')
   (h : ∀ D H', J H' -> H' D = none -> Q (.ref D) (upd H' D (.lst (rG kz xs)))) :
   wpAny (model X.prog X.w) X.A (call (.builtin "sorted") [.ref l] [(Str.ofString "key", .ref f)]) (EP X pins σ Q) E s := by
 obtain ⟨us, r, pl, hz⟩ := I.list hq
 have el := r.length
 have hl : s.heap.IsList l us.toArray := pl.isList
 refine call_function_entry_kw kind_sorted plain_sorted entry_sorted (ksk_s1 _ _) ?_
 unfold Builtin.«sorted»
 refine anh (m := checkCount "sorted" 1 1 _) (anM ?_)
 refine anh (collect_list hl ?_ (by rw [anG]; omega))
 refine anh (wpAny_newList ?_ (by rw [anG]; omega))
 have hsz : ((s.heap.push (seqObj "list" #[] 0)).update s.heap.objs.size (Obj.mapSeq (· ++ us.toArray))).objs.size = s.heap.objs.size + 1 := by
   rw [Heap.size_update, size_push']
 have hoL : (((s.heap.push (seqObj "list" #[] 0)).update s.heap.objs.size (Obj.mapSeq (· ++ us.toArray))).push (seqObj "list" us.toArray 0)).get? (s.heap.objs.size + 1) = some (seqObj "list" us.toArray 0) := by
   rw [← hsz]; exact anv _ rfl
 have keep : ∀ b o, s.heap.get? b = some o -> (((s.heap.push (seqObj "list" #[] 0)).update s.heap.objs.size (Obj.mapSeq (· ++ us.toArray))).push (seqObj "list" us.toArray 0)).get? b = some o := fun b o q => by
   have rE : b < s.heap.objs.size := ang q
   rw [Heap.get?_push_ne _ _ _ (by rw [hsz]; exact anA (Nat.lt_succ_of_lt rE)), Heap.get?_update_ne _ _ _ _ (anA rE), Heap.get?_push_ne _ _ _ (anA rE)]
   exact q
 show wpAny _ _ _ _ _ { s with heap := ((s.heap.push (seqObj "list" #[] 0)).update s.heap.objs.size (Obj.mapSeq (· ++ us.toArray))).push (seqObj "list" us.toArray 0) }
 rw [hsz]
 have I2 : L2.Inv X pins σ H { s with heap := ((s.heap.push (seqObj "list" #[] 0)).update s.heap.objs.size (Obj.mapSeq (· ++ us.toArray))).push (seqObj "list" us.toArray 0) } := I.kept (t' := s.toks) keep
 have fa : ∀ {H' : Hp}, H' (s.heap.objs.size + 1) = none -> jz X pins H' (s.heap.objs.size + 1) := fun {H'} e => I.Ct (aoE _) e
 refine anh (ao0 (wpAny_call_entry_kw slot_list_sort ⟨_, hoL, rfl⟩ entry_list_sort ?body (ksk_l1 _ _)))
 case body =>
   have ht' := ksk_t1 f (s.heap.objs.size + 1)
   show wpAny (model X.prog X.w) X.A.in1.in1 (Builtin.«list.sort» ⟨[.ref (s.heap.objs.size + 1)], [(Str.ofString "key", .ref f)]⟩) _ _ _
   rw [ht']
   refine Wh I2 (fa (I.dU.fresh (aoE _))) hoL j0 (by omega) (by omega) r turn fun s' H' out c I' jj na o' v' => ⟨_, rfl, ?_⟩
   refine anM ⟨_, rfl, .ref (s.heap.objs.size + 1), _, Oh I' (fa na) (o := .lst (rG kz xs)) ⟨?_, out.toList, c, v', ?_⟩, rfl, h _ H' jj na⟩
   . have : (rG kz xs).length = xs.length := by
       unfold rG
       rw [amY, iT, List.length_zip, hlen, Nat.min_self]
     rw [this]; exact hz
   . simpa using o'
end
section
variable {K : PySem.W.Frag} {CL : Str -> Addr} {Z : Hp} {g : D -> Int}
theorem Oj {ds : List D} {us : List V} (h : aH K CL Z ds us) : Paired (fun (d : D) (p : Int × V) => g d = p.1 /\ bF K CL Z d p.2) ds ((ds.map g).zip us) :=
 aH.ind (P := fun ds us => Paired (fun (d : D) (p : Int × V) => g d = p.1 /\ bF K CL Z d p.2) ds ((ds.map g).zip us)) .nil (fun r _ i => .cons ⟨rfl, r⟩ i) h
theorem Ol {ds : List D} {ps : List (Int × V)} (h : Paired (fun (d : D) (p : Int × V) => g d = p.1 /\ bF K CL Z d p.2) ds ps) : aH K CL Z ds (ps.map Prod.snd) := by
 induction h with
 | nil => exact .nil
 | cons r _ i => exact .cons r.2 i
theorem Om {ds : List D} {us : List V} (r : aH K CL Z ds us) : aH K CL Z (b9 g ds) (rG (ds.map g) us) := Ol (tP (fun p q h => h.1) (Oj (g := g) r))
end
noncomputable def afO (X : Cx) (CL : Str -> Addr) (q : Str) (scope : Scope) (Nc : List Str) (body : Expr) (δc : List (Option T)) (ds : List D) (g : D -> Int) : Prop :=
 ∀ f c s0 H0 b' d, d ∈ ds -> cV (wY X X.A.in1.in1 q scope Nc f c s0 H0) CL b' body (some (.sh d) :: δc) (.int (g d)) (some (.sh d) :: δc)
section
variable {X : Cx} {CL : Str -> Addr} {b : Bx} {δ δ1 : List (Option T)} {e body : Expr} {ds : List L3.D} {g : L3.D -> Int} {scope : Scope} {y q tx : Str} {Nc : List Str} {ix : List Nat} {params : Arguments} {pos pp lp p2 : Pos}
theorem rW (L : Oe X CL tx q) (g0 : Gx X) (dp : X.A.depth < recursionLimit) (hm : X.mg "sorted" = none) (hg : Gl X "sorted") (sc : f6 X scope y Nc ix) (h : cV X CL b e δ (.lst ds) δ1) (hi : D.cy ds = true) (hl : ds.length < 64)
   (inner : afO X CL q scope Nc body (yN δ1 ix) ds g) (acG : defaultsOf params X.env = ([], []) := by rfl)
   (G0 : ∀ cl pm cd ct u, bindArgs (PySem.W.kla_fn "<lambda>" q params body scope cl pm cd ct) ⟨[u], []⟩ = pure [(y, u)] := by intros; rfl) (hco : scope.isCoroutine = false := by rfl) (acH : scope.isGenerator = false := by rfl)
   (hs : starEach [e] X.env = (false, eval e X.env) :: starEach [] X.env := by exact bW rfl) :
   cG X CL b (.Call (.Name "sorted" pp) [e] [⟨some "key", .Lambda params body scope lp, p2⟩] pos) δ (.lst ((b9 g ds).map T.sh)) δ1 := by
 intro H Z σ ts vs Q S k pins s I
 have ha : PA X [e] (LY (Gs X e) Qn) := cH eN fc hs
 have hk : PK X [⟨some "key", .Lambda params body scope lp, p2⟩] (LY (Gs X (.Lambda params body scope lp)) Qn) := Vo eN abB
 refine aou (rQ I hg hm tN ?_)
 refine callWith_kw (fz (ha pos pins s σ H (fun vs' H1 => ∃ v Z1, vs' = [v] /\ aG Z Z1 /\ aG H H1 /\ cE X.K CL b H1 Z1 δ1 σ ts vs /\ bF X.K CL H1 (.lst ds) v) I (h H Z σ ts vs _ S fun v H1 Z1 z1 k1 S1 r => ⟨v, Z1, rfl, z1, k1, S1, r⟩)) fun us s1 zz => ?_) (by rw [hs]; rfl) (by rw [hs]; rfl) rfl rfl
 obtain ⟨vs1, H1, I1, r1, v1, Z1, e1, z1, k1, S1, rep1⟩ := zz
 subst e1
 have ai6 : H1 (CL tx) = some (.tabs q) := by
   have := S1.NP tx L.tab.1 L.tab.2.1
   rw [L.tab.2.2] at this
   exact this
 refine fz (hk pos pins s1 σ H1 (fun zs H2 => ∃ f c, zs = [.ref f] /\ aG H1 H2 /\ H2 f = some (.ext (Rl f q params body scope (c6 X.env scope.names []) c)) /\ H2 c = some (.M9 q)) I1
   (fun jQ s' I' => acF L I' ai6 (fun y hy e => I'.ok.has y.1 (sc.frees y hy e).2) acG fun f c H2 s2 I2 k2 hf hc _ => ⟨.ref f, H2, I2, rfl, f, c, rfl, k2, hf, hc⟩)) fun ws s2 zz => ?_
 obtain ⟨zs, H2, I2, rz, f, c, e2, k2, hf, hc⟩ := zz
 subst e2
 obtain ⟨u, rfl, ru⟩ := rz.one
 cases ru
 obtain ⟨v, rfl, rv⟩ := r1.one
 cases rep1 with
 | @lst p us' _ hq rr =>
   cases rv
   show wpAny _ _ (call (.builtin "sorted") [.ref p] [(Str.ofString "key", .ref f)]) _ _ s2
   have hlen := rr.length
   refine Oi (J := fun H3 => ∃ Z3, aG H2 H3 /\ aG H2 Z3 /\ aG Z3 H3 /\ ∀ a o, H3 a = some o -> jv o = true -> Z3 a = some o) (kz := ds.map g) I2 (k2.seq hq) (by rw [amY, hlen]) (by omega)
     ⟨H2, .refl _, .refl _, .refl _, fun _ _ q _ => q⟩ (fun i x kk hx hkk jQ s' u H3 I3 zz rx => ?_) fun D H3 zz hD => ?_
   . obtain ⟨Z3, a1, a2, a3, a4⟩ := zz
     obtain ⟨d, hd, rd⟩ := rr.NF hx
     have ek : kk = g d := by
       rw [anq, hd] at hkk
       exact (anj hkk).symm
     subst ek
     refine Rm sc I3 I3.ok.frames (I3.ok.hd g0.calm) dp (a1 _ _ hf) (a1 _ _ hc) rx G0 hco acH ?_
     have S0 : cE X.K CL ⟨H3, Z3⟩ H3 Z3 (some (.sh d) :: yN δ1 ix) (vn σ ix (some x)) [] [] :=
       ⟨⟨[] ++ [], [], .cons (.sh (rd.mono (k2.trans a2))) ((sY S1 ix H3).mono (k2.trans a2) fun a ha => by cases ha), .nil, an5, fun a ha => by cases ha⟩, .refl _, .refl _, a3, fun a o q z => (by have z' : Z3 a = none := z; rw [show Z3 a = some o from q] at z'; cases z'), a4, S1.NP.mono (k2.trans a2)⟩
     refine inner f c s' H3 ⟨H3, Z3⟩ d (ant hd) H3 Z3 _ [] [] _ S0 fun v H5 Z5 z5 k5 S5 r5 => ⟨?_, Z5, a1.trans k5, a2.trans z5, S5.zh, S5.tp⟩
     cases r5
     rfl
   . obtain ⟨Z3, a1, a2, a3, a4⟩ := zz
     obtain ⟨Z', z', S4⟩ := S1.back (t := .sh (.int 0)) (v := .int 0) (fp := []) (k2.trans a1) S1.zh (k2.trans a2) a3 (fun a o q z => z) a4 (.sh (.int 0)) an5 (fun a ha => by cases ha) (.inr rfl)
     obtain ⟨c5, S5⟩ := (cE.sV (Om (g := g) ((aH.kW S1.tp hi rr).mono z')) S4.pop).oJ (g0 := []) (by simp [rG, iT, hlen]) hD
     exact k _ _ _ (z1.trans z') ((k1.trans (k2.trans a1)).trans c5) S5
variable {A : Around} {f c : Addr} {s : Shared} {H : Hp} {i : Nat} {x : Str}
theorem JK (h1 : Nc[i]? = some x) (h2 : scope.names.lookup x = some .local) (hd : (x == ("__debug__" : Str)) = false := by decide) (jy : (x == ("__classdict__" : Str)) = false := by decide) : Vn (wY X A q scope Nc f c s H) i x := ⟨h1, .inl h2, hd, jy⟩
theorem CZ (h1 : Nc[i]? = some x) (h2 : scope.names.lookup x = some .free) (hd : (x == ("__debug__" : Str)) = false := by decide) (jy : (x == ("__classdict__" : Str)) = false := by decide) : Vn (wY X A q scope Nc f c s H) i x := ⟨h1, .inr (.inr h2), hd, jy⟩
theorem JL (h2 : scope.names.lookup x = some .globalImplicit) : Gl (wY X A q scope Nc f c s H) x := h2
theorem acK {k n : Nat} {B : Type} {arg : B -> List L3.D} {Pre : B -> Prop} {res : B -> T} (F : Fc X CL x k n arg Pre res) (r : fJ (k + 1) X.A) : Fc (wY X X.A.in1.in1 q scope Nc f c s H) CL x k n arg Pre res :=
 ⟨F.ex, ⟨r.hd, by have := r.dp; show X.A.depth + 1 + 3 * k + 5 < _; omega, by have := r.un; show X.A.units + 1 + 1 + 3 + 16 * k + 200 < _; omega⟩⟩
end
theorem Wi {P : Program} {w : World} {K : PySem.W.Frag} {mg : Str -> Option Value} {base : Heap} {x qual : Str} {st : Stmt} {f : Addr} {fd : FuncData} {N ps : List Str} {k : Nat} {sp : Sp} (F : gZ K x qual st f fd) (S : aJ N ps (ao st)) (len : ∀ vs H Q E, sp vs H Q E -> vs.length = ps.length)
   (Gi : ∀ (di : Value) (A : Around) (outer : List Env) (s : Shared) (H : Hp) (vs : List V) (Q : VK) (E : XK), fd.code = di -> fJ k (A.deeper (envOfC qual (ao st) s.heap.objs.size f di)) -> sp vs H Q E →
     ∃ t, Jd (yH fM P w K mg base N qual (ao st) f di A outer s H E).UU (gB st) t /\ t { nx := fun _ H' => Q .non H', rt := Q } (L2.start N vs) H) : bL P w K mg base fM (k + 1) f fd ps sp := by
 obtain ⟨oc, od, kV, doc, pm, an, di, ct, P4, rfl, lk, jy⟩ := F.ex
 refine aai lk jy S len fun A outer s H vs Q E hr Jp => ?_
 obtain ⟨t, h, q⟩ := Gi di A outer s H vs Q E rfl hr Jp
 exact ⟨t, h.UU, q⟩
theorem za {P : Program} {w : World} {K : PySem.W.Frag} {mg : Str -> Option Value} {base : Heap} {CL : Str -> Addr} {x qual : Str} {st : Stmt} {f : Addr} {fd : FuncData} {N ps : List Str} {k : Nat} {A : Type} {arg : A -> List D} {Pre : A -> Prop} {res : A -> T} (F : gZ K x qual st f fd) (S : aJ N ps (ao st))
   (hb : ∀ (di : Value) (Ar : Around) (outer : List Env) (s : Shared) (H : Hp) (E : XK) (b : Bx) (a : A), fd.code = di -> fJ k (Ar.deeper (envOfC qual (ao st) s.heap.objs.size f di)) -> Pre a →
     fF (yH fM P w K mg base N qual (ao st) f di Ar outer s H E).UU CL b (gB st) (entry N (arg a)) { nx := fun _ => res a = .sh .non, rt := fun t _ => t = res a }) :
   bL P w K mg base fM (k + 1) f fd ps (i7 K CL ps.length arg Pre res) := by
 refine Wi F S (fun vs H Q E h => ?_) (fun di Ar outer s H vs Q E jy hr h => ?_)
 . obtain ⟨W, a, _, _, r, hl, _⟩ := h
   rw [← r.length]; exact hl
 . obtain ⟨W, a, wh, tp, r, hl, hp, tb, kk⟩ := h
   refine ⟨_, Vy, hb di Ar outer s H E ⟨H, W⟩ a jy hr hp H W _ [] [] _ ⟨⟨[], [], ?_, .nil, an5, fun a ha => by cases ha⟩, .refl _, .refl _, wh, fun a o q z => ?_, tp, tb⟩ ⟨fun δ' σ' H' Z' s' S' e => ?_, fun t v H' Z' δ' σ' s' S' e => ?_, fun _ _ _ _ _ _ e => e.elim, fun _ _ _ _ _ _ e => e.elim⟩⟩
   . unfold entry L2.start
     rw [← r.length]
     exact jU _ r
   . have q' : W a = some o := q
     have z' : W a = none := z
     rw [q'] at z'; cases z'
   . exact kk .non H' Z' [] S'.bh S'.zz S'.zh S'.new S'.tp (by rw [show res a = .sh .non from e]; exact .sh .non) an5 fun a ha => by cases ha
   . have e' : t = res a := e
     subst e'
     obtain ⟨fp, gp, _, r', nd, own⟩ := S'.rep
     cases r' with
     | @cons _ _ _ _ f1 f2 r1 r2 =>
       have h1 := (anI.mp nd).2.1
       exact kk v H' Z' f1 S'.bh S'.zz S'.zh S'.new S'.tp r1 (anI.mp h1).1 fun a ha => own a (amU _ (am7 _ ha))
noncomputable def zb (mg : Str -> Option Value) (base : Heap) : Prop := ∃ bm o, mg "__builtins__" = some (.ref bm) /\ bm ≠ builtinsNs /\ bm ≠ mainGlobals /\ base.get? bm = some o /\ o.cls = .type "module" /\ o.dict = some builtinsNs /\ o.data = .plain
theorem acL {CX : Qo} {P : Program} {w : World} {K : PySem.W.Frag} {mg : Str -> Option Value} {base : Heap} {N : List Str} {qual : Str} {scope : Scope} {f c : Addr} {di : Value} {A : Around} {outer : List Env} {s : Shared} {H : Hp} {E : XK} {CL : Str -> Addr} {tx q : Str} {fd : FuncData}
   (bl : zb mg base) (kb : K.In base) (hc : fd.code = di) (hf : fd.code = .ref c) (hd : PySem.W.codeHdIn K c (CL tx) = true) (h0 : CL tx ≠ 0) (hq : Gw tx = q := by decide +kernel) (ht : Gv tx = true := by decide +kernel) (hn : qual ++ ".<locals>." ++ "<lambda>" = q := by decide +kernel) :
   Oe (yH CX P w K mg base N qual scope f di A outer s H E).UU CL tx q :=
 ⟨⟨c, hc.symm.trans hf, aoS kb hd⟩, bl, hn, ht, h0, hq⟩
noncomputable def spT (K : PySem.W.Frag) (ts : List (Addr × Str)) {A : Type} (n : Nat) (arg : A -> List D) (Pre : A -> Prop) (res : A -> T) : Sp := fun vs H Q _ =>
 ∃ (W : Hp) (a : A), aG W H /\ (∀ c o, H c = some o -> jv o = true -> W c = some o) /\ aH K (fun _ => 0) W (arg a) vs /\ (arg a).length = n /\ Pre a /\ (∀ p ∈ ts, W p.1 = some (.tabs p.2)) ∧
   ∀ v H' W' fp, aG H H' -> aG W W' -> aG W' H' -> (∀ c o, W' c = some o -> W c = none -> H c = none) -> (∀ c o, H' c = some o -> jv o = true -> W' c = some o) →
     dm K (fun _ => 0) H' W' (res a) v fp -> fp.Nodup -> (∀ c ∈ fp, W' c = none /\ H c = none) -> Q v H'
theorem Wj {K : PySem.W.Frag} {CL : Str -> Addr} {ts : List (Addr × Str)} {arg : List Int -> List D} {pre : List Int -> Prop} {res : List Int -> T} (ha : ∀ a, arg a = [.lst (a.map .int)]) (hr : ∀ a, res a = .sh (.bl true)) (h0 : ∀ x, Gv x = true -> CL x ≠ 0 -> (CL x, Gw x) ∈ ts) :
   ∀ (vs : List V) (H : Hp) (Q : VK) (E : XK), spT K ts 1 arg pre res vs H Q E -> i7 K CL 1 arg pre res vs H Q E := by
 rintro vs H Q E ⟨W, a, h1, h2, h3, h4, h5, h6, k⟩
 have acM : ∀ {l : List Int} {us : List V}, aH K (fun _ => 0) W (l.map .int) us -> aH K CL W (l.map .int) us := by
   intro l
   induction l with
   | nil => intro us r; cases r; exact .nil
   | cons i l ih =>
     intro us r
     cases r with
     | cons r t => cases r; exact .cons (.int i) (ih t)
 refine ⟨W, a, h1, h2, ?_, h4, h5, fun x hx e => h6 _ (h0 x hx e), fun v H' W' fp a1 a2 a3 a4 a5 r nd own => k v H' W' fp a1 a2 a3 a4 a5 ?_ nd own⟩
 . rw [ha] at h3 ⊢
   cases h3 with
   | cons r t =>
     cases t
     cases r with
     | lst q rr => exact .cons (.lst q (acM rr)) .nil
 . rw [hr] at r ⊢
   cases r with
   | sh r => cases r; exact .sh (.bl _)
theorem Wk {K : PySem.W.Frag} {H : Hp} {a : Addr} {ts : List (Addr × Str)} {arg : List Int -> List D} {pre : List Int -> Prop} {res : List Int -> T} {ns : List Int} (ha : arg ns = [.lst (ns.map D.int)]) (hp : pre ns) (hr : res ns = .sh (.bl true)) (hS : oj K H a (ns.map V.int)) (ht : ∀ p ∈ ts, H p.1 = some (.tabs p.2)) :
   spT K ts 1 arg pre res [.ref a] H (fun v H' => v = .bl true /\ ∀ p ∈ ts, H' p.1 = some (.tabs p.2)) fun _ _ _ => False :=
 ⟨H, ns, .refl _, fun _ _ q _ => q, by rw [ha]; exact .cons (.lst hS (GF ns)) .nil, by rw [ha]; rfl, hp, ht, fun v H' W' fp hh _ _ _ _ r _ _ => by
   refine ⟨?_, fun p hp => hh _ _ (ht p hp)⟩
   rw [hr] at r
   cases r with
   | sh r => exact r.sc rfl⟩
theorem lR : ∀ {ts : List (Addr × Str)} {b : Addr} {q : Str}, ts.lookup b = some q -> (b, q) ∈ ts
 | [], _, _, e => by cases e
 | (c, x) :: r, b, q, e => by
   rw [anx] at e
   cases hb : b == c with
   | true => rw [hb] at e; cases e; rw [eq_of_beq hb]; exact .head _
   | false => rw [hb] at e; exact .tail _ (lR e)
theorem Oo {P : Program} {w : World} {K : PySem.W.Frag} {mg mb : Str -> Option Value} {k : Nat} {fa a : Addr} {fd : FuncData} {x : Str} {sp : Sp} {s₁ : Shared} {vs : List Value} {ns : List Int} {ts : List (Addr × Str)}
   (KX : K.In s₁.heap) (hns : s₁.heap.Ns mainGlobals mg) (hb : s₁.heap.Ns builtinsNs mb) (hbb : ∀ x : Str, x ≠ "__name__" -> mb x = bootBuiltins x) (ai7 : s₁.heap.NoLimit) (hg : s₁.gens = #[]) (hbl : zb mg s₁.heap)
   (ha : s₁.heap.get? a = some { cls := .type "list", data := .seq vs.toArray }) (hi : IntsAre vs ns) (hl : ns.length <= sizeLine) (hr : fJ k callerA)
   (hT : ∀ p ∈ ts, s₁.heap.get? p.1 = some (PySem.W.tabObj #[]) /\ ts.lookup p.1 = some p.2 /\ K.lookup p.1 = none /\ ∃ c, PySem.W.CodeHd s₁.heap c p.1)
   (F : ∀ base : Heap, K.In base -> base.Ns mainGlobals mg -> zb mg base -> bL P w K mg base fM k fa fd [x] sp) (G0 : ∀ (s : Shared) (u : Value), BindsTo s fd ⟨[u], []⟩ [(x, u)])
   (Jp : ∀ H : Hp, oj K H a (ns.map V.int) -> (∀ p ∈ ts, H p.1 = some (.tabs p.2)) -> sp [.ref a] H (fun v H' => v = .bl true /\ ∀ p ∈ ts, H' p.1 = some (.tabs p.2)) fun _ _ _ => False) :
   codeAny (model P w) callerA (.call (.ref fa) ⟨[.ref a], []⟩) (fun r s' => r = .ok (.ret (.bool true)) /\ OldK s₁.heap s'.heap /\ s'.os = s₁.os /\ AllBare s'.gens) s₁ := by
 have rv := BG hi
 have ai8 := hi.length
 have aT : ∀ p ∈ ts, p.1 ≠ a := fun p hp z => by
   have := (hT p hp).1
   rw [z, ha] at this; cases this
 have core : ∀ H : Hp, (∀ b, H b = none \/ (∃ o xs, b = a /\ H b = some (.fE o (.lst xs))) \/ ∃ p ∈ ts, b = p.1 /\ H b = some (.tabs p.2)) -> oj K H a (ns.map V.int) -> (∀ p ∈ ts, H p.1 = some (.tabs p.2)) -> rP P w H s₁.heap -> (H a ≠ none -> K.lookup a = none) →
     codeAny (model P w) callerA (.call (.ref fa) ⟨[.ref a], []⟩) (fun r s' => r = .ok (.ret (.bool true)) /\ OldK s₁.heap s'.heap /\ s'.os = s₁.os /\ AllBare s'.gens) s₁ := by
   intro H hO hS hH dU hK
   have noA : ∀ {b : Addr} {o : Obj}, s₁.heap.get? b = some o -> o ≠ { cls := .type "list", data := .seq vs.toArray } -> o ≠ PySem.W.tabObj #[] -> H b = none := fun {b o} e d1 d2 => by
     rcases hO b with q | ⟨_, _, z, _⟩ | ⟨p, hp, z, _⟩
     . exact q
     . rw [z, ha] at e; exact absurd (anj e).symm d1
     . rw [z, (hT p hp).1] at e; exact absurd (anj e).symm d2
   have C1 : ∀ {b : Addr} {o : Obj}, s₁.heap.get? b = some o -> H b = none -> (AQ s₁.heap H).get? b = some o := fun e n => P8 e n
   have nsK : ∀ {b : Addr} {m : Str -> Option Value}, s₁.heap.Ns b m -> (AQ s₁.heap H).Ns b m := fun {b m} ⟨o, es, ep, e, d, r⟩ => ⟨o, es, ep, C1 e (noA e (fun z => by rw [z] at d; cases d) fun z => by rw [z] at d; cases d), d, r⟩
   have hKb : K.In (AQ s₁.heap H) := fun b o e => C1 (KX b o e) (by
     rcases hO b with q | ⟨_, _, z, q⟩ | ⟨p, hp, z, _⟩
     . exact q
     . subst z
       rw [hK (by rw [q]; simp)] at e; cases e
     . rw [z, (hT p hp).2.2.1] at e; cases e)
   have hM : Mod K mg (AQ s₁.heap H) := ⟨hKb, nsK hns, ⟨mb, nsK hb, hbb⟩, let ⟨mc, h1, h2⟩ := ai7; ⟨mc, nsK h1, h2⟩⟩
   have hBb : zb mg (AQ s₁.heap H) := by
     obtain ⟨bm, o, b1, b2, b3, b4, b5, b6, b7⟩ := hbl
     exact ⟨bm, o, b1, b2, b3, C1 b4 (noA b4 (fun z => by rw [z] at b7; cases b7) fun z => by rw [z] at b7; cases b7), b5, b6, b7⟩
   have e0 : Jo P w K mg (AQ s₁.heap H) callerA [] s₁ H := ⟨rfl, hM, fun b o e => U6 e, Nat.le_of_eq (Nb _ _), trivial, fun b hb => absurd (show b ∈ ([] : List Addr) from hb) (by simp), dU, .of_eq hg⟩
   refine codeAny_mono ((F _ hKb (nsK hns) hBb).run callerA [] s₁ H ⟨[.ref a], []⟩ [.ref a] [.ref a] _ _ hr e0 (G0 s₁ (.ref a)) (.cons rfl .nil) (Jp H hS hH)) fun r s' h => ?_
   cases r with
   | error e => exact h.elim
   | ok fl =>
     cases fl with
     | next => exact False.elim h
     | brk => exact False.elim h
     | cont => exact False.elim h
     | ret u =>
       obtain ⟨v, H', os, bare, un, afP, r', q, qt⟩ := h
       subst q
       obtain rfl : u = Value.bool true := r'
       have tabAt : ∀ p ∈ ts, ∃ ps : Array Value, s'.heap.get? p.1 = some (PySem.W.tabObj ps) := fun p hp => by
         obtain ⟨ps, e, _⟩ := afP _ _ (qt p hp)
         exact ⟨ps, e⟩
       have keep : ∀ b o, s₁.heap.get? b = some o -> (∀ p ∈ ts, b ≠ p.1) -> s'.heap.get? b = some o := fun b o e nt => by
         rcases hO b with q | ⟨ob, xs, z, q⟩ | ⟨p, hp, z, _⟩
         . exact un.keep b o e q (by intro z; exact absurd (show b ∈ ([] : List Addr) from z) (by simp)) (by simp)
         . have z2 := un.ju b ob _ q
           obtain ⟨e1, _⟩ := dU b _ q
           obtain ⟨e2, _⟩ := afP b _ z2
           rw [e] at e1; cases e1
           exact e2
         . exact absurd z (nt p hp)
       refine ⟨rfl, ⟨fun b o e => ?_, fun b o e => ?_⟩, os, bare⟩
       . by_cases nt : ∀ p ∈ ts, b ≠ p.1
         . exact .inl (keep b o e nt)
         . obtain ⟨p, hp, rfl⟩ : ∃ p ∈ ts, b = p.1 := Classical.byContradiction fun q => nt fun p hp z => q ⟨p, hp, z⟩
           obtain ⟨h1, _, _, c, hc⟩ := hT p hp
           obtain ⟨ps, e2⟩ := tabAt p hp
           rw [h1] at e; cases e
           exact .inr (.inl ⟨(hc.tab h1).isCodeTable, rfl, #[], ps, rfl, by rw [Array.empty_append]; exact e2⟩)
       . by_cases nt : ∀ p ∈ ts, b ≠ p.1
         . exact ⟨o, keep b o e nt⟩
         . obtain ⟨p, hp, rfl⟩ : ∃ p ∈ ts, b = p.1 := Classical.byContradiction fun q => nt fun p hp z => q ⟨p, hp, z⟩
           obtain ⟨ps, e2⟩ := tabAt p hp
           exact ⟨_, e2⟩
 have tok : ∀ {H : Hp} {b : Addr} {q : Str}, ts.lookup b = some q -> eY P w H s₁.heap b (.tabs q) := fun {H b q} e => by
   obtain ⟨h1, _⟩ := hT (b, q) (lR e)
   exact ⟨#[], h1, trivial, fun pos cv z => by simp [codeAmong] at z⟩
 cases hk : K.lookup a with
 | some o =>
   have e := KX a o hk
   rw [ha] at e
   cases e
   refine core (fun b => (ts.lookup b).map HO.tabs) (fun b => ?_) (.inr ⟨_, vs.toArray, _, hk, rfl, rfl, rfl, by rw [List.size_toArray, ai8]; exact hl, by simpa using rv⟩) (fun p hp => ?_) (fun b u z => ?_) fun z => ?_
   . cases q : List.lookup b ts with
     | none => left; rfl
     | some t => right; right; exact ⟨(b, t), lR q, rfl, rfl⟩
   . show (ts.lookup p.1).map HO.tabs = _
     rw [(hT p hp).2.1]; rfl
   . have z' : (ts.lookup b).map HO.tabs = some u := z
     cases q : List.lookup b ts with
     | none => rw [q] at z'; cases z'
     | some t => rw [q] at z'; cases z'; exact tok q
   . exfalso
     apply z
     show (ts.lookup a).map HO.tabs = none
     cases q : ts.lookup a with
     | none => rfl
     | some t => exact absurd rfl (aT (a, t) (lR q))
 | none =>
   refine core (fun b => if b = a then some (.fE { cls := .type "list", data := .seq vs.toArray } (.lst (ns.map V.int))) else (ts.lookup b).map HO.tabs) (fun b => ?_) (.inl (.inr ⟨{ cls := .type "list", data := .seq vs.toArray }, amZ rfl⟩)) (fun p hp => ?_) (fun b u z => ?_) fun _ => hk
   . by_cases hb : b = a
     . exact .inr (.inl ⟨_, _, hb, amZ hb⟩)
     . cases q : List.lookup b ts with
       | none => left; rw [amV hb]; rfl
       | some t => right; right; exact ⟨(b, t), lR q, rfl, by rw [amV hb]; rfl⟩
   . show (if p.1 = a then _ else (ts.lookup p.1).map HO.tabs) = _
     rw [amV (aT p hp), (hT p hp).2.1]; rfl
   . by_cases hb : b = a
     . have z' := (amZ hb).symm.trans z
       cases z'
       subst hb
       exact ⟨ha, by rw [amY]; exact hl, vs, _, rv, ha⟩
     . have z' : (ts.lookup b).map HO.tabs = some u := (amV hb).symm.trans z
       cases q : List.lookup b ts with
       | none => rw [q] at z'; cases z'
       | some t => rw [q] at z'; cases z'; exact tok q
theorem Ro {l : PySem.W.OpenLaw} {n k : Nat} {q : Program} {loose : List Str} {XP : (Str -> Option Value) -> Heap -> Prop} {YP : World -> Heap -> Prop} {d : DefRec} {K : Params -> PySem.W.Frag} {sp : World -> List (Addr × Str) -> Sp} {x : Str} {T0 : List Addr}
   (hn : l.most = some n) (hn2 : n <= sizeLine) (hdf : d.params.defaults = []) (hr : fJ k callerA)
   (hY : ∀ (w : World) (h : Heap), YP w h -> (K w.params).In h) (hT : ∀ (w : World) (h : Heap), YP w h -> ∀ P ∈ T0, h.get? P = some (PySem.W.tabObj #[]))
   (F : ∀ (w : World) (mg : Str -> Option Value) (fa : Addr) (h : Heap), (K w.params).In h -> h.Ns mainGlobals mg -> mg d.name = some (.ref fa) →
     ∃ (fd : FuncData) (ts : List (Addr × Str)), (∀ p ∈ ts, p.1 ∈ T0 /\ ts.lookup p.1 = some p.2 /\ (K w.params).lookup p.1 = none /\ ∃ c, PySem.W.CodeHd h c p.1) /\ (∀ (s : Shared) (u : Value), BindsTo s fd ⟨[u], []⟩ [(x, u)]) ∧
       ∀ base : Heap, (K w.params).In base -> base.Ns mainGlobals mg -> zb mg base -> bL l.prog w (K w.params) mg base fM k fa fd [x] (sp w ts))
   (Jp : ∀ (w : World) (ts : List (Addr × Str)) (H : Hp) (a : Addr) (ns : List Int), ns.length <= n -> oj (K w.params) H a (ns.map V.int) -> (∀ p ∈ ts, H p.1 = some (.tabs p.2)) -> sp w ts [.ref a] H (fun v H' => v = .bl true /\ ∀ p ∈ ts, H' p.1 = some (.tabs p.2)) fun _ _ _ => False) :
   PySem.W.WalkO q loose XP YP l.row.toRowW d [] (fun f vs => PySem.call f vs) := by
 refine Att.Gq hn hdf fun w s₀ s₁ mg mb fa o pm cd doc a vs ns G Y ho hd jy hmg abI hints hlen hg => ?_
 have KX := hY w _ Y
 obtain ⟨fd, ts, hts, hb, hF⟩ := F w mg fa _ KX G.T.g hmg
 obtain ⟨bm, ob, b1, b2, b3, b4, b5, b6⟩ := G.T.bmain
 have hbG : bm ≠ mainGlobals := fun q => by
   obtain ⟨o, es, ep, e, hd, _⟩ := G.T.g
   rw [q, e] at b3; cases b3; rw [hd] at b6; cases b6
 exact Oo KX G.T.g G.T.b G.T.builtins G.T.nolimit hg ⟨bm, ob, b1, b2, hbG, b3, b4, b5, b6⟩ abI hints (anL hlen hn2) hr (fun p hp => ⟨hT w _ Y _ (hts p hp).1, (hts p hp).2⟩) hF hb fun H hS ht => Jp w ts H a ns hlen hS ht
noncomputable def ai9 (y : Int) : Value -> Bool
 | .int i _ => i == y
 | _ => false
section
variable {X : Cx}
theorem Rp : MtR X "list.index" (fun x xs H Q => ∃ (p : Addr) (l : List Int) (y : Int) (j : Nat), x = .ref p /\ xs = [.int y] /\ oj X.K H p (l.map .int) /\ l[j]? = some y /\ (∀ i, i < j -> l[i]? ≠ some y) /\ Q (.int (j : Int)) H) := by
 intro pins s σ H x xs v us Q I rx rs h
 obtain ⟨p, l, y, j, rfl, rfl, hq, hj, hno, q⟩ := h
 cases rx
 obtain ⟨u, rfl, ru⟩ := rs.one
 obtain ⟨t, rfl⟩ := ru
 obtain ⟨its, r, ⟨⟨oc, od, oda, P4⟩, n, e, hc, hd, hs⟩, hz⟩ := I.list hq
 dsimp only at hc hd hs
 subst hc hd hs
 have hi := intsAre_of r
 have at' : ∀ {i : Nat} (hi : i < its.toArray.size), ∃ k t, its.toArray[i] = .int k t /\ l[i]? = some k := fun {i} rE => by
   have ajb : i < its.length := by simpa using rE
   have hl : i < l.length := by have := r.length; rw [amY] at this; omega
   obtain ⟨u, e1, e2⟩ := r.get (i := i) (x := .int l[i]) (by rw [anq, amW hl]; rfl)
   obtain ⟨t, rfl⟩ := e2
   refine ⟨l[i], t, ?_, amW hl⟩
   rw [amW ajb] at e1
   simpa using Option.some.inj e1
 have xS : j < its.toArray.size := by
   have h1 := (anf.mp hj).1
   have := r.length
   rw [amY] at this
   simp; omega
 have hsz : its.toArray.size <= sizeLine := by
   have := r.length
   rw [ano, ← this]; exact hz
 refine call_meets F.slot_list_index ⟨_, e, rfl⟩ F.entry_list_index (F.args_list_index_2 _ _) (SeqAt.list_indexAt p its.toArray n none P4 (.int y t) (ai9 y) j xS (by rw [anG] at hsz; omega) ?hit fun m hm hmj => ?no) ⟨e, fun w hw => ?eqs, ?_⟩
 case hit =>
   obtain ⟨k, t', e1, e2⟩ := at' xS
   rw [e1]
   rw [hj] at e2
   cases e2
   exact aom y
 case no =>
   obtain ⟨k, t', e1, e2⟩ := at' hm
   rw [e1]
   exact aoq.mpr fun z => hno m hmj (by rw [e2, z])
 case eqs =>
   obtain ⟨i, rE, rfl⟩ := Array.mem_iff_getElem.mp hw
   obtain ⟨k, t', e1, e2⟩ := at' rE
   rw [e1]
   exact SeqAt.EqAt.int_int k t' y t
 exact ⟨.int (j : Int), H, I.tok _, ⟨_, rfl⟩, q⟩
end
section
variable {X : Cx} {CL : Str -> Addr} {b : Bx} {δ δ1 δ2 : List (Option T)} {o e : Expr} {apos pos : Pos}
theorem Rq {l : List Int} {y : Int} {j : Nat} (h1 : cV X CL b o δ (.lst (l.map .int)) δ1) (h2 : cV X CL b e δ1 (.int y) δ2) (hj : l[j]? = some y) (hno : ∀ i, i < j -> l[i]? ≠ some y)
   (yJ : attributeBase o "index" X.env (eval o X.env) = eval o X.env := by rfl) (Js : ((backTo pos (starEach [e] X.env)).all (fun x => !x.1) && (backToKw pos (keywordEach [] X.env)).all (fun x => x.1.isSome)
     && decide (([e] : List Expr).length + ([] : List Keyword).length + (if ([] : List Keyword).isEmpty then 0 else 1) < 30)) = true := by rfl)
   (hline : (apos.endLine == pos.line) = true := by rfl) (hs : starEach [e] X.env = (false, eval e X.env) :: starEach [] X.env := by exact bW rfl) (Jt : (backTo pos (starEach [] X.env)).any (·.1) = false := by rfl) :
   cG X CL b (.Call (.Attribute o "index" apos) [e] [] pos) δ (.sh (.int (j : Int))) δ2 := fun H Z σ ts vs Q S k =>
 dw (aak (T := "list") (id := "list.index") F.plainAttrs_list F.slot_list_index F.type_list_index Rp eN (cH eN fc hs) yJ Js hline hs Jt) (h1 H Z σ ts vs _ S fun v1 H1 Z1 z1 k1 S1 r1 => by
   cases r1 with
   | @lst a us _ hq rr =>
     have := vv rr
     subst this
     refine ⟨?_, h2 H1 Z1 σ ts vs _ S1 fun v2 H2 Z2 z2 k2 S2 r2 => ?_⟩
     . exact .inl ⟨rfl, _, hq⟩
     . cases r2
       exact ⟨a, l, y, j, rfl, rfl, k2.seq hq, hj, hno, k _ H2 Z2 (z1.trans z2) (k1.trans k2) (S2.push (.int _))⟩)
end
section
variable {X : Cx} {CL : Str -> Addr} {b : Bx} {δ : List (Option T)} {e : Expr} {es : List Expr} {d : L3.D} {ds : List L3.D}
theorem tQ (h1 : cG X CL b e δ (.sh d) δ) (h2 : Ju X CL b es δ (ds.map T.sh) δ) (hs : starEach (e :: es) X.env = (false, eval e X.env) :: starEach es X.env := by exact bW rfl) : Ju X CL b (e :: es) δ ((d :: ds).map T.sh) δ := aM h1 h2 hs
end
theorem C2 {k : Nat} {A : Around} (r : fJ k A) : A.depth < recursionLimit := by
 have := r.dp
 omega
section
variable {X : Cx} {CL : Str -> Addr} {b : Bx} {δ δ1 : List (Option T)} {scope : Scope} {y : Str} {Nc : List Str} {ix : List Nat} {elt iter : Expr} {ifs : List Expr} {px pos : Pos} {p : L3.D -> Bool} {g : L3.D -> T} {ds : List L3.D}
theorem Rr (sc : f6 X scope y Nc ix) (hc : X.calm = true) (h : cV X CL b iter δ (.lst ds) δ1) (cl : ∀ d ∈ ds, (g d).clean = true) (inner : Block X CL scope Nc ifs elt (yN δ1 ix) ds p g) (hlen : ds.length <= sizeLine)
   (hs : ∀ x, foldedSetIterable iter X.env x = pure x := by intro _; rfl) (n1 : (y == ("__debug__" : Str)) = false := by decide) (n2 : (y == ("__classdict__" : Str)) = false := by decide) : cG X CL b (.ListComp elt [⟨.Name y px, iter, ifs, 0⟩] scope pos) δ (.lst ((ds.filter p).map g)) δ1 := fun H Z σ ts vs Q S k pins s I => by
 rw [eval_ListComp]
 refine aoV (use := none) rfl hs (oR (Wd sc) I) sc.kind sc.names ?_
 have hw := (LQ (tg := .Name y px) (eN (X := X) (e := iter))) pins s σ H (fun J H1 => ∃ Z1 us, aG Z Z1 /\ aG H H1 /\ cE X.K CL b H1 Z1 δ1 σ ts vs /\ aH X.K CL H1 ds us /\ (∀ i H2, aG H1 H2 -> i < ds.length -> J.go i H2) /\ (∀ i H2 x H', aG H1 H2 -> i < ds.length -> J.UW i H2 x H' -> H' = H2 /\ us[i]? = some x) /\ ∀ H2, aG H1 H2 -> J.stop ds.length H2) I (h H Z σ ts vs _ S fun v H1 Z1 z1 k1 S1 r => by
   cases r with
   | @lst a us _ hq rr =>
     refine ⟨a, rfl, ⟨us, hq⟩, Z1, us, z1, k1, S1, rr, fun i H2 s hi => ?_, fun i H2 y H' s hi hy => ⟨hy.1, hy.2 us (s.seq hq)⟩, fun H2 s => ⟨us, s.seq hq, by rw [rr.length]; exact am5 _⟩⟩
     have I0 : i < us.length := by rw [← rr.length]; exact hi
     exact ⟨us, us[i], s.seq hq, by simp [I0]⟩)
 refine fz hw fun v s1 h1 => fz h1 fun itv s2 zz => ?_
 obtain ⟨it, fp, tn, J, H1, e, I1, Tn, st, hf, Z1, us, z1, k1, S1, rr, go, yl, stp⟩ := zz
 subst e
 have yl2 : ∀ i Z2 H2 x H', aG H1 Z2 -> aG Z2 H2 -> (∀ a o, H2 a = some o -> jv o = true -> Z2 a = some o) -> i < ds.length -> J.UW i H2 x H' -> ∃ Z3 d, ds[i]? = some d /\ AY Z2 H2 Z3 H' /\ bF X.K CL Z3 d x := fun i Z2 H2 x H' s1 s2 tp hi hy => by
   obtain ⟨e, hx⟩ := yl i H2 x H' (s1.trans s2) hi hy
   subst e
   obtain ⟨d, hd, rd⟩ := rr.NF hx
   exact ⟨Z2, d, hd, .refl s2 tp, rd.mono s1⟩
 refine yU (xs := [y]) (RR := fun acc C => compPost (model X.prog X.w) X.A X.xe none (EP X pins σ Q) acc C) (Wd sc) hc I1 Tn st hf (rT (W1 := H1) S1 S1.zh (.refl _) (fun _ _ q _ => q) (sY S1 ix) (acE sc inner n1 n2) go yl2 stp hlen (.inr cl)) fun D C' s' H' m io nC ch ci zz => ?_
 obtain ⟨Z', z', k', S'⟩ := zz
 obtain ⟨m, hn⟩ := m
 exact ⟨m, hn, fun h' hs' => ⟨.ref D, H', ci h' hs', rfl, k _ H' Z' (z1.trans z') (k1.trans k') S'⟩⟩
end
section
variable {X : Cx}
end
section
variable {X : Cx} {CL : Str -> Addr} {b : Bx} {δ δ1 : List (Option T)} {e : Expr} {pos pp pq pr : Pos}
end
section
variable {X : Cx} {CL : Str -> Addr} {b : Bx} {δ δ1 : List (Option T)} {ds : List L3.D} {i q : Nat} {x y : Str} {pos pp pos' : Pos}
end
section
variable {X : Cx} {CL : Str -> Addr} {b : Bx} {e o : Expr} {δ δ1 δ2 : List (Option T)} {pos apos : Pos}
end
section
variable {X : Cx} {tg : Expr}
end
section
variable {X : Cx} {CL : Str -> Addr} {b : Bx} {δ δ1 δ2 δ3 : List (Option T)} {e e1 e2 e3 : Expr} {ds Jz : List L3.D} {pos p2 pr pc : Pos} {tg : Expr}
end
section
variable {X : Cx} {elts : List Expr} {kk : Nat} {pt : Pos}
end
section
variable {X : Cx} {CL : Str -> Addr} {b : Bx} {δ δ1 δ2 : List (Option T)} {e e1 e2 : Expr} {ds es : List D} {elts : List Expr} {kk : Nat} {pt pr pc pos apos : Pos}
end
section
variable {X : Cx} {CL : Str -> Addr} {b : Bx} {δ δ1 δ2 : List (Option T)} {e e2 : Expr} {t : T} {tl UY tt tt0 : List T} {DD : dF} {gu : List Stmt} {x : Str} {i : Nat} {pos pp pa pb ps : Pos}
end
section
variable {X : Cx}
end
section
variable {X : Cx} {CL : Str -> Addr} {b : Bx} {δ δ1 δ2 : List (Option T)} {o e : Expr} {apos pos : Pos}
end
section
variable {K : PySem.W.Frag} {CL : Str -> Addr} {b : Bx} {H Z : Hp} {δ : List (Option T)} {σ : L2.St} {ts tl : List T} {vs : List V} {t : T} {v : V} {d : D}
end
section
variable {X : Cx} {CL : Str -> Addr} {b : Bx} {δ δ1 δ2 : List (Option T)} {e e1 e2 : Expr} {t : T} {d : L3.D} {DD : dF} {pos pp ps : Pos} {i : Nat} {x : Str} {gu : List Stmt} {kvs : List (List Key × L3.D)} {k : List Key}
end
theorem Oq : bootBuiltins "set" = some (.type "set") := by decide +kernel
theorem Mh {ns : List Int} : ∀ k, k <= ns.length -> ns.Nodup -> firstMet (fun i => ns.getD i 0) k = ns.take k
 | 0, _, _ => rfl
 | k + 1, h, nd => by
   rw [firstMet_succ, Mh k (by omega) nd, anO, amW (by omega)]
   have e : ns.getD k 0 = ns[k] := by rw [am4, amW (by omega)]; rfl
   rw [e]
   unfold step_dedup
   rw [amV]
   . rfl
   . intro hm
     obtain ⟨x, hx, ex⟩ := aoR.mp hm
     have ex := eq_of_beq ex
     obtain ⟨j, hj, ej⟩ := List.mem_take_iff_getElem.mp hx
     have := List.pairwise_iff_getElem.mp nd j k (by omega) (by omega) (by omega)
     exact this (ej.trans ex)
theorem G5 : ∀ {ns : List Int} {us : List Value}, Vals (ns.map V.int) us -> IntsAre us ns
 | [], _, .nil => .nil
 | _ :: _, _, .cons ⟨t, e⟩ r => by subst e; exact .cons _ t (G5 r)
section
variable {X : Cx}
noncomputable def Rt (prog : Program) (w : World) (a : Addr) (n : Nat) (h : Heap) : Prop := ∃ S, h.SetOf (intKind prog w) a S n
theorem Ot (hc : X.calm = true) : lP X (.type "set") (fun xs H Q => ∃ (p : Addr) (ns : List Int), xs = [.ref p] /\ oj X.K H p (ns.map V.int) /\ ns.Nodup /\ ns.length <= 1000 /\ ∀ l, H l = none -> Q (.ref l) (upd H l (.ext (Rt X.prog X.w l ns.length)))) := by
 intro pins s σ H xs us Q I r h
 obtain ⟨p, ns, rfl, hp, nd, hn, q⟩ := h
 obtain ⟨u, rfl, ru⟩ := vals1 r
 cases ru
 obtain ⟨its, rv, pl, hz⟩ := I.list hp
 have hl : its.length = ns.length := by rw [← rv.length, amY]
 refine call_set_list (ns := ns) (I.ok.hd hc) pl.isList (by simpa using G5 rv) (by rw [List.size_toArray, hl]; unfold scanBound; omega) fun h' tk hS hk => ?_
 have ek : ∀ b o, s.heap.get? b = some o -> h'.get? b = some o := fun b o e => hk b o (ang e) e
 have hS2 : Rt X.prog X.w s.heap.objs.size ns.length h' := by
   have e1 : its.toArray.size = ns.length := by rw [ano, hl]
   rw [e1, Mh ns.length (am5 _) nd, anK] at hS
   exact ⟨_, hS⟩
 refine ⟨.ref s.heap.objs.size, _, I.laid (t' := tk) (o := .ext (Rt X.prog X.w s.heap.objs.size ns.length)) ek (am5 _) ⟨hS2, ?_, ?_⟩, rfl, q _ (I.dU.fresh (am5 _))⟩
 . obtain ⟨_, o, _, _, _, e, _⟩ := hS2
   exact ⟨o, e⟩
 . rintro h1 h2 ⟨S, o, es, ep, t, e, rest⟩ k
   exact ⟨S, o, es, ep, t, k o e, rest⟩
theorem G6 : lP X (.builtin "len") (fun xs H Q => ∃ (p : Addr) (n : Nat), xs = [.ref p] /\ H p = some (.ext (Rt X.prog X.w p n)) /\ n <= 1000 /\ Q (.int n) H) := by
 intro pins s σ H xs us Q I r h
 obtain ⟨p, n, rfl, hp, hn, q⟩ := h
 obtain ⟨u, rfl, ru⟩ := vals1 r
 cases ru
 obtain ⟨⟨S, o, es, ep, t, e, ex, ed, _, _, _, hf, en⟩, _, _⟩ := I.dU p _ hp
 exact call_len_set e ex ed hf (by rw [en]; omega) ⟨.int n, H, I.tok _, ⟨s.toks + 1, by rw [en]⟩, q⟩
end
section
variable {X : Cx} {CL : Str -> Addr} {b : Bx} {δ δ1 : List (Option T)} {e : Expr} {pos pp pq pr : Pos}
theorem Ou {ns : List Int} (g : Gx X) (hm : X.mg "len" = none) (hmr : X.mg "set" = none) (h : cV X CL b e δ (.lst (ns.map D.int)) δ1) (nd : ns.Nodup) (hn : ns.length <= 1000) (hg : Gl X "len") (hgr : Gl X "set") (hs : starEach [e] X.env = (false, eval e X.env) :: starEach [] X.env := by exact bW rfl) :
   cG X CL b (.Call (.Name "len" pp) [.Call (.Name "set" pq) [e] [] pr] [] pos) δ (.sh (.int ns.length)) δ1 := fun H Z σ ts vs Q S k =>
 dw (oB G6 hg hm PySem.boot_len (cH (jP (Ot g.calm) hgr hmr Oq (cH eN fc hs) (he := hs)) fc (bW rfl)) (he := bW rfl)) (h H Z σ ts vs _ S fun v H1 Z1 z1 k1 S1 r => by
   cases r with
   | lst hq rr =>
   have eu := vv rr
   refine ⟨_, ns, rfl, by rw [← eu]; exact hq, nd, hn, fun r hr => ⟨r, ns.length, rfl, aV, hn, ?_⟩⟩
   have same : aG H1 (upd H1 r (.ext (Rt X.prog X.w r ns.length))) := aG.upd hr
   obtain ⟨Z', z', S2⟩ := S1.back (t := .sh (.int ns.length)) (v := .int ns.length) (fp := []) (W := Z1) (W' := Z1) same (.refl _) (.refl _) (S1.zh.trans same) (fun a o q z => by rw [q] at z; cases z) (fun a o q im => by
     by_cases ha : a = r
     . subst ha; rw [aV] at q; cases q; cases im
     . rw [aA ha] at q; exact S1.tp a o q im) (.sh (.int _)) an5 (fun a ha => by cases ha) (.inl rfl)
   exact k _ _ _ (z1.trans z') (k1.trans same) S2)
end
section
variable {X : Cx} {CL : Str -> Addr} {b : Bx} {δ δ1 δ2 : List (Option T)} {e1 e2 e3 : Expr} {pos : Pos}
end
section
variable {prog : Program} {w : World} {A : Around} {E : Value -> Shared -> Prop} {s : Shared}
end
section
variable {X : Cx}
end
section
variable {X : Cx} {CL : Str -> Addr} {b : Bx} {δ δ1 : List (Option T)} {e : Expr} {pos pp pq pr : Pos}
end
end L3
namespace Law
open PySem L2 L3
noncomputable def top (i : Nat) : Stmt := PySem.Challenge.pw_moodtree_k36_whole_choosing.main.body.getD i (.Pass ⟨0, 0, 0, 0⟩)
noncomputable def vg : Nat -> List Int -> Int -> List Int
 | 0, _, _ => []
 | n + 1, es, k => if k = -1 then [] else k :: vg n es (es.getD k.toNat 0)
noncomputable def bQ (es : List Int) (m : Int) : List Int := vg (es.length + 1) es (es.getD m.toNat 0)
noncomputable def eV (es : List Int) : Prop := ∀ k : Nat, k < es.length -> -1 <= es.getD k 0 /\ es.getD k 0 < k
theorem eV.at {es : List Int} (h : eV es) {k : Int} (h0 : 0 <= k) (h1 : k < es.length) : -1 <= es.getD k.toNat 0 /\ es.getD k.toNat 0 < k := by
 have := h k.toNat (by omega)
 omega
noncomputable def gi (ks : List Str) (es ss : List Int) : L3.D := .ins "Tree" [("kinds", .lst (ks.map .str)), ("elders", .lst (es.map .int)), ("starts", .lst (ss.map .int))]
theorem rX {ks : List Str} {es ss : List Int} : List.lookup ("kinds" : Str) [(("kinds" : Str), L3.D.lst (ks.map .str)), ("elders", .lst (es.map .int)), ("starts", .lst (ss.map .int))] = some (.lst (ks.map .str)) := tG
theorem oU {ks : List Str} {es ss : List Int} : List.lookup ("elders" : Str) [(("kinds" : Str), L3.D.lst (ks.map .str)), ("elders", .lst (es.map .int)), ("starts", .lst (ss.map .int))] = some (.lst (es.map .int)) := by
 rw [i9 (by decide +kernel), tG]
theorem G7 {ks : List Str} {es ss : List Int} : List.lookup ("starts" : Str) [(("kinds" : Str), L3.D.lst (ks.map .str)), ("elders", .lst (es.map .int)), ("starts", .lst (ss.map .int))] = some (.lst (ss.map .int)) := by
 rw [i9 (by decide +kernel), i9 (by decide +kernel), tG]
theorem fj (ds : List L3.D) : T.fE (.lst (ds.map T.sh)) = .lst ds := by rw [T.fE, jB]
theorem bA (l : List Int) : (T.lst ((l.map L3.D.int).map T.sh)).clean = true := by rw [iR]; exact oM _
theorem zc (l : List Str) : (T.lst ((l.map L3.D.str).map T.sh)).clean = true := by
 rw [iR]
 induction l with
 | nil => rfl
 | cons x l ih => exact ih
noncomputable def lS (ks : List Str) (es ss : List Int) : List (Str × T) := [("kinds", .lst ((ks.map .str).map T.sh)), ("elders", .lst ((es.map .int).map T.sh)), ("starts", .lst ((ss.map .int).map T.sh))]
theorem Ov (ks : List Str) (es ss : List Int) : T.fE (.ins "Tree" (lS ks es ss)) = gi ks es ss := by
 unfold lS
 rw [T.fE, T.rj, T.rj, T.rj, T.rj, fj, fj, fj]
 rfl
theorem wZ (ks : List Str) (es ss : List Int) : T.bM (lS ks es ss) = true := by
 unfold lS
 rw [T.bM, T.bM, T.bM, T.bM, zc, bA, bA]
 rfl
theorem C3 {es : List Int} (h : eV es) : ∀ (n : Nat) {k x : Int}, -1 <= k -> k < es.length -> x ∈ vg n es k -> 0 <= x /\ x <= k
 | 0, k, x, _, _, hx => by rw [vg] at hx; cases hx
 | n + 1, k, x, h0, h1, hx => by
   rw [vg] at hx
   split at hx
   . cases hx
   . rename_i hk
     have ha := h.at (k := k) (by omega) h1
     rcases am1.mp hx with rfl | hx
     . omega
     . have := C3 h n (by omega) (by omega) hx
       omega
theorem zf {es : List Int} (h : eV es) : ∀ (a b : Nat) {k : Int}, -1 <= k -> k < es.length -> k < a -> k < b -> vg a es k = vg b es k
 | 0, 0, _, _, _, _, _ => rfl
 | 0, b + 1, k, h0, _, ha, _ => by
   rw [vg, vg, amZ (by omega)]
 | a + 1, 0, k, h0, _, _, hb => by
   rw [vg, vg, amZ (by omega)]
 | a + 1, b + 1, k, h0, h1, ha, hb => by
   rw [vg, vg]
   split
   . rfl
   . have hk := h.at (k := k) (by omega) h1
     rw [zf h a b hk.1 (by omega) (by omega) (by omega)]
theorem JM {es : List Int} (h : eV es) {m : Int} (h0 : 0 <= m) (h1 : m < es.length) : bQ es m = if es.getD m.toNat 0 = -1 then [] else es.getD m.toNat 0 :: bQ es (es.getD m.toNat 0) := by
 have hm := h.at h0 h1
 unfold bQ
 rw [vg]
 split
 . rfl
 . rename_i hk
   have hk2 := h.at (k := es.getD m.toNat 0) (by omega) (by omega)
   rw [zf h es.length (es.length + 1) hk2.1 (by omega) (by omega) (by omega)]
theorem qc {es : List Int} (h : eV es) {m x : Int} (h0 : 0 <= m) (h1 : m < es.length) (hx : x ∈ bQ es m) : 0 <= x /\ x < m /\ x < es.length := by
 have hm := h.at h0 h1
 have := C3 h _ hm.1 (by omega) hx
 omega
theorem vC {es : List Int} (h : eV es) : ∀ (n : Nat) {m x : Int}, 0 <= m -> m < es.length -> m < n -> x ∈ bQ es m -> ∃ pre, bQ es m = pre ++ x :: bQ es x /\ ∀ y ∈ pre, y ∈ bQ es m /\ x ∈ bQ es y
 | 0, m, x, h0, _, hn, _ => by omega
 | n + 1, m, x, h0, h1, hn, hx => by
   have hm := h.at h0 h1
   have e := JM h h0 h1
   generalize hq : es.getD m.toNat 0 = k at hm e
   by_cases hk : k = -1
   . rw [e, amZ hk] at hx; cases hx
   . rw [amV hk] at e
     rw [e] at hx
     rcases am1.mp hx with rfl | hx
     . exact ⟨[], by rw [e]; rfl, fun y hy => by cases hy⟩
     . obtain ⟨pre, p1, p2⟩ := vC h n (m := k) (by omega) (by omega) (by omega) hx
       refine ⟨k :: pre, by rw [e, p1]; rfl, fun y hy => ?_⟩
       rcases am1.mp hy with rfl | hy
       . exact ⟨by rw [e]; exact am0, hx⟩
       . exact ⟨by rw [e]; exact am2 _ (p2 y hy).1, (p2 y hy).2⟩
theorem BU {es : List Int} (h : eV es) {m x y : Int} (h0 : 0 <= m) (h1 : m < es.length) (hx : x ∈ bQ es m) (hy : y ∈ bQ es x) : y ∈ bQ es m := by
 obtain ⟨pre, p1, _⟩ := vC h (m.toNat + 1) h0 h1 (by omega) hx
 rw [p1]
 exact amU _ (am2 _ hy)
theorem Wm {es : List Int} (h : eV es) {m x y : Int} (h0 : 0 <= m) (h1 : m < es.length) (hx : x ∈ bQ es m) (hy : y ∈ bQ es m) : x = y \/ x ∈ bQ es y \/ y ∈ bQ es x := by
 obtain ⟨pre, p1, p2⟩ := vC h (m.toNat + 1) h0 h1 (by omega) hx
 rw [p1] at hy
 rcases am3.mp hy with hy | hy
 . exact .inr (.inl (p2 y hy).2)
 . rcases am1.mp hy with e | hy
   . exact .inl e.symm
   . exact .inr (.inr hy)
theorem zg {es : List Int} (h : eV es) : ∀ (n : Nat) {m : Int}, 0 <= m -> m < es.length -> m < n -> (bQ es m).Pairwise (fun a b => b < a)
 | 0, m, h0, _, hn => by omega
 | n + 1, m, h0, h1, hn => by
   have hm := h.at h0 h1
   rw [JM h h0 h1]
   split
   . exact .nil
   . rename_i hk
     have hs := zg h n (m := es.getD m.toNat 0) (by omega) (by omega) (by omega)
     refine anR.mpr ⟨fun x hx => ?_, hs⟩
     have := qc h (m := es.getD m.toNat 0) (by omega) (by omega) hx
     omega
noncomputable def BV (es : List Int) : Prop := eV es /\ ∀ k : Nat, k + 1 < es.length -> es.getD (k + 1) 0 = k \/ es.getD (k + 1) 0 ∈ bQ es k
noncomputable def k6 (zj : Int -> Bool) (es : List Int) (a b : Int) : Int := ((bQ es a).find? (fun x => zj x && decide (x ∈ bQ es b))).getD (-1)
theorem Mi {es : List Int} {x : Int} (h : eV es) : ∀ (n : Nat) {k : Int}, -1 <= k -> k < es.length -> vg n (es ++ [x]) k = vg n es k
 | 0, _, _, _ => rfl
 | n + 1, k, h0, h1 => by
   rw [vg, vg]
   split
   . rfl
   . have hk := h.at (k := k) (by omega) h1
     have e : (es ++ [x]).getD k.toNat 0 = es.getD k.toNat 0 := by
       rw [am4, aoT (by omega), ← am4]
     rw [e, Mi h n hk.1 (by omega)]
theorem zk {es : List Int} {x : Int} {k : Nat} (h : k < es.length) : (es ++ [x]).getD k 0 = es.getD k 0 := by
 rw [am4, aoT h, ← am4]
theorem Wn {es : List Int} {x : Int} (h : eV es) {m : Int} (h0 : 0 <= m) (h1 : m < es.length) : bQ (es ++ [x]) m = bQ es m := by
 have hm := h.at h0 h1
 unfold bQ
 rw [zk (by omega), Mi h _ hm.1 (by omega), zf h _ (es.length + 1) hm.1 (by omega) (by rw [anm]; omega) (by omega)]
theorem eV.snoc {es : List Int} (h : eV es) {x : Int} (h0 : -1 <= x) (h1 : x < es.length) : eV (es ++ [x]) := fun k hk => by
 rw [anm] at hk
 simp only [anr, aog] at hk
 by_cases e : k < es.length
 . rw [zk e]
   exact h k e
 . have : k = es.length := by omega
   subst this
   rw [am4, aol (am5 _)]
   simp
   omega
theorem BV.snoc {es : List Int} (h : BV es) {x : Int} {k : Nat} (hk : k + 1 = es.length) (hx : x = k \/ x ∈ bQ es k) : BV (es ++ [x]) := by
 have hx' : -1 <= x /\ x < es.length := by
   rcases hx with e | e
   . omega
   . have := qc h.1 (m := (k : Int)) (by omega) (by omega) e
     omega
 refine ⟨h.1.snoc hx'.1 hx'.2, fun j hj => ?_⟩
 rw [anm] at hj
 simp only [anr, aog] at hj
 rw [Wn h.1 (by omega) (by omega)]
 by_cases e : j + 1 < es.length
 . rw [zk e]
   exact h.2 j e
 . have : j = k := by omega
   subst this
   have e2 : (es ++ [x]).getD (j + 1) 0 = x := by
     rw [am4, aol (by omega), hk, Nat.sub_self]
     rfl
   rw [e2]
   exact hx
noncomputable def P6 (es : List Int) (m : Int) : List Int := ((List.range es.length).filter (fun (i : Nat) => decide (m = -1) || decide (m ∈ bQ es i))).map (fun (i : Nat) => (i : Int))
theorem tR : ∀ (n : Nat) (es : List Int) (k : Int), (vg n es k).length <= n
 | 0, _, _ => am5 _
 | n + 1, es, k => by
   rw [vg]
   split
   . exact ans _
   . exact Nat.succ_le_succ (tR n es _)
noncomputable def dX (ks : List Str) (x : Int) : Bool := decide (ks.getD x.toNat Str.empty = "one")
noncomputable def BW (es : List Int) (m : Int) : List Int := ((List.range es.length).filter (fun (i : Nat) => decide (es.getD i 0 = m))).map (fun (i : Nat) => (i : Int))
theorem Wo (es : List Int) (m : Int) : (BW es m).length <= es.length := by
 unfold BW
 rw [amY]
 exact anL (an3 _ _) (by simp)
noncomputable def gJ (bs nm : List L3.D) (tr : L3.D) (is os ws : List L3.D) : L3.D := .ins "Chart" [("boxes", .lst bs), ("names", .lst nm), ("tree", tr), ("ins", .lst is), ("outs", .lst os), ("ways", .lst ws)]
section
variable {bs nm is os ws : List L3.D} {tr : L3.D}
theorem iV : List.lookup ("tree" : Str) [(("boxes" : Str), L3.D.lst bs), ("names", .lst nm), ("tree", tr), ("ins", .lst is), ("outs", .lst os), ("ways", .lst ws)] = some tr := by
 rw [i9 (by decide +kernel), i9 (by decide +kernel), tG]
theorem gK : List.lookup ("ways" : Str) [(("boxes" : Str), L3.D.lst bs), ("names", .lst nm), ("tree", tr), ("ins", .lst is), ("outs", .lst os), ("ways", .lst ws)] = some (.lst ws) := by
 rw [i9 (by decide +kernel), i9 (by decide +kernel), i9 (by decide +kernel), i9 (by decide +kernel), i9 (by decide +kernel), tG]
end
noncomputable def vD (bs nm : List L3.D) : List (Str × T) := [("boxes", .lst (bs.map T.sh)), ("names", .lst (nm.map T.sh))]
noncomputable def vG (is os ws : List L3.D) : List (Str × T) := [("ins", .lst (is.map T.sh)), ("outs", .lst (os.map T.sh)), ("ways", .lst (ws.map T.sh))]
noncomputable def iW (bs nm : List L3.D) (t : T) (is os ws : List L3.D) : List (Str × T) := vD bs nm ++ (("tree" : Str), t) :: vG is os ws
theorem JN (bs nm : List L3.D) (t : T) (is os ws : List L3.D) : T.fE (.ins "Chart" (iW bs nm t is os ws)) = gJ bs nm t.fE is os ws := by
 unfold iW vD vG
 rw [anw, anw, aoc, T.fE, T.rj, T.rj, T.rj, T.rj, T.rj, T.rj, T.rj, fj, fj, fj, fj, fj]
 rfl
theorem cz {ds : List L3.D} (h : D.cy ds = true) : (T.lst (ds.map T.sh)).clean = true := by
 rw [iR]
 induction ds with
 | nil => rfl
 | cons d ds ih =>
   rw [D.cy, anE] at h
   rw [ani, T.fN, ih h.2, T.clean, h.1]; rfl
theorem C4 {bs nm : List L3.D} (h1 : D.cy bs = true) (h2 : D.cy nm = true) : T.bM (vD bs nm) = true := by
 unfold vD
 rw [T.bM, T.bM, T.bM, cz h1, cz h2]; rfl
theorem C5 {is os ws : List L3.D} (h1 : D.cy is = true) (h2 : D.cy os = true) (h3 : D.cy ws = true) : T.bM (vG is os ws) = true := by
 unfold vG
 rw [T.bM, T.bM, T.bM, T.bM, cz h1, cz h2, cz h3]; rfl
structure bN where
 src : Int
 sign : Str
 asks : List L3.D
 tS : List L3.D
 tgt : Int
 mode : Str
noncomputable def bY (w : bN) : L3.D := .tup [.int w.src, .str w.sign, .tup w.asks, .tup w.tS, .int w.tgt, .str w.mode]
noncomputable def c7 (ns : List Int) (k : Int) : Int := if k < ns.length then ns.getD k.toNat 0 else 0
noncomputable def iu (c : Int) : Int := if c % 2 = 0 then c / 2 % 9 - 4 else if c % 4 = 1 then c / 4 * 48271 % 10 ^ 60 else -(c / 4 * 48271 % 10 ^ 60)
noncomputable def Ow : List Nat := (List.range 26).map (· + 97) ++ (List.range 10).map (· + 48)
theorem Ru : ("abcdefghijklmnopqrstuvwxyz0123456789" : Str).cps.toList = Ow := by decide +kernel
noncomputable def xF (k : Int) : Str := ⟨#[Ow.getD k.toNat 0]⟩
theorem acN : ∀ n ∈ Ow, n < 1114112 := by decide +kernel
theorem Rw (k : Int) : PyData.strOk (xF k) = true := by
 unfold PyData.strOk xF
 have : Ow.getD k.toNat 0 < 1114112 := by
   rw [am4]
   cases e : Ow[k.toNat]? with
   | none => decide
   | some n => exact acN n (ant e)
 simpa [List.getD_eq_getElem?_getD] using this
noncomputable def Wq (m : Int) : Int := (m * 48271 + 11) % 2147483647
noncomputable def jZ (p : Int × Str) : Nat -> Int × Str
 | 0 => p
 | n + 1 => (Wq (jZ p n).1, (jZ p n).2 ++ xF (Wq (jZ p n).1 % 36))
noncomputable def nm0 (c : Int) : Int × Str := (c / 12 % 10 ^ (9 : Int).toNat, xF (c / 12 % 10 ^ (9 : Int).toNat % 26))
theorem Rx (p : Int × Str) (n : Nat) : (jZ p n).2.length = p.2.length + n := by
 induction n with
 | zero => rfl
 | succ n ih =>
   show ((jZ p n).2 ++ xF _).length = _
   rw [str_len, ih]
   show _ + 1 = _
   omega
theorem afQ (p : Int × Str) (h : PyData.strOk p.2 = true) (n : Nat) : PyData.strOk (jZ p n).2 = true := by
 induction n with
 | zero => exact h
 | succ n ih => exact vp _ _ ih (Rw _)
noncomputable def U3 (c : Int) : Str := (jZ (nm0 c) (c % 12).toNat).2
theorem Mj (c : Int) : (U3 c).length <= 12 := by
 unfold U3
 rw [Rx]
 have h1 := anp c (show (12 : Int) ≠ 0 by decide)
 have h2 := anl c (show (0 : Int) < 12 by decide)
 show 1 + (c % 12).toNat <= 12
 omega
noncomputable def w13 : List Str := ["all", "and", "box", "call", "do", "far", "if", "in", "leaf", "near", "on", "one", "open"]
noncomputable def w6 : List Str := ["out", "put", "say", "shut", "then", "to"]
noncomputable def j3 (c : Int) : Str := if U3 c ∈ w13 then U3 c ++ "0" else if U3 c ∈ w6 then U3 c ++ "0" else U3 c
theorem C6 (c : Int) : PyData.strOk (j3 c) = true := by
 have hb : PyData.strOk (U3 c) = true := afQ _ (Rw _) _
 have h0 : PyData.strOk ("0" : Str) = true := by decide +kernel
 unfold j3
 split
 . exact vp _ _ hb h0
 . split
   . exact vp _ _ hb h0
   . exact hb
theorem jm (l : List Int) : kZ 60 (.lst (l.map .int)) := .lst fun d hd => by
 obtain ⟨i, _, rfl⟩ := ank.mp hd
 exact .int _ _
noncomputable def gM (mk : Str) (i j : Int) : Bool := if mk = "<" then decide (i < j) else if mk = "<=" then decide (i <= j) else if mk = "=" then decide (i = j) else !decide (i = j)
noncomputable def bP (bx mo : Int) (bs : List Int) : Int := if bx = -1 then mo else bs.getD bx.toNat 0 + mo
noncomputable def mx1 (c s : Int) : Int := (c % 2147483647 + s) * 48271 % 2147483647
noncomputable def dO (c s : Int) : Int := mx1 c s * mx1 c s % 2147483629
theorem afS (c s : Int) : 0 <= mx1 c s /\ mx1 c s < 2147483647 := ⟨anp _ (by decide), anl _ (by decide)⟩
theorem C7 (c s : Int) : 0 <= dO c s := anp _ (by decide)
noncomputable def fL (c : Int) : Int := if c % 2 = 0 then c / 2 % 9 - 4 else if c % 4 = 1 then c / 4 * 48271 % (10 ^ 30 - 1) else -(c / 4 * 48271 % (10 ^ 30 - 1))
noncomputable def cJ (es : List Int) (k : Nat) : List Int := if (12 : Int) < (([(k : Int)] ++ bQ es k).length : Nat) then cutD ([(k : Int)] ++ bQ es k) (some 1) none else [(k : Int)] ++ bQ es k
theorem w4 {es : List Int} {k : Nat} (h : eV es) (hk : k + 1 = es.length) : 0 < (cJ es k).length /\ (cJ es k).length <= es.length + 2 /\ ∀ x ∈ cJ es k, 0 <= x /\ x < es.length := by
 have hm : ∀ x ∈ [(k : Int)] ++ bQ es k, 0 <= x /\ x < es.length := fun x hx => by
   rcases am3.mp hx with h1 | h1
   . have : x = k := by simpa using h1
     omega
   . have ha := h.at (k := (k : Int)) (by omega) (by omega)
     have := C3 h _ ha.1 (by omega) h1
     omega
 have hl : ([(k : Int)] ++ bQ es k).length <= es.length + 2 := by
   have := tR (es.length + 1) es (es.getD (k : Int).toNat 0)
   rw [anm]
   unfold bQ
   simp only [anr, aog]
   omega
 unfold cJ
 split
 . rename_i h12
   have e : cutD ([(k : Int)] ++ bQ es k) (some 1) none = bQ es k := by
     generalize bQ es k = l at h12
     unfold cutD
     have h1 : HT.vf ([(k : Int)] ++ l).length 0 (some 1) = 1 := by
       rw [anm] at h12 ⊢
       simp only [anr, aog] at h12 ⊢
       unfold HT.vf
       simp
     have h2 : HT.vf ([(k : Int)] ++ l).length ([(k : Int)] ++ l).length none = ([(k : Int)] ++ l).length := by
       unfold HT.vf
       simp
     rw [h1, h2]
     simp
   rw [e]
   have hl2 := anm (as := [(k : Int)]) (bs := bQ es k)
   simp only [anr, aog] at hl2
   exact ⟨by omega, by omega, fun x hx => hm x (amU _ hx)⟩
 . exact ⟨by simp, hl, hm⟩
theorem getD_mem {l : List Int} {n : Nat} (h : n < l.length) : l.getD n 0 ∈ l := by
 rw [am4, amW h]
 exact aod h
theorem C8 {es : List Int} {k : Nat} {x : Int} (hx : x ∈ cJ es k) : x = k \/ x ∈ bQ es k := by
 have hm : x ∈ [(k : Int)] ++ bQ es k := by
   unfold cJ at hx
   split at hx
   . unfold cutD at hx
     exact List.mem_of_mem_drop (aoQ hx)
   . exact hx
 rcases am3.mp hm with h | h
 . exact .inl (by simpa using h)
 . exact .inr h
noncomputable def ldM (s es : List Int) (k : Nat) : Int := (cJ es k).getD (dO (c7 s ((k : Int) + 1)) (3 + (k : Int)) % ((cJ es k).length : Nat)).toNat 0
noncomputable def rq (s : List Int) : Nat -> List Int
 | 0 => [-1]
 | j + 1 => rq s j ++ [ldM s (rq s j) j]
theorem Wr : BV [-1] := ⟨fun k hk => by
   have : k = 0 := by simpa using hk
   subst this
   exact ⟨Int.le_refl _, show (-1 : Int) < ((0 : Nat) : Int) by decide⟩, fun k hk => by simp at hk⟩
theorem C9 (s : List Int) : ∀ j, (rq s j).length = j + 1 /\ BV (rq s j)
 | 0 => ⟨rfl, Wr⟩
 | j + 1 => by
   obtain ⟨h1, h2⟩ := C9 s j
   obtain ⟨r1, r2, r3⟩ := w4 (k := j) h2.1 h1.symm
   refine ⟨by show (rq s j ++ _).length = _; rw [anm, h1]; rfl, ?_⟩
   have hx := getD_mem (l := cJ (rq s j) j) (n := (dO (c7 s ((j : Int) + 1)) (3 + (j : Int)) % ((cJ (rq s j) j).length : Nat)).toNat) (by
     have := anl (dO (c7 s ((j : Int) + 1)) (3 + (j : Int))) (b := ((cJ (rq s j) j).length : Nat)) (by omega)
     have := anp (dO (c7 s ((j : Int) + 1)) (3 + (j : Int))) (b := ((cJ (rq s j) j).length : Nat)) (by omega)
     omega)
   exact h2.snoc h1.symm (C8 hx)
noncomputable def cntK (s : List Int) : Int := 1 + dO (c7 s 0) 2 % 14
theorem Ry (s : List Int) : 1 <= cntK s /\ cntK s <= 30 := by
 unfold cntK
 omega
noncomputable def kB (s : List Int) : List Int := rq s (cntK s - 1).toNat
theorem Ml (s : List Int) : 1 <= (kB s).length /\ (kB s).length <= 30 /\ BV (kB s) := by
 obtain ⟨h1, h2⟩ := C9 s (cntK s - 1).toNat
 have := Ry s
 unfold kB
 exact ⟨by omega, by omega, h2⟩
noncomputable def P7 (s : List Int) (k : Nat) : Int := dO (c7 s (k : Int)) (101 + (k : Int))
noncomputable def Jb (s es : List Int) (k : Nat) : Str := if BW es (k : Int) = [] then "leaf" else (["all", "one"] : List Str).getD (P7 s k % 2).toNat Str.empty
noncomputable def stK (s es : List Int) (k : Nat) : Int := if Jb s es k = "one" then (BW es (k : Int)).getD (P7 s k / 2 % ((BW es (k : Int)).length : Nat)).toNat 0 else -1
noncomputable def osK (s es : List Int) (k : Nat) : Int := if Jb s es k = "one" then (BW es (k : Int)).getD (P7 s k / 22 % ((BW es (k : Int)).length : Nat)).toNat 0 else -1
theorem acO (s es : List Int) (k : Nat) : PyData.strOk (Jb s es k) = true := by
 unfold Jb
 split
 . decide +kernel
 . have : P7 s k % 2 = 0 \/ P7 s k % 2 = 1 := by omega
   rcases this with e | e <;> rw [e] <;> decide +kernel
theorem Ws {s es : List Int} {k : Nat} (h : Jb s es k = "one") : BW es (k : Int) ≠ [] := by
 intro e
 unfold Jb at h
 rw [amZ e] at h
 exact absurd h (by decide +kernel)
noncomputable def tT (s es : List Int) (n : Nat) : List Str := (List.range n).map (Jb s es)
noncomputable def zl (s es : List Int) (n : Nat) : List Int := (List.range n).map (stK s es)
noncomputable def vH (s es : List Int) (n : Nat) : List Int := (List.range n).map (osK s es)
noncomputable def kF (ks : List Str) (es ss os : List Int) : L3.D := .lst [.lst (ks.map .str), .lst (es.map .int), .lst (ss.map .int), .lst (os.map .int)]
noncomputable def tU (ks : List Str) (es ss os : List Int) : T := .lst [.lst ((ks.map .str).map T.sh), .lst ((es.map .int).map T.sh), .lst ((ss.map .int).map T.sh), .lst ((os.map .int).map T.sh)]
theorem Rz (ks : List Str) (es ss os : List Int) : (tU ks es ss os).fE = kF ks es ss os := by
 unfold tU kF
 rw [T.fE, T.ju, T.ju, T.ju, T.ju, T.ju, fj, fj, fj, fj]
noncomputable def w9 (es os : List Int) : Nat -> List Int
 | 0 => [0]
 | j + 1 => if es.getD (j + 1) 0 ∈ w9 es os j /\ (os.getD (es.getD (j + 1) 0).toNat 0 = -1 \/ os.getD (es.getD (j + 1) 0).toNat 0 = ((j + 1 : Nat) : Int)) then w9 es os j ++ [((j + 1 : Nat) : Int)] else w9 es os j
theorem xT {es os : List Int} : ∀ (j : Nat) {x : Int}, x ∈ w9 es os j -> 0 <= x /\ x <= j
 | 0, x, h => by
   have : x = 0 := by simpa [w9] using h
   omega
 | j + 1, x, h => by
   rw [w9] at h
   split at h
   . rcases am3.mp h with h | h
     . have := xT j h
       omega
     . have : x = ((j + 1 : Nat) : Int) := by simpa using h
       omega
   . have := xT j h
     omega
theorem xU {es os : List Int} : ∀ (j : Nat), 1 <= (w9 es os j).length /\ (w9 es os j).length <= j + 1
 | 0 => ⟨am5 _, am5 _⟩
 | j + 1 => by
   have := xU (es := es) (os := os) j
   rw [w9]
   split
   . rw [anm]
     simp only [anr, aog]
     omega
   . omega
noncomputable def bxK (s : List Int) : List Int := (List.range (dO (c7 s 0) 7 % 6).toNat).map fun (k : Nat) => iu (c7 s ((k : Int) + 1) + 5 * (k : Int))
theorem Wt (s : List Int) : (bxK s).length <= 5 := by
 unfold bxK
 rw [amY, aoC]
 omega
theorem RA {x : Str} (h : PyData.strOk x = true) (l k : Option Int) : PyData.strOk (Txt.slice x l k) = true := by
 unfold Txt.slice
 split
 . exact h
 . unfold PyData.strOk at *
   rw [List.all_toArray, an0]
   intro c hc
   obtain ⟨i, _, hi⟩ := List.mem_filterMap.mp hc
   rw [← Array.all_toList, an0] at h
   exact h c (by rw [← aow] at hi; exact ant hi)
theorem Ox (c : Int) : (j3 c).length <= 13 := by
 have h := Mj c
 unfold j3
 split
 . rw [str_len]; show _ + 1 <= _; omega
 . split
   . rw [str_len]; show _ + 1 <= _; omega
   . omega
noncomputable def xg (s : List Int) : Str := Txt.slice (j3 (c7 s 0 / 2)) none (some 10)
noncomputable def Wu (s : List Int) : List Str := if c7 s 0 % 2 = 0 then [xg s ++ "1", xg s ++ "12", xg s ++ "2"] else [xg s, j3 (c7 s 1 + 5), j3 (c7 s 2 + 10)]
theorem Wv (s : List Int) : (Wu s).length = 3 := by
 unfold Wu
 split <;> rfl
theorem acP (s : List Int) : ∀ x ∈ Wu s, PyData.strOk x = true := by
 have hb : PyData.strOk (xg s) = true := RA (C6 _) _ _
 unfold Wu
 split
 . intro x hx
   simp only [am1, anH, or_false] at hx
   rcases hx with rfl | rfl | rfl
   . exact vp _ _ hb (by decide +kernel)
   . exact vp _ _ hb (by decide +kernel)
   . exact vp _ _ hb (by decide +kernel)
 . intro x hx
   simp only [am1, anH, or_false] at hx
   rcases hx with rfl | rfl | rfl
   . exact hb
   . exact C6 _
   . exact C6 _
inductive kC where
 | rY (op : Bool) (m : Int)
 | num (mk : Str) (b1 m1 b2 m2 : Int)
noncomputable def cS : kC -> L3.D
 | .rY op m => .tup [.str (if op then "open" else "shut"), .int m]
 | .num mk b1 m1 b2 m2 => .tup [.str mk, .tup [.int b1, .int m1], .tup [.int b2, .int m2]]
noncomputable def vI : List Str := ["<", "<=", "=", "!="]
noncomputable def kC.Ok (n : Nat) (bs : List Int) : kC -> Prop
 | .rY _ m => 0 <= m /\ m < n
 | .num mk b1 _ b2 _ => mk ∈ vI /\ (b1 = -1 \/ (0 <= b1 /\ b1 < bs.length)) /\ (b2 = -1 \/ (0 <= b2 /\ b2 < bs.length))
theorem tV (a : kC) : (cS a).kW = true := by cases a <;> rfl
theorem Ww : ∀ x ∈ vI, PyData.strOk x = true := by decide +kernel
theorem RB {n : Nat} {m : Nat} {bs : List Int} {a : kC} (h : a.Ok m bs) : kZ (n + 2) (cS a) := by
 cases a with
 | rY op m =>
   refine .tup fun d hd => ?_
   rcases am1.mp hd with rfl | hd
   . refine .str _ _ ?_
     cases op <;> decide +kernel
   . rw [anb.mp hd]; exact .int _ _
 | num mk b1 m1 b2 m2 =>
   refine .tup fun d hd => ?_
   rcases am1.mp hd with rfl | hd
   . exact .str _ _ (Ww _ h.1)
   . rcases am1.mp hd with rfl | hd
     . exact .tup fun d hd => by
         rcases am1.mp hd with rfl | hd
         . exact .int _ _
         . rw [anb.mp hd]; exact .int _ _
     . rw [anb.mp hd]
       exact .tup fun d hd => by
         rcases am1.mp hd with rfl | hd
         . exact .int _ _
         . rw [anb.mp hd]; exact .int _ _
noncomputable def zm (g : Bool) (i j : Int) : List Str := vI.filter fun m => decide (gM m i j = g)
theorem Mm (i j : Int) : gM "=" i j = decide (i = j) := by unfold gM; rw [amV (by decide +kernel), amV (by decide +kernel), amZ rfl]
theorem Mp (i j : Int) : gM "!=" i j = !decide (i = j) := by unfold gM; rw [amV (by decide +kernel), amV (by decide +kernel), amV (by decide +kernel)]
theorem G8 (g : Bool) (i j : Int) : 0 < (zm g i j).length := by
 have mem : ∀ m ∈ vI, gM m i j = g -> 0 < (zm g i j).length := fun m hm h => List.length_pos_of_mem (anB.mpr ⟨hm, anU h⟩)
 cases g with
 | true =>
   by_cases e : i = j
   . exact mem "=" (by decide +kernel) (by rw [Mm]; exact anU e)
   . exact mem "!=" (by decide +kernel) (by rw [Mp, anz e]; rfl)
 | false =>
   by_cases e : i = j
   . exact mem "!=" (by decide +kernel) (by rw [Mp, anU e]; rfl)
   . exact mem "=" (by decide +kernel) (by rw [Mm]; exact anz e)
noncomputable def G9 (c : Int) : Bool := decide (0 < dO c 31 % 3)
noncomputable def xG (c : Int) (n : Nat) : Int := dO c 31 / 9 % ((n : Int) + 1) - 1
noncomputable def vJ (c : Int) (n : Nat) : Int := if dO c 31 / 729 % 3 = 0 then xG c n else dO c 31 / 81 % ((n : Int) + 1) - 1
noncomputable def Dc (c : Int) : Int := if dO c 31 / 729 % 3 = 0 then fL (c / 3) + dO c 31 / 2187 % 3 - 1 else fL (c / 5 + 1)
theorem Dd (c : Int) (n : Nat) : xG c n = -1 \/ (0 <= xG c n /\ xG c n < n) := by
 have a := anp (dO c 31 / 9) (b := (n : Int) + 1) (by omega)
 have b := anl (dO c 31 / 9) (b := (n : Int) + 1) (by omega)
 unfold xG
 omega
theorem Mq (c : Int) (n : Nat) : vJ c n = -1 \/ (0 <= vJ c n /\ vJ c n < n) := by
 have a := anp (dO c 31 / 81) (b := (n : Int) + 1) (by omega)
 have b := anl (dO c 31 / 81) (b := (n : Int) + 1) (by omega)
 unfold vJ
 split
 . exact Dd c n
 . omega
noncomputable def rH (c : Int) (bs : List Int) : Int := bP (xG c bs.length) (fL (c / 3)) bs
noncomputable def k7 (c : Int) (bs : List Int) : Int := bP (vJ c bs.length) (Dc c) bs
noncomputable def Hf (c : Int) (bs : List Int) : Str := (zm (G9 c) (rH c bs) (k7 c bs)).getD (dO c 31 / 6561 % ((zm (G9 c) (rH c bs) (k7 c bs)).length : Nat)).toNat Str.empty
noncomputable def rZ (ops : List Int) (m : Nat) (bs : List Int) (c : Int) : kC :=
 if dO c 31 / 3 % 3 = 0 then .rY (decide (decide (dO c 31 / 9 % (m : Int) ∈ ops) = G9 c)) (dO c 31 / 9 % (m : Int))
 else .num (Hf c bs) (xG c bs.length) (fL (c / 3)) (vJ c bs.length) (Dc c)
theorem Oz (c : Int) (bs : List Int) : Hf c bs ∈ vI := by
 have hp := G8 (G9 c) (rH c bs) (k7 c bs)
 have hm : ∀ x ∈ zm (G9 c) (rH c bs) (k7 c bs), x ∈ vI := fun x hx => (anB.mp hx).1
 have l0 := anp (dO c 31 / 6561) (b := ((zm (G9 c) (rH c bs) (k7 c bs)).length : Nat)) (by omega)
 have l1 := anl (dO c 31 / 6561) (b := ((zm (G9 c) (rH c bs) (k7 c bs)).length : Nat)) (by omega)
 unfold Hf
 rw [am4, amW (by omega)]
 exact hm _ (aod _)
theorem Wx (ops : List Int) {m : Nat} (hm : 1 <= m) (bs : List Int) (c : Int) : (rZ ops m bs c).Ok m bs := by
 unfold rZ
 split
 . exact ⟨anp _ (by omega), anl _ (by omega)⟩
 . exact ⟨Oz c bs, Dd _ _, Mq _ _⟩
noncomputable def deK (th : List Str) (k : Int) : List L3.D := ([[], [.tup [.str "call", .str (th.getD 0 Str.empty)]], [.tup [.str "say", .str (th.getD 1 Str.empty), .tup [.int (-1), .int 7]], .tup [.str "call", .str (th.getD 2 Str.empty)]]] : List (List L3.D)).getD k.toNat []
noncomputable def OB (ops : List Int) (m : Nat) (bs : List Int) (c : Int) : List kC := (List.range (dO c 11 / 100 % 3).toNat).map fun (k : Nat) => rZ ops m bs (c / ((k : Int) + 1) + 17 * (k : Int))
noncomputable def RC (ops : List Int) (m : Nat) (bs : List Int) (th : List Str) (c : Int) : bN where
 src := if dO c 11 % 2 = 0 then ops.getD (dO c 11 / 2 % (ops.length : Nat)).toNat 0 else dO c 11 / 2 % (m : Int)
 sign := th.getD (dO c 13 / 300 % 3).toNat Str.empty
 asks := (OB ops m bs c).map cS
 tS := deK th (dO c 11 / 300 % 3)
 tgt := if dO c 13 % 5 = 0 then -1 else dO c 13 / 5 % (m : Int)
 mode := if dO c 13 % 5 = 0 then "new" else (["new", "near", "far"] : List Str).getD (dO c 13 / 100 % 3).toNat Str.empty
structure zo (m : Nat) (bs : List Int) (w : bN) : Prop where
 src : 0 <= w.src /\ w.src < m
 sign : PyData.strOk w.sign = true
 asks : ∃ l : List kC, w.asks = l.map cS /\ l.length <= 2 /\ ∀ a ∈ l, a.Ok m bs
 tS : D.cy w.tS = true /\ ∀ d ∈ w.tS, kZ 10 d
 tgt : -1 <= w.tgt /\ w.tgt < m
 mode : PyData.strOk w.mode = true
theorem acQ {th : List Str} (h : ∀ x ∈ th, PyData.strOk x = true) (h3 : th.length = 3) (k : Int) : D.cy (deK th k) = true /\ ∀ d ∈ deK th k, kZ 10 d := by
 have g : ∀ i, i < 3 -> PyData.strOk (th.getD i Str.empty) = true := fun i hi => by
   rw [am4, amW (by omega)]
   exact h _ (aod _)
 have e2 : ∀ {a b : L3.D}, kZ 9 a -> kZ 9 b -> kZ 10 (.tup [a, b]) := fun ha hb => .tup fun d hd => by
   rcases am1.mp hd with rfl | hd
   . exact ha
   . rw [anb.mp hd]; exact hb
 unfold deK
 by_cases k0 : k.toNat = 0
 . rw [k0]; exact ⟨rfl, fun d hd => by cases hd⟩
 . by_cases k1 : k.toNat = 1
   . rw [k1]
     refine ⟨rfl, fun d hd => ?_⟩
     rw [anb.mp hd]
     exact e2 (.str _ _ (by decide +kernel)) (.str _ _ (g 0 (by omega)))
   . by_cases k2 : k.toNat = 2
     . rw [k2]
       refine ⟨rfl, fun d hd => ?_⟩
       rcases am1.mp hd with rfl | hd
       . refine .tup fun d hd => ?_
         rcases am1.mp hd with rfl | hd
         . exact .str _ _ (by decide +kernel)
         . rcases am1.mp hd with rfl | hd
           . exact .str _ _ (g 1 (by omega))
           . rw [anb.mp hd]
             refine .tup fun d hd => ?_
             rcases am1.mp hd with rfl | hd
             . exact .int _ _
             . rw [anb.mp hd]; exact .int _ _
       . rw [anb.mp hd]
         exact e2 (.str _ _ (by decide +kernel)) (.str _ _ (g 2 (by omega)))
     . rw [am4, aoP (by simp; omega)]
       exact ⟨rfl, fun d hd => by cases hd⟩
theorem RD {ops : List Int} {m : Nat} {bs : List Int} {th : List Str} (hm : 1 <= m) (ho : 1 <= ops.length) (OD : ∀ x ∈ ops, 0 <= x /\ x < m) (h : ∀ x ∈ th, PyData.strOk x = true) (h3 : th.length = 3) (c : Int) : zo m bs (RC ops m bs th c) where
 src := by
   dsimp only [RC]
   split
   . have l0 := anp (dO c 11 / 2) (b := (ops.length : Nat)) (by omega)
     have l1 := anl (dO c 11 / 2) (b := (ops.length : Nat)) (by omega)
     rw [am4, amW (by omega)]
     exact OD _ (aod _)
   . exact ⟨anp _ (by omega), anl _ (by omega)⟩
 sign := by
   have l0 := anp (dO c 13 / 300) (show (3 : Int) ≠ 0 by decide)
   have l1 := anl (dO c 13 / 300) (show (0 : Int) < 3 by decide)
   show PyData.strOk (th.getD _ _) = true
   rw [am4, amW (by omega)]
   exact h _ (aod _)
 asks := ⟨OB ops m bs c, rfl, by unfold OB; rw [amY, aoC]; omega, fun a ha => by
   obtain ⟨k, _, rfl⟩ := ank.mp ha
   exact Wx ops hm bs _⟩
 tS := acQ h h3 _
 tgt := by
   dsimp only [RC]
   split
   . omega
   . have l0 := anp (dO c 13 / 5) (b := (m : Int)) (by omega)
     have l1 := anl (dO c 13 / 5) (b := (m : Int)) (by omega)
     omega
 mode := by
   dsimp only [RC]
   split
   . decide +kernel
   . have : dO c 13 / 100 % 3 = 0 \/ dO c 13 / 100 % 3 = 1 \/ dO c 13 / 100 % 3 = 2 := by omega
     rcases this with e | e | e <;> rw [e] <;> decide +kernel
theorem zo.kW {m : Nat} {bs : List Int} {w : bN} (h : zo m bs w) : (bY w).kW = true := by
 obtain ⟨l, e, _, _⟩ := h.asks
 show (true && (true && (D.cy w.asks && (D.cy w.tS && (true && (true && true)))))) = true
 rw [e, jX (fun a => tV a), h.tS.1]
 rfl
theorem acR {n m : Nat} {d : L3.D} (h : kZ n d) (hm : n <= m) : kZ m d := by
 induction h generalizing m with
 | non n => exact .non _
 | bl n b => exact .bl _ _
 | int n i => exact .int _ _
 | str n x h => exact .str _ _ h
 | tup h ih =>
   obtain ⟨k, rfl⟩ : ∃ k, m = k + 1 := ⟨m - 1, by omega⟩
   exact .tup fun d hd => ih d hd (by omega)
 | lst h ih =>
   obtain ⟨k, rfl⟩ : ∃ k, m = k + 1 := ⟨m - 1, by omega⟩
   exact .lst fun d hd => ih d hd (by omega)
theorem zo.dep {m : Nat} {bs : List Int} {w : bN} (h : zo m bs w) : kZ 12 (bY w) := by
 obtain ⟨l, e, _, hl⟩ := h.asks
 refine .tup fun d hd => ?_
 simp only [am1, anH, or_false] at hd
 rcases hd with rfl | rfl | rfl | rfl | rfl | rfl
 . exact .int _ _
 . exact .str _ _ h.sign
 . refine .tup fun d hd => ?_
   rw [e] at hd
   obtain ⟨a, ha, rfl⟩ := ank.mp hd
   exact RB (hl a ha)
 . exact .tup fun d hd => h.tS.2 d hd
 . exact .int _ _
 . exact .str _ _ h.mode
noncomputable def zq (s ops : List Int) (m : Nat) (bs : List Int) (th : List Str) : List bN := b9 bN.src (s.map (RC ops m bs th))
theorem RG {s ops : List Int} {m : Nat} {bs : List Int} {th : List Str} (hm : 1 <= m) (ho : 1 <= ops.length) (OD : ∀ x ∈ ops, 0 <= x /\ x < m) (h : ∀ x ∈ th, PyData.strOk x = true) (h3 : th.length = 3) : (zq s ops m bs th).length = s.length /\ ∀ w ∈ zq s ops m bs th, zo m bs w := by
 unfold zq
 refine ⟨by rw [iT, amY], fun w hw => ?_⟩
 obtain ⟨c, _, rfl⟩ := ank.mp (eU.mp hw)
 exact RD hm ho OD h h3 c
noncomputable def tW (m : Nat) (bs : List Int) (ws : List bN) : Prop := ws.length <= 63 /\ ∀ w ∈ ws, zo m bs w
theorem tW.cy {m : Nat} {bs : List Int} {ws : List bN} (h : tW m bs ws) : D.cy (ws.map bY) = true := mZ fun d hd => by
 obtain ⟨w, hw, rfl⟩ := ank.mp hd
 exact (h.2 w hw).kW
theorem tW.dep {m : Nat} {bs : List Int} {ws : List bN} (h : tW m bs ws) (n : Nat) : kZ (n + 13) (.lst (ws.map bY)) := .lst fun d hd => by
 obtain ⟨w, hw, rfl⟩ := ank.mp hd
 exact acR (h.2 w hw).dep (by omega)
noncomputable def w0 : bN := ⟨0, Str.empty, [], [], 0, Str.empty⟩
noncomputable def iy (ws : List bN) (i : Int) : bN := ws.getD i.toNat w0
theorem iz {ws : List bN} {i : Int} (h0 : 0 <= i) (h1 : i < ws.length) : iy ws i ∈ ws := by
 unfold iy
 rw [am4, amW (by omega)]
 exact aod _
noncomputable def qd (ks : List Str) (es : List Int) (w : bN) : Int := k6 (dX ks) es w.src w.tgt
noncomputable def rA (ws : List bN) (i : Int) : Bool := !decide ((iy ws i).tgt = -1)
noncomputable def xh (es : List Int) (t u : Int) : Bool := decide (t = u) || (decide (t = -1) || decide (u = -1)) || (decide (u ∈ bQ es t) || decide (t ∈ bQ es u))
noncomputable def JQ (a b : List Int) : Bool := a.any fun x => decide (x ∈ b)
noncomputable def GX (ks : List Str) (es : List Int) (src tgt : Int) : List Int := if tgt = -1 then [] else P6 es (k6 (dX ks) es src tgt)
theorem xV {es : List Int} {t x : Int} : x ∈ P6 es t ↔ (0 <= x /\ x < es.length) /\ (t = -1 \/ t ∈ bQ es x) := by
 unfold P6
 constructor
 . intro h
   obtain ⟨i, hi, rfl⟩ := ank.mp h
   obtain ⟨h1, h2⟩ := anB.mp hi
   have := anN.mp h1
   simp only [Bool.or_eq_true, aof] at h2
   exact ⟨⟨by omega, by omega⟩, h2⟩
 . rintro ⟨⟨h0, h1⟩, h2⟩
   refine ank.mpr ⟨x.toNat, anB.mpr ⟨anN.mpr (by omega), ?_⟩, by omega⟩
   simp only [Bool.or_eq_true, aof]
   rw [show ((x.toNat : Nat) : Int) = x by omega]
   exact h2
theorem tX {zj : Int -> Bool} {es : List Int} {a c : Int} : k6 zj es a c = -1 \/ k6 zj es a c ∈ bQ es a := by
 unfold k6
 cases e : (bQ es a).find? (fun x => zj x && decide (x ∈ bQ es c)) with
 | none => exact .inl rfl
 | some x => exact .inr (List.mem_of_find?_eq_some e)
theorem JR {es : List Int} (ht : eV es) {a c t u : Int} (a0 : 0 <= a) (a1 : a < es.length) (c0 : 0 <= c) (c1 : c < es.length) (hta : t = -1 \/ t ∈ bQ es a) (huc : u = -1 \/ u ∈ bQ es c) : JQ (P6 es t) (P6 es u) = xh es t u := by
 have key : JQ (P6 es t) (P6 es u) = true ↔ xh es t u = true := by
   unfold JQ xh
   simp only [aoR, aof, Bool.or_eq_true]
   constructor
   . rintro ⟨x, hx, hy⟩
     obtain ⟨⟨x0, x1⟩, h1⟩ := xV.mp hx
     obtain ⟨_, h2⟩ := xV.mp hy
     rcases h1 with h1 | h1
     . exact .inl (.inr (.inl h1))
     . rcases h2 with h2 | h2
       . exact .inl (.inr (.inr h2))
       . rcases Wm ht x0 x1 h1 h2 with z | z | z
         . exact .inl (.inl z)
         . exact .inr (.inr z)
         . exact .inr (.inl z)
   . have onA : ∀ {v : Int}, (v = -1 \/ v ∈ bQ es a) -> a ∈ P6 es v := fun h => xV.mpr ⟨⟨a0, a1⟩, h⟩
     have onC : ∀ {v : Int}, (v = -1 \/ v ∈ bQ es c) -> c ∈ P6 es v := fun h => xV.mpr ⟨⟨c0, c1⟩, h⟩
     rintro ((h | h | h) | (h | h))
     . subst h; exact ⟨a, onA hta, onA hta⟩
     . exact ⟨c, onC (.inl h), onC huc⟩
     . exact ⟨a, onA hta, onA (.inl h)⟩
     . rcases hta with z | z
       . exact ⟨c, onC (.inl z), onC huc⟩
       . exact ⟨a, onA (.inr z), onA (.inr (BU ht a0 a1 z h))⟩
     . rcases huc with z | z
       . exact ⟨a, onA hta, onA (.inl z)⟩
       . exact ⟨c, onC (.inr (BU ht c0 c1 z h)), onC (.inr z)⟩
 cases h1 : JQ (P6 es t) (P6 es u) <;> cases h2 : xh es t u
 . rfl
 . rw [h1, h2] at key; simp at key
 . rw [h1, h2] at key; simp at key
 . rfl
noncomputable def meW (ks : List Str) (es : List Int) (w v : bN) : Bool := (!decide (w.tgt = -1) && !decide (v.tgt = -1)) && xh es (qd ks es w) (qd ks es v)
theorem zu {ks : List Str} {es : List Int} (ht : eV es) {w v : bN} (w0 : 0 <= w.src) (w1 : w.src < es.length) (v0 : 0 <= v.src) (v1 : v.src < es.length) : JQ (GX ks es w.src w.tgt) (GX ks es v.src v.tgt) = meW ks es w v := by
 unfold GX meW
 by_cases h1 : w.tgt = -1
 . rw [amZ h1, anU h1]; rfl
 . rw [amV h1, anz h1]
   by_cases h2 : v.tgt = -1
   . rw [amZ h2, anU h2]
     unfold JQ
     simp
   . rw [amV h2, anz h2]
     exact JR ht w0 w1 v0 v1 tX tX
theorem afV {ks : List Str} {es : List Int} (w v : bN) : meW ks es w v = meW ks es v w := by
 unfold meW xh
 simp only [Bool.and_comm (!decide (w.tgt = -1))]
 congr 1
 have e1 : decide (qd ks es w = qd ks es v) = decide (qd ks es v = qd ks es w) := by simp [eq_comm]
 rw [e1, Bool.or_comm (decide (qd ks es w = -1)), Bool.or_comm (decide (qd ks es v ∈ bQ es (qd ks es w)))]
noncomputable def ajf : L3.D -> Int
 | .tup (_ :: _ :: _ :: _ :: .int t :: _) => t
 | _ => 0
noncomputable def lT (ln : List Int) (y : Int) : Nat := ln.findIdx (fun z => decide (z = y))
theorem JS {ln : List Int} {y : Int} (h : y ∈ ln) : lT ln y < ln.length := List.findIdx_lt_length_of_exists ⟨y, h, by simp⟩
theorem De {ln : List Int} {y : Int} (h : y ∈ ln) : ln[lT ln y]? = some y := by
 have hl := JS h
 have := List.findIdx_getElem (w := hl)
 rw [amW hl]
 exact congrArg some (am9 this)
theorem acT {ln : List Int} {y : Int} {i : Nat} (h : i < lT ln y) : ln[i]? ≠ some y := fun e => by
 have hl : i < ln.length := (anf.mp e).1
 have := List.not_of_lt_findIdx h
 rw [(anf.mp e).2] at this
 simp at this
theorem Mr {ln : List Int} (nd : ln.Nodup) {y : Int} {i : Nat} (hy : y ∈ ln) : lT ln y = i ↔ ln[i]? = some y := by
 constructor
 . rintro rfl; exact De hy
 . intro e
   have h1 := De hy
   have hl := JS hy
   have hi : i < ln.length := (anf.mp e).1
   rw [amW hl] at h1
   rw [amW hi] at e
   have e3 := (anj h1).trans (anj e).symm
   have np := List.pairwise_iff_getElem.mp nd
   rcases Nat.lt_trichotomy (lT ln y) i with z | z | z
   . exact absurd e3 (np _ _ hl hi z)
   . exact z
   . exact absurd e3.symm (np _ _ hi hl z)
noncomputable def A0 (ops : List Int) : L3.D -> Bool
 | .tup [.str k, .int m] => if k = "open" then decide (m ∈ ops) else if k = "shut" then !decide (m ∈ ops) else true
 | _ => true
noncomputable def iO (ops : List Int) (l : List L3.D) : Bool := l.all (A0 ops)
noncomputable def kC.Wy : kC -> Prop
 | .rY _ _ => True
 | .num mk _ _ _ _ => mk ∈ vI
theorem kC.Ok.mk {n : Nat} {bs : List Int} {a : kC} (h : a.Ok n bs) : a.Wy := by
 cases a with
 | rY op m => trivial
 | num mk b1 m1 b2 m2 => exact h.1
theorem Ms {mk : Str} (h : mk ∈ vI) : mk ≠ "open" /\ mk ≠ "shut" := by
 have : ∀ x ∈ vI, x ≠ "open" /\ x ≠ "shut" := by decide +kernel
 exact this mk h
theorem Hg (ops : List Int) (op : Bool) (m : Int) : A0 ops (cS (.rY op m)) = if op then decide (m ∈ ops) else !decide (m ∈ ops) := by
 cases op
 . show (if (if false = true then ("open" : Str) else "shut") = "open" then decide (m ∈ ops) else if (if false = true then ("open" : Str) else "shut") = "shut" then !decide (m ∈ ops) else true) = _
   rw [amV (by decide +kernel), amZ (by decide +kernel)]
   rfl
 . show (if (if true = true then ("open" : Str) else "shut") = "open" then decide (m ∈ ops) else if (if true = true then ("open" : Str) else "shut") = "shut" then !decide (m ∈ ops) else true) = _
   rw [amZ (by decide +kernel)]
   rfl
noncomputable def RH (ops : List Int) (sg : Str) (ln : List Int) (w : bN) : Bool := decide (w.sign = sg) && (decide (w.src ∈ ln) && iO ops w.asks)
noncomputable def RJ (ws : List bN) (ops : List Int) (sg : Str) (ln : List Int) (n : Nat) : List Nat := (List.range n).filter fun k => RH ops sg ln (ws.getD k w0)
noncomputable def JT (ws : List bN) (ops : List Int) (sg : Str) (ln : List Int) : List Int := b9 (fun k : Int => (lT ln (ws.getD k.toNat w0).src : Int)) ((RJ ws ops sg ln ws.length).map fun (k : Nat) => (k : Int))
noncomputable def JV (ws : List bN) (ops : List Int) (sg : Str) (m : Int) (n : Nat) : List Int := ((List.range n).filter fun k => decide ((ws.getD k w0).src = m) && (decide ((ws.getD k w0).sign = sg) && iO ops (ws.getD k w0).asks)).map fun (k : Nat) => (k : Int)
noncomputable def gsW (ws : List bN) (ops : List Int) (sg : Str) (ln : List Int) : List Int := ln.flatMap fun m => JV ws ops sg m ws.length
theorem go_eq {ws : List bN} {ops : List Int} {sg : Str} {ln : List Int} (nd : ln.Nodup) : JT ws ops sg ln = gsW ws ops sg ln := by
 unfold JT
 rw [iU]
 have e0 : (fun y : Nat => ((lT ln (ws.getD ((y : Int).toNat) w0).src : Nat) : Int)) = fun y : Nat => ((lT ln (ws.getD y w0).src : Nat) : Int) := by
   funext y; rw [anP]
 rw [e0]
 have hin : ∀ k ∈ RJ ws ops sg ln ws.length, (ws.getD k w0).src ∈ ln := fun k hk => by
   have := (anB.mp hk).2
   simp only [RH, anE, aof] at this
   exact this.2.1
 rw [wX (fun k : Nat => lT ln (ws.getD k w0).src) ln.length _ fun k hk => JS (hin k hk), List.map_flatMap]
 have el : ln = (List.range ln.length).map fun i => ln.getD i 0 := aoo fun i => by
   rw [anq]
   by_cases hi : i < ln.length
   . rw [an7 hi, amW hi]
     show _ = some (ln.getD i 0)
     rw [am4, amW hi]; rfl
   . rw [List.getElem?_eq_none (by omega), List.getElem?_eq_none (by simpa using hi)]; rfl
 unfold gsW
 conv => rhs; rw [el]
 rw [List.flatMap_map, aoF, aoF]
 congr 1
 refine an8 fun i hi => ?_
 have hi := anN.mp hi
 unfold JV RJ
 rw [List.filter_filter]
 congr 1
 refine List.filter_congr fun k _ => ?_
 have afX : ln[i]? = some (ln.getD i 0) := by
   rw [am4, amW hi]; rfl
 by_cases hs : (ws.getD k w0).src ∈ ln
 . have := Mr nd (i := i) hs
   have e2 : decide (lT ln (ws.getD k w0).src = i) = decide ((ws.getD k w0).src = ln.getD i 0) := by
     rw [decide_eq_decide, this, afX, Option.some.injEq]
     exact eq_comm
   rw [e2]
   unfold RH
   rw [anU hs, Bool.true_and]
 . unfold RH
   rw [anz hs]
   have : decide ((ws.getD k w0).src = ln.getD i 0) = false := anz fun e => hs (e ▸ ant afX)
   rw [this]
   simp
theorem Df (ws : List bN) (ops : List Int) (sg : Str) (ln : List Int) (n : Nat) : (RJ ws ops sg ln n).length <= n := by
 have := an3 (fun k => RH ops sg ln (ws.getD k w0)) (List.range n)
 rw [aoC] at this
 exact this
theorem RK (ws : List bN) (ops : List Int) (sg : Str) (ln : List Int) (n : Nat) : RJ ws ops sg ln (n + 1) = RJ ws ops sg ln n ++ (if RH ops sg ln (ws.getD n w0) = true then [n] else []) := by
 unfold RJ
 rw [aox, anZ, List.filter_cons, aoM]
theorem Mt (ws : List bN) (ops : List Int) (sg : Str) (m : Int) (n : Nat) : (JV ws ops sg m n).length <= n := by
 unfold JV
 rw [amY]
 have := an3 (fun k => decide ((ws.getD k w0).src = m) && (decide ((ws.getD k w0).sign = sg) && iO ops (ws.getD k w0).asks)) (List.range n)
 rw [aoC] at this
 exact this
theorem RL (ws : List bN) (ops : List Int) (sg : Str) (m : Int) (n : Nat) : JV ws ops sg m (n + 1) = JV ws ops sg m n ++ (if (decide ((ws.getD n w0).src = m) && (decide ((ws.getD n w0).sign = sg) && iO ops (ws.getD n w0).asks)) = true then [(n : Int)] else []) := by
 unfold JV
 rw [aox, anZ, List.filter_cons, aoM, aoU]
 congr 1
 split <;> rfl
theorem Wz (ws : List bN) (ops : List Int) (sg : Str) (ln : List Int) : (JT ws ops sg ln).length <= ws.length := by
 unfold JT
 rw [iT, amY]
 exact Df _ _ _ _ _
theorem JW {es : List Int} (ht : eV es) {x : Int} (h0 : 0 <= x) (h1 : x < es.length) : (x :: bQ es x).Nodup := by
 refine aoa.mpr ⟨fun h => ?_, ?_⟩
 . have := qc ht h0 h1 h
   omega
 . exact (zg ht (es.length + 1) h0 h1 (by omega)).imp fun h e => by omega
noncomputable def JX (ws : List bN) : Prop := ∀ w ∈ ws, ∃ l : List kC, w.asks = l.map cS /\ ∀ a ∈ l, a.Wy
noncomputable abbrev Ask := Str × Int × Int × Int × Int
noncomputable def Hh (q : Ask) : L3.D := .tup [.str q.1, .tup [.int q.2.1, .int q.2.2.1], .tup [.int q.2.2.2.1, .int q.2.2.2.2]]
noncomputable def okQ (bs : List Int) (q : Ask) : Prop := (q.2.1 = -1 \/ (0 <= q.2.1 /\ q.2.1 < bs.length)) /\ (q.2.2.2.1 = -1 \/ (0 <= q.2.2.2.1 /\ q.2.2.2.1 < bs.length))
noncomputable def hQ (bs : List Int) (q : Ask) : Bool := gM q.1 (bP q.2.1 q.2.2.1 bs) (bP q.2.2.2.1 q.2.2.2.2 bs)
noncomputable def OG (l : List L3.D) : List L3.D := l.filter fun d => !decide (d.at1.toS ∈ (["open", "shut"] : List Str))
noncomputable def JY : kC -> List Ask
 | .rY _ _ => []
 | .num mk b1 m1 b2 m2 => [(mk, b1, m1, b2, m2)]
theorem WB {n : Nat} {bs : List Int} {l : List kC} (h : ∀ a ∈ l, a.Ok n bs) : OG (l.map cS) = (l.flatMap JY).map Hh := by
 unfold OG
 induction l with
 | nil => rfl
 | cons a l ih =>
   have ih := ih fun q hq => h q (am2 _ hq)
   have ha := h a am0
   rw [ani, an2, aoU, ← ih]
   cases a with
   | rY op m =>
     rw [aop]
     . rfl
     . show ¬ (!decide ((if op = true then ("open" : Str) else "shut") ∈ (["open", "shut"] : List Str))) = true
       cases op <;> decide +kernel
   | num mk b1 m1 b2 m2 =>
     rw [aoe]
     . rfl
     . show (!decide (mk ∈ (["open", "shut"] : List Str))) = true
       have : ∀ x ∈ vI, (!decide (x ∈ (["open", "shut"] : List Str))) = true := by decide +kernel
       exact this mk ha.1
theorem WC {n : Nat} {bs : List Int} {l : List kC} (h : ∀ a ∈ l, a.Ok n bs) : ∀ q ∈ l.flatMap JY, okQ bs q := fun q hq => by
 obtain ⟨a, ha, hq⟩ := List.mem_flatMap.mp hq
 have hk := h a ha
 cases a with
 | rY op m => cases hq
 | num mk b1 m1 b2 m2 =>
   rw [anb.mp hq]
   exact hk.2
noncomputable def hD (vs : List Int) : L3.D -> Bool
 | .tup [.str mk, .tup [.int b1, .int m1], .tup [.int b2, .int m2]] => gM mk (bP b1 m1 vs) (bP b2 m2 vs)
 | _ => true
noncomputable def BX (vs : List Int) (w : bN) : Bool := w.asks.all (hD vs)
theorem acU {n : Nat} {bs vs : List Int} {l : List kC} (h : ∀ a ∈ l, a.Ok n bs) : (l.map cS).all (hD vs) = (l.flatMap JY).all (hQ vs) := by
 induction l with
 | nil => rfl
 | cons a l ih =>
   have ih := ih fun q hq => h q (am2 _ hq)
   rw [ani, ao1, an2, List.all_append, ih]
   congr 1
   cases a with
   | rY op m => rfl
   | num mk b1 m1 b2 m2 => exact (Bool.and_true _).symm
noncomputable def tY (n : Nat) (bs : List Int) (ws : List bN) : Prop := ∀ w ∈ ws, ∃ l : List kC, w.asks = l.map cS /\ l.length <= 2 /\ ∀ a ∈ l, a.Ok n bs
theorem tY.ok {n : Nat} {bs : List Int} {ws : List bN} (h : tY n bs ws) : JX ws := fun w hw => by
 obtain ⟨l, e, _, hl⟩ := h w hw
 exact ⟨l, e, fun a ha => (hl a ha).mk⟩
noncomputable def zv (l : List Int) (s : Int) : List Int := if s ∈ l then l else l ++ [s]
noncomputable def OI (l : List Int) : List (Key × L3.D) := l.map fun s => ((Sum.inl s : Key), L3.D.bl true)
theorem WD (l : List Int) (s : Int) : ((OI l).any fun kv => decide (kv.1 = Sum.inl s)) = decide (s ∈ l) := by
 unfold OI
 induction l with
 | nil => rfl
 | cons y l ih =>
   rw [ani, an4, ih]
   by_cases h : y = s
   . subst h; simp
   . have h' : ¬ s = y := fun e => h e.symm
     have h2 : ¬ (Sum.inl y : Key) = Sum.inl s := fun e => h (Sum.inl.inj e)
     simp [h', h2]
theorem WG (l : List Int) (s : Int) : yW (OI l) (.inl s) (.bl true) = OI (zv l s) := by
 unfold yW
 rw [WD]
 unfold zv
 by_cases h : s ∈ l
 . rw [amZ (anU h), amZ h]
   unfold OI
   rw [anF]
   refine an8 fun y _ => ?_
   show (if (Sum.inl y : Key) = Sum.inl s then ((Sum.inl y : Key), L3.D.bl true) else ((Sum.inl y : Key), L3.D.bl true)) = _
   split <;> rfl
 . rw [if_neg (by simpa using h), if_neg h]
   unfold OI
   rw [aoU]; rfl
theorem RM (l : List Int) : ((OI l).map (·.1)).map N7 = l.map L3.D.int := by
 unfold OI
 rw [anF, anF]
 rfl
theorem RN (l : List Int) (s : Int) : (zv l s).length <= l.length + 1 := by
 unfold zv
 split <;> simp
noncomputable def fsM (ws : List bN) (ops vs : List Int) (sg : Str) (es : List Int) (leaf : Int) : List Int := (JT ws ops sg (leaf :: bQ es leaf)).filter fun k => BX vs (ws.getD k.toNat w0)
noncomputable def U4 (ws : List bN) (ops vs : List Int) (sg : Str) (es : List Int) (acc : List Int) (leaf : Int) : List Int := match fsM ws ops vs sg es leaf with
 | [] => acc
 | k :: _ => zv acc k
noncomputable def OJ (ks : List Str) (x : Int) : Bool := decide (ks.getD x.toNat Str.empty = "leaf")
noncomputable def oq (ks : List Str) (ops : List Int) : List Int := ops.filter (OJ ks)
noncomputable def Hi (ws : List bN) (ops vs : List Int) (sg : Str) (es : List Int) (l : List Int) : List Int := l.foldl (U4 ws ops vs sg es) []
theorem WH (ws : List bN) (ops vs : List Int) (sg : Str) (es : List Int) (acc : List Int) (leaf : Int) : (U4 ws ops vs sg es acc leaf).length <= acc.length + 1 := by
 unfold U4
 split
 . omega
 . exact RN _ _
theorem Mu (ws : List bN) (ops vs : List Int) (sg : Str) (es : List Int) : ∀ l : List Int, (Hi ws ops vs sg es l).length <= l.length := by
 have gen : ∀ (l acc : List Int), (l.foldl (U4 ws ops vs sg es) acc).length <= acc.length + l.length := by
   intro l
   induction l with
   | nil => intro acc; simp
   | cons y l ih =>
     intro acc
     have h1 := WH ws ops vs sg es acc y
     have := ih (U4 ws ops vs sg es acc y)
     rw [aoJ, anr]; omega
 intro l
 have := gen l []
 simpa [Hi] using this
theorem RP (ws : List bN) (ops vs : List Int) (sg : Str) (es : List Int) (l : List Int) (x : Int) : Hi ws ops vs sg es (l ++ [x]) = U4 ws ops vs sg es (Hi ws ops vs sg es l) x := by
 unfold Hi; rw [List.foldl_append]; rfl
theorem Dg {ws : List bN} {ops : List Int} {sg : Str} {ln : List Int} {k : Int} (h : k ∈ JT ws ops sg ln) : 0 <= k /\ k < ws.length := by
 obtain ⟨i, hi, rfl⟩ := ank.mp (eU.mp h)
 have := anN.mp (anB.mp hi).1
 omega
theorem OL {α : Type} {p : α -> Bool} {l : List α} {j : Nat} {x : α} (h : l[j]? = some x) (hp : p x = true) (hn : ∀ y ∈ l.take j, p y = false) : ∃ r, l.filter p = x :: r := by
 have hj : j < l.length := (anf.mp h).1
 have e : l = l.take j ++ x :: l.drop (j + 1) := by
   have h2 := List.take_append_drop j l
   rw [aoD hj, (anf.mp h).2] at h2
   exact h2.symm
 refine ⟨(l.drop (j + 1)).filter p, ?_⟩
 conv => lhs; rw [e]
 rw [anZ, List.filter_eq_nil_iff.mpr (fun y hy => by rw [hn y hy]; decide), aoe hp]
 rfl
noncomputable def OO (h : Int -> Bool) (tp : Int -> Int) (tm : Int -> Int -> Bool) (s : List Int × List Int) (k : Int) : List Int × List Int :=
 if h k = true then (if s.2.any (tm (tp k)) = true then s else (s.1 ++ [k], s.2 ++ [tp k])) else (s.1 ++ [k], s.2)
structure KpI (h : Int -> Bool) (tp : Int -> Int) (tm : Int -> Int -> Bool) (R : Int -> Int -> Prop) (P : List Int) (s : List Int × List Int) : Prop where
 sub : s.1.Sublist P
 oV : s.2 = (s.1.filter h).map tp
 apart : ∀ a ∈ s.1, ∀ b ∈ s.1, a ≠ b -> h a = true -> h b = true -> tm (tp a) (tp b) = false
 over : ∀ x ∈ P, x ∉ s.1 -> h x = true /\ ∃ y ∈ s.1, R y x /\ h y = true /\ tm (tp x) (tp y) = true
theorem aaJ {h : Int -> Bool} {tp : Int -> Int} {tm : Int -> Int -> Bool} {R : Int -> Int -> Prop} (sy : ∀ a b, tm a b = tm b a) : ∀ (l P : List Int) (s : List Int × List Int), (P ++ l).Nodup -> (P ++ l).Pairwise R -> KpI h tp tm R P s -> KpI h tp tm R (P ++ l) (l.foldl (OO h tp tm) s)
 | [], P, s, _, _, I => by rw [anu]; exact I
 | x :: l, P, s, nd, pr, I => by
   have e : P ++ x :: l = (P ++ [x]) ++ l := by simp
   rw [e] at nd pr ⊢
   rw [aoJ]
   refine aaJ sy l (P ++ [x]) _ nd pr ?_
   have nx : x ∉ P := fun hx => by
     have := (anI.mp (anI.mp nd).1).2.2 x hx x (by simp)
     exact this rfl
   have rx : ∀ y ∈ P, R y x := fun y hy => (List.pairwise_append.mp (List.pairwise_append.mp pr).1).2.2 y hy x (by simp)
   have nc : x ∉ s.1 := fun hx => nx (I.sub.subset hx)
   have keep : (∀ z ∈ s.1, h x = true -> h z = true -> tm (tp x) (tp z) = false) -> (h x = true -> (s.1 ++ [x], s.2 ++ [tp x]) = (s.1 ++ [x], ((s.1 ++ [x]).filter h).map tp)) -> ∀ t, t = ((s.1 ++ [x]).filter h).map tp -> KpI h tp tm R (P ++ [x]) (s.1 ++ [x], t) := fun hz _ t ht => by
     refine ⟨I.sub.append (anC _), ht, fun a ha b hb ne ia ib => ?_, fun y hy hn => ?_⟩
     . rcases am3.mp ha with ha | ha
       . rcases am3.mp hb with hb | hb
         . exact I.apart a ha b hb ne ia ib
         . rw [anb.mp hb] at ib ⊢
           rw [sy]
           exact hz a ha ib ia
       . rw [anb.mp ha] at ia ne ⊢
         rcases am3.mp hb with hb | hb
         . exact hz b hb ia ib
         . exact absurd (anb.mp hb).symm ne
     . have hn' : y ∉ s.1 /\ y ≠ x := ⟨fun z => hn (am7 _ z), fun z => hn (amU _ (by rw [z]; simp))⟩
       rcases am3.mp hy with hy | hy
       . obtain ⟨h1, z, hz, h2⟩ := I.over y hy hn'.1
         exact ⟨h1, z, am7 _ hz, h2⟩
       . exact absurd (anb.mp hy) hn'.2
   unfold OO
   by_cases hx : h x = true
   . rw [amZ hx]
     by_cases ha : s.2.any (tm (tp x)) = true
     . rw [amZ ha]
       obtain ⟨t, ht, hm⟩ := aoR.mp ha
       rw [I.oV] at ht
       obtain ⟨y, hy, rfl⟩ := ank.mp ht
       obtain ⟨hy1, V0⟩ := anB.mp hy
       refine ⟨I.sub.trans (List.sublist_append_left _ _), I.oV, I.apart, fun z hz hn => ?_⟩
       rcases am3.mp hz with hz | hz
       . exact I.over z hz hn
       . rw [anb.mp hz]
         exact ⟨hx, y, hy1, rx y (I.sub.subset hy1), V0, hm⟩
     . rw [amV ha]
       refine keep (fun z hz _ hh => ?_) (fun _ => by rw [anZ, aoe hx]; simp [I.oV]) _ ?_
       . cases e : tm (tp x) (tp z) with
         | false => rfl
         | true => exact absurd (aoR.mpr ⟨tp z, by rw [I.oV]; exact ank.mpr ⟨z, anB.mpr ⟨hz, hh⟩, rfl⟩, e⟩) ha
       . rw [anZ, aoe hx]; simp [I.oV]
   . rw [amV hx]
     refine keep (fun z hz hh _ => absurd hh hx) (fun hh => absurd hh hx) _ ?_
     rw [anZ, aop hx]; simp [I.oV]
theorem Hj {g : Int -> Int} {l : List Int} (nd : l.Nodup) : (b9 g l).Pairwise fun a c => g a < g c \/ (g a = g c /\ lT l a < lT l c) := by
 have el : l = (List.range l.length).map fun i => l.getD i 0 := aoo fun i => by
   rw [anq]
   by_cases hi : i < l.length
   . rw [an7 hi, amW hi]
     show _ = some (l.getD i 0)
     rw [am4, amW hi]; rfl
   . rw [List.getElem?_eq_none (by omega), List.getElem?_eq_none (by simpa using hi)]; rfl
 have afY : ∀ i, i < l.length -> lT l (l.getD i 0) = i := fun i hi => by
   have hg : l[i]? = some (l.getD i 0) := by rw [am4, amW hi]; rfl
   exact (Mr nd (ant hg)).mpr hg
 have h1 : b9 g l = (b9 (fun i => g (l.getD i 0)) (List.range l.length)).map fun i => l.getD i 0 := by
   conv => lhs; rw [el]
   exact iU _ _
 rw [h1]
 refine List.pairwise_map.mpr ((vA List.pairwise_lt_range).imp_of_mem fun {i j} hi hj h => ?_)
 have hi := anN.mp (eU.mp hi)
 have hj := anN.mp (eU.mp hj)
 rw [afY i hi, afY j hj]
 exact h
theorem RQ (es : List Int) (t u : Int) : xh es t u = xh es u t := by
 unfold xh
 have e1 : decide (t = u) = decide (u = t) := by simp [eq_comm]
 rw [e1, Bool.or_comm (decide (t = -1)), Bool.or_comm (decide (u ∈ bQ es t))]
noncomputable def tZ (es : List Int) (ws : List bN) (k : Int) : Int := -((bQ es (iy ws k).src).length : Nat)
noncomputable def Hl (ks : List Str) (es : List Int) (ws : List bN) (l : List Int) : List Int × List Int := l.foldl (OO (rA ws) (fun k => qd ks es (iy ws k)) (xh es)) ([], [])
theorem RT (ks : List Str) (es : List Int) (ws : List bN) (l : List Int) (k : Int) : Hl ks es ws (l ++ [k]) = OO (rA ws) (fun k => qd ks es (iy ws k)) (xh es) (Hl ks es ws l) k := by
 unfold Hl; rw [List.foldl_append]; rfl
theorem WK {h : Int -> Bool} {tp : Int -> Int} {tm : Int -> Int -> Bool} (s : List Int × List Int) (k : Int) : (OO h tp tm s k).1.length <= s.1.length + 1 /\ (OO h tp tm s k).2.length <= s.2.length + 1 := by
 unfold OO
 split
 . split
   . omega
   . simp
 . simp
theorem Mv (ks : List Str) (es : List Int) (ws : List bN) : ∀ l : List Int, (Hl ks es ws l).1.length <= l.length /\ (Hl ks es ws l).2.length <= l.length := by
 have gen : ∀ (l : List Int) (s : List Int × List Int), (l.foldl (OO (rA ws) (fun k => qd ks es (iy ws k)) (xh es)) s).1.length <= s.1.length + l.length /\ (l.foldl (OO (rA ws) (fun k => qd ks es (iy ws k)) (xh es)) s).2.length <= s.2.length + l.length := by
   intro l
   induction l with
   | nil => intro s; simp
   | cons k l ih =>
     intro s
     have h1 := WK (h := rA ws) (tp := fun k => qd ks es (iy ws k)) (tm := xh es) s k
     have h2 := ih (OO (rA ws) (fun k => qd ks es (iy ws k)) (xh es) s k)
     rw [aoJ, anr]
     omega
 intro l
 have := gen l ([], [])
 simpa [Hl] using this
theorem WL {ks : List Str} {es : List Int} {ws : List bN} {row : List Int} (nd : row.Nodup) :
   KpI (rA ws) (fun k => qd ks es (iy ws k)) (xh es) (fun a c => tZ es ws a < tZ es ws c \/ (tZ es ws a = tZ es ws c /\ lT row a < lT row c)) (b9 (tZ es ws) row) (Hl ks es ws (b9 (tZ es ws) row)) := by
 have := aaJ (h := rA ws) (tp := fun k => qd ks es (iy ws k)) (R := fun a c => tZ es ws a < tZ es ws c \/ (tZ es ws a = tZ es ws c /\ lT row a < lT row c)) (RQ es) (b9 (tZ es ws) row) [] ([], []) (by rw [aoc]; exact (jY row).nodup_iff.mpr nd) (by rw [aoc]; exact Hj nd) ⟨.slnil, rfl, fun a ha => (by cases ha), fun x hx => (by cases hx)⟩
 rw [aoc] at this
 exact this
noncomputable def t6 (ks : List Str) (es : List Int) (ws : List bN) (row : List Int) : List Int := sortI (Hl ks es ws (b9 (tZ es ws) row)).1
noncomputable def BZ (ws : List bN) (ops vs : List Int) (sg : Str) (es l : List Int) : List Int := l.flatMap fun leaf => (fsM ws ops vs sg es leaf).take 1
theorem RV (ws : List bN) (ops vs : List Int) (sg : Str) (es l : List Int) (x : Int) : BZ ws ops vs sg es (l ++ [x]) = BZ ws ops vs sg es l ++ (fsM ws ops vs sg es x).take 1 := by
 unfold BZ
 rw [aoG, an2, List.flatMap_nil, anu]
theorem Dh (ws : List bN) (ops vs : List Int) (sg : Str) (es : List Int) : ∀ l : List Int, (BZ ws ops vs sg es l).length <= l.length
 | [] => am5 _
 | x :: l => by
   have := Dh ws ops vs sg es l
   show (List.flatMap _ (x :: l)).length <= _
   rw [an2, anm, aor, anr]
   unfold BZ at this
   omega
theorem RW {l : List Int} {s x : Int} : x ∈ zv l s ↔ x ∈ l \/ x = s := by
 unfold zv
 split
 . constructor
   . exact .inl
   . rintro (h | rfl)
     . exact h
     . assumption
 . rw [am3, anb]
theorem JZ {l : List Int} {s : Int} (h : l.Nodup) : (zv l s).Nodup := by
 unfold zv
 split
 . exact h
 . rename_i hn
   exact anI.mpr ⟨h, by simp, fun a ha b hb e => hn (by rw [← anb.mp hb, ← e]; exact ha)⟩
theorem xW (ws : List bN) (ops vs : List Int) (sg : Str) (es : List Int) : ∀ (l acc : List Int), acc.Nodup -> (l.foldl (U4 ws ops vs sg es) acc).Nodup /\ ∀ x, x ∈ l.foldl (U4 ws ops vs sg es) acc ↔ x ∈ acc \/ x ∈ BZ ws ops vs sg es l
 | [], acc, h => ⟨h, fun x => ⟨.inl, fun z => by
     rcases z with z | z
     . exact z
     . cases z⟩⟩
 | y :: l, acc, h => by
   rw [aoJ]
   have e : BZ ws ops vs sg es (y :: l) = (fsM ws ops vs sg es y).take 1 ++ BZ ws ops vs sg es l := by unfold BZ; rw [an2]
   rw [e]
   unfold U4
   generalize fsM ws ops vs sg es y = f
   cases f with
   | nil =>
     obtain ⟨a, c⟩ := xW ws ops vs sg es l acc h
     exact ⟨a, fun x => by rw [List.take_nil, aoc]; exact c x⟩
   | cons k f =>
     obtain ⟨a, c⟩ := xW ws ops vs sg es l (zv acc k) (JZ h)
     refine ⟨a, fun x => (c x).trans ?_⟩
     rw [RW, List.take_succ_cons, List.take_zero, am3, anb, or_assoc]
theorem RX (ws : List bN) (ops vs : List Int) (sg : Str) (es l : List Int) : (Hi ws ops vs sg es l).Nodup := (xW ws ops vs sg es l [] an5).1
theorem acV {ws : List bN} {ops vs : List Int} {sg : Str} {es l : List Int} {x : Int} : x ∈ Hi ws ops vs sg es l ↔ x ∈ BZ ws ops vs sg es l := by
 have := (xW ws ops vs sg es l [] an5).2 x
 unfold Hi
 rw [this]
 exact ⟨fun z => z.resolve_left (by simp), .inr⟩
structure afZ (ws : List bN) (ops vs : List Int) (sg : Str) (es : List Int) (k : Int) : Prop where
 k0 : 0 <= k
 k1 : k < ws.length
 sign : (iy ws k).sign = sg
 src : (iy ws k).src ∈ ops
 fit : iO ops (iy ws k).asks = true
 hold : BX vs (iy ws k) = true
theorem J1 {es os : List Int} : ∀ (j : Nat) {x : Int}, x ∈ w9 es os j -> x = 0 \/ es.getD x.toNat 0 ∈ w9 es os j
 | 0, x, h => .inl (by simpa [w9] using h)
 | j + 1, x, h => by
   rw [w9] at h ⊢
   split at h
   . rename_i hc
     rw [amZ hc]
     rcases am3.mp h with h | h
     . exact (J1 j h).imp id fun z => am7 _ z
     . rw [anb.mp h]
       exact .inr (am7 _ hc.1)
   . rename_i hc
     rw [amV hc]
     exact J1 j h
theorem RZ {es ops : List Int} (ht : eV es) (up : ∀ x ∈ ops, x = 0 \/ es.getD x.toNat 0 ∈ ops) (hb : ∀ x ∈ ops, 0 <= x /\ x < es.length) : ∀ (n : Nat) {x y : Int}, x < n -> x ∈ ops -> y ∈ bQ es x -> y ∈ ops
 | 0, x, y, hn, hx, _ => absurd (hb x hx).1 (by omega)
 | n + 1, x, y, hn, hx, hy => by
   obtain ⟨x0, x1⟩ := hb x hx
   rw [JM ht x0 x1] at hy
   split at hy
   . cases hy
   . rename_i hk
     have ha := ht.at x0 x1
     have he : es.getD x.toNat 0 ∈ ops := (up x hx).resolve_left fun z => by subst z; omega
     rcases am1.mp hy with rfl | hy
     . exact he
     . exact RZ ht up hb n (by omega) he hy
theorem af0 {ws : List bN} {ops vs : List Int} {sg : Str} {es l : List Int} {k : Int} (ht : eV es) (up : ∀ x ∈ ops, x = 0 \/ es.getD x.toNat 0 ∈ ops) (hb : ∀ x ∈ ops, 0 <= x /\ x < es.length) (hl : ∀ x ∈ l, x ∈ ops) (h : k ∈ BZ ws ops vs sg es l) : afZ ws ops vs sg es k := by
 obtain ⟨leaf, hm, hk⟩ := List.mem_flatMap.mp h
 have hk := aoQ hk
 obtain ⟨hg, hr⟩ := anB.mp hk
 obtain ⟨k0, k1⟩ := Dg hg
 obtain ⟨i, hi, rfl⟩ := ank.mp (eU.mp hg)
 have N1 : RH ops sg (leaf :: bQ es leaf) (ws.getD i w0) = true := (anB.mp hi).2
 unfold RH at N1
 rw [anE, anE] at N1
 obtain ⟨g1, g2, g3⟩ := N1
 refine ⟨k0, k1, am9 g1, ?_, g3, hr⟩
 rcases am1.mp (am9 g2) with z | z
 . show (ws.getD i w0).src ∈ ops
   rw [z]; exact hl leaf hm
 . obtain ⟨l0, l1⟩ := hb leaf (hl leaf hm)
   exact RZ ht up hb es.length (by omega) (hl leaf hm) z
theorem WM (l : List Int) : cutD l none (some 1) = l.take 1 := by
 unfold cutD
 cases l with
 | nil => simp
 | cons x l =>
   have e1 : HT.vf (x :: l).length 0 none = 0 := rfl
   have e2 : HT.vf (x :: l).length (x :: l).length (some 1) = 1 := by
     unfold HT.vf
     simp
   rw [e1, e2]
   rfl
theorem getD_map {α β : Type} (f : α -> β) (l : List α) (i : Nat) (d : α) (e : β) (h : i < l.length) : (l.map f).getD i e = f (l.getD i d) := by
 rw [am4, am4, anq, amW h]
 rfl
structure R0 (es : List Int) (ws : List bN) (row : List Int) (ku : List (List Int)) (fd : List Int) : Prop where
 sub : ∀ x ∈ fd, x ∈ row
 len : fd.length <= row.length
 nd : fd.Nodup
 apart : ∀ x ∈ fd, ∀ y ∈ fd, x < y -> JQ (ku.getD x.toNat []) (ku.getD y.toNat []) = false
 over : ∀ x ∈ row, x ∈ fd \/ ∃ y ∈ fd, (bQ es (iy ws x).src).length <= (bQ es (iy ws y).src).length /\ JQ (ku.getD x.toNat []) (ku.getD y.toNat []) = true
theorem R1 {ks : List Str} {es : List Int} {ws : List bN} {row : List Int} (ht : eV es) (rnd : row.Nodup) (rin : ∀ x ∈ row, 0 <= x /\ x < ws.length) (xD : ∀ w ∈ ws, 0 <= w.src /\ w.src < es.length) : R0 es ws row (ws.map fun w => GX ks es w.src w.tgt) (t6 ks es ws row) := by
 have KP := WL (ks := ks) (es := es) (ws := ws) rnd
 have hfm : ∀ x, x ∈ t6 ks es ws row ↔ x ∈ (Hl ks es ws (b9 (tZ es ws) row)).1 := fun x => N4
 have NQ : ∀ x ∈ t6 ks es ws row, x ∈ row := fun x hx => eU.mp (KP.sub.subset ((hfm x).mp hx))
 have hsg : ∀ {k : Int}, 0 <= k -> k < ws.length -> (ws.map fun w => GX ks es w.src w.tgt).getD k.toNat [] = GX ks es (iy ws k).src (iy ws k).tgt := fun {k} k0 k1 => getD_map _ _ _ w0 _ (by omega)
 refine ⟨NQ, ?_, (sortI_perm _).nodup_iff.mpr (((jY row).nodup_iff.mpr rnd).sublist KP.sub), fun x hx y hy lt => ?_, fun x hx => ?_⟩
 . unfold t6
   rw [BP]
   have := KP.sub.length_le
   rw [iT] at this
   exact this
 . obtain ⟨x0, x1⟩ := rin x (NQ x hx)
   obtain ⟨y0, y1⟩ := rin y (NQ y hy)
   obtain ⟨p0, p1⟩ := xD _ (iz x0 x1)
   obtain ⟨q0, q1⟩ := xD _ (iz y0 y1)
   rw [hsg x0 x1, hsg y0 y1, zu ht p0 p1 q0 q1]
   unfold meW
   cases h1 : (!decide ((iy ws x).tgt = -1)) with
   | false => rfl
   | true =>
     cases h2 : (!decide ((iy ws y).tgt = -1)) with
     | false => rfl
     | true => exact KP.apart x ((hfm x).mp hx) y ((hfm y).mp hy) (by omega) h1 h2
 . by_cases hn : x ∈ t6 ks es ws row
   . exact .inl hn
   refine .inr ?_
   obtain ⟨h1, y, hy, hR, h2, h3⟩ := KP.over x (eU.mpr hx) fun z => hn ((hfm x).mpr z)
   have hyr : y ∈ row := eU.mp (KP.sub.subset hy)
   obtain ⟨x0, x1⟩ := rin x hx
   obtain ⟨y0, y1⟩ := rin y hyr
   refine ⟨y, (hfm y).mpr hy, ?_, ?_⟩
   . unfold tZ at hR
     omega
   . obtain ⟨p0, p1⟩ := xD _ (iz x0 x1)
     obtain ⟨q0, q1⟩ := xD _ (iz y0 y1)
     rw [hsg x0 x1, hsg y0 y1, zu ht p0 p1 q0 q1]
     unfold meW
     unfold rA at h1 h2
     rw [h1, h2]
     exact h3
noncomputable abbrev xX : Stmt := top 34
noncomputable abbrev Di : Type := Int × Int
noncomputable def gT : Di -> List L3.D := fun (c, s) => [.int c, .int s]
noncomputable def gU : Di -> Prop := fun (c, s) => True
noncomputable def gW : Di -> T := fun (c, s) => (.sh (.int (dO c s)) : T)
structure WN (X : Cx) (CL : Str -> Addr) : Prop extends bK X where
 dY : Ln X 0 "cell"
 acW : Ln X 1 "salt"
 bz : Ln X 2 "mixed"
theorem WO {X : Cx} {CL : Str -> Addr} {b : Bx} (E : WN X CL) (c s) (h : gU (c, s)) :
   az X CL b xX ["cell", "salt", "mixed"] (gT (c, s)) (gW (c, s)) := by
 dsimp only [az, gU, gT, gW] at h ⊢
 refine aW E.g E.bz (aN (bG (ah (rS (ah (fK (ah (bG (aD E.dY) (ah aj) (by decide))) (aD E.acW))) (ah aj) (.inr ⟨by decide, by decide⟩))) (ah aj) (by decide)) (t2 := .sh (.int (mx1 c s))) rfl) ?_
 obtain ⟨m0, m1⟩ := afS c s
 refine aU (bG (ah (rS (aD E.bz) (aD E.bz) (.inl ⟨by omega, by omega⟩))) (ah aj) (by decide)) rfl
theorem zx : iS (ao xX) ([("cell", av), ("salt", av), ("mixed", av)]) = true := by decide +kernel
theorem Ho : aJ ["cell", "salt", "mixed"] ["cell", "salt"] (ao xX) := aQ
noncomputable abbrev qe : Stmt := top 29
noncomputable abbrev vK : Type := List Int × Int
noncomputable def fS : vK -> List L3.D := fun (ns, j) => [.lst (ns.map .int), .int j]
noncomputable def fU : vK -> Prop := fun (ns, j) => 0 <= j
noncomputable def fV : vK -> T := fun (ns, j) => (.sh (.int (c7 ns j)) : T)
structure OQ (X : Cx) (CL : Str -> Addr) : Prop extends bK X where
 bT : Ln X 0 "script"
 lO : Ln X 1 "k"
 cK : Gl X "len"
 cL : X.mg "len" = none
theorem OS {X : Cx} {CL : Str -> Addr} {b : Bx} (E : OQ X CL) (ns j) (h : fU (ns, j)) :
   az X CL b qe ["script", "k"] (fS (ns, j)) (fV (ns, j)) := by
 dsimp only [az, fU, fS, fV] at h ⊢
 refine cQ (Gy (aD E.lO) (ah (sW E.cL (aD E.bT) E.cK))).1 (fun hp => ?_) (fun hp => ?_)
 . have e : j < ns.length := by simpa using of_decide_eq_true hp
   refine aU (dz (aP (aD E.bT) (aD E.lO) (fQ h e)) rfl) ?_
   show T.sh _ = T.sh (.int (c7 ns j))
   rw [c7, amZ e]
 . have e : ¬ j < ns.length := by simpa using of_decide_eq_false hp
   refine au (aU aj ?_)
   show T.sh _ = T.sh (.int (c7 ns j))
   rw [c7, amV e]
theorem r6 : iS (ao qe) ([("script", av), ("k", av), ("len", aB)]) = true := by decide +kernel
theorem zy : aJ ["script", "k"] ["script", "k"] (ao qe) := aQ
noncomputable abbrev xY : Stmt := top 35
noncomputable abbrev Dj : Type := List Int × Int
noncomputable def gX : Dj -> List L3.D := fun (es, m) => [.lst (es.map .int), .int m]
noncomputable def dg : Dj -> Prop := fun (es, m) => eV es /\ 0 <= m /\ m < es.length /\ es.length <= 1000
noncomputable def gY : Dj -> T := fun (es, m) => (.lst (((bQ es m).map .int).map T.sh) : T)
structure WQ (X : Cx) (CL : Str -> Addr) : Prop extends bK X where
 cB : Ln X 0 "elders"
 eW : Ln X 1 "mood"
 aO : Ln X 2 "found"
 R3 : Ln X 3 "at"
theorem WR {X : Cx} {CL : Str -> Addr} {b : Bx} (E : WQ X CL) (es m) (h : dg (es, m)) :
   az X CL b xY ["elders", "mood", "found", "at"] (gX (es, m)) (gY (es, m)) := by
 dsimp only [az, dg, gX, gY] at h ⊢
 obtain ⟨ht, h0, h1, hlen⟩ := h
 refine aW E.g E.aO (dM dJ (ans _)) ?_
 refine aW E.g E.R3 (dz (aP (aD E.cB) (aD E.eW) (fQ h0 h1)) rfl) ?_
 have hm := ht.at h0 h1
 refine L8 E.g (fun n δ => ∃ (k : Int) (l : List Int), δ = [some (.sh (.lst (es.map .int))), some (.sh (.int m)), some (.lst ((l.map .int).map T.sh)), some (.sh (.int k))] /\ -1 <= k /\ k < n /\ k < es.length /\ l ++ vg n es k = bQ es m /\ l.length + n <= es.length + 1) (es.length + 1)
   ⟨es.getD m.toNat 0, [], rfl, hm.1, by omega, by omega, rfl, by simp⟩ ?_
 rintro n δ ⟨k, l, rfl, k0, k1, k2, k3, k4⟩
 refine ⟨_, _, (kX (aD E.R3) (ah (dB (ah aj)))).1, fun hp => ?_, fun hp => ?_⟩
 . have hk : ¬ k = -1 := by simpa using hp
   have ha := ht.at (k := k) (by omega) k2
   cases n with
   | zero => omega
   | succ n =>
     refine kD E.aO.1 rfl (v_ E.R3.1) rfl (by simp; omega) ?_
     refine aW E.g E.R3 (dz (aP (aD E.cB) (aD E.R3) (fQ (by omega) k2)) rfl) ?_
     refine au ⟨n, Nat.lt_succ_self _, es.getD k.toNat 0, l ++ [k], ?_, ha.1, by omega, by omega, ?_, by simp; omega⟩
     . show [_, _, some (T.lst (((l.map D.int).map T.sh) ++ [T.sh (.int k)])), _] = _
       simp
     . rw [← k3, vg, amV hk, am8]
       rfl
 . have hk : k = -1 := by simpa using hp
   subst hk
   have e : l = bQ es m := by
     rw [← k3]
     cases n with
     | zero => rw [vg, anu]
     | succ n => rw [vg, amZ rfl, anu]
   subst e
   exact aU (vM E.aO.1) rfl
theorem t7 : iS (ao xY) ([("elders", av), ("mood", av), ("found", av), ("at", av)]) = true := by decide +kernel
theorem Hq : aJ ["elders", "mood", "found", "at"] ["elders", "mood"] (ao xY) := aQ
noncomputable abbrev t8 : Stmt := top 36
noncomputable abbrev zA : Type := List Int
noncomputable def m8 : zA -> List L3.D := fun s => [.lst (s.map .int)]
noncomputable def m9 : zA -> Prop := fun s => s.length <= 1000
noncomputable def ng : zA -> T := fun s => (.lst (((kB s).map .int).map T.sh) : T)
structure R4 (X : Cx) (CL : Str -> Addr) : Prop extends bK X where
 bT : Ln X 0 "script"
 iX : Ln X 1 "many"
 cB : Ln X 2 "elders"
 lO : Ln X 3 "k"
 qf : Ln X 4 "roads"
 cM : Gl X "_law_mixed"
 bU : Gl X "_law_cell_at"
 cY : Gl X "range"
 cN : Gl X "_law_chain"
 cK : Gl X "len"
 iA : Fc X CL "_law_mixed" 1 2 gT gU gW
 d8 : Fc X CL "_law_cell_at" 1 2 fS fU fV
 cZ : X.mg "range" = none
 iB : Fc X CL "_law_chain" 1 2 gX dg gY
 cL : X.mg "len" = none
theorem R5 {X : Cx} {CL : Str -> Addr} {b : Bx} (E : R4 X CL) (s) (h : m9 s) :
   az X CL b t8 ["script", "many", "elders", "k", "roads"] (m8 s) (ng s) := by
 dsimp only [az, m9, m8, ng] at h ⊢
 have c0 := C7 (c7 s 0) 2
 refine aW E.g E.iX (aN (fK (ah aj) (ah (bG (ah (c_ ((c7 s 0, 2)) E.iA E.cM (ai (ah (c_ ((s, 0)) E.d8 E.bU (ai (aD E.bT) (ai (ah aj) aC)) (show (0 : Int) <= 0 by omega) rfl)) (ai (ah aj) aC)) (trivial) rfl)) (ah aj) (by decide)))) (t2 := .sh (.int (cntK s))) rfl) ?_
 refine aW E.g E.cB (kE (aM (dB (ah aj)) cR) (aL rfl)) ?_
 obtain ⟨k0, k1⟩ := Ry s
 refine eZ E.g E.lO (fun j δ => ∃ o5, δ = [some (.sh (.lst (s.map .int))), some (.sh (.int (cntK s))), some (.lst (((rq s j).map .int).map T.sh)), (if j = 0 then none else some (.sh (.int ((j : Int) - 1)))), o5])
   (fP E.cZ (ah (oG (aD E.iX) (ah aj))) (by omega) E.cY) ⟨_, rfl⟩ (fun j δ ⟨_, e⟩ => by subst e; exact amX rfl) ?turn ?fin
 case turn =>
   rintro j d δ hj ⟨o5, rfl⟩
   obtain ⟨rfl, xS⟩ := jk hj
   rw [aoj]
   obtain ⟨hl, xB⟩ := C9 s j
   have ht := xB.1
   obtain ⟨r1, r2, r3⟩ := w4 (k := j) ht hl.symm
   have Qe : rq s (j + 1) = rq s j ++ [ldM s (rq s j) j] := rfl
   show fF X CL b _ _ { nx := fun δ => ∃ o5, δ = [_, _, some (.lst (((rq s (j + 1)).map .int).map T.sh)), (if j + 1 = 0 then none else some (.sh (.int (((j + 1 : Nat) : Int) - 1)))), o5], rt := _, bk := _, ct := _ }
   rw [Qe, amV (show ¬ (j + 1 = 0) by omega), show ((j + 1 : Nat) : Int) - 1 = (j : Int) by omega]
   generalize rq s j = es at hl ht r1 r2 r3 ⊢
   have hcl : (bQ es (j : Int)).length <= es.length + 1 := tR _ _ _
   refine aW E.g E.qf (tF (ds := [.int (j : Int)]) (Jz := (bQ es (j : Int)).map .int) (cF (ds := [.int (j : Int)]) (dM (gC (v_ E.lO.1) dJ) (aL rfl)))
     (cF (c_ (es, (j : Int)) E.iB E.cN (ai (vL E.cB.1) (ai (aD E.lO) aC)) (show eV es /\ (0 : Int) <= j /\ (j : Int) < es.length /\ es.length <= 1000 from ⟨ht, by omega, by omega, by omega⟩) (by show (T.lst _).clean = true; rw [iR]; exact oM _))) rfl (cj _) (anY (cA (by simp; omega)))) ?_
   have er : ([L3.D.int (j : Int)] ++ (bQ es (j : Int)).map L3.D.int) = ([(j : Int)] ++ bQ es j).map L3.D.int := rfl
   rw [er]
   have hlr : (([(j : Int)] ++ bQ es j).map L3.D.int).length = ([(j : Int)] ++ bQ es j).length := by simp
   refine BI (fun δ => δ = [some (.sh (.lst (s.map .int))), some (.sh (.int (cntK s))), some (.lst ((es.map .int).map T.sh)), some (.sh (.int j)), some (.lst (((cJ es j).map .int).map T.sh))])
     (aas (ah (cT hlr E.cL (vL E.qf.1) E.cK)) (ah aj)).1 (fun hp => ?_) (fun hp => ?_) ?_
   . have e : (12 : Int) < (([(j : Int)] ++ bQ es j).length : Nat) := am9 hp
     refine aW E.g E.qf (yQ (vL E.qf.1) (cj _) (xP (ah aj)) xO) (au ?_)
     rw [GH]
     unfold cJ
     rw [amZ e]
     rfl
   . have e : ¬ (12 : Int) < (([(j : Int)] ++ bQ es j).length : Nat) := anc hp
     refine au ?_
     unfold cJ
     rw [amV e]
     rfl
   rintro δ rfl
   have hl2 : ((cJ es j).map L3.D.int).length = (cJ es j).length := by simp
   have b1 := anp (dO (c7 s ((j : Int) + 1)) (3 + (j : Int))) (b := ((cJ es j).length : Nat)) (by omega)
   have b2 := anl (dO (c7 s ((j : Int) + 1)) (3 + (j : Int))) (b := ((cJ es j).length : Nat)) (by omega)
   have est : ((es.map L3.D.int).map T.sh) ++ [T.sh (.int (ldM s es j))] = ((es ++ [ldM s es j]).map L3.D.int).map T.sh := by simp
   refine kD E.cB.1 rfl (aN (dz (aP (vL E.qf.1) (ah (bG (ah (c_ ((c7 s ((j : Int) + 1), 3 + (j : Int))) E.iA E.cM (ai (ah (c_ ((s, (j : Int) + 1)) E.d8 E.bU (ai (aD E.bT) (ai (ah (fK (aD E.lO) (ah aj))) aC)) (show (0 : Int) <= (j : Int) + 1 by omega) rfl)) (ai (ah (fK (ah aj) (aD E.lO))) aC)) (trivial) rfl)) (ah (cT (hl2) E.cL (vL E.qf.1) E.cK)) (by omega))) (fQ b1 b2)) rfl) (t2 := .sh (.int (ldM s es j))) rfl) rfl (by simp; omega) (au ?_)
   rw [est]
   exact ⟨_, rfl⟩
 case fin =>
   rintro δ ⟨o5, rfl⟩
   refine aU (vM E.cB.1) ?_
   have e : (b8 0 (cntK s - 1).toNat).length = (cntK s - 1).toNat := by simp [b8]
   rw [e]
   rfl
theorem fG : iS (ao t8) ([("script", av), ("many", av), ("elders", av), ("k", av), ("roads", av), ("_law_mixed", aB), ("_law_cell_at", aB), ("range", aB), ("_law_chain", aB), ("len", aB)]) = true := by decide +kernel
theorem B3 : aJ ["script", "many", "elders", "k", "roads"] ["script"] (ao t8) := aQ
noncomputable abbrev xZ : Stmt := top 37
noncomputable abbrev Dk : Type := List Int
noncomputable def qg : Dk -> List L3.D := fun s => [.lst (s.map .int)]
noncomputable def qh : Dk -> Prop := fun s => s.length <= 1000
noncomputable def qi : Dk -> T := fun s => (tU (tT s (kB s) (kB s).length) (kB s) (zl s (kB s) (kB s).length) (vH s (kB s) (kB s).length) : T)
structure WT (X : Cx) (CL : Str -> Addr) : Prop extends bK X where
 bT : Ln X 0 "script"
 cB : Ln X 1 "elders"
 zB : X.env.kindOf "elders" = some .cell
 nh : Ln X 2 "kinds"
 lU : Ln X 3 "starts"
 aR : Ln X 4 "opens"
 lO : Ln X 5 "k"
 k_k : X.env.kindOf "k" = some .cell
 bz : Ln X 6 "mixed"
 vN : Ln X 7 "mine"
 A1 : Gl X "_law_elders"
 cY : Gl X "range"
 cK : Gl X "len"
 cM : Gl X "_law_mixed"
 bU : Gl X "_law_cell_at"
 R6 : Fc X CL "_law_elders" 2 1 m8 m9 ng
 cZ : X.mg "range" = none
 cL : X.mg "len" = none
 iA : Fc X CL "_law_mixed" 1 2 gT gU gW
 d8 : Fc X CL "_law_cell_at" 1 2 fS fU fV
theorem WU {X : Cx} {CL : Str -> Addr} {b : Bx} (E : WT X CL) (s) (h : qh s) :
   az X CL b xZ ["script", "elders", "kinds", "starts", "opens", "k", "mixed", "mine"] (qg s) (qi s) := by
 dsimp only [az, qh, qg, qi] at h ⊢
 refine aW E.g E.cB (aN (c_ (s) E.R6 E.A1 (ai (aD E.bT) aC) (h) (bA _)) (t2 := .lst (((kB s).map .int).map T.sh)) rfl) ?_
 obtain ⟨n1, n2, xB⟩ := Ml s
 generalize kB s = es at n1 n2 xB ⊢
 refine aW E.g E.nh (dM dJ (ans _)) ?_
 refine aW E.g E.lU (dM dJ (ans _)) ?_
 refine aW E.g E.aR (dM dJ (ans _)) ?_
 refine eZ E.g E.lO (fun j δ => ∃ o5 o6 o7, δ = [some (.sh (.lst (s.map .int))), some (.lst ((es.map .int).map T.sh)), some (.lst (((tT s es j).map .str).map T.sh)), some (.lst (((zl s es j).map .int).map T.sh)), some (.lst (((vH s es j).map .int).map T.sh)), o5, o6, o7])
   (fP E.cZ (ah (cT (amY ..) E.cL (vL E.cB.1) E.cK)) (by omega) E.cY) ⟨_, _, _, rfl⟩ (fun j δ ⟨_, _, _, e⟩ => by subst e; exact amX rfl) ?turn ?fin
 case turn =>
   rintro j d δ hj ⟨o5, o6, o7, rfl⟩
   obtain ⟨rfl, xS⟩ := jk hj
   rw [aoj]
   refine aW E.g E.bz (aN (c_ ((c7 s (j : Int), 101 + (j : Int))) E.iA E.cM (ai (ah (c_ ((s, (j : Int))) E.d8 E.bU (ai (aD E.bT) (ai (aD E.lO) aC)) (show (0 : Int) <= (j : Int) by omega) rfl)) (ai (ah (fK (ah aj) (aD E.lO))) aC)) (trivial) rfl) (t2 := .sh (.int (P7 s j))) rfl) ?_
   have hin : (((b8 0 (es.length : Int).toNat).filter fun d => decide (es.getD d.yP.toNat 0 = (j : Int))).map fun d => T.sh d) = ((BW es (j : Int)).map L3.D.int).map T.sh := by
     unfold b8 BW
     rw [List.filter_map, anF, anF, anF, anP]
     have e1 : ((fun d : L3.D => decide (es.getD d.yP.toNat 0 = (j : Int))) ∘ fun i : Nat => L3.D.int (0 + (i : Int))) = fun i : Nat => decide (es.getD i 0 = (j : Int)) := by
       funext i
       show decide (es.getD (0 + (i : Int)).toNat 0 = (j : Int)) = _
       rw [aoj, anP]
     rw [e1]
     congr 1
     funext i
     show T.sh (.int (0 + (i : Int))) = T.sh (.int i)
     rw [aoj]
   refine rV (p := fun d => decide (es.getD d.yP.toNat 0 = (j : Int))) (gg := fun d => T.sh d) E.g E.vN (cI (.cons E.cB.1 (.inl E.zB) (.cons E.lO.1 (.inl E.k_k) .nil)) (by decide +kernel)) (fP E.cZ (ah (cT (amY ..) E.cL (vL E.cB.1) E.cK)) (by omega) E.cY) (.inl ⟨rfl, fun d hd => by obtain ⟨i, _, rfl⟩ := ank.mp hd; rfl⟩) (fun C s0 H0 f0 b' d hd => ?Dl) (anY (cA (by simp [b8]; omega))) ?rest (by exact amX rfl) (jW ⟨_, rfl⟩)
   case Dl =>
     obtain ⟨i, hi, rfl⟩ := ank.mp hd
     have I0 : i < es.length := by simpa using hi
     exact ⟨(eK (aP (oO (ah (v_ (gk (i := 1) rfl (by decide +kernel)))) (fj _)) (ah (v_ (fh (i := 0) rfl (by decide +kernel)))) (fQ (show (0 : Int) <= 0 + (i : Int) by omega) (show 0 + (i : Int) < es.length by omega))) (ah (v_ (gk (i := 2) rfl (by decide +kernel))))).1, fun _ => v_ (fh (i := 0) rfl (by decide +kernel))⟩
   case rest =>
   rw [hin]
   have hml := Wo es (j : Int)
   have kl : (tT s es j).length = j := by simp [tT]
   have sl : (zl s es j).length = j := by simp [zl]
   have ol : (vH s es j).length = j := by simp [vH]
   have ek : tT s es (j + 1) = tT s es j ++ [Jb s es j] := by simp [tT, aox]
   have esn : zl s es (j + 1) = zl s es j ++ [stK s es j] := by simp [zl, aox]
   have eo : vH s es (j + 1) = vH s es j ++ [osK s es j] := by simp [vH, aox]
   show fF X CL b _ _ { nx := fun δ => ∃ o5 o6 o7, δ = [_, _, some (.lst (((tT s es (j + 1)).map .str).map T.sh)), some (.lst (((zl s es (j + 1)).map .int).map T.sh)), some (.lst (((vH s es (j + 1)).map .int).map T.sh)), o5, o6, o7], rt := _, bk := _, ct := _ }
   rw [ek, esn, eo]
   generalize tT s es j = ks at kl ⊢
   generalize zl s es j = ss at sl ⊢
   generalize vH s es j = os at ol ⊢
   have aS : ∀ (l : List Str) (x : Str), (l.map L3.D.str).map T.sh ++ [T.sh (.str x)] = ((l ++ [x]).map L3.D.str).map T.sh := by intros; simp
   have aI : ∀ (l : List Int) (x : Int), (l.map L3.D.int).map T.sh ++ [T.sh (.int x)] = ((l ++ [x]).map L3.D.int).map T.sh := by intros; simp
   refine kD E.nh.1 rfl bB rfl (by simp; omega) ?_
   rw [aS]
   refine kD E.lU.1 rfl (dB (ah aj)) rfl (by simp; omega) ?_
   rw [aI]
   have aji : ∀ (x y : Str), (((ks ++ [x]).map L3.D.str).map T.sh).set j (T.sh (.str y)) = ((ks ++ [y]).map L3.D.str).map T.sh := fun x y => by
     rw [← List.map_set, ← List.map_set, List.set_append, amV (by omega), kl, Nat.sub_self]; rfl
   have af2 : ∀ (x y : Int), (((ss ++ [x]).map L3.D.int).map T.sh).set j (T.sh (.int y)) = ((ss ++ [y]).map L3.D.int).map T.sh := fun x y => by
     rw [← List.map_set, ← List.map_set, List.set_append, amV (by omega), sl, Nat.sub_self]; rfl
   have ajj : ∀ (l : List Str) (x : Str), l.length = j -> Nu (((l ++ [x]).map L3.D.str).map T.sh).length (j : Int) = some j := fun l x e => by
     rw [amY, amY, anm]; unfold Nu; rw [amZ (by omega), amZ (by simp; omega), anP]
   have ajk : ∀ (l : List Int) (x : Int), l.length = j -> Nu (((l ++ [x]).map L3.D.int).map T.sh).length (j : Int) = some j := fun l x e => by
     rw [amY, amY, anm]; unfold Nu; rw [amZ (by omega), amZ (by simp; omega), anP]
   refine BI (fun δ => δ = [some (.sh (.lst (s.map .int))), some (.lst ((es.map .int).map T.sh)), some (.lst (((ks ++ [Jb s es j]).map .str).map T.sh)), some (.lst (((ss ++ [-1]).map L3.D.int).map T.sh)), some (.lst ((os.map .int).map T.sh)), some (.sh (.int j)), some (.sh (.int (P7 s j))), some (.lst (((BW es (j : Int)).map .int).map T.sh))])
     (CK E.u (vL E.vN.1) (cF (ds := []) (dM dJ (ans _))) (jm _) (jm [])).1 (fun hp => ?_) (fun hp => ?_) ?_
   . have jl : BW es (j : Int) ≠ [] := fun e => by
       rw [e] at hp
       have : NV (.lst (([] : List Int).map L3.D.int)) (.lst []) = true := sZ (jm [])
       rw [this] at hp
       cases hp
     have ekd : Jb s es j = (["all", "one"] : List Str).getD (P7 s j % 2).toNat Str.empty := by unfold Jb; rw [amV jl]
     refine aax E.nh.1 (aN (dz (aP (cF (kE (aM bB (aM bB cR)) (aL rfl))) (ah (bG (aD E.bz) (ah aj) (by decide))) (dN (f := L3.D.str) (l := ["all", "one"]) Str.empty (anp _ (by decide)) (anl _ (by decide)))) rfl) (t2 := .sh (.str (Jb s es j))) (by rw [ekd])) (aD E.lO) rfl (ajj ks _ kl) (au ?_)
     rw [aji]
     rfl
   . have he : BW es (j : Int) = [] := by
       generalize BW es (j : Int) = l at hp
       cases l with
       | nil => rfl
       | cons x l =>
         have : NV (.lst ((x :: l).map L3.D.int)) (.lst []) = false := rfl
         rw [this] at hp
         cases hp
     have ekd : Jb s es j = "leaf" := by unfold Jb; rw [amZ he]
     refine au ?_
     rw [ekd]
     rfl
   rintro δ rfl
   have JD : sQ ((ks ++ [Jb s es j]).map L3.D.str) (j : Int) = some (.str (Jb s es j)) := by
     refine (dN Str.empty (by omega) (by rw [anm, kl]; simp only [anr, aog]; omega)).trans ?_
     rw [anP, am4, aol (by omega), kl, Nat.sub_self]
     rfl
   refine cQ (eL (aP (vL E.nh.1) (aD E.lO) (JD)) (ah bB)).1 (fun hp => ?_) (fun hp => ?_)
   . have hp := am9 hp
     have jl := List.length_pos_iff.mpr (Ws hp)
     have hm2 : ((BW es (j : Int)).map L3.D.int).length = (BW es (j : Int)).length := by simp
     have c1 := anp (P7 s j / 2) (b := ((BW es (j : Int)).length : Nat)) (by omega)
     have c2 := anl (P7 s j / 2) (b := ((BW es (j : Int)).length : Nat)) (by omega)
     have c3 := anp (P7 s j / 22) (b := ((BW es (j : Int)).length : Nat)) (by omega)
     have c4 := anl (P7 s j / 22) (b := ((BW es (j : Int)).length : Nat)) (by omega)
     refine aax E.lU.1 (aN (dz (aP (vL E.vN.1) (ah (bG (ah (ck (aD E.bz) (ah aj) ⟨by decide, by decide⟩)) (ah (cT (hm2) E.cL (vL E.vN.1) E.cK)) (by omega))) (fQ c1 c2)) rfl) (t2 := .sh (.int (stK s es j))) (by unfold stK; rw [amZ hp])) (aD E.lO) rfl (ajk ss _ sl) ?_
     rw [af2]
     refine kD E.aR.1 rfl (aN (dz (aP (vL E.vN.1) (ah (bG (ah (ck (aD E.bz) (ah aj) ⟨by decide, by decide⟩)) (ah (cT (hm2) E.cL (vL E.vN.1) E.cK)) (by omega))) (fQ c3 c4)) rfl) (t2 := .sh (.int (osK s es j))) (by unfold osK; rw [amZ hp])) rfl (by simp; omega) (au (au ?_))
     rw [aI]
     exact ⟨_, _, _, rfl⟩
   . have hp := anc hp
     refine kD E.aR.1 rfl (dB (ah aj)) rfl (by simp; omega) (au (au ?_))
     rw [aI, show stK s es j = -1 by unfold stK; rw [amV hp], show osK s es j = -1 by unfold osK; rw [amV hp]]
     exact ⟨_, _, _, rfl⟩
 case fin =>
   rintro δ ⟨o5, o6, o7, rfl⟩
   have e : (b8 0 (es.length : Int).toNat).length = es.length := by simp [b8]
   rw [e]
   exact aU (dM (gC (vM E.nh.1) (gC (vM E.cB.1) (gC (vM E.lU.1) (gC (vM E.aR.1) dJ)))) (aL rfl)) rfl
theorem dP : iS (ao xZ) ([("script", av), ("elders", .cell), ("kinds", av), ("starts", av), ("opens", av), ("k", .cell), ("mixed", av), ("mine", av), ("_law_elders", aB), ("range", aB), ("len", aB), ("_law_mixed", aB), ("_law_cell_at", aB)]) = true := by decide +kernel
theorem Hr : aJ ["script", "elders", "kinds", "starts", "opens", "k", "mixed", "mine"] ["script"] (ao xZ) := aQ
noncomputable abbrev x6 : Stmt := top 38
noncomputable abbrev Dm : Type := List Str × List Int × List Int × List Int
noncomputable def qj : Dm -> List L3.D := fun (ks, es, ss, os) => [kF ks es ss os]
noncomputable def lV : Dm -> Prop := fun (ks, es, ss, os) => 1 <= es.length /\ es.length <= 900 /\ os.length = es.length /\ eV es
noncomputable def qk : Dm -> T := fun (ks, es, ss, os) => (.lst (((w9 es os (es.length - 1)).map .int).map T.sh) : T)
structure WV (X : Cx) (CL : Str -> Addr) : Prop extends bK X where
 bw : Ln X 0 "lists"
 aR : Ln X 1 "opens"
 lO : Ln X 2 "k"
 jD : Ln X 3 "elder"
 cY : Gl X "range"
 cK : Gl X "len"
 cZ : X.mg "range" = none
 cL : X.mg "len" = none
theorem WW {X : Cx} {CL : Str -> Addr} {b : Bx} (E : WV X CL) (ks es ss os) (h : lV (ks, es, ss, os)) :
   az X CL b x6 ["lists", "opens", "k", "elder"] (qj (ks, es, ss, os)) (qk (ks, es, ss, os)) := by
 dsimp only [az, lV, qj, qk] at h ⊢
 obtain ⟨hl0, hl, ho, ht⟩ := h
 refine aW E.g E.aR (kE (aM aj cR) (aL rfl)) ?_
 refine eZ E.g E.lO (fun j δ => ∃ o o', δ = [some (.sh (kF ks es ss os)), some (.lst (((w9 es os j).map .int).map T.sh)), o, o'])
   (NS E.cZ (ah aj) (ah (cT (amY ..) E.cL (aP (aD E.bw) (ah aj) rfl) E.cK)) (by omega) E.cY) ⟨_, _, rfl⟩ (fun j δ ⟨_, _, e⟩ => by subst e; exact amX rfl) ?turn ?fin
 case turn =>
   rintro j d δ hj ⟨o, o', rfl⟩
   obtain ⟨rfl, xS⟩ := jk hj
   have R7 := (xU (es := es) (os := os) j).2
   have ej : (1 + (j : Int)).toNat = j + 1 := by omega
   have ejI : (1 + (j : Int)) = ((j + 1 : Nat) : Int) := by omega
   refine aW E.g E.jD (aN (dz (aP (aP (aD E.bw) (ah aj) rfl) (aD E.lO) (fQ (by omega) (by omega))) rfl) (congrArg (fun z => T.sh (.int (es.getD z 0))) ej)) ?_
   have ha := ht (j + 1) (by omega)
   show fF X CL b _ _ { nx := fun δ => ∃ o o', δ = [_, some (.lst (((w9 es os (j + 1)).map .int).map T.sh)), o, o'], rt := _, bk := _, ct := _ }
   rw [w9]
   generalize es.getD (j + 1) 0 = x at ha ⊢
   have hx0 : x ∈ w9 es os j -> 0 <= x := fun hx => (xT j hx).1
   refine cQ (iQ (eO (ic (aD E.jD) (vL E.aR.1) rfl rfl).1 (fun hb => (gD (ic (l := [-1, 1 + (j : Int)]) (aP (aP (aD E.bw) (ah aj) rfl) (aD E.jD) (fQ (hx0 (am9 hb)) (by omega))) (ah (cW (aM (dB (ah aj)) (aM (v_ E.lO.1) cR)) (aL rfl))) rfl rfl).1)))) (fun hp => ?_) (fun hp => au (au ?_))
   . simp only [anE, aof] at hp
     refine kD E.aR.1 rfl (v_ E.lO.1) rfl (by simp; omega) (au (au ?_))
     rw [amZ ⟨hp.1, by
       have := hp.2
       simp only [am1, anH, or_false] at this
       rw [← ejI]
       exact this⟩]
     have e1 : ((w9 es os j).map L3.D.int).map T.sh ++ [T.sh (.int (1 + (j : Int)))] = ((w9 es os j ++ [((j + 1 : Nat) : Int)]).map L3.D.int).map T.sh := by
       rw [ejI]; simp
     rw [e1]
     exact ⟨_, _, rfl⟩
   . rw [amV (fun z => by
       have : (decide (x ∈ w9 es os j) && decide (os.getD x.toNat 0 ∈ [-1, 1 + (j : Int)])) = true := by
         simp only [anE, aof, am1, anH, or_false]
         exact ⟨z.1, by rw [ejI]; exact z.2⟩
       rw [this] at hp
       cases hp)]
     exact ⟨_, _, rfl⟩
 case fin =>
   rintro δ ⟨o, o', rfl⟩
   have e : (b8 1 ((es.length : Int) - 1).toNat).length = es.length - 1 := by simp [b8]
   rw [e]
   exact aU (vM E.aR.1) rfl
theorem lW : iS (ao x6) ([("lists", av), ("opens", av), ("k", av), ("elder", av), ("range", aB), ("len", aB)]) = true := by decide +kernel
theorem Hs : aJ ["lists", "opens", "k", "elder"] ["lists"] (ao x6) := aQ
noncomputable abbrev t9 : Stmt := top 30
noncomputable abbrev zC : Type := Int
noncomputable def ni : zC -> List L3.D := fun a => [.int a]
noncomputable def nj : zC -> Prop := fun a => True
noncomputable def nq : zC -> T := fun a => (.sh (.int (iu a)) : T)
structure R8 (X : Cx) (CL : Str -> Addr) : Prop extends bK X where
 dY : Ln X 0 "cell"
 r9 : Ln X 1 "size"
theorem R9 {X : Cx} {CL : Str -> Addr} {b : Bx} (E : R8 X CL) (a) (h : nj a) :
   az X CL b t9 ["cell", "size"] (ni a) (nq a) := by
 dsimp only [az, nj, ni, nq] at h ⊢
 refine cQ (eK (ah (bG (aD E.dY) (ah aj) (by decide))) (ah aj)).1 (fun hp => ?_) (fun hp => ?_)
 . have e : a % 2 = 0 := am9 hp
   refine aU (oG (ah (bG (ah (ck (aD E.dY) (ah aj) ⟨by decide, by decide⟩)) (ah aj) (by decide))) (ah aj)) ?_
   show T.sh _ = T.sh (.int (iu a))
   rw [iu, amZ e]
 . have e : ¬ a % 2 = 0 := anc hp
   refine au ?_
   refine aW E.g E.r9 (bG (ah (rS (ah (ck (aD E.dY) (ah aj) ⟨by decide, by decide⟩)) (ah aj) (.inr ⟨by decide, by decide⟩))) (ah (Jw (ah aj) (ah aj) ⟨by decide, by decide, by decide⟩)) (by decide)) ?_
   refine cQ (eK (ah (bG (aD E.dY) (ah aj) (by decide))) (ah aj)).1 (fun hp => ?_) (fun hp => ?_)
   . have e2 : a % 4 = 1 := am9 hp
     refine aU (v_ E.r9.1) ?_
     show T.sh _ = T.sh (.int (iu a))
     rw [iu, amV e, amZ e2]
     rfl
   . have e2 : ¬ a % 4 = 1 := anc hp
     refine au (aU (dB (aD E.r9)) ?_)
     show T.sh _ = T.sh (.int (iu a))
     rw [iu, amV e, amV e2]
     rfl
theorem B4 : iS (ao t9) ([("cell", av), ("size", av)]) = true := by decide +kernel
theorem B5 : aJ ["cell", "size"] ["cell"] (ao t9) := aQ
noncomputable abbrev x8 : Stmt := top 39
noncomputable abbrev Dn : Type := List Int
noncomputable def ql : Dn -> List L3.D := fun a => [.lst (a.map .int)]
noncomputable def qm : Dn -> Prop := fun a => a.length <= 1000
noncomputable def qo : Dn -> T := fun a => (.lst (((bxK a).map .int).map T.sh) : T)
structure WX (X : Cx) (CL : Str -> Addr) : Prop extends bK X where
 bT : Ln X 0 "script"
 Sb : X.env.kindOf "script" = some .cell
 iX : Ln X 1 "many"
 cM : Gl X "_law_mixed"
 bU : Gl X "_law_cell_at"
 cY : Gl X "range"
 iA : Fc X CL "_law_mixed" 1 2 gT gU gW
 d8 : Fc X CL "_law_cell_at" 1 2 fS fU fV
 cZ : X.mg "range" = none
 Sd : Fc X CL "_law_number" 1 1 ni nj nq
theorem WY {X : Cx} {CL : Str -> Addr} {b : Bx} (E : WX X CL) (a) (h : qm a) :
   az X CL b x8 ["script", "many"] (ql a) (qo a) := by
 dsimp only [az, qm, ql, qo] at h ⊢
 refine aW E.g E.iX (aN (bG (ah (c_ ((c7 a 0, 7)) E.iA E.cM (ai (ah (c_ ((a, 0)) E.d8 E.bU (ai (aD E.bT) (ai (ah aj) aC)) (show (0 : Int) <= 0 by omega) rfl)) (ai (ah aj) aC)) (trivial) rfl)) (ah aj) (by decide)) (t2 := .sh (.int (dO (c7 a 0) 7 % 6))) rfl) ?_
 have m0 := anp (dO (c7 a 0) 7) (show (6 : Int) ≠ 0 by decide)
 have m1 := anl (dO (c7 a 0) 7) (show (0 : Int) < 6 by decide)
 refine aU (CV (p := fun _ => true) (g := fun d => .sh (.int (iu (c7 a (d.yP + 1) + 5 * d.yP)))) (cI (.cons E.bT.1 (.inl E.Sb) .nil) (by decide +kernel)) E.g.calm (fP E.cZ (aD E.iX) (by omega) E.cY) (.inl ⟨rfl, fun _ _ => rfl⟩) (fun C s0 H0 f0 b' d hd => ?Dl) (anY (cA (by simp [b8]; omega)))) ?res
 case Dl =>
   obtain ⟨j, hj, rfl⟩ := ank.mp hd
   exact ⟨rfl, fun _ => aN (c_ (c7 a ((0 + (j : Int)) + 1) + 5 * (0 + (j : Int))) (mY E.Sd) (jC (by decide +kernel)) (ai (ah (fK (ah (c_ ((a, (0 + (j : Int)) + 1)) (mY E.d8) (jC (by decide +kernel)) (ai (ah (v_ (gk (i := 1) rfl (by decide +kernel)))) (ai (ah (fK (ah (v_ (fh (i := 0) rfl (by decide +kernel)))) (ah aj))) aC)) (show (0 : Int) <= (0 + (j : Int)) + 1 by omega) rfl)) (ah (rS (ah aj) (ah (v_ (fh (i := 0) rfl (by decide +kernel)))) (.inl ⟨by decide, by decide⟩))))) aC) (trivial) rfl) rfl⟩
 case res =>
   show T.lst _ = T.lst _
   rw [gS]
   unfold b8 bxK
   rw [anF, anF, anF]
   congr 1
   refine an8 fun j _ => ?_
   show T.sh (.int (iu (c7 a ((0 : Int) + j + 1) + 5 * ((0 : Int) + j)))) = T.sh (.int (iu (c7 a ((j : Int) + 1) + 5 * (j : Int))))
   rw [aoj]
theorem lX : iS (ao x8) ([("script", .cell), ("many", av), ("_law_mixed", aB), ("_law_cell_at", aB), ("range", aB)]) = true := by decide +kernel
theorem Ht : aJ ["script", "many"] ["script"] (ao x8) := aQ
noncomputable abbrev Dp : Stmt := top 33
noncomputable abbrev J2 : Type := Int
noncomputable def ua : J2 -> List L3.D := fun c => [.int c]
noncomputable def uc : J2 -> Prop := fun c => True
noncomputable def ud : J2 -> T := fun c => (.sh (.str (j3 c)) : T)
structure acX (X : Cx) (CL : Str -> Addr) : Prop extends bK X where
 dY : Ln X 0 "cell"
 vO : Ln X 1 "letters"
 bz : Ln X 2 "mixed"
 k8 : Ln X 3 "name"
 lO : Ln X 4 "k"
 cY : Gl X "range"
 cZ : X.mg "range" = none
theorem acY {X : Cx} {CL : Str -> Addr} {b : Bx} (E : acX X CL) (c) (h : uc c) :
   az X CL b Dp ["cell", "letters", "mixed", "name", "k"] (ua c) (ud c) := by
 dsimp only [az, uc, ua, ud] at h ⊢
 refine aW E.g E.vO bB ?_
 refine aW E.g E.bz (bG (ah (ck (aD E.dY) (ah aj) ⟨by decide, by decide⟩)) (ah (Jw (ah aj) (ah aj) ⟨by decide, by decide, by decide⟩)) (by decide)) ?_
 generalize hm0 : c / 12 % 10 ^ (9 : Int).toNat = m0
 have e0 : nm0 c = (m0, xF (m0 % 26)) := by rw [← hm0]; rfl
 have af3 : Ow.length = 36 := by decide +kernel
 have m26 := fun m : Int => anp m (show (26 : Int) ≠ 0 by decide)
 have l26 := fun m : Int => anl m (show (0 : Int) < 26 by decide)
 have m36 := fun m : Int => anp m (show (36 : Int) ≠ 0 by decide)
 have l36 := fun m : Int => anl m (show (0 : Int) < 36 by decide)
 refine aW E.g E.k8 (QJ (aD E.vO) (ah (bG (aD E.bz) (ah aj) (by decide))) (by rw [anG]; decide +kernel) (by rw [Ru]; exact QW 0 (m26 _) (by have := l26 m0; rw [af3]; omega))) ?_
 have c0 := anp c (show (12 : Int) ≠ 0 by decide)
 have c1 := anl c (show (0 : Int) < 12 by decide)
 refine eZ E.g E.lO (fun j δ => ∃ o, δ = [some (.sh (.int c)), some (.sh (.str "abcdefghijklmnopqrstuvwxyz0123456789")), some (.sh (.int (jZ (m0, xF (m0 % 26)) j).1)), some (.sh (.str (jZ (m0, xF (m0 % 26)) j).2)), o])
   (fP E.cZ (ah (bG (aD E.dY) (ah aj) (by decide))) (by omega) E.cY) ⟨_, rfl⟩ (fun j δ ⟨_, e⟩ => by subst e; exact amX rfl) ?turn ?fin
 case turn =>
   rintro j d δ hj ⟨o, rfl⟩
   obtain ⟨rfl, xS⟩ := jk hj
   have hnl := Rx (m0, xF (m0 % 26)) j
   have hn0 : (xF (m0 % 26)).length = 1 := rfl
   refine aW E.g E.bz (bG (ah (fK (ah (rS (aD E.bz) (ah aj) (.inr ⟨by decide, by decide⟩))) (ah aj))) (ah aj) (by decide)) ?_
   refine aW E.g E.k8 (oH (aD E.k8) (ah (QJ (aD E.vO) (ah (bG (aD E.bz) (ah aj) (by decide))) (by rw [anG]; decide +kernel) (by rw [Ru]; exact QW 0 (m36 _) (by have := l36 (Wq (jZ (m0, xF (m0 % 26)) j).1); unfold Wq at this; rw [af3]; omega)))) (by rw [anG, hnl, hn0]; show 1 + j + 1 <= _; omega)) (au ⟨_, rfl⟩)
 case fin =>
   rintro δ ⟨o, rfl⟩
   have hn : (b8 0 (c % 12).toNat).length = (c % 12).toNat := by simp [b8]
   rw [hn]
   have hb : (jZ (m0, xF (m0 % 26)) (c % 12).toNat).2 = U3 c := by unfold U3; rw [e0]
   rw [hb]
   have hbl := Mj c
   refine cQ (QV (l := w13) (aD E.k8) (xQ rfl)).1 (fun hp => ?_) (fun hp => au ?_)
   . refine aU (oH (aD E.k8) (ah bB) (by rw [anG]; show _ + 1 <= _; omega)) ?_
     show T.sh _ = T.sh (.str (j3 c))
     rw [j3, amZ (am9 hp)]
   refine cQ (QV (l := w6) (aD E.k8) (xQ rfl)).1 (fun hq => ?_) (fun hq => au ?_)
   . refine aU (oH (aD E.k8) (ah bB) (by rw [anG]; show _ + 1 <= _; omega)) ?_
     show T.sh _ = T.sh (.str (j3 c))
     rw [j3, amV (anc hp), amZ (am9 hq)]
   . refine aU (v_ E.k8.1) ?_
     show T.sh _ = T.sh (.str (j3 c))
     rw [j3, amV (anc hp), amV (anc hq)]
theorem qp : iS (ao Dp) ([("cell", av), ("letters", av), ("mixed", av), ("name", av), ("k", av), ("range", aB)]) = true := by decide +kernel
theorem Mw : aJ ["cell", "letters", "mixed", "name", "k"] ["cell"] (ao Dp) := aQ
noncomputable abbrev x9 : Stmt := top 40
noncomputable abbrev Dq : Type := List Int
noncomputable def qq : Dq -> List L3.D := fun a => [.lst (a.map .int)]
noncomputable def qu : Dq -> Prop := fun a => a.length <= 1000
noncomputable def qv : Dq -> T := fun a => (.lst (((Wu a).map .str).map T.sh) : T)
structure WZ (X : Cx) (CL : Str -> Addr) : Prop extends bK X where
 bT : Ln X 0 "script"
 zE : Ln X 1 "base"
 oW : Gl X "_law_name"
 bU : Gl X "_law_cell_at"
 J3 : Fc X CL "_law_name" 1 1 ua uc ud
 d8 : Fc X CL "_law_cell_at" 1 2 fS fU fV
theorem W0 {X : Cx} {CL : Str -> Addr} {b : Bx} (E : WZ X CL) (a) (h : qu a) :
   az X CL b x9 ["script", "base"] (qq a) (qv a) := by
 dsimp only [az, qu, qq, qv] at h ⊢
 have hz : ∀ c, (j3 c).length <= 13 := fun c => Ox c
 have hb : (xg a).length <= 13 := anL (Txt.slice_le _ _ _) (hz _)
 refine aW E.g E.zE (aN (N6 (ah (c_ (c7 a 0 / 2) E.J3 E.oW (ai (ah (ck (ah (c_ ((a, 0)) E.d8 E.bU (ai (aD E.bT) (ai (ah aj) aC)) (show (0 : Int) <= 0 by omega) rfl)) (ah aj) ⟨by decide, by decide⟩)) aC) (trivial) rfl)) ((by rw [anG]; have := hz (c7 a 0 / 2); omega)) xO (xP (ah aj))) (t2 := .sh (.str (xg a))) rfl) ?_
 show fF X CL b _ _ { nx := _, rt := fun CW _ => CW = T.lst (((Wu a).map .str).map T.sh), bk := _, ct := _ }
 unfold Wu
 generalize xg a = bs at hb ⊢
 refine cQ (eK (ah (bG (ah (c_ ((a, 0)) E.d8 E.bU (ai (aD E.bT) (ai (ah aj) aC)) (show (0 : Int) <= 0 by omega) rfl)) (ah aj) (by decide))) (ah aj)).1 (fun hp => ?_) (fun hp => au ?_)
 . rw [amZ (am9 hp)]
   exact aU (kE (aM (oH (aD E.zE) (ah bB) ((by rw [anG]; show _ + 1 <= _; omega))) (aM (oH (aD E.zE) (ah bB) ((by rw [anG]; show _ + 2 <= _; omega))) (aM (oH (aD E.zE) (ah bB) ((by rw [anG]; show _ + 1 <= _; omega))) cR))) (aL rfl)) rfl
 . rw [amV (anc hp)]
   exact aU (kE (aM (v_ E.zE.1) (aM (c_ (c7 a 1 + 5) E.J3 E.oW (ai (ah (fK (ah (c_ ((a, 1)) E.d8 E.bU (ai (aD E.bT) (ai (ah aj) aC)) (show (0 : Int) <= 1 by omega) rfl)) (ah aj))) aC) (trivial) rfl) (aM (c_ (c7 a 2 + 10) E.J3 E.oW (ai (ah (fK (ah (c_ ((a, 2)) E.d8 E.bU (ai (aD E.bT) (ai (ah aj) aC)) (show (0 : Int) <= 2 by omega) rfl)) (ah aj))) aC) (trivial) rfl) cR))) (aL rfl)) rfl
theorem uf : iS (ao x9) ([("script", av), ("base", av), ("_law_name", aB), ("_law_cell_at", aB)]) = true := by decide +kernel
theorem Hu : aJ ["script", "base"] ["script"] (ao x9) := aQ
noncomputable abbrev yb : Stmt := top 31
noncomputable abbrev Dr : Type := Int
noncomputable def qw : Dr -> List L3.D := fun a => [.int a]
noncomputable def qx : Dr -> Prop := fun a => True
noncomputable def qy : Dr -> T := fun a => (.sh (.int (fL a)) : T)
structure W2 (X : Cx) (CL : Str -> Addr) : Prop extends bK X where
 dY : Ln X 0 "cell"
 r9 : Ln X 1 "size"
theorem W3 {X : Cx} {CL : Str -> Addr} {b : Bx} (E : W2 X CL) (a) (h : qx a) :
   az X CL b yb ["cell", "size"] (qw a) (qy a) := by
 dsimp only [az, qx, qw, qy] at h ⊢
 refine cQ (eK (ah (bG (aD E.dY) (ah aj) (by decide))) (ah aj)).1 (fun hp => ?_) (fun hp => au ?_)
 . refine aU (oG (ah (bG (ah (ck (aD E.dY) (ah aj) ⟨by decide, by decide⟩)) (ah aj) (by decide))) (ah aj)) ?_
   show T.sh _ = T.sh (.int (fL a))
   rw [fL, amZ (am9 hp)]
 . have e : ¬ a % 2 = 0 := anc hp
   refine aW E.g E.r9 (aN (bG (ah (rS (ah (ck (aD E.dY) (ah aj) ⟨by decide, by decide⟩)) (ah aj) (.inr ⟨by decide, by decide⟩))) (ah (oG (ah (Jw (ah aj) (ah aj) ⟨by decide, by decide, by decide⟩)) (ah aj))) (by decide)) (t2 := .sh (.int (a / 4 * 48271 % (10 ^ 30 - 1)))) rfl) ?_
   refine cQ (eK (ah (bG (aD E.dY) (ah aj) (by decide))) (ah aj)).1 (fun hp => ?_) (fun hp => au ?_)
   . refine aU (v_ E.r9.1) ?_
     show T.sh _ = T.sh (.int (fL a))
     rw [fL, amV e, amZ (am9 hp)]
   . refine aU (dB (aD E.r9)) ?_
     show T.sh _ = T.sh (.int (fL a))
     rw [fL, amV e, amV (anc hp)]
theorem Hv : iS (ao yb) ([("cell", av), ("size", av)]) = true := by decide +kernel
theorem Hw : aJ ["cell", "size"] ["cell"] (ao yb) := aQ
noncomputable abbrev yc : Stmt := top 41
noncomputable abbrev Ds : Type := Int × Int × List Int
noncomputable def lY : Ds -> List L3.D := fun (bx, mo, bs) => [.tup [.int bx, .int mo], .lst (bs.map .int)]
noncomputable def lZ : Ds -> Prop := fun (bx, mo, bs) => bx = -1 \/ (0 <= bx /\ bx < bs.length)
noncomputable def mh : Ds -> T := fun (bx, mo, bs) => (.sh (.int (bP bx mo bs)) : T)
structure W4 (X : Cx) (CL : Str -> Addr) : Prop extends bK X where
 se : Ln X 0 "term"
 aZ : Ln X 1 "boxes"
theorem W5 {X : Cx} {CL : Str -> Addr} {b : Bx} (E : W4 X CL) (bx mo bs) (h : lZ (bx, mo, bs)) :
   az X CL b yc ["term", "boxes"] (lY (bx, mo, bs)) (mh (bx, mo, bs)) := by
 dsimp only [az, lZ, lY, mh] at h ⊢
 refine cQ (eK (aY (aD E.se) (ah aj) rfl) (ah (dB (ah aj)))).1 (fun hp => ?_) (fun hp => ?_)
 . refine aU (dz (aY (aD E.se) (ah aj) rfl) rfl) ?_
   have e : bx = -1 := am9 hp
   show T.sh (.int mo) = T.sh (.int (bP bx mo bs))
   rw [bP, amZ e]
 . refine au ?_
   have e : ¬ bx = -1 := anc hp
   refine aU (fK (aP (aD E.aZ) (aY (aD E.se) (ah aj) rfl) (fQ (by omega) (by omega))) (aY (aD E.se) (ah aj) rfl)) ?_
   show T.sh _ = T.sh (.int (bP bx mo bs))
   rw [bP, amV e]
theorem Hx : iS (ao yc) ([("term", av), ("boxes", av)]) = true := by decide +kernel
theorem Hy : aJ ["term", "boxes"] ["term", "boxes"] (ao yc) := aQ
noncomputable abbrev Mx : Stmt := top 42
noncomputable abbrev Se : Type := Str × Int × Int
noncomputable def ug : Se -> List L3.D := fun (mk, i, j) => [.str mk, .int i, .int j]
noncomputable def uh : Se -> Prop := fun (mk, i, j) => True
noncomputable def um : Se -> T := fun (mk, i, j) => (.sh (.bl (gM mk i j)) : T)
structure af4 (X : Cx) (CL : Str -> Addr) : Prop extends bK X where
 oX : Ln X 0 "mark"
 dS : Ln X 1 "one"
 bC : Ln X 2 "other"
theorem af5 {X : Cx} {CL : Str -> Addr} {b : Bx} (E : af4 X CL) (mk i j) (h : uh (mk, i, j)) :
   az X CL b Mx ["mark", "one", "other"] (ug (mk, i, j)) (um (mk, i, j)) := by
 dsimp only [az, uh, ug, um] at h ⊢
 refine cQ (eL (aD E.oX) (ah bB)).1 (fun hp => ?_) (fun hp => au ?_)
 . refine aU (Gy (aD E.dS) (aD E.bC)).2 ?_
   show T.sh _ = T.sh (.bl (gM mk i j))
   rw [gM, amZ (am9 hp)]
 refine cQ (eL (aD E.oX) (ah bB)).1 (fun hq => ?_) (fun hq => au ?_)
 . refine aU (aar (aD E.dS) (aD E.bC)).2 ?_
   show T.sh _ = T.sh (.bl (gM mk i j))
   rw [gM, amV (anc hp), amZ (am9 hq)]
 refine cQ (eL (aD E.oX) (ah bB)).1 (fun hr => ?_) (fun hr => au ?_)
 . refine aU (eK (aD E.dS) (aD E.bC)).2 ?_
   show T.sh _ = T.sh (.bl (gM mk i j))
   rw [gM, amV (anc hp), amV (anc hq), amZ (am9 hr)]
 . refine aU (kX (aD E.dS) (aD E.bC)).2 ?_
   show T.sh _ = T.sh (.bl (gM mk i j))
   rw [gM, amV (anc hp), amV (anc hq), amV (anc hr)]
theorem J4 : iS (ao Mx) ([("mark", av), ("one", av), ("other", av)]) = true := by decide +kernel
theorem Sf : aJ ["mark", "one", "other"] ["mark", "one", "other"] (ao Mx) := aQ
noncomputable abbrev My : Stmt := top 43
noncomputable abbrev Sg : Type := Int × List Int × Nat × List Int
noncomputable def yd : Sg -> List L3.D := fun (c, ops, m, bs) => [.int c, .lst (ops.map .int), .int m, .lst (bs.map .int)]
noncomputable def uo : Sg -> Prop := fun (c, ops, m, bs) => 1 <= m /\ bs.length <= 1000
noncomputable def ye : Sg -> T := fun (c, ops, m, bs) => (.sh (cS (rZ ops m bs c)) : T)
structure af6 (X : Cx) (CL : Str -> Addr) : Prop extends bK X where
 dY : Ln X 0 "cell"
 aR : Ln X 1 "opens"
 iX : Ln X 2 "many"
 aZ : Ln X 3 "boxes"
 bz : Ln X 4 "mixed"
 J5 : Ln X 5 "good"
 acZ : X.env.kindOf "good" = some .cell
 eW : Ln X 6 "mood"
 dS : Ln X 7 "one"
 bC : Ln X 8 "other"
 Sh : Ln X 9 "side"
 ac0 : X.env.kindOf "side" = some .cell
 Mz : Ln X 10 "right"
 W6 : X.env.kindOf "right" = some .cell
 Dt : Ln X 11 "marks"
 cM : Gl X "_law_mixed"
 Si : Gl X "int"
 cK : Gl X "len"
 uq : Gl X "_law_small"
 iC : Gl X "_law_worth"
 iA : Fc X CL "_law_mixed" 1 2 gT gU gW
 Sj : X.mg "int" = none
 cL : X.mg "len" = none
 MA : Fc X CL "_law_small" 1 1 qw qx qy
 ur : Fc X CL "_law_worth" 1 2 lY lZ mh
 Sl : Fc X CL "_law_due" 1 3 ug uh um
theorem af7 {X : Cx} {CL : Str -> Addr} {b : Bx} (E : af6 X CL) (c ops m bs) (h : uo (c, ops, m, bs)) :
   az X CL b My ["cell", "opens", "many", "boxes", "mixed", "good", "mood", "one", "other", "side", "right", "marks"] (yd (c, ops, m, bs)) (ye (c, ops, m, bs)) := by
 dsimp only [az, uo, yd, ye] at h ⊢
 obtain ⟨hm, hb⟩ := h
 refine aW E.g E.bz (aN (c_ ((c, 31)) E.iA E.cM (ai (aD E.dY) (ai (ah aj) aC)) (trivial) rfl) (t2 := .sh (.int (dO c 31))) rfl) ?_
 refine aW E.g E.J5 (aN (aas (ah (bG (aD E.bz) (ah aj) (by decide))) (ah aj)).2 (t2 := .sh (.bl (G9 c))) rfl) ?_
 show fF X CL b _ _ { nx := _, rt := fun CW _ => CW = T.sh (cS (rZ ops m bs c)), bk := _, ct := _ }
 have c0 := C7 c 31
 refine cQ (eK (ah (bG (ah (ck (aD E.bz) (ah aj) ⟨by decide, by decide⟩)) (ah aj) (by decide))) (ah aj)).1 (fun hp => ?_) (fun hp => au ?_)
 . have hp := am9 hp
   rw [show rZ ops m bs c = .rY (decide (decide (dO c 31 / 9 % (m : Int) ∈ ops) = G9 c)) (dO c 31 / 9 % (m : Int)) by unfold rZ; rw [amZ hp]]
   refine aW E.g E.eW (bG (ah (ck (aD E.bz) (ah aj) ⟨by decide, by decide⟩)) (aD E.iX) (by omega)) ?_
   have JD : ∀ p : Bool, sQ [L3.D.str "shut", .str "open"] (if p then 1 else 0) = some (.str (if p then "open" else "shut")) := fun p => by cases p <;> rfl
   exact aU (cW (aM (dz (aP (cF (kE (ds := [.str "shut", .str "open"]) (aM bB (aM bB cR)) (aL rfl))) (ah (VQ E.Sj (ah (QS (ah (ic (aD E.eW) (aD E.aR) rfl rfl).2) (aD E.J5)).2) E.Si)) (JD _)) rfl) (aM (v_ E.eW.1) cR)) (aL rfl)) rfl
 have hp := anc hp
 rw [show rZ ops m bs c = .num (Hf c bs) (xG c bs.length) (fL (c / 3)) (vJ c bs.length) (Dc c) by unfold rZ; rw [amV hp]]
 refine aW E.g E.dS (aN (cW (aM (oG (ah (bG (ah (ck (aD E.bz) (ah aj) ⟨by decide, by decide⟩)) (ah (fK (ah (cT (amY ..) E.cL (aD E.aZ) E.cK)) (ah aj))) (by omega))) (ah aj)) (aM (c_ (c / 3) E.MA E.uq (ai (ah (ck (aD E.dY) (ah aj) ⟨by decide, by decide⟩)) aC) (trivial) rfl) cR)) (aL rfl)) (t2 := .sh (.tup [.int (xG c bs.length), .int (fL (c / 3))])) rfl) ?_
 refine aW E.g E.bC (aN (cW (aM (oG (ah (bG (ah (ck (aD E.bz) (ah aj) ⟨by decide, by decide⟩)) (ah (fK (ah (cT (amY ..) E.cL (aD E.aZ) E.cK)) (ah aj))) (by omega))) (ah aj)) (aM (c_ (c / 5 + 1) E.MA E.uq (ai (ah (fK (ah (ck (aD E.dY) (ah aj) ⟨by decide, by decide⟩)) (ah aj))) aC) (trivial) rfl) cR)) (aL rfl)) (t2 := .sh (.tup [.int (dO c 31 / 81 % ((bs.length : Int) + 1) - 1), .int (fL (c / 5 + 1))])) rfl) ?_
 refine BI (fun δ => δ = [some (.sh (.int c)), some (.sh (.lst (ops.map .int))), some (.sh (.int m)), some (.sh (.lst (bs.map .int))), some (.sh (.int (dO c 31))), some (.sh (.bl (G9 c))), none, some (.sh (.tup [.int (xG c bs.length), .int (fL (c / 3))])), some (.sh (.tup [.int (vJ c bs.length), .int (Dc c)])), none, none, none]) (eK (ah (bG (ah (ck (aD E.bz) (ah aj) ⟨by decide, by decide⟩)) (ah aj) (by decide))) (ah aj)).1 (fun hq => ?_) (fun hq => ?_) ?_
 . have hq := am9 hq
   rw [show vJ c bs.length = xG c bs.length by unfold vJ; rw [amZ hq], show Dc c = fL (c / 3) + dO c 31 / 2187 % 3 - 1 by unfold Dc; rw [amZ hq]]
   exact aW E.g E.bC (cW (aM (dz (aY (aD E.dS) (ah aj) rfl) rfl) (aM (oG (ah (fK (aY (aD E.dS) (ah aj) rfl) (ah (bG (ah (ck (aD E.bz) (ah aj) ⟨by decide, by decide⟩)) (ah aj) (by decide))))) (ah aj)) cR)) (aL rfl)) (au rfl)
 . have hq := anc hq
   rw [show vJ c bs.length = dO c 31 / 81 % ((bs.length : Int) + 1) - 1 by unfold vJ; rw [amV hq], show Dc c = fL (c / 5 + 1) by unfold Dc; rw [amV hq]]
   exact au rfl
 rintro δ rfl
 refine aW E.g E.Sh (aN (c_ ((xG c bs.length, fL (c / 3), bs)) E.ur E.iC (ai (aD E.dS) (ai (aD E.aZ) aC)) (Dd c bs.length) rfl) (t2 := .sh (.int (rH c bs))) rfl) ?_
 refine aW E.g E.Mz (aN (c_ ((vJ c bs.length, Dc c, bs)) E.ur E.iC (ai (aD E.bC) (ai (aD E.aZ) aC)) (Mq c bs.length) rfl) (t2 := .sh (.int (k7 c bs))) rfl) ?_
 have hmk : Hf c bs = (zm (G9 c) (rH c bs) (k7 c bs)).getD (dO c 31 / 6561 % ((zm (G9 c) (rH c bs) (k7 c bs)).length : Nat)).toNat Str.empty := rfl
 rw [hmk]
 generalize rH c bs = sd
 generalize k7 c bs = rt
 have hmp := G8 (G9 c) sd rt
 have hem : (((vI.map L3.D.str).filter fun d => decide (gM d.toS sd rt = G9 c)).map fun d => T.sh d) = ((zm (G9 c) sd rt).map L3.D.str).map T.sh := by
   rw [List.filter_map]
   rfl
 refine rV (p := fun d => decide (gM d.toS sd rt = G9 c)) (gg := fun d => T.sh d) E.g E.Dt (cI (.cons E.J5.1 (.inl E.acZ) (.cons E.Mz.1 (.inl E.W6) (.cons E.Sh.1 (.inl E.ac0) .nil))) (by decide +kernel)) (eS (VH (ds := vI.map L3.D.str) (xQ rfl))) (.inr rfl) (fun C s0 H0 f0 b' d hd => ?Dl) (aL rfl) ?rest (by exact amX rfl) (jW ⟨_, rfl⟩)
 case Dl =>
   obtain ⟨mk, hmk, rfl⟩ := ank.mp hd
   exact ⟨(QS (ah (c_ ((mk, sd, rt)) (mY E.Sl) (jC (by decide +kernel)) (ai (ah (v_ (fh (i := 0) rfl (by decide +kernel)))) (ai (ah (v_ (gk (i := 3) rfl (by decide +kernel)))) (ai (ah (v_ (gk (i := 2) rfl (by decide +kernel)))) aC))) (trivial) rfl)) (ah (v_ (gk (i := 1) rfl (by decide +kernel))))).1, fun _ => (v_ (fh (i := 0) rfl (by decide +kernel)))⟩
 case rest =>
 rw [hem]
 generalize zm (G9 c) sd rt = mks at hmp
 have l0 := anp (dO c 31 / 6561) (b := (mks.length : Nat)) (by omega)
 have l1 := anl (dO c 31 / 6561) (b := (mks.length : Nat)) (by omega)
 exact aU (cW (aM (dz (aP (vL E.Dt.1) (ah (bG (ah (ck (aD E.bz) (ah aj) ⟨by decide, by decide⟩)) (ah (cT (amY ..) E.cL (vL E.Dt.1) E.cK)) (by omega))) (dN Str.empty l0 l1)) rfl) (aM (v_ E.dS.1) (aM (v_ E.bC.1) cR))) (aL rfl)) rfl
theorem eX : iS (ao My) ([("cell", av), ("opens", av), ("many", av), ("boxes", av), ("mixed", av), ("good", .cell), ("mood", av), ("one", av), ("other", av), ("side", .cell), ("right", .cell), ("marks", av), ("_law_mixed", aB), ("int", aB), ("len", aB), ("_law_small", aB), ("_law_worth", aB)]) = true := by decide +kernel
theorem Sn : aJ ["cell", "opens", "many", "boxes", "mixed", "good", "mood", "one", "other", "side", "right", "marks"] ["cell", "opens", "many", "boxes"] (ao My) := aQ
noncomputable abbrev MB : Stmt := top 44
noncomputable abbrev Sq : Type := Int × List Int × Nat × List Int × List Str
noncomputable def yf : Sq -> List L3.D := fun (c, ops, m, bs, th) => [.int c, .lst (ops.map .int), .int m, .lst (bs.map .int), .lst (th.map .str)]
noncomputable def uv : Sq -> Prop := fun (c, ops, m, bs, th) => 1 <= m /\ 1 <= ops.length /\ bs.length <= 1000 /\ th.length = 3
noncomputable def yg : Sq -> T := fun (c, ops, m, bs, th) => (.sh (bY (RC ops m bs th c)) : T)
structure af8 (X : Cx) (CL : Str -> Addr) : Prop extends bK X where
 dY : Ln X 0 "cell"
 aR : Ln X 1 "opens"
 iX : Ln X 2 "many"
 aZ : Ln X 3 "boxes"
 ja : Ln X 4 "three"
 bz : Ln X 5 "mixed"
 zF : Ln X 6 "source"
 jw : Ln X 7 "asks"
 lO : Ln X 8 "k"
 MC : Ln X 9 "deeds"
 zG : Ln X 10 "target"
 J6 : Ln X 11 "mode"
 cM : Gl X "_law_mixed"
 cK : Gl X "len"
 cY : Gl X "range"
 J7 : Gl X "_law_ask"
 Du : Gl X "tuple"
 iA : Fc X CL "_law_mixed" 1 2 gT gU gW
 cL : X.mg "len" = none
 cZ : X.mg "range" = none
 af9 : Fc X CL "_law_ask" 2 4 yd uo ye
 Dv : X.mg "tuple" = none
theorem aga {X : Cx} {CL : Str -> Addr} {b : Bx} (E : af8 X CL) (c ops m bs th) (h : uv (c, ops, m, bs, th)) :
   az X CL b MB ["cell", "opens", "many", "boxes", "three", "mixed", "source", "asks", "k", "deeds", "target", "mode"] (yf (c, ops, m, bs, th)) (yg (c, ops, m, bs, th)) := by
 dsimp only [az, uv, yf, yg] at h ⊢
 obtain ⟨hm, ho, hb, h3⟩ := h
 refine aW E.g E.bz (aN (c_ ((c, 11)) E.iA E.cM (ai (aD E.dY) (ai (ah aj) aC)) (trivial) rfl) (t2 := .sh (.int (dO c 11))) rfl) ?_
 have c0 := C7 c 11
 show fF X CL b _ _ { nx := _, rt := fun CW _ => CW = T.sh (bY (RC ops m bs th c)), bk := _, ct := _ }
 have hw : bY (RC ops m bs th c) = .tup [.int (if dO c 11 % 2 = 0 then ops.getD (dO c 11 / 2 % (ops.length : Nat)).toNat 0 else dO c 11 / 2 % (m : Int)), .str (th.getD (dO c 13 / 300 % 3).toNat Str.empty), .tup ((OB ops m bs c).map cS), .tup (deK th (dO c 11 / 300 % 3)), .int (if dO c 13 % 5 = 0 then -1 else dO c 13 / 5 % (m : Int)), .str (if dO c 13 % 5 = 0 then "new" else (["new", "near", "far"] : List Str).getD (dO c 13 / 100 % 3).toNat Str.empty)] := rfl
 rw [hw]
 generalize W7 : (if dO c 11 % 2 = 0 then ops.getD (dO c 11 / 2 % (ops.length : Nat)).toNat 0 else dO c 11 / 2 % (m : Int)) = src
 refine aW E.g E.zF (bG (ah (ck (aD E.bz) (ah aj) ⟨by decide, by decide⟩)) (aD E.iX) (by omega)) ?_
 have R7 : (ops.map L3.D.int).length = ops.length := by simp
 have l0 := anp (dO c 11 / 2) (b := (ops.length : Nat)) (by omega)
 have l1 := anl (dO c 11 / 2) (b := (ops.length : Nat)) (by omega)
 refine BI (fun δ => δ = [some (.sh (.int c)), some (.sh (.lst (ops.map .int))), some (.sh (.int m)), some (.sh (.lst (bs.map .int))), some (.sh (.lst (th.map .str))), some (.sh (.int (dO c 11))), some (.sh (.int src)), none, none, none, none, none]) (eK (ah (bG (aD E.bz) (ah aj) (by decide))) (ah aj)).1 (fun hq => ?_) (fun hq => ?_) ?_
 . rw [amZ (am9 hq)] at W7
   rw [← W7]
   exact aW E.g E.zF (dz (aP (aD E.aR) (ah (bG (ah (ck (aD E.bz) (ah aj) ⟨by decide, by decide⟩)) (ah (cT (R7) E.cL (aD E.aR) E.cK)) (by omega))) (fQ l0 l1)) rfl) (au rfl)
 . rw [amV (anc hq)] at W7
   rw [← W7]
   exact au rfl
 rintro δ rfl
 refine aW E.g E.jw (dM dJ (ans _)) ?_
 have k0 := anp (dO c 11 / 100) (show (3 : Int) ≠ 0 by decide)
 have k1 := anl (dO c 11 / 100) (show (0 : Int) < 3 by decide)
 refine eZ E.g E.lO (fun j δ => ∃ o8, δ = [some (.sh (.int c)), some (.sh (.lst (ops.map .int))), some (.sh (.int m)), some (.sh (.lst (bs.map .int))), some (.sh (.lst (th.map .str))), some (.sh (.int (dO c 11))), some (.sh (.int src)), some (.lst ((((List.range j).map fun (k : Nat) => rZ ops m bs (c / ((k : Int) + 1) + 17 * (k : Int))).map cS).map T.sh)), o8, none, none, none])
   (fP E.cZ (ah (bG (ah (ck (aD E.bz) (ah aj) ⟨by decide, by decide⟩)) (ah aj) (by decide))) (by omega) E.cY) ⟨_, rfl⟩ (fun j δ ⟨_, e⟩ => by subst e; exact amX rfl) ?turn ?fin
 case turn =>
   rintro j d δ hj ⟨o8, rfl⟩
   obtain ⟨rfl, xS⟩ := jk hj
   have xS : j < (dO c 11 / 100 % 3).toNat := xS
   rw [aoj]
   refine kD E.jw.1 rfl (aN (c_ ((c / ((j : Int) + 1) + 17 * (j : Int), ops, m, bs)) E.af9 E.J7 (ai (ah (fK (ah (ck (aD E.dY) (ah (fK (aD E.lO) (ah aj))) (⟨by omega, by omega⟩))) (ah (rS (ah aj) (aD E.lO) (.inl ⟨by decide, by decide⟩))))) (ai (aD E.aR) (ai (aD E.iX) (ai (aD E.aZ) aC)))) (by dsimp only [uo]; exact (⟨hm, hb⟩)) (tV _)) (t2 := .sh (cS (rZ ops m bs (c / ((j : Int) + 1) + 17 * (j : Int))))) rfl) rfl (by simp; omega) (au ?_)
   have e1 : ((((List.range j).map fun (k : Nat) => rZ ops m bs (c / ((k : Int) + 1) + 17 * (k : Int))).map cS).map T.sh) ++ [T.sh (cS (rZ ops m bs (c / ((j : Int) + 1) + 17 * (j : Int))))] = ((((List.range (j + 1)).map fun (k : Nat) => rZ ops m bs (c / ((k : Int) + 1) + 17 * (k : Int))).map cS).map T.sh) := by
     simp [aox]
   rw [e1]
   exact ⟨_, rfl⟩
 case fin =>
   rintro δ ⟨o8, rfl⟩
   have e0 : (b8 0 (dO c 11 / 100 % 3).toNat).length = (dO c 11 / 100 % 3).toNat := by simp [b8]
   rw [e0]
   rw [show ((List.range (dO c 11 / 100 % 3).toNat).map fun (k : Nat) => rZ ops m bs (c / ((k : Int) + 1) + 17 * (k : Int))) = OB ops m bs c from rfl]
   generalize OB ops m bs c = al
   have hth : ∀ i : Nat, i < 3 -> sQ (th.map L3.D.str) (i : Int) = some (.str (th.getD i Str.empty)) := fun i hi => dN Str.empty (by omega) (by omega)
   have JD : sQ [L3.D.tup [], .tup [.tup [.str "call", .str (th.getD 0 Str.empty)]], .tup [.tup [.str "say", .str (th.getD 1 Str.empty), .tup [.int (-1), .int 7]], .tup [.str "call", .str (th.getD 2 Str.empty)]]] (dO c 11 / 300 % 3) = some (.tup (deK th (dO c 11 / 300 % 3))) := by
     have : dO c 11 / 300 % 3 = 0 \/ dO c 11 / 300 % 3 = 1 \/ dO c 11 / 300 % 3 = 2 := by omega
     rcases this with e | e | e <;> rw [e] <;> rfl
   have ajo : (L3.D.tup (deK th (dO c 11 / 300 % 3))).kW = true := by
     have : dO c 11 / 300 % 3 = 0 \/ dO c 11 / 300 % 3 = 1 \/ dO c 11 / 300 % 3 = 2 := by omega
     rcases this with e | e | e <;> rw [e] <;> rfl
   refine aW E.g E.MC (dz (aP (δ1 := [some (.sh (.int c)), some (.sh (.lst (ops.map .int))), some (.sh (.int m)), some (.sh (.lst (bs.map .int))), some (.sh (.lst (th.map .str))), some (.sh (.int (dO c 11))), some (.sh (.int src)), some (.lst ((al.map cS).map T.sh)), o8, none, none, none]) (cF (kE (ds := [L3.D.tup [], .tup [.tup [.str "call", .str (th.getD 0 Str.empty)]], .tup [.tup [.str "say", .str (th.getD 1 Str.empty), .tup [.int (-1), .int 7]], .tup [.str "call", .str (th.getD 2 Str.empty)]]])
     (tQ ?d1 (tQ ?d2 (tQ ?d3 cR))) (aL rfl))) (ah (bG (ah (ck (aD E.bz) (ah aj) ⟨by decide, by decide⟩)) (ah aj) (by decide))) JD) ajo) ?rest
   case d1 => exact cW cR (aL rfl)
   case d2 => exact cW (aM (cW (aM bB (aM (dz (aP (aD E.ja) (ah aj) (hth 0 (by omega))) rfl) cR)) (aL rfl)) cR) (aL rfl)
   case d3 =>
     refine cW (tQ ?d4 (tQ ?d5 cR)) (aL rfl)
     case d4 => exact cW (aM bB (aM (dz (aP (aD E.ja) (ah aj) (hth 1 (by omega))) rfl) (aM (cW (aM (dB (ah aj)) (aM aj cR)) (aL rfl)) cR))) (aL rfl)
     case d5 => exact cW (aM bB (aM (dz (aP (aD E.ja) (ah aj) (hth 2 (by omega))) rfl) cR)) (aL rfl)
   case rest =>
   generalize deK th (dO c 11 / 300 % 3) = de
   refine aW E.g E.bz (aN (c_ ((c, 13)) E.iA E.cM (ai (aD E.dY) (ai (ah aj) aC)) (trivial) rfl) (t2 := .sh (.int (dO c 13))) rfl) ?_
   have d0 := C7 c 13
   generalize dO c 13 = q at d0 ⊢
   refine aW E.g E.zG (bG (ah (ck (aD E.bz) (ah aj) ⟨by decide, by decide⟩)) (aD E.iX) (by omega)) ?_
   refine aW E.g E.J6 (dz (aP (cF (kE (aM bB (aM bB (aM bB cR))) (aL rfl))) (ah (bG (ah (ck (aD E.bz) (ah aj) ⟨by decide, by decide⟩)) (ah aj) (by decide))) (dN (f := L3.D.str) (l := ["new", "near", "far"]) Str.empty (anp _ (by decide)) (anl _ (by decide)))) rfl) ?_
   generalize htg : (if q % 5 = 0 then (-1 : Int) else q / 5 % (m : Int)) = tg
   generalize hmd : (if q % 5 = 0 then ("new" : Str) else (["new", "near", "far"] : List Str).getD (q / 100 % 3).toNat Str.empty) = md
   refine BI (fun δ => δ = [some (.sh (.int c)), some (.sh (.lst (ops.map .int))), some (.sh (.int m)), some (.sh (.lst (bs.map .int))), some (.sh (.lst (th.map .str))), some (.sh (.int q)), some (.sh (.int src)), some (.lst ((al.map cS).map T.sh)), o8, some (.sh (.tup de)), some (.sh (.int tg)), some (.sh (.str md))]) (eK (ah (bG (aD E.bz) (ah aj) (by decide))) (ah aj)).1 (fun hq => ?_) (fun hq => ?_) ?_
   . rw [amZ (am9 hq)] at htg hmd
     rw [← htg, ← hmd]
     exact aW E.g E.zG (dB (ah aj)) (aW E.g E.J6 bB (au rfl))
   . rw [amV (anc hq)] at htg hmd
     rw [← htg, ← hmd]
     exact au rfl
   rintro δ rfl
   have q0 := anp (q / 300) (show (3 : Int) ≠ 0 by decide)
   have q1 := anl (q / 300) (show (0 : Int) < 3 by decide)
   exact aU (cW (aM (v_ E.zF.1) (aM (dz (aP (aD E.ja) (ah (bG (ah (ck (aD E.bz) (ah aj) ⟨by decide, by decide⟩)) (ah aj) (by decide))) (dN Str.empty q0 (by omega))) rfl) (aM (BK E.Dv (vL E.jw.1) (jX (fun a => tV a) _) E.Du) (aM (v_ E.MC.1) (aM (v_ E.zG.1) (aM (v_ E.J6.1) cR)))))) (aL rfl)) rfl
theorem fW : iS (ao MB) ([("cell", av), ("opens", av), ("many", av), ("boxes", av), ("three", av), ("mixed", av), ("source", av), ("asks", av), ("k", av), ("deeds", av), ("target", av), ("mode", av), ("_law_mixed", aB), ("len", aB), ("range", aB), ("_law_ask", aB), ("tuple", aB)]) = true := by decide +kernel
theorem Ss : aJ ["cell", "opens", "many", "boxes", "three", "mixed", "source", "asks", "k", "deeds", "target", "mode"] ["cell", "opens", "many", "boxes", "three"] (ao MB) := aQ
theorem W8 {α : Type} {l : List α} {k : Nat} (h : l.length <= k) : cutD l none (some (k : Int)) = l := by
 unfold cutD
 have e1 : HT.vf l.length 0 none = 0 := rfl
 have e2 : HT.vf l.length l.length (some (k : Int)) = l.length := by
   unfold HT.vf
   simp
   split <;> omega
 rw [e1, e2]
 simp
noncomputable abbrev Dw : Stmt := top 45
noncomputable abbrev J8 : Type := List Int × List Int × Nat × List Int × List Str
noncomputable def uw : J8 -> List L3.D := fun (s, ops, m, bs, th) => [.lst (s.map .int), .lst (ops.map .int), .int m, .lst (bs.map .int), .lst (th.map .str)]
noncomputable def oY : J8 -> Prop := fun (s, ops, m, bs, th) => s.length <= 63 /\ 1 <= m /\ 1 <= ops.length /\ bs.length <= 1000 /\ th.length = 3 /\ (∀ x ∈ ops, 0 <= x /\ x < m) /\ ∀ x ∈ th, PyData.strOk x = true
noncomputable def ux : J8 -> T := fun (s, ops, m, bs, th) => (.lst (((zq s ops m bs th).map bY).map T.sh) : T)
structure ac1 (X : Cx) (CL : Str -> Addr) : Prop extends bK X where
 bT : Ln X 0 "script"
 aR : Ln X 1 "opens"
 Dy : X.env.kindOf "opens" = some .cell
 iX : Ln X 2 "many"
 ac2 : X.env.kindOf "many" = some .cell
 aZ : Ln X 3 "boxes"
 uy : X.env.kindOf "boxes" = some .cell
 ja : Ln X 4 "three"
 W9 : X.env.kindOf "three" = some .cell
 cO : Ln X 5 "ways"
 mj : Gl X "sorted"
 mq : X.mg "sorted" = none
 agc : Fc X CL "_law_way" 3 5 yf uv yg
 lam : Oe X CL "#_law_ways.<locals>.<lambda>" "_law_ways.<locals>.<lambda>"
 dp : X.A.depth < recursionLimit
 rm : fJ 3 X.A
theorem ac3 {X : Cx} {CL : Str -> Addr} {b : Bx} (E : ac1 X CL) (s ops m bs th) (h : oY (s, ops, m, bs, th)) :
   az X CL b Dw ["script", "opens", "many", "boxes", "three", "ways"] (uw (s, ops, m, bs, th)) (ux (s, ops, m, bs, th)) := by
 dsimp only [az, oY, uw, ux] at h ⊢
 obtain ⟨hs, hm, ho, hb, h3, OD, dU⟩ := h
 have ajp : cutD (s.map L3.D.int) none (some 63) = s.map L3.D.int := W8 (k := 63) (by simpa using hs)
 have Gp := fun c : Int => RD (ops := ops) (m := m) (bs := bs) (th := th) hm ho OD dU h3 c
 refine rV (p := fun _ => true) (gg := fun d => T.sh (bY (RC ops m bs th d.yP))) E.g E.cO (cI (.cons E.aZ.1 (.inl E.uy) (.cons E.iX.1 (.inl E.ac2) (.cons E.aR.1 (.inl E.Dy) (.cons E.ja.1 (.inl E.W9) .nil)))) (by decide +kernel)) (eS (m5 (aN (yQ (aD E.bT) (cj _) xO (xP (ah aj))) (t2 := .lst ((s.map L3.D.int).map T.sh)) (by rw [ajp])))) (.inr rfl) (fun C s0 H0 f0 b' d hd => ?Dl) (anY (cA (by simp; omega))) ?rest (by exact amX rfl) (jW ⟨_, rfl⟩)
 case Dl =>
   obtain ⟨c, hc, rfl⟩ := ank.mp hd
   exact ⟨rfl, fun _ => aN (c_ ((c, ops, m, bs, th)) (mY E.agc) (jC (by decide +kernel)) (ai (ah (v_ (fh (i := 0) rfl (by decide +kernel)))) (ai (ah (v_ (gk (i := 3) rfl (by decide +kernel)))) (ai (ah (v_ (gk (i := 2) rfl (by decide +kernel)))) (ai (ah (v_ (gk (i := 1) rfl (by decide +kernel)))) (ai (ah (v_ (gk (i := 4) rfl (by decide +kernel)))) aC))))) (by dsimp only [uv]; exact (⟨hm, ho, hb, h3⟩)) ((Gp c).kW)) rfl⟩
 case rest =>
 have em : ((s.map L3.D.int).filter fun _ => true).map (fun d => T.sh (bY (RC ops m bs th d.yP))) = ((s.map (RC ops m bs th)).map bY).map T.sh := by
   rw [gS, anF, anF, anF]
   rfl
 rw [em]
 refine aU (aN (rW (y := "way") (g := fun d => d.at1.yP) E.lam E.g E.dp E.mq E.mj (cI .nil (by decide +kernel)) (vL E.cO.1) (mZ fun d hd => ?kW) (by simp; omega) (fun f c s0 H0 b' d hd => ?key)) ?eq) rfl
 case kW =>
   obtain ⟨w, hw, rfl⟩ := ank.mp hd
   obtain ⟨c, _, rfl⟩ := ank.mp hw
   exact (Gp c).kW
 case key =>
   obtain ⟨w, hw, rfl⟩ := ank.mp hd
   exact aY (ah (v_ (JK (i := 0) rfl (by decide +kernel)))) (ah aj) rfl
 case eq =>
   rw [iU]
   rfl
theorem iD : iS (ao Dw) ([("script", av), ("opens", .cell), ("many", .cell), ("boxes", .cell), ("three", .cell), ("ways", av), ("sorted", aB)]) = true := by decide +kernel
theorem MD : aJ ["script", "opens", "many", "boxes", "three", "ways"] ["script", "opens", "many", "boxes", "three"] (ao Dw) := aQ
noncomputable abbrev kG : Stmt := inClass (top 7) 0
noncomputable abbrev oZ : Type := List Str × List Int × List Int
noncomputable def rJ : oZ -> List L3.D := fun (ks, es, ss) => [.lst (ks.map .str), .lst (es.map .int), .lst (ss.map .int)]
noncomputable def rK : oZ -> Prop := fun (ks, es, ss) => True
noncomputable def rL : oZ -> List (Str × T) := fun (ks, es, ss) => (lS ks es ss : List (Str × T))
structure Hz (X : Cx) (CL : Str -> Addr) : Prop extends bK X where
 k9 : Ln X 0 "self"
 nh : Ln X 1 "kinds"
 cB : Ln X 2 "elders"
 lU : Ln X 3 "starts"
 dZ : Gl X "list"
 d7 : X.mg "list" = none
 gq : wM X.K (CL "Tree")
 fq : bD X.K (CL "Tree") "kinds"
 fH : bD X.K (CL "Tree") "elders"
 lg : bD X.K (CL "Tree") "starts"
theorem HB {X : Cx} {CL : Str -> Addr} {b : Bx} (E : Hz X CL) (ks : List Str) (es ss : List Int) (y : Addr) (h : True) :
   fF X CL b (gB kG) (QY ["self", "kinds", "elders", "starts"] y "Tree" [.lst (ks.map .str), .lst (es.map .int), .lst (ss.map .int)]) { nx := fun δ => δ[0]? = some (some (.pin y (.ins "Tree" (lS ks es ss)))), rt := fun _ _ => False } := by
 have hi : D.cy (ks.map L3.D.str) = true := jX (fun _ => rfl) _
 refine tE E.gq E.fq E.k9.1 (ef E.d7 (aD E.nh) hi E.dZ bZ) rfl (amX rfl) ?_
 rw [g8]
 refine tE E.gq E.fH E.k9.1 (ef E.d7 (aD E.cB) (cj _) E.dZ bZ) rfl (amX rfl) ?_
 rw [cg (by decide +kernel), g8]
 refine tE E.gq E.lg E.k9.1 (ef E.d7 (aD E.lU) (cj _) E.dZ bZ) rfl (amX rfl) ?_
 rw [cg (by decide +kernel), cg (by decide +kernel), g8]
 exact au rfl
theorem iE : iS (ao kG) ([("self", av), ("kinds", av), ("elders", av), ("starts", av), ("list", aB)]) = true := by decide +kernel
theorem uz : aJ ["self", "kinds", "elders", "starts"] ["self", "kinds", "elders", "starts"] (ao kG) := aQ
noncomputable abbrev jE : Stmt := inClass (top 5) 0
noncomputable abbrev nu : Type := List L3.D × List L3.D × V × List L3.D × List L3.D × List L3.D
noncomputable def pe : nu -> List L3.D := fun (bs, nm, tv, is, os, ws) => [.lst bs, .lst nm, .val tv, .lst is, .lst os, .lst ws]
noncomputable def pA : nu -> Prop := fun (bs, nm, tv, is, os, ws) => D.cy bs = true /\ D.cy nm = true /\ D.cy is = true /\ D.cy os = true /\ D.cy ws = true
noncomputable def pB : nu -> List (Str × T) := fun (bs, nm, tv, is, os, ws) => (iW bs nm (.sh (.val tv)) is os ws : List (Str × T))
structure Dz (X : Cx) (CL : Str -> Addr) : Prop extends bK X where
 k9 : Ln X 0 "self"
 aZ : Ln X 1 "boxes"
 qz : Ln X 2 "names"
 dQ : Ln X 3 "tree"
 agd : Ln X 4 "ins"
 ac4 : Ln X 5 "outs"
 cO : Ln X 6 "ways"
 dZ : Gl X "list"
 d7 : X.mg "list" = none
 bR : wM X.K (CL "Chart")
 A2 : bD X.K (CL "Chart") "boxes"
 A3 : bD X.K (CL "Chart") "names"
 cu : bD X.K (CL "Chart") "tree"
 HC : bD X.K (CL "Chart") "ins"
 DB : bD X.K (CL "Chart") "outs"
 bO : bD X.K (CL "Chart") "ways"
theorem DC {X : Cx} {CL : Str -> Addr} {b : Bx} (E : Dz X CL) (bs nm : List L3.D) (tv : V) (is os ws : List L3.D) (y : Addr) (h : D.cy bs = true /\ D.cy nm = true /\ D.cy is = true /\ D.cy os = true /\ D.cy ws = true) :
   fF X CL b (gB jE) (QY ["self", "boxes", "names", "tree", "ins", "outs", "ways"] y "Chart" [.lst bs, .lst nm, .val tv, .lst is, .lst os, .lst ws]) { nx := fun δ => δ[0]? = some (some (.pin y (.ins "Chart" (iW bs nm (.sh (.val tv)) is os ws)))), rt := fun _ _ => False } := by
 obtain ⟨h1, h2, h3, h4, h5⟩ := h
 refine tE E.bR E.A2 E.k9.1 (ef E.d7 (aD E.aZ) h1 E.dZ bZ) rfl (amX rfl) ?_
 rw [g8]
 refine tE E.bR E.A3 E.k9.1 (ef E.d7 (aD E.qz) h2 E.dZ bZ) rfl (amX rfl) ?_
 rw [cg (by decide +kernel), g8]
 refine tE E.bR E.cu E.k9.1 (v_ E.dQ.1) rfl (amX rfl) ?_
 rw [cg (by decide +kernel), cg (by decide +kernel), g8]
 refine tE E.bR E.HC E.k9.1 (ef E.d7 (aD E.agd) h3 E.dZ bZ) rfl (amX rfl) ?_
 rw [cg (by decide +kernel), cg (by decide +kernel), cg (by decide +kernel), g8]
 refine tE E.bR E.DB E.k9.1 (ef E.d7 (aD E.ac4) h4 E.dZ bZ) rfl (amX rfl) ?_
 rw [cg (by decide +kernel), cg (by decide +kernel), cg (by decide +kernel), cg (by decide +kernel), g8]
 refine tE E.bR E.bO E.k9.1 (ef E.d7 (aD E.cO) h5 E.dZ bZ) rfl (amX rfl) ?_
 rw [cg (by decide +kernel), cg (by decide +kernel), cg (by decide +kernel), cg (by decide +kernel), cg (by decide +kernel), g8]
 exact au rfl
theorem dG : iS (ao jE) ([("self", av), ("boxes", av), ("names", av), ("tree", av), ("ins", av), ("outs", av), ("ways", av), ("list", aB)]) = true := by decide +kernel
theorem rM : aJ ["self", "boxes", "names", "tree", "ins", "outs", "ways"] ["self", "boxes", "names", "tree", "ins", "outs", "ways"] (ao jE) := aQ
noncomputable def sI (k : Int) : Str := toString k
noncomputable def nmK (k : Nat) : Str := ("mood" : Str) ++ sI (k : Int)
noncomputable def rB (n : Nat) : List Str := (List.range n).map nmK
noncomputable def bnK (k : Nat) : L3.D := .tup [.str (("box" : Str) ++ sI (k : Int)), .int ((k : Int) - 2)]
noncomputable def sf (n : Nat) : List L3.D := (List.range n).map bnK
noncomputable def uA (n : Nat) : List L3.D := (List.replicate n [L3.D.tup []]).flatten
theorem vP (n : Nat) : D.cy (sf n) = true := jX (fun _ => rfl) _
theorem mw (n : Nat) : D.cy (uA n) = true := mZ fun d hd => by
 unfold uA at hd
 obtain ⟨l, hl, hd⟩ := List.mem_flatten.mp hd
 rw [(List.mem_replicate.mp hl).2] at hd
 rw [anb.mp hd]; rfl
theorem HD (k : Nat) (h : k <= 40) : (k : Int).natAbs.log2 < 1920 /\ (toString (k : Int) : Str).length <= 50 /\ PyData.strOk (toString (k : Int) : Str) = true := by
 have h2 : ((List.range 41).all fun k => decide ((k : Int).natAbs.log2 < 1920) && decide ((toString (k : Int) : Str).length <= 50) && PyData.strOk (toString (k : Int) : Str)) = true := by decide +kernel
 have := an0.mp h2 k (anN.mpr (by omega))
 simpa [Bool.and_eq_true, and_assoc] using this
theorem DE {bs nm is os ws : List L3.D} {t : T} (h1 : D.cy bs = true) (h2 : D.cy nm = true) (h3 : t.clean = true) (h4 : D.cy is = true) (h5 : D.cy os = true) (h6 : D.cy ws = true) : T.bM (iW bs nm t is os ws) = true := by
 unfold iW vD vG
 rw [anw, anw, aoc, T.bM, T.bM, T.bM, T.bM, T.bM, T.bM, T.bM, cz h1, cz h2, h3, cz h4, cz h5, cz h6]
 rfl
noncomputable abbrev yh : Stmt := top 46
noncomputable abbrev DF : Type := List Str × List Int × List Int × List Int × List Int × List L3.D
noncomputable def qA : DF -> List L3.D := fun (ks, es, ss, oo, bs, ws) => [kF ks es ss oo, .lst (bs.map .int), .lst ws]
noncomputable def mz : DF -> Prop := fun (ks, es, ss, oo, bs, ws) => es.length <= 40 /\ bs.length <= 40 /\ D.cy ws = true
noncomputable def qB : DF -> T := fun (ks, es, ss, oo, bs, ws) => (.ins "Chart" (iW (sf bs.length) ((rB es.length).map .str) (.ins "Tree" (lS ks es ss)) (uA es.length) (uA es.length) ws) : T)
structure Xa (X : Cx) (CL : Str -> Addr) : Prop extends bK X where
 bw : Ln X 0 "lists"
 aZ : Ln X 1 "boxes"
 cO : Ln X 2 "ways"
 MF : Ln X 3 "named"
 qz : Ln X 4 "names"
 dQ : Ln X 5 "tree"
 cY : Gl X "range"
 cK : Gl X "len"
 ac5 : Gl X "Tree"
 dZ : Gl X "list"
 Xb : Gl X "Chart"
 cZ : X.mg "range" = none
 cL : X.mg "len" = none
 ac6 : Fm X CL "Tree" 1 4 rJ rK rL
 d7 : X.mg "list" = none
 Xc : Fm X CL "Chart" 1 7 pe pA pB
 aaK : X.mg "str" = none
theorem Xd {X : Cx} {CL : Str -> Addr} {b : Bx} (E : Xa X CL) (ks es ss oo bs ws) (h : mz (ks, es, ss, oo, bs, ws)) :
   az X CL b yh ["lists", "boxes", "ways", "named", "names", "tree"] (qA (ks, es, ss, oo, bs, ws)) (qB (ks, es, ss, oo, bs, ws)) := by
 dsimp only [az, mz, qA, qB] at h ⊢
 obtain ⟨hl, hb, iw⟩ := h
 refine rV (p := fun _ => true) (gg := fun d => T.sh (bnK d.yP.toNat)) E.g E.MF (cI .nil (by decide +kernel)) (fP E.cZ (ah (cT (amY ..) E.cL (aD E.aZ) E.cK)) (by omega) E.cY) (.inr rfl) (fun C s0 H0 f0 b' d hd => ?ajq) (anY (cA (by simp [b8]; omega))) ?age (by exact amX rfl) (jW ⟨_, rfl⟩)
 case ajq =>
   obtain ⟨i, hi, rfl⟩ := ank.mp hd
   have I0 : i < bs.length := by simpa using hi
   obtain ⟨q1, q2, _⟩ := HD i (by omega)
   have ei : (0 + (i : Int)) = (i : Int) := aoj _
   have et : (L3.D.int (0 + (i : Int))).yP.toNat = i := by show (0 + (i : Int)).toNat = i; omega
   refine ⟨rfl, fun _ => aN (cW (aM (oH (ah bB) (ah (Ma E.aaK (jC (by decide +kernel)) (ah (v_ (fh (i := 0) rfl (by decide +kernel)))) ((by rw [ei]; exact q1)))) ((by rw [ei, anG]; show 3 + (toString (i : Int) : Str).length <= _; omega))) (aM (oG (ah (v_ (fh (i := 0) rfl (by decide +kernel)))) (ah aj)) cR)) (aL rfl)) ?_⟩
   show T.sh _ = T.sh (bnK (L3.D.int (0 + (i : Int))).yP.toNat)
   rw [et]
   unfold bnK
   rw [ei]
   rfl
 case age =>
 have em0 : ((b8 0 (bs.length : Int).toNat).filter fun _ => true).map (fun d => T.sh (bnK d.yP.toNat)) = (sf bs.length).map T.sh := by
   rw [gS]
   unfold b8 sf
   rw [anF, anF, anP]
   refine an8 fun k _ => ?_
   show T.sh (bnK (0 + (k : Int)).toNat) = _
   rw [show (0 + (k : Int)).toNat = k by omega]
   rfl
 rw [em0]
 refine rV (p := fun _ => true) (gg := fun d => T.sh (.str (nmK d.yP.toNat))) E.g E.qz (cI .nil (by decide +kernel)) (fP E.cZ (ah (cT (amY ..) E.cL (aP (aD E.bw) (ah aj) rfl) E.cK)) (by omega) E.cY) (.inr rfl) (fun C s0 H0 f0 b' d hd => ?Dl) (anY (cA (by simp [b8]; omega))) ?rest (by exact amX rfl) (jW ⟨_, rfl⟩)
 case Dl =>
   obtain ⟨i, hi, rfl⟩ := ank.mp hd
   have I0 : i < es.length := by simpa using hi
   obtain ⟨q1, q2, _⟩ := HD i (by omega)
   have ei : (0 + (i : Int)) = (i : Int) := aoj _
   have et : (L3.D.int (0 + (i : Int))).yP.toNat = i := by show (0 + (i : Int)).toNat = i; omega
   refine ⟨rfl, fun _ => aN (oH (ah bB) (ah (Ma E.aaK (jC (by decide +kernel)) (ah (v_ (fh (i := 0) rfl (by decide +kernel)))) ((by rw [ei]; exact q1)))) ((by rw [ei, anG]; show 4 + (toString (i : Int) : Str).length <= _; omega))) ?_⟩
   show T.sh _ = T.sh (.str (nmK (L3.D.int (0 + (i : Int))).yP.toNat))
   rw [et]
   unfold nmK
   rw [ei]
   rfl
 case rest =>
 have em : ((b8 0 (es.length : Int).toNat).filter fun _ => true).map (fun d => T.sh (.str (nmK d.yP.toNat))) = ((rB es.length).map L3.D.str).map T.sh := by
   rw [gS]
   unfold b8 rB
   rw [anF, anF, anF, anP]
   refine an8 fun k _ => ?_
   show T.sh (.str (nmK (0 + (k : Int)).toNat)) = _
   rw [show (0 + (k : Int)).toNat = k by omega]
   rfl
 rw [em]
 refine aW E.g E.dQ (aN (mk_ (ks, es, ss) E.ac6 E.ac5 (ai (cF (ef E.d7 (aP (aD E.bw) (ah aj) rfl) (oN _) E.dZ bZ)) (ai (cF (ef E.d7 (aP (aD E.bw) (ah aj) rfl) (cj _) E.dZ bZ)) (ai (cF (ef E.d7 (aP (aD E.bw) (ah aj) rfl) (cj _) E.dZ bZ)) aC))) trivial (wZ ks es ss)) (t2 := .ins "Tree" (lS ks es ss)) rfl) ?_
 have hnl : ((rB es.length).map L3.D.str).length = es.length := by simp [rB]
 have eun : ∀ n : Nat, (List.replicate ((n : Int).toNat) [L3.D.tup []]).flatten = uA n := fun n => by rw [anP]; rfl
 exact aU (mkP (f := "tree") (GO := vD (sf bs.length) ((rB es.length).map .str)) (P5 := vG (uA es.length) (uA es.length) ws) (fun v => (sf bs.length, (rB es.length).map .str, v, uA es.length, uA es.length, ws)) E.Xc E.Xb
   (GP (vL E.MF.1) (GP (vL E.qz.1)
     (Rf (vM E.dQ.1)
       (ai (cF (aN (Mf (ds := [.tup []]) (cF (ds := [.tup []]) (dM (gC (cW cR (aL rfl)) dJ) (aL rfl))) (ah (cT hnl E.cL (vL E.qz.1) E.cK)) rfl (by omega) (by omega) (by rw [anP, anG]; show 1 * es.length <= _; omega)) (t2 := .lst ((uA es.length).map T.sh)) (by rw [eun])))
       (ai (cF (aN (Mf (ds := [.tup []]) (cF (ds := [.tup []]) (dM (gC (cW cR (aL rfl)) dJ) (aL rfl))) (ah (cT hnl E.cL (vL E.qz.1) E.cK)) rfl (by omega) (by omega) (by rw [anP, anG]; show 1 * es.length <= _; omega)) (t2 := .lst ((uA es.length).map T.sh)) (by rw [eun])))
       (ai (cF (ef E.d7 (aD E.cO) iw E.dZ bZ)) aC))))))
   (fun v => rfl) (fun v => ⟨vP _, oN _, mw _, mw _, iw⟩) (fun v => rfl) (C4 (vP _) (oN _)) (C5 (mw _) (mw _) iw)) rfl
theorem fX : iS (ao yh) ([("lists", av), ("boxes", av), ("ways", av), ("named", av), ("names", av), ("tree", av), ("range", aB), ("len", aB), ("Tree", aB), ("list", aB), ("Chart", aB)]) = true := by decide +kernel
theorem HF : aJ ["lists", "boxes", "ways", "named", "names", "tree"] ["lists", "boxes", "ways"] (ao yh) := aQ
noncomputable abbrev jF : Stmt := top 23
noncomputable abbrev ny : Type := List L3.D × List L3.D × L3.D × List L3.D × List L3.D × List bN × Int
noncomputable def iF : ny -> List L3.D := fun (bs, nm, tr, is, os, ws, i) => [gJ bs nm tr is os (ws.map bY), .int i]
noncomputable def fY : ny -> Prop := fun (bs, nm, tr, is, os, ws, i) => 0 <= i /\ i < ws.length
noncomputable def iG : ny -> T := fun (bs, nm, tr, is, os, ws, i) => (.sh (.bl (rA ws i)) : T)
structure DG (X : Cx) (CL : Str -> Addr) : Prop extends bK X where
 bH : Ln X 0 "chart"
 c9 : Ln X 1 "number"
 zH : Gl X "TARGET"
 zI : ∃ u, X.mg "TARGET" = some (.int 4 u)
 bR : wM X.K (CL "Chart")
 bO : bD X.K (CL "Chart") "ways"
theorem DH {X : Cx} {CL : Str -> Addr} {b : Bx} (E : DG X CL) (bs nm tr is os ws i) (h : fY (bs, nm, tr, is, os, ws, i)) :
   az X CL b jF ["chart", "number"] (iF (bs, nm, tr, is, os, ws, i)) (iG (bs, nm, tr, is, os, ws, i)) := by
 dsimp only [az, fY, iF, iG] at h ⊢
 obtain ⟨h0, h1⟩ := h
 exact aU (kX (aY (aP (gn E.bR E.bO (aD E.bH) gK) (aD E.c9) (dN (f := bY) w0 h0 h1)) (ah (g6 E.zI E.zH)) (bI (j := 4) rfl)) (ah (dB (ah aj)))).2 rfl
theorem lq : iS (ao jF) ([("chart", av), ("number", av), ("TARGET", aB)]) = true := by decide +kernel
theorem rN : aJ ["chart", "number"] ["chart", "number"] (ao jF) := aQ
noncomputable abbrev yi : Stmt := top 8
noncomputable abbrev DI : Type := List Str × List Int × List Int × Int
noncomputable def iY : DI -> List L3.D := fun (ks, es, ss, m) => [gi ks es ss, .int m]
noncomputable def f7 : DI -> Prop := fun (ks, es, ss, m) => eV es /\ 0 <= m /\ m < es.length /\ es.length <= 1000
noncomputable def iZ : DI -> T := fun (ks, es, ss, m) => (.lst (((bQ es m).map .int).map T.sh) : T)
structure Xe (X : Cx) (CL : Str -> Addr) : Prop extends bK X where
 dQ : Ln X 0 "tree"
 eW : Ln X 1 "mood"
 aO : Ln X 2 "found"
 jD : Ln X 3 "elder"
 gq : wM X.K (CL "Tree")
 fH : bD X.K (CL "Tree") "elders"
theorem Xf {X : Cx} {CL : Str -> Addr} {b : Bx} (E : Xe X CL) (ks es ss m) (h : f7 (ks, es, ss, m)) :
   az X CL b yi ["tree", "mood", "found", "elder"] (iY (ks, es, ss, m)) (iZ (ks, es, ss, m)) := by
 dsimp only [az, f7, iY, iZ] at h ⊢
 obtain ⟨ht, h0, h1, hlen⟩ := h
 refine aW E.g E.aO (dM dJ (ans _)) ?_
 refine aW E.g E.jD (dz (aP (gn E.gq E.fH (aD E.dQ) oU) (aD E.eW) (fQ h0 h1)) rfl) ?_
 have hm := ht.at h0 h1
 refine L8 E.g (fun n δ => ∃ (k : Int) (l : List Int), δ = [some (.sh (gi ks es ss)), some (.sh (.int m)), some (.lst ((l.map .int).map T.sh)), some (.sh (.int k))] /\ -1 <= k /\ k < n /\ k < es.length /\ l ++ vg n es k = bQ es m /\ l.length + n <= es.length + 1) (es.length + 1)
   ⟨es.getD m.toNat 0, [], rfl, hm.1, by omega, by omega, rfl, by simp⟩ ?_
 rintro n δ ⟨k, l, rfl, k0, k1, k2, k3, k4⟩
 refine ⟨_, _, (kX (aD E.jD) (ah (dB (ah aj)))).1, fun hp => ?_, fun hp => ?_⟩
 . have hk : ¬ k = -1 := by simpa using hp
   have ha := ht.at (k := k) (by omega) k2
   cases n with
   | zero => omega
   | succ n =>
     refine kD E.aO.1 rfl (v_ E.jD.1) rfl (by simp; omega) ?_
     refine aW E.g E.jD (dz (aP (gn E.gq E.fH (aD E.dQ) oU) (aD E.jD) (fQ (by omega) k2)) rfl) ?_
     refine au ⟨n, Nat.lt_succ_self _, es.getD k.toNat 0, l ++ [k], ?_, ha.1, by omega, by omega, ?_, by simp; omega⟩
     . show [_, _, some (T.lst (((l.map D.int).map T.sh) ++ [T.sh (.int k)])), _] = _
       simp
     . rw [← k3, vg, amV hk, am8]
       rfl
 . have hk : k = -1 := by simpa using hp
   subst hk
   have e : l = bQ es m := by
     rw [← k3]
     cases n with
     | zero => rw [vg, anu]
     | succ n => rw [vg, amZ rfl, anu]
   subst e
   exact aU (vM E.aO.1) rfl
theorem uB : iS (ao yi) ([("tree", av), ("mood", av), ("found", av), ("elder", av)]) = true := by decide +kernel
theorem HG : aJ ["tree", "mood", "found", "elder"] ["tree", "mood"] (ao yi) := aQ
noncomputable abbrev uC : Stmt := top 10
noncomputable abbrev zJ : Type := List Str × List Int × List Int × Int × Int
noncomputable def j4 : zJ -> List L3.D := fun (ks, es, ss, m, o) => [gi ks es ss, .int m, .int o]
noncomputable def fZ : zJ -> Prop := fun (ks, es, ss, m, o) => eV es /\ 0 <= m /\ m < es.length /\ es.length <= 1000
noncomputable def j5 : zJ -> T := fun (ks, es, ss, m, o) => (.sh (.bl (decide (o = -1) || decide (o ∈ bQ es m))) : T)
structure Sv (X : Cx) (CL : Str -> Addr) : Prop extends bK X where
 dQ : Ln X 0 "tree"
 eW : Ln X 1 "mood"
 bC : Ln X 2 "other"
 jG : Gl X "above"
 nA : Fc X CL "above" 1 2 iY f7 iZ
theorem Sw {X : Cx} {CL : Str -> Addr} {b : Bx} (E : Sv X CL) (ks es ss m o) (h : fZ (ks, es, ss, m, o)) :
   az X CL b uC ["tree", "mood", "other"] (j4 (ks, es, ss, m, o)) (j5 (ks, es, ss, m, o)) := by
 dsimp only [az, fZ, j4, j5] at h ⊢
 exact aU (aau (eK (aD E.bC) (ah (dB (ah aj)))).2 (fun _ => yL (ic (l := bQ es m) (aD E.bC) (cF (c_ (ks, es, ss, m) E.nA E.jG (ai (aD E.dQ) (ai (aD E.eW) aC)) h (bA _))) rfl rfl).2)) rfl
theorem qC : iS (ao uC) ([("tree", av), ("mood", av), ("other", av), ("above", aB)]) = true := by decide +kernel
theorem B6 : aJ ["tree", "mood", "other"] ["tree", "mood", "other"] (ao uC) := aQ
noncomputable abbrev MG : Stmt := top 12
noncomputable abbrev Sx : Type := List Str × List Int × List Int × Int × Int
noncomputable def yj : Sx -> List L3.D := fun (ks, es, ss, a, c) => [gi ks es ss, .int a, .int c]
noncomputable def uD : Sx -> Prop := fun (ks, es, ss, a, c) => eV es /\ es.length <= 1000 /\ ks.length = es.length /\ (0 <= a /\ a < es.length) /\ 0 <= c /\ c < es.length
noncomputable def yk : Sx -> T := fun (ks, es, ss, a, c) => (.sh (.int (k6 (dX ks) es a c)) : T)
structure agf (X : Cx) (CL : Str -> Addr) : Prop extends bK X where
 dQ : Ln X 0 "tree"
 dS : Ln X 1 "one"
 bC : Ln X 2 "other"
 kH : Ln X 3 "upper"
 jG : Gl X "above"
 mC : Gl X "within"
 nA : Fc X CL "above" 1 2 iY f7 iZ
 uE : Fc X CL "within" 2 3 j4 fZ j5
 gq : wM X.K (CL "Tree")
 fq : bD X.K (CL "Tree") "kinds"
theorem agg {X : Cx} {CL : Str -> Addr} {b : Bx} (E : agf X CL) (ks es ss a c) (h : uD (ks, es, ss, a, c)) :
   az X CL b MG ["tree", "one", "other", "upper"] (yj (ks, es, ss, a, c)) (yk (ks, es, ss, a, c)) := by
 dsimp only [az, uD, yj, yk] at h ⊢
 obtain ⟨ht, hl, hk, ⟨a0, a1⟩, c0, c1⟩ := h
 refine eZ E.g E.kH (fun j δ => ∃ o, (∀ x ∈ (bQ es a).take j, (dX ks x && decide (x ∈ bQ es c)) = false) /\ δ = [some (.sh (gi ks es ss)), some (.sh (.int a)), some (.sh (.int c)), o])
   (eS (m5 (c_ (_, _, _, _) E.nA E.jG (ai (aD E.dQ) (ai (aD E.dS) aC)) (by dsimp only [f7]; exact (⟨ht, a0, a1, hl⟩)) (bA _)))) ⟨_, fun x hx => by simp at hx, rfl⟩ (fun j δ ⟨_, _, e⟩ => by subst e; exact Nat.le_of_ble_eq_true rfl) ?turn ?fin
 case turn =>
   rintro j d δ hj ⟨o, jl, rfl⟩
   rw [anq] at hj
   cases hx : (bQ es a)[j]? with
   | none => rw [hx] at hj; cases hj
   | some x =>
     rw [hx] at hj
     cases hj
     have A4 : x ∈ bQ es a := ant hx
     have hxb := qc ht a0 a1 A4
     have xS : j < (bQ es a).length := (anf.mp hx).1
     have AJ : (bQ es a).take (j + 1) = (bQ es a).take j ++ [x] := by rw [anO, hx]; rfl
     refine cQ (iQ (eO (eL (aP (gn E.gq E.fq (aD E.dQ) rX) (aD E.kH) (dN Str.empty (by omega) (by omega))) (ah bB)).1 (fun hb => (gD (gR (c_ (_, _, _, _, _) E.uE E.mC (ai (aD E.dQ) (ai (aD E.bC) (ai (aD E.kH) aC))) (by dsimp only [fZ]; exact (⟨ht, c0, c1, hl⟩)) rfl)))))) (fun hp => ?_) (fun hp => au (au ⟨_, ?_, rfl⟩))
     . refine aU (v_ E.kH.1) ?_
       have hp2 : (dX ks x && decide (x ∈ bQ es c)) = true := by
         have : decide (x = -1) = false := anz (by omega)
         rw [this, Bool.false_or] at hp
         exact hp
       have : (bQ es a).find? (fun x => dX ks x && decide (x ∈ bQ es c)) = some x := by
         have Jp : bQ es a = (bQ es a).take j ++ x :: (bQ es a).drop (j + 1) := by
           have h2 := List.take_append_drop j (bQ es a)
           rw [aoD xS] at h2
           have : (bQ es a)[j] = x := (anf.mp hx).2
           rw [this] at h2
           exact h2.symm
         conv => lhs; rw [Jp]
         rw [List.find?_append, aoX.mpr (fun y hy => by rw [jl y hy]; decide), aoK, hp2]
         rfl
       show _ = T.sh (.int (k6 (dX ks) es a c))
       unfold k6
       rw [this]
       rfl
     . intro y hy
       rw [AJ] at hy
       rcases am3.mp hy with hy | hy
       . exact jl y hy
       . have e : y = x := by simpa using hy
         subst e
         have : decide (y = -1) = false := anz (by omega)
         rw [this, Bool.false_or] at hp
         exact hp
 case fin =>
   rintro δ ⟨o, jl, rfl⟩
   rw [amY, anK] at jl
   refine aU (dB (ah aj)) ?_
   show _ = T.sh (.int (k6 (dX ks) es a c))
   unfold k6
   rw [aoX.mpr (fun y hy => by rw [jl y hy]; decide)]
   rfl
theorem vQ : iS (ao MG) ([("tree", av), ("one", av), ("other", av), ("upper", av), ("above", aB), ("within", aB)]) = true := by decide +kernel
theorem Sy : aJ ["tree", "one", "other", "upper"] ["tree", "one", "other"] (ao MG) := aQ
noncomputable abbrev qD : Stmt := top 24
noncomputable abbrev vR : Type := List L3.D × List L3.D × List Str × List Int × List Int × List L3.D × List L3.D × List bN × Int
noncomputable def kI : vR -> List L3.D := fun (bs, nm, ks, es, ss, is, os, ws, i) => [gJ bs nm (gi ks es ss) is os (ws.map bY), .int i]
noncomputable def jn : vR -> Prop := fun (bs, nm, ks, es, ss, is, os, ws, i) => eV es /\ es.length <= 1000 /\ ks.length = es.length /\ (0 <= i /\ i < ws.length) /\ (0 <= (iy ws i).src /\ (iy ws i).src < es.length) /\ 0 <= (iy ws i).tgt /\ (iy ws i).tgt < es.length
noncomputable def kJ : vR -> T := fun (bs, nm, ks, es, ss, is, os, ws, i) => (.sh (.int (qd ks es (iy ws i))) : T)
structure OU (X : Cx) (CL : Str -> Addr) : Prop extends bK X where
 bH : Ln X 0 "chart"
 c9 : Ln X 1 "number"
 dh : Ln X 2 "way"
 Sz : Gl X "top"
 zK : Gl X "SOURCE"
 zH : Gl X "TARGET"
 agh : Fc X CL "top" 3 3 yj uD yk
 mD : ∃ u, X.mg "SOURCE" = some (.int 0 u)
 zI : ∃ u, X.mg "TARGET" = some (.int 4 u)
 bR : wM X.K (CL "Chart")
 bO : bD X.K (CL "Chart") "ways"
 cu : bD X.K (CL "Chart") "tree"
theorem OV {X : Cx} {CL : Str -> Addr} {b : Bx} (E : OU X CL) (bs nm ks es ss is os ws i) (h : jn (bs, nm, ks, es, ss, is, os, ws, i)) :
   az X CL b qD ["chart", "number", "way"] (kI (bs, nm, ks, es, ss, is, os, ws, i)) (kJ (bs, nm, ks, es, ss, is, os, ws, i)) := by
 dsimp only [az, jn, kI, kJ] at h ⊢
 obtain ⟨ht, hl, hk, ⟨i0, i1⟩, hs, ht2⟩ := h
 refine aW E.g E.dh (aN (QK (CM E.bR E.bO (v_ E.bH.1) gK) (aD E.c9) (dN (f := bY) w0 i0 i1)) (t2 := .sh (bY (iy ws i))) rfl) ?_
 exact aU (c_ (ks, es, ss, (iy ws i).src, (iy ws i).tgt) E.agh E.Sz (ai (gn E.bR E.cu (aD E.bH) iV) (ai (aY (aD E.dh) (ah (g6 E.mD E.zK)) (bI (j := 0) rfl)) (ai (aY (aD E.dh) (ah (g6 E.zI E.zH)) (bI (j := 4) rfl)) aC))) (by dsimp only [uD]; exact ⟨ht, hl, hk, hs, ht2⟩) rfl) rfl
theorem i6 : iS (ao qD) ([("chart", av), ("number", av), ("way", av), ("top", aB), ("SOURCE", aB), ("TARGET", aB)]) = true := by decide +kernel
theorem zL : aJ ["chart", "number", "way"] ["chart", "number"] (ao qD) := aQ
noncomputable abbrev ym : Stmt := top 9
noncomputable abbrev DJ : Type := List Str × List Int × List Int × Int
noncomputable def qE : DJ -> List L3.D := fun (ks, es, ss, m) => [gi ks es ss, .int m]
noncomputable def mE : DJ -> Prop := fun (ks, es, ss, m) => eV es /\ 0 <= m /\ m < es.length /\ es.length <= 1000
noncomputable def qF : DJ -> T := fun (ks, es, ss, m) => (.sh (.int ((bQ es m).length : Nat)) : T)
structure Xg (X : Cx) (CL : Str -> Addr) : Prop extends bK X where
 dQ : Ln X 0 "tree"
 eW : Ln X 1 "mood"
 cK : Gl X "len"
 jG : Gl X "above"
 cL : X.mg "len" = none
 nA : Fc X CL "above" 1 2 iY f7 iZ
theorem Xh {X : Cx} {CL : Str -> Addr} {b : Bx} (E : Xg X CL) (ks es ss m) (h : mE (ks, es, ss, m)) :
   az X CL b ym ["tree", "mood"] (qE (ks, es, ss, m)) (qF (ks, es, ss, m)) := by
 dsimp only [az, mE, qE, qF] at h ⊢
 have hl : ((bQ es m).map L3.D.int).length = (bQ es m).length := by simp
 exact aU (cT hl E.cL (cF (c_ (ks, es, ss, m) E.nA E.jG (ai (aD E.dQ) (ai (aD E.eW) aC)) h (by show (T.lst _).clean = true; rw [iR]; exact oM _))) E.cK) rfl
theorem uF : iS (ao ym) ([("tree", av), ("mood", av), ("len", aB), ("above", aB)]) = true := by decide +kernel
theorem HJ : aJ ["tree", "mood"] ["tree", "mood"] (ao ym) := aQ
noncomputable abbrev kK : Stmt := top 25
noncomputable abbrev pC : Type := List Str × List Int × List Int × Int × Int
noncomputable def jb : pC -> List L3.D := fun (ks, es, ss, t, u) => [gi ks es ss, .int t, .int u]
noncomputable def gy : pC -> Prop := fun (ks, es, ss, t, u) => eV es /\ es.length <= 1000 /\ (-1 <= t /\ t < es.length) /\ -1 <= u /\ u < es.length
noncomputable def jc : pC -> T := fun (ks, es, ss, t, u) => (.sh (.bl (xh es t u)) : T)
structure HK (X : Cx) (CL : Str -> Addr) : Prop extends bK X where
 dQ : Ln X 0 "tree"
 dS : Ln X 1 "one"
 bC : Ln X 2 "other"
 mC : Gl X "within"
 uE : Fc X CL "within" 2 3 j4 fZ j5
theorem HL {X : Cx} {CL : Str -> Addr} {b : Bx} (E : HK X CL) (ks es ss t u) (h : gy (ks, es, ss, t, u)) :
   az X CL b kK ["tree", "one", "other"] (jb (ks, es, ss, t, u)) (jc (ks, es, ss, t, u)) := by
 dsimp only [az, gy, jb, jc] at h ⊢
 obtain ⟨ht, hl, ⟨t0, t1⟩, u0, u1⟩ := h
 show fF X CL b _ _ { nx := _, rt := fun CW _ => CW = T.sh (.bl (xh es t u)), bk := _, ct := _ }
 unfold xh
 refine cQ (iQ (oi (eK (aD E.dS) (aD E.bC)).1 (fun hb => (oi (eK (aD E.dS) (ah (dB (ah aj)))).1 (fun hb2 => (mW (eK (aD E.bC) (ah (dB (ah aj)))).1)))))) (fun hp => ?_) (fun hp => au ?_)
 . refine aU gQ ?_
   rw [show (decide (t = u) || (decide (t = -1) || decide (u = -1))) = true from hp]
   rfl
 . have hp : (decide (t = u) || (decide (t = -1) || decide (u = -1))) = false := hp
   rw [hp]
   simp only [Bool.or_eq_false_iff, decide_eq_false_iff_not] at hp
   refine aU (aau (c_ ((ks, es, ss, t, u)) E.uE E.mC (ai (aD E.dQ) (ai (aD E.dS) (ai (aD E.bC) aC))) (by dsimp only [fZ]; exact (⟨ht, by omega, by omega, hl⟩)) rfl) (fun hb => (yL (c_ ((ks, es, ss, u, t)) E.uE E.mC (ai (aD E.dQ) (ai (aD E.bC) (ai (aD E.dS) aC))) (by dsimp only [fZ]; exact (⟨ht, by omega, by omega, hl⟩)) rfl)))) ?_
   rw [show decide (u = -1) = false from anz hp.2.2, show decide (t = -1) = false from anz hp.2.1]
   rfl
theorem jH : iS (ao kK) ([("tree", av), ("one", av), ("other", av), ("within", aB)]) = true := by decide +kernel
theorem uG : aJ ["tree", "one", "other"] ["tree", "one", "other"] (ao kK) := aQ
noncomputable abbrev DK : Stmt := top 26
noncomputable abbrev J9 : Type := List L3.D × List L3.D × List Str × List Int × List Int × List L3.D × List L3.D × List bN × List Int
noncomputable def uH : J9 -> List L3.D := fun (bs, nm, ks, es, ss, is, os, ws, row) => [gJ bs nm (gi ks es ss) is os (ws.map bY), .lst (row.map .int)]
noncomputable def pD : J9 -> Prop := fun (bs, nm, ks, es, ss, is, os, ws, row) => eV es /\ es.length <= 900 /\ ks.length = es.length /\ row.length <= 63 /\ (∀ k ∈ row, 0 <= k /\ k < ws.length) /\ ∀ w ∈ ws, (0 <= w.src /\ w.src < es.length) /\ -1 <= w.tgt /\ w.tgt < es.length
noncomputable def uI : J9 -> T := fun (bs, nm, ks, es, ss, is, os, ws, row) => (.lst (((t6 ks es ws row).map .int).map T.sh) : T)
structure ac7 (X : Cx) (CL : Str -> Addr) : Prop extends bK X where
 bH : Ln X 0 "chart"
 kL : X.env.kindOf "chart" = some .cell
 aO : Ln X 1 "found"
 zM : Ln X 2 "chosen"
 Ka : Ln X 3 "tops"
 c9 : Ln X 4 "number"
 kH : Ln X 5 "upper"
 Xi : X.env.kindOf "upper" = some .cell
 mj : Gl X "sorted"
 nB : Gl X "has_target"
 vS : Gl X "way_top"
 agi : Gl X "any"
 mq : X.mg "sorted" = none
 DL : Fc X CL "has_target" 1 2 iF fY iG
 OW : Fc X CL "way_top" 4 2 kI jn kJ
 agj : X.mg "any" = none
 Xj : Fc X CL "depth" 2 2 qE mE qF
 mD : ∃ u, X.mg "SOURCE" = some (.int 0 u)
 HM : Fc X CL "tops_meet" 3 3 jb gy jc
 bR : wM X.K (CL "Chart")
 cu : bD X.K (CL "Chart") "tree"
 bO : bD X.K (CL "Chart") "ways"
 lam : Oe X CL "#kept.<locals>.<lambda>" "kept.<locals>.<lambda>"
 dp : X.A.depth < recursionLimit
 rm : fJ 4 X.A
theorem ac8 {X : Cx} {CL : Str -> Addr} {b : Bx} (E : ac7 X CL) (bs nm ks es ss is os ws row) (h : pD (bs, nm, ks, es, ss, is, os, ws, row)) :
   az X CL b DK ["chart", "found", "chosen", "tops", "number", "upper"] (uH (bs, nm, ks, es, ss, is, os, ws, row)) (uI (bs, nm, ks, es, ss, is, os, ws, row)) := by
 dsimp only [az, pD, uH, uI] at h ⊢
 obtain ⟨ht, hl, hk, hr, agk, hw⟩ := h
 refine aW E.g E.zM (dM dJ (ans _)) ?_
 refine aW E.g E.Ka (dM dJ (ans _)) ?_
 have aI : ∀ (l : List Int) (x : Int), (l.map L3.D.int).map T.sh ++ [T.sh (.int x)] = ((l ++ [x]).map L3.D.int).map T.sh := by intros; simp
 have tI : ∀ {w : bN}, w ∈ ws -> -1 <= qd ks es w /\ qd ks es w < es.length := fun {w} hm => by
   have hs := (hw w hm).1
   rcases tX (zj := dX ks) (es := es) (a := w.src) (c := w.tgt) with z | z
   . unfold qd; rw [z]; omega
   . have := qc ht hs.1 hs.2 z
     unfold qd
     omega
 have hsl : (b9 (tZ es ws) row).length <= 63 := by rw [iT]; exact hr
 have hsm : ∀ k ∈ b9 (tZ es ws) row, 0 <= k /\ k < ws.length := fun k hk => agk k (eU.mp hk)
 have hT2 : ∀ l : List Int, (∀ k ∈ l, 0 <= k /\ k < ws.length) -> ∀ t ∈ (Hl ks es ws l).2, -1 <= t /\ t < es.length := by
   have gen : ∀ (l : List Int) (s : List Int × List Int), (∀ k ∈ l, 0 <= k /\ k < ws.length) -> (∀ t ∈ s.2, -1 <= t /\ t < es.length) -> ∀ t ∈ (l.foldl (OO (rA ws) (fun k => qd ks es (iy ws k)) (xh es)) s).2, -1 <= t /\ t < es.length := by
     intro l
     induction l with
     | nil => intro s _ hs; exact hs
     | cons k l ih =>
       intro s hl hs
       rw [aoJ]
       refine ih _ (fun q hq => hl q (am2 _ hq)) ?_
       obtain ⟨k0, k1⟩ := hl k am0
       unfold OO
       split
       . split
         . exact hs
         . intro t ht'
           rcases am3.mp ht' with z | z
           . exact hs t z
           . rw [anb.mp z]; exact tI (iz k0 k1)
       . exact hs
   exact fun l hl => gen l ([], []) hl (fun t ht' => by cases ht')
 refine eZ E.g E.c9 (fun j δ => ∃ o4 o5, δ = [some (.sh (gJ bs nm (gi ks es ss) is os (ws.map bY))), some (.sh (.lst (row.map .int))), some (.lst (((Hl ks es ws ((b9 (tZ es ws) row).take j)).1.map .int).map T.sh)), some (.lst (((Hl ks es ws ((b9 (tZ es ws) row).take j)).2.map .int).map T.sh)), o4, o5])
   (eS (m5 (ds := (b9 (tZ es ws) row).map .int) (aN (rW (y := "way") (g := fun d => tZ es ws d.yP) E.lam E.g E.dp E.mq E.mj (cI (.cons E.bH.1 (.inl E.kL) .nil) (by decide +kernel)) (aD E.aO) (cj _) (by simp; omega) (fun f c s0 H0 b' d hd => ?key)) (by rw [iU]; rfl)))) ⟨_, _, rfl⟩ (fun j δ ⟨_, _, e⟩ => by subst e; exact amX rfl) ?turn ?fin
 case key =>
   obtain ⟨k, hkm, rfl⟩ := ank.mp hd
   obtain ⟨k0, k1⟩ := agk k hkm
   obtain ⟨⟨s0, s1⟩, _⟩ := hw _ (iz k0 k1)
   exact ah (aN (dB (ah (c_ (ks, es, ss, (iy ws k).src) (acK E.Xj (E.rm.mono (by decide))) (JL (by decide +kernel)) (ai (gn (by exact E.bR) (by exact E.cu) (ah (v_ (CZ (i := 1) rfl (by decide +kernel)))) iV) (ai (aY (aP (gn (by exact E.bR) (by exact E.bO) (ah (v_ (CZ (i := 1) rfl (by decide +kernel)))) gK) (ah (v_ (JK (i := 0) rfl (by decide +kernel)))) (dN (f := bY) w0 k0 k1)) (ah (g6 (by exact E.mD) (JL (by decide +kernel)))) (bI (j := 0) rfl)) aC)) (by dsimp only [mE]; exact ⟨ht, s0, s1, by omega⟩) rfl))) rfl)
 case turn =>
   rintro j d δ hj ⟨o4, o5, rfl⟩
   obtain ⟨k, rfl, _, hkm, xS, _, AJ⟩ := ig hj
   obtain ⟨k0, k1⟩ := hsm k hkm
   obtain ⟨ws0, ws1⟩ := hw _ (iz k0 k1)
   have hlen := Mv ks es ws ((b9 (tZ es ws) row).take j)
   have rE : ((b9 (tZ es ws) row).take j).length <= 63 := by rw [aor]; omega
   have htp := hT2 ((b9 (tZ es ws) row).take j) fun q hq => hsm q (aoQ hq)
   show fF X CL b _ _ { nx := fun δ => ∃ o4 o5, δ = [_, _, some (.lst (((Hl ks es ws ((b9 (tZ es ws) row).take (j + 1))).1.map .int).map T.sh)), some (.lst (((Hl ks es ws ((b9 (tZ es ws) row).take (j + 1))).2.map .int).map T.sh)), o4, o5], rt := _, bk := _, ct := fun δ => ∃ o4 o5, δ = [_, _, some (.lst (((Hl ks es ws ((b9 (tZ es ws) row).take (j + 1))).1.map .int).map T.sh)), some (.lst (((Hl ks es ws ((b9 (tZ es ws) row).take (j + 1))).2.map .int).map T.sh)), o4, o5] }
   rw [AJ, RT]
   generalize Hl ks es ws ((b9 (tZ es ws) row).take j) = s at hlen htp ⊢
   obtain ⟨cs, oV⟩ := s
   dsimp only at hlen htp ⊢
   unfold OO
   dsimp only
   refine BI (fun δ => ∃ T' o5, (if rA ws k = true then (if oV.any (xh es (qd ks es (iy ws k))) = true then (cs, oV) else (cs ++ [k], oV ++ [qd ks es (iy ws k)])) else (cs ++ [k], oV)) = (cs ++ [k], T') /\ δ = [some (.sh (gJ bs nm (gi ks es ss) is os (ws.map bY))), some (.sh (.lst (row.map .int))), some (.lst ((cs.map .int).map T.sh)), some (.lst ((T'.map .int).map T.sh)), some (.sh (.int k)), o5])
     (gR (aN (c_ (bs, nm, gi ks es ss, is, os, ws, k) E.DL E.nB (ai (aD E.bH) (ai (aD E.c9) aC)) (by dsimp only [fY]; exact ⟨k0, k1⟩) rfl) (t2 := .sh (.bl (rA ws k))) rfl)) (fun hp => ?_) (fun hp => ?_) ?_
   . have hp : rA ws k = true := hp
     have htg : ¬ (iy ws k).tgt = -1 := by unfold rA at hp; simpa using hp
     refine aW E.g E.kH (aN (c_ (bs, nm, ks, es, ss, is, os, ws, k) E.OW E.vS (ai (aD E.bH) (ai (aD E.c9) aC)) (by dsimp only [jn]; exact ⟨ht, by omega, hk, ⟨k0, k1⟩, ws0, by omega, ws1.2⟩) rfl) (t2 := .sh (.int (qd ks es (iy ws k)))) rfl) ?_
     have hup := tI (iz (ws := ws) k0 k1)
     refine cQ (gR (aN (acC (l := oV.map (xh es (qd ks es (iy ws k)))) E.g E.agj (cF (aN (Rr (p := fun _ => true) (g := fun d => T.sh (.bl (xh es (qd ks es (iy ws k)) d.yP))) (cI (.cons E.bH.1 (.inl E.kL) (.cons E.kH.1 (.inl E.Xi) .nil)) (by decide +kernel)) E.g.calm (vL E.Ka.1) (fun d _ => rfl) (fun C s0 H0 f0 b' d hd => ?Dl) (anY (cA (by rw [amY]; omega)))) ?ceq)) E.agi) (t2 := .sh (.bl (oV.any (xh es (qd ks es (iy ws k)))))) (congrArg (fun z => T.sh (.bl z)) (by rw [List.any_map]; rfl)))) (fun hq => ?_) (fun hq => au ?_)
     case Dl =>
       obtain ⟨t, htm, rfl⟩ := ank.mp hd
       exact ⟨rfl, fun _ => aN (c_ (ks, es, ss, qd ks es (iy ws k), t) (mY E.HM) (jC (by decide +kernel)) (ai (gn (by exact E.bR) (by exact E.cu) (ah (v_ (gk (i := 1) rfl (by decide +kernel)))) iV) (ai (ah (v_ (gk (i := 2) rfl (by decide +kernel)))) (ai (ah (v_ (fh (i := 0) rfl (by decide +kernel)))) aC))) (by dsimp only [gy]; exact ⟨ht, by omega, hup, htp t htm⟩) rfl) rfl⟩
     case ceq =>
       rw [gS, anF, anF, anF]
       rfl
     . have hq : oV.any (xh es (qd ks es (iy ws k))) = true := hq
       refine aci ?_
       rw [amZ hp, amZ hq]
       exact ⟨_, _, rfl⟩
     . have hq : oV.any (xh es (qd ks es (iy ws k))) = false := hq
       refine kD E.Ka.1 rfl (v_ E.kH.1) rfl (by simp; omega) (au ⟨oV ++ [qd ks es (iy ws k)], some (.sh (.int (qd ks es (iy ws k)))), ?_, ?_⟩)
       . rw [amZ hp, amV (by rw [hq]; decide)]
       . rw [aI]; rfl
   . have hp : rA ws k = false := hp
     exact au ⟨oV, _, by rw [amV (by rw [hp]; decide)], rfl⟩
   rintro δ ⟨T', o5', eT, rfl⟩
   rw [eT]
   refine kD E.zM.1 rfl (v_ E.c9.1) rfl (by simp; omega) (au ?_)
   rw [aI]
   exact ⟨_, _, rfl⟩
 case fin =>
   rintro δ ⟨o4, o5, rfl⟩
   rw [amY, anK]
   have hlen := Mv ks es ws (b9 (tZ es ws) row)
   exact aU (aN (JC E.mq (vL E.zM.1) (by omega) E.mj) rfl) rfl
theorem gE : iS (ao DK) ([("chart", .cell), ("found", av), ("chosen", av), ("tops", av), ("number", av), ("upper", .cell), ("sorted", aB), ("has_target", aB), ("way_top", aB), ("any", aB)]) = true := by decide +kernel
theorem MH : aJ ["chart", "found", "chosen", "tops", "number", "upper"] ["chart", "found"] (ao DK) := aQ
noncomputable abbrev jd : Stmt := top 21
noncomputable abbrev lu : Type := List L3.D × List L3.D × List Str × List Int × List Int × List L3.D × List L3.D × List L3.D × List Int
noncomputable def gF : lu -> List L3.D := fun (bs, nm, ks, es, ss, is, os, ws, ops) => [gJ bs nm (gi ks es ss) is os ws, .lst (ops.map .int)]
noncomputable def fB : lu -> Prop := fun (bs, nm, ks, es, ss, is, os, ws, ops) => ops.length <= 1000 /\ ∀ x ∈ ops, 0 <= x /\ x < ks.length
noncomputable def gG : lu -> T := fun (bs, nm, ks, es, ss, is, os, ws, ops) => (.lst (((oq ks ops).map .int).map T.sh) : T)
structure A5 (X : Cx) (CL : Str -> Addr) : Prop extends bK X where
 bH : Ln X 0 "chart"
 kL : X.env.kindOf "chart" = some .cell
 aR : Ln X 1 "opens"
 bR : wM X.K (CL "Chart")
 gq : wM X.K (CL "Tree")
 fq : bD X.K (CL "Tree") "kinds"
 cu : bD X.K (CL "Chart") "tree"
theorem A6 {X : Cx} {CL : Str -> Addr} {b : Bx} (E : A5 X CL) (bs nm ks es ss is os ws ops) (h : fB (bs, nm, ks, es, ss, is, os, ws, ops)) :
   az X CL b jd ["chart", "opens"] (gF (bs, nm, ks, es, ss, is, os, ws, ops)) (gG (bs, nm, ks, es, ss, is, os, ws, ops)) := by
 dsimp only [az, fB, gF, gG] at h ⊢
 obtain ⟨hl, ho⟩ := h
 refine aU (CV (p := fun d => OJ ks d.yP) (g := fun d => T.sh d) (cI (.cons E.bH.1 (.inl E.kL) .nil) (by decide +kernel)) E.g.calm (eS (v_ E.aR.1)) (.inr rfl) (fun C s0 H0 f0 b' d hd => ?Dl) (Nat.le_of_lt (cA (by simpa using hl)))) ?eq
 case Dl =>
   obtain ⟨x, hx, rfl⟩ := ank.mp hd
   obtain ⟨x0, x1⟩ := ho x hx
   exact ⟨(eL (aP (gn (by exact E.gq) (by exact E.fq) (gn (by exact E.bR) (by exact E.cu) (ah (v_ (gk (i := 1) rfl (by decide +kernel)))) iV) rX) (ah (v_ (fh (i := 0) rfl (by decide +kernel)))) (dN Str.empty x0 x1)) (ah bB)).1, fun _ => v_ (fh (i := 0) rfl (by decide +kernel))⟩
 case eq =>
   unfold oq
   rw [List.filter_map, anF, anF]
   rfl
theorem j6 : iS (ao jd) ([("chart", .cell), ("opens", av)]) = true := by decide +kernel
theorem pF : aJ ["chart", "opens"] ["chart", "opens"] (ao jd) := aQ
noncomputable abbrev DM : Stmt := top 19
noncomputable abbrev Kc : Type := List kC × List Int
noncomputable def uJ : Kc -> List L3.D := fun (l, ops) => [.tup (l.map cS), .lst (ops.map .int)]
noncomputable def pG : Kc -> Prop := fun (l, ops) => ∀ a ∈ l, a.Wy
noncomputable def uK : Kc -> T := fun (l, ops) => (.sh (.bl (iO ops (l.map cS))) : T)
structure ada (X : Cx) (CL : Str -> Addr) : Prop extends bK X where
 jw : Ln X 0 "asks"
 aR : Ln X 1 "opens"
 dR : Ln X 2 "ask"
theorem adb {X : Cx} {CL : Str -> Addr} {b : Bx} (E : ada X CL) (l ops) (h : pG (l, ops)) :
   az X CL b DM ["asks", "opens", "ask"] (uJ (l, ops)) (uK (l, ops)) := by
 dsimp only [az, pG, uJ, uK] at h ⊢
 show fF X CL b _ _ { nx := _, rt := fun CW _ => CW = T.sh (.bl (iO ops (l.map cS))), bk := _, ct := _ }
 refine eZ E.g E.dR (fun j δ => ∃ o, (∀ d ∈ (l.map cS).take j, A0 ops d = true) /\ δ = [some (.sh (.tup (l.map cS))), some (.sh (.lst (ops.map .int))), o])
   (yO (v_ E.jw.1)) ⟨_, fun x hx => by simp at hx, rfl⟩ (fun j δ ⟨_, _, e⟩ => by subst e; exact amX rfl) ?turn ?fin
 case turn =>
   rintro j d δ hj ⟨o, jl, rfl⟩
   have AJ : (l.map cS).take (j + 1) = (l.map cS).take j ++ [d] := by rw [anO, hj]; rfl
   have hdm : d ∈ l.map cS := ant hj
   have no : A0 ops d = false -> iO ops (l.map cS) = false := fun e => aoZ.mpr ⟨d, hdm, by rw [e]; decide⟩
   obtain ⟨a, ha, rfl⟩ := ank.mp hdm
   have hk := h a ha
   have U5 : A0 ops (cS a) = true -> ∀ y ∈ (l.map cS).take (j + 1), A0 ops y = true := fun e y hy => by
     rw [AJ] at hy
     rcases am3.mp hy with hy | hy
     . exact jl y hy
     . rw [anb.mp hy]; exact e
   cases a with
   | num mk b1 m1 b2 m2 =>
     obtain ⟨n1, n2⟩ := Ms hk
     refine cQ (iQ (eO (q := false) (eL (aY (aD E.dR) (ah aj) rfl) (ah bB)).1 (fun hb => absurd (am9 hb) n1))) (fun hp => by simp at hp) (fun _ => au ?_)
     refine cQ (iQ (eO (q := false) (eL (aY (aD E.dR) (ah aj) rfl) (ah bB)).1 (fun hb => absurd (am9 hb) n2))) (fun hp => by simp at hp) (fun _ => au (au ⟨_, U5 rfl, rfl⟩))
   | rY op m =>
     have hf := Hg ops op m
     refine cQ (iQ (eO (eL (aY (aD E.dR) (ah aj) rfl) (ah bB)).1 (fun _ => gD (tK (aY (aD E.dR) (ah aj) rfl) (aD E.aR) rfl rfl).1))) (fun hp => ?_) (fun hp => au ?_)
     . have hp : (decide ((if op = true then ("open" : Str) else "shut") = "open") && !decide (m ∈ ops)) = true := hp
       refine aU gQ ?_
       rw [no]
       rw [hf]
       cases op with
       | false => exact absurd hp (by rw [show decide ((if false = true then ("open" : Str) else "shut") = "open") = false by decide +kernel]; simp)
       | true => rw [Bool.and_eq_true] at hp; simpa using hp.2
     have hp : (decide ((if op = true then ("open" : Str) else "shut") = "open") && !decide (m ∈ ops)) = false := hp
     refine cQ (iQ (eO (eL (aY (aD E.dR) (ah aj) rfl) (ah bB)).1 (fun _ => gD (ic (aY (aD E.dR) (ah aj) rfl) (aD E.aR) rfl rfl).1))) (fun hq => ?_) (fun hq => au (au ⟨_, U5 ?_, rfl⟩))
     . have hq : (decide ((if op = true then ("open" : Str) else "shut") = "shut") && decide (m ∈ ops)) = true := hq
       refine aU gQ ?_
       rw [no]
       rw [hf]
       cases op with
       | true => exact absurd hq (by rw [show decide ((if true = true then ("open" : Str) else "shut") = "shut") = false by decide +kernel]; simp)
       | false => rw [Bool.and_eq_true] at hq; simpa using hq.2
     . have hq : (decide ((if op = true then ("open" : Str) else "shut") = "shut") && decide (m ∈ ops)) = false := hq
       rw [hf]
       cases op with
       | true => rw [show decide ((if true = true then ("open" : Str) else "shut") = "open") = true by decide +kernel, Bool.true_and] at hp; simpa using hp
       | false => rw [show decide ((if false = true then ("open" : Str) else "shut") = "shut") = true by decide +kernel, Bool.true_and] at hq; simpa using hq
 case fin =>
   rintro δ ⟨o, jl, rfl⟩
   rw [anK] at jl
   refine aU gQ ?_
   rw [show iO ops (l.map cS) = true from an0.mpr jl]
theorem DN : iS (ao DM) ([("asks", av), ("opens", av), ("ask", av)]) = true := by decide +kernel
theorem MJ : aJ ["asks", "opens", "ask"] ["asks", "opens"] (ao DM) := aQ
noncomputable abbrev uL : Stmt := top 18
noncomputable abbrev zN : Type := List L3.D × List L3.D × List Str × List Int × List Int × List L3.D × List L3.D × List bN × List Int × Int × Str
noncomputable def nE : zN -> List L3.D := fun (bs, nm, ks, es, ss, is, os, ws, ops, leaf, sg) => [gJ bs nm (gi ks es ss) is os (ws.map bY), .lst (ops.map .int), .int leaf, .str sg]
noncomputable def j7 : zN -> Prop := fun (bs, nm, ks, es, ss, is, os, ws, ops, leaf, sg) => eV es /\ es.length <= 900 /\ 0 <= leaf /\ leaf < es.length /\ ws.length <= 63 /\ JX ws
noncomputable def j8 : zN -> T := fun (bs, nm, ks, es, ss, is, os, ws, ops, leaf, sg) => (.lst (((JT ws ops sg (leaf :: bQ es leaf)).map .int).map T.sh) : T)
structure SD (X : Cx) (CL : Str -> Addr) : Prop extends bK X where
 bH : Ln X 0 "chart"
 kL : X.env.kindOf "chart" = some .cell
 aR : Ln X 1 "opens"
 ly : Ln X 2 "leaf"
 iH : Ln X 3 "sign"
 aO : Ln X 4 "found"
 c9 : Ln X 5 "number"
 dh : Ln X 6 "way"
 Kd : Ln X 7 "line"
 ade : X.env.kindOf "line" = some .cell
 jG : Gl X "above"
 HN : Gl X "enumerate"
 adf : Gl X "SIGN"
 zK : Gl X "SOURCE"
 Ke : Gl X "fits"
 Kf : Gl X "ASKS"
 mj : Gl X "sorted"
 nA : Fc X CL "above" 1 2 iY f7 iZ
 HP : X.mg "enumerate" = none
 adg : ∃ u, X.mg "SIGN" = some (.int 1 u)
 mD : ∃ u, X.mg "SOURCE" = some (.int 0 u)
 adh : Fc X CL "fits" 1 2 uJ pG uK
 Kg : ∃ u, X.mg "ASKS" = some (.int 2 u)
 mq : X.mg "sorted" = none
 bR : wM X.K (CL "Chart")
 bO : bD X.K (CL "Chart") "ways"
 cu : bD X.K (CL "Chart") "tree"
 lam : Oe X CL "#goable.<locals>.<lambda>" "goable.<locals>.<lambda>"
 dp : X.A.depth < recursionLimit
 rm : fJ 1 X.A
theorem SG {X : Cx} {CL : Str -> Addr} {b : Bx} (E : SD X CL) (bs nm ks es ss is os ws ops leaf sg) (h : j7 (bs, nm, ks, es, ss, is, os, ws, ops, leaf, sg)) :
   az X CL b uL ["chart", "opens", "leaf", "sign", "found", "number", "way", "line"] (nE (bs, nm, ks, es, ss, is, os, ws, ops, leaf, sg)) (j8 (bs, nm, ks, es, ss, is, os, ws, ops, leaf, sg)) := by
 dsimp only [az, j7, nE, j8] at h ⊢
 obtain ⟨ht, hl, f0, f1, Qx, U0⟩ := h
 have hcl : (bQ es leaf).length <= es.length + 1 := tR _ _ _
 have er : ([L3.D.int leaf] ++ (bQ es leaf).map L3.D.int) = (leaf :: bQ es leaf).map L3.D.int := rfl
 refine aW E.g E.Kd (aN (tF (ds := [.int leaf]) (Jz := (bQ es leaf).map .int) (cF (ds := [.int leaf]) (dM (gC (v_ E.ly.1) dJ) (aL rfl))) (cF (c_ (ks, es, ss, leaf) E.nA E.jG (ai (gn E.bR E.cu (aD E.bH) iV) (ai (aD E.ly) aC)) (by dsimp only [f7]; exact ⟨ht, f0, f1, by omega⟩) (bA _))) rfl (cj _) (Nat.le_of_lt (cA (by simp; omega)))) (t2 := .lst (((leaf :: bQ es leaf).map .int).map T.sh)) rfl) ?_
 generalize leaf :: bQ es leaf = ln
 refine aW E.g E.aO (dM dJ (ans _)) ?_
 have aI : ∀ (l : List Int) (x : Int), (l.map L3.D.int).map T.sh ++ [T.sh (.int x)] = ((l ++ [x]).map L3.D.int).map T.sh := by intros; simp
 refine acj E.g (VY E.g.nd E.g.calm E.c9 E.dh) (fun j δ => ∃ o5 o6, δ = [some (.sh (gJ bs nm (gi ks es ss) is os (ws.map bY))), some (.sh (.lst (ops.map .int))), some (.sh (.int leaf)), some (.sh (.str sg)), some (.lst ((((RJ ws ops sg ln j).map fun (k : Nat) => (k : Int)).map .int).map T.sh)), o5, o6, some (.lst ((ln.map .int).map T.sh))])
   (Ra (f := bY) (l := ws) w0 E.HP (CM E.bR E.bO (v_ E.bH.1) gK) E.HN) ⟨_, _, rfl⟩ (fun j δ ⟨_, _, e⟩ => by subst e; intro i hi; simp only [am1, anH, or_false] at hi; rcases hi with rfl | rfl <;> exact amX rfl) ?turn ?fin
 case turn =>
   rintro j d δ hj ⟨o5, o6, rfl⟩
   obtain ⟨i, rfl, hi, him, hil, _, _⟩ := ig hj
   have ei : i = j := by
     rw [List.getElem?_range (by simpa using (List.getElem?_eq_some_iff.mp hi).1)] at hi
     exact (anj hi).symm
   subst ei
   have hil : i < ws.length := anN.mp him
   refine ⟨_, rfl, ?_⟩
   obtain ⟨w, hw⟩ : ∃ w, ws.getD i w0 = w := ⟨_, rfl⟩
   have Xk : w ∈ ws := by rw [← hw, am4, amW hil]; exact aod _
   obtain ⟨al, tO, Jc⟩ := U0 w Xk
   show fF X CL b _ _ { nx := fun δ => ∃ o5 o6, δ = [_, _, _, _, some (.lst ((((RJ ws ops sg ln (i + 1)).map fun (k : Nat) => (k : Int)).map .int).map T.sh)), o5, o6, _], rt := _, bk := _, ct := _ }
   rw [RK, hw]
   have U1 := Df ws ops sg ln i
   generalize RJ ws ops sg ln i = fl at U1 ⊢
   refine cQ (iQ (eO (eL (aY (aD E.dh) (ah (g6 E.adg E.adf)) (bI (j := 1) rfl)) (aD E.iH)).1 (fun _ => eO (ic (aY (aD E.dh) (ah (g6 E.mD E.zK)) (bI (j := 0) rfl)) (vL E.Kd.1) rfl rfl).1 (fun _ => gD (gR (aN (c_ (al, ops) E.adh E.Ke (ai (oO (aY (aD E.dh) (ah (g6 E.Kg E.Kf)) (bI (j := 2) rfl)) (congrArg L3.D.tup tO)) (ai (aD E.aR) aC)) (by dsimp only [pG]; exact Jc) rfl) (t2 := .sh (.bl (iO ops w.asks))) (by rw [tO]; rfl))))))) (fun hp => ?_) (fun hp => au (au ?_))
   . have hp : RH ops sg ln w = true := hp
     refine kD E.aO.1 rfl (v_ E.c9.1) rfl (by simp; omega) (au (au ?_))
     rw [aI, amZ hp, aoU]
     exact ⟨_, _, rfl⟩
   . have hp : RH ops sg ln w = false := hp
     rw [amV (by rw [hp]; decide), anu]
     exact ⟨_, _, rfl⟩
 case fin =>
   rintro δ ⟨o5, o6, rfl⟩
   rw [amY, aoC]
   have U1 := Df ws ops sg ln ws.length
   have acs : ∀ {k : Nat}, k ∈ RJ ws ops sg ln ws.length -> k < ws.length /\ (ws.getD k w0).src ∈ ln := fun hk => by
     obtain ⟨h1, h2⟩ := anB.mp hk
     simp only [RH, anE, aof] at h2
     exact ⟨anN.mp h1, h2.2.1⟩
   refine aU (aN (rW (y := "way") (g := fun d => ((lT ln (ws.getD d.yP.toNat w0).src : Nat) : Int)) E.lam E.g E.dp E.mq E.mj (cI (.cons E.bH.1 (.inl E.kL) (.cons E.Kd.1 (.inl E.ade) .nil)) (by decide +kernel)) (vL E.aO.1) (cj _) (by simp; omega) (fun f c s0 H0 b' d hd => ?key)) ?eq) rfl
   case key =>
     obtain ⟨x, hx, rfl⟩ := ank.mp hd
     obtain ⟨k, hk, rfl⟩ := ank.mp hx
     obtain ⟨k1, k2⟩ := acs hk
     have JD : sQ (ws.map bY) (k : Int) = some (bY (ws.getD k w0)) := (dN (f := bY) w0 (by omega) (by omega)).trans (by rw [anP])
     refine ah (aN (Rq (l := ln) (j := lT ln (ws.getD k w0).src) (oO (ah (v_ (CZ (i := 2) rfl (by decide +kernel)))) (fj _)) (aY (aP (gn (by exact E.bR) (by exact E.bO) (ah (v_ (CZ (i := 1) rfl (by decide +kernel)))) gK) (ah (v_ (JK (i := 0) rfl (by decide +kernel)))) JD) (ah (g6 (by exact E.mD) (JL (by decide +kernel)))) (bI (j := 0) rfl)) (De k2) (fun i hi => acT hi)) ?_)
     show T.sh (.int _) = T.sh (.int ((lT ln (ws.getD (k : Int).toNat w0).src : Nat) : Int))
     rw [anP]
   case eq =>
     rw [iU]
     rfl
theorem cC : iS (ao uL) ([("chart", .cell), ("opens", av), ("leaf", av), ("sign", av), ("found", av), ("number", av), ("way", av), ("line", .cell), ("above", aB), ("enumerate", aB), ("SIGN", aB), ("SOURCE", aB), ("fits", aB), ("ASKS", aB), ("sorted", aB)]) = true := by decide +kernel
theorem B7 : aJ ["chart", "opens", "leaf", "sign", "found", "number", "way", "line"] ["chart", "opens", "leaf", "sign"] (ao uL) := aQ
noncomputable abbrev yo : Stmt := top 14
noncomputable abbrev DP : Type := Int × Int × List Int
noncomputable def qG : DP -> List L3.D := fun (bx, mo, bs) => [.tup [.int bx, .int mo], .lst (bs.map .int)]
noncomputable def qH : DP -> Prop := fun (bx, mo, bs) => bx = -1 \/ (0 <= bx /\ bx < bs.length)
noncomputable def qI : DP -> T := fun (bx, mo, bs) => (.sh (.int (bP bx mo bs)) : T)
structure Xl (X : Cx) (CL : Str -> Addr) : Prop extends bK X where
 se : Ln X 0 "term"
 aZ : Ln X 1 "boxes"
 SJ : Ln X 2 "box"
 Kh : Ln X 3 "more"
theorem Xm {X : Cx} {CL : Str -> Addr} {b : Bx} (E : Xl X CL) (bx mo bs) (h : qH (bx, mo, bs)) :
   az X CL b yo ["term", "boxes", "box", "more"] (qG (bx, mo, bs)) (qI (bx, mo, bs)) := by
 dsimp only [az, qH, qG, qI] at h ⊢
 refine aW E.g E.SJ (dz (aY (aD E.se) (ah aj) rfl) rfl) ?_
 refine aW E.g E.Kh (dz (aY (aD E.se) (ah aj) rfl) rfl) ?_
 refine cQ (eK (aD E.SJ) (ah (dB (ah aj)))).1 (fun hp => ?_) (fun hp => ?_)
 . refine aU (v_ E.Kh.1) ?_
   have e : bx = -1 := am9 hp
   show T.sh _ = T.sh (.int (bP bx mo bs))
   rw [bP, amZ e]
 . refine au ?_
   have e : ¬ bx = -1 := anc hp
   refine aU (fK (aP (aD E.aZ) (aD E.SJ) (fQ (by omega) (by omega))) (aD E.Kh)) ?_
   show T.sh _ = T.sh (.int (bP bx mo bs))
   rw [bP, amV e]
theorem uM : iS (ao yo) ([("term", av), ("boxes", av), ("box", av), ("more", av)]) = true := by decide +kernel
theorem HQ : aJ ["term", "boxes", "box", "more"] ["term", "boxes"] (ao yo) := aQ
noncomputable abbrev yp : Stmt := top 15
noncomputable abbrev DQ : Type := Str × Int × Int × Int × Int × List Int
noncomputable def qJ : DQ -> List L3.D := fun (mk, b1, m1, b2, m2, bs) => [.tup [.str mk, .tup [.int b1, .int m1], .tup [.int b2, .int m2]], .lst (bs.map .int)]
noncomputable def qK : DQ -> Prop := fun (mk, b1, m1, b2, m2, bs) => (b1 = -1 \/ (0 <= b1 /\ b1 < bs.length)) /\ (b2 = -1 \/ (0 <= b2 /\ b2 < bs.length))
noncomputable def qL : DQ -> T := fun (mk, b1, m1, b2, m2, bs) => (.sh (.bl (gM mk (bP b1 m1 bs) (bP b2 m2 bs))) : T)
structure Xn (X : Cx) (CL : Str -> Addr) : Prop extends bK X where
 dR : Ln X 0 "ask"
 aZ : Ln X 1 "boxes"
 oX : Ln X 2 "mark"
 dS : Ln X 3 "one"
 bC : Ln X 4 "other"
 yq : Gl X "value"
 MK : Fc X CL "value" 1 2 qG qH qI
theorem Xo {X : Cx} {CL : Str -> Addr} {b : Bx} (E : Xn X CL) (mk b1 m1 b2 m2 bs) (h : qK (mk, b1, m1, b2, m2, bs)) :
   az X CL b yp ["ask", "boxes", "mark", "one", "other"] (qJ (mk, b1, m1, b2, m2, bs)) (qL (mk, b1, m1, b2, m2, bs)) := by
 dsimp only [az, qK, qJ, qL] at h ⊢
 refine aW E.g E.oX (dz (aY (aD E.dR) (ah aj) rfl) rfl) ?_
 refine aW E.g E.dS (c_ (b1, m1, bs) E.MK E.yq (ai (aY (aD E.dR) (ah aj) rfl) (ai (aD E.aZ) aC)) h.1 rfl) ?_
 refine aW E.g E.bC (c_ (b2, m2, bs) E.MK E.yq (ai (aY (aD E.dR) (ah aj) rfl) (ai (aD E.aZ) aC)) h.2 rfl) ?_
 refine cQ (eL (aD E.oX) (ah bB)).1 (fun hp => ?_) (fun hp => au ?_)
 . refine aU (Gy (aD E.dS) (aD E.bC)).2 ?_
   show T.sh _ = T.sh (.bl (gM mk (bP b1 m1 bs) (bP b2 m2 bs)))
   rw [gM, amZ (am9 hp)]
 refine cQ (eL (aD E.oX) (ah bB)).1 (fun hq => ?_) (fun hq => au ?_)
 . refine aU (aar (aD E.dS) (aD E.bC)).2 ?_
   show T.sh _ = T.sh (.bl (gM mk (bP b1 m1 bs) (bP b2 m2 bs)))
   rw [gM, amV (anc hp), amZ (am9 hq)]
 refine cQ (eL (aD E.oX) (ah bB)).1 (fun hr => ?_) (fun hr => au ?_)
 . refine aU (eK (aD E.dS) (aD E.bC)).2 ?_
   show T.sh _ = T.sh (.bl (gM mk (bP b1 m1 bs) (bP b2 m2 bs)))
   rw [gM, amV (anc hp), amV (anc hq), amZ (am9 hr)]
 . refine aU (kX (aD E.dS) (aD E.bC)).2 ?_
   show T.sh _ = T.sh (.bl (gM mk (bP b1 m1 bs) (bP b2 m2 bs)))
   rw [gM, amV (anc hp), amV (anc hq), amV (anc hr)]
theorem mF : iS (ao yp) ([("ask", av), ("boxes", av), ("mark", av), ("one", av), ("other", av), ("value", aB)]) = true := by decide +kernel
theorem HR : aJ ["ask", "boxes", "mark", "one", "other"] ["ask", "boxes"] (ao yp) := aQ
noncomputable abbrev nF : Stmt := top 16
noncomputable abbrev sj : Type := Bool × List Ask × List Int
noncomputable def jI : sj -> List L3.D := fun (l, qs, bs) => [VN l (qs.map Hh), .lst (bs.map .int)]
noncomputable def iI : sj -> Prop := fun (l, qs, bs) => ∀ q ∈ qs, okQ bs q
noncomputable def jJ : sj -> T := fun (l, qs, bs) => (.sh (.bl (qs.all (hQ bs))) : T)
structure Kl (X : Cx) (CL : Str -> Addr) : Prop extends bK X where
 jw : Ln X 0 "asks"
 aZ : Ln X 1 "boxes"
 dR : Ln X 2 "ask"
 DR : Gl X "holds"
 Xp : Fc X CL "holds" 2 2 qJ qK qL
theorem Km {X : Cx} {CL : Str -> Addr} {b : Bx} (E : Kl X CL) (l qs bs) (h : iI (l, qs, bs)) :
   az X CL b nF ["asks", "boxes", "ask"] (jI (l, qs, bs)) (jJ (l, qs, bs)) := by
 dsimp only [az, iI, jI, jJ] at h ⊢
 have hti : ∀ (p p' : Pos) (o : Option T), UZ X CL b (.Name "ask" p) (.Name "asks" p') [some (.sh (VN l (qs.map Hh))), some (.sh (.lst (bs.map .int))), o] (qs.map Hh) [some (.sh (VN l (qs.map Hh))), some (.sh (.lst (bs.map .int))), o] := by
   intro p p' o
   cases l
   . exact yO (v_ E.jw.1)
   . exact eS (v_ E.jw.1)
 refine eZ E.g E.dR (fun j δ => (∃ o, δ = [some (.sh (VN l (qs.map Hh))), some (.sh (.lst (bs.map .int))), o]) /\ ∀ q ∈ qs.take j, hQ bs q = true) (hti _ _ none) ⟨⟨_, rfl⟩, by simp⟩ (fun j δ ⟨⟨o, e⟩, _⟩ => by subst e; exact amX rfl) ?_ ?_
 . rintro j d δ hj ⟨⟨o, rfl⟩, hp⟩
   rw [anq] at hj
   obtain ⟨q, hq, rfl⟩ := Option.map_eq_some_iff.mp hj
   have hm : q ∈ qs := ant hq
   refine cQ (jT (gR (c_ (q.1, q.2.1, q.2.2.1, q.2.2.2.1, q.2.2.2.2, bs) E.Xp E.DR (ai (aD E.dR) (ai (aD E.aZ) aC)) (h q hm) rfl))) (fun hc => ?_) (fun hc => ?_)
   . refine aU gQ ?_
     show T.sh _ = T.sh (.bl (qs.all (hQ bs)))
     have hf : hQ bs q = false := by simpa [hQ] using hc
     rw [aoZ.mpr ⟨q, hm, by simp [hf]⟩]
   . refine au (au ⟨⟨_, rfl⟩, ?_⟩)
     have hf : hQ bs q = true := by simpa [hQ] using hc
     intro q' hq'
     rw [anO, hq] at hq'
     rcases am3.mp hq' with h' | h'
     . exact hp q' h'
     . have : q' = q := by simpa using h'
       rw [this]; exact hf
 . rintro δ ⟨⟨o, rfl⟩, hp⟩
   refine aU gQ ?_
   show T.sh _ = T.sh (.bl (qs.all (hQ bs)))
   rw [amY, anK] at hp
   rw [an0.mpr hp]
theorem kM : iS (ao nF) ([("asks", av), ("boxes", av), ("ask", av), ("holds", aB)]) = true := by decide +kernel
theorem xj : aJ ["asks", "boxes", "ask"] ["asks", "boxes"] (ao nF) := aQ
noncomputable abbrev je : Stmt := top 20
noncomputable abbrev lz : Type := List L3.D × List L3.D × L3.D × List L3.D × List L3.D × List bN × Nat × bN
noncomputable def gH : lz -> List L3.D := fun (bs, nm, tr, is, os, ws, k, w) => [gJ bs nm tr is os (ws.map bY), .int k]
noncomputable def fC : lz -> Prop := fun (bs, nm, tr, is, os, ws, k, w) => ws[k]? = some w /\ w.asks.length <= 1000 /\ D.cy w.asks = true /\ ∀ d ∈ w.asks, ∃ x r, d = .tup (.str x :: r)
noncomputable def gI : lz -> T := fun (bs, nm, tr, is, os, ws, k, w) => (.sh (.tup (OG w.asks)) : T)
structure A7 (X : Cx) (CL : Str -> Addr) : Prop extends bK X where
 bH : Ln X 0 "chart"
 dh : Ln X 1 "way"
 Du : Gl X "tuple"
 Kf : Gl X "ASKS"
 Dv : X.mg "tuple" = none
 Kg : ∃ u, X.mg "ASKS" = some (.int 2 u)
 bR : wM X.K (CL "Chart")
 bO : bD X.K (CL "Chart") "ways"
theorem A8 {X : Cx} {CL : Str -> Addr} {b : Bx} (E : A7 X CL) (bs nm tr is os ws k w) (h : fC (bs, nm, tr, is, os, ws, k, w)) :
   az X CL b je ["chart", "way"] (gH (bs, nm, tr, is, os, ws, k, w)) (gI (bs, nm, tr, is, os, ws, k, w)) := by
 dsimp only [az, fC, gH, gI] at h ⊢
 obtain ⟨hk, hl, hi, ha⟩ := h
 have JD : sQ (ws.map bY) (k : Int) = some (bY w) := bI (by rw [anq, hk]; rfl)
 refine aU (BK E.Dv (VM (aN (CV (p := fun d => !decide (d.at1.toS ∈ (["open", "shut"] : List Str))) (g := fun d => T.sh d) (cI .nil (by decide +kernel)) E.g.calm (yO (abZ (QK (CM E.bR E.bO (v_ E.bH.1) gK) (aD E.dh) JD) (ah (g6 E.Kg E.Kf)) rfl)) (.inr rfl) (fun C s0 H0 f0 b' d hd => ?Dl) (anY (cA hl))) (t2 := .lst ((OG w.asks).map T.sh)) rfl) rfl) (mZ fun d hd => tu hi d (anB.mp hd).1) E.Du) rfl
 case Dl =>
   obtain ⟨x, r, rfl⟩ := ha d hd
   exact ⟨(CN (x := x) (l := ["open", "shut"]) (aY (ah (v_ (fh (i := 0) rfl (by decide +kernel)))) (ah aj) (bI (j := 0) rfl)) (ah (cW (aM bB (aM bB cR)) (aL rfl))) rfl rfl).1, fun _ => v_ (fh (i := 0) rfl (by decide +kernel))⟩
theorem iJ : iS (ao je) ([("chart", av), ("way", av), ("tuple", aB), ("ASKS", aB)]) = true := by decide +kernel
theorem pH : aJ ["chart", "way"] ["chart", "way"] (ao je) := aQ
noncomputable abbrev yr : Stmt := top 22
noncomputable abbrev DS : Type := List L3.D × List L3.D × List Str × List Int × List Int × List L3.D × List L3.D × List bN × List Int × List Int × Str
noncomputable def qM : DS -> List L3.D := fun (bs, nm, ks, es, ss, is, os, ws, ops, vs, sg) => [gJ bs nm (gi ks es ss) is os (ws.map bY), .lst (ops.map .int), .lst (vs.map .int), .str sg]
noncomputable def mG : DS -> Prop := fun (bs, nm, ks, es, ss, is, os, ws, ops, vs, sg) => eV es /\ es.length <= 900 /\ ks.length = es.length /\ ws.length <= 63 /\ ops.length <= 1000 /\ (∀ x ∈ ops, 0 <= x /\ x < es.length) /\ tY es.length vs ws
noncomputable def qN : DS -> T := fun (bs, nm, ks, es, ss, is, os, ws, ops, vs, sg) => (.lst (((Hi ws ops vs sg es (oq ks ops)).map .int).map T.sh) : T)
structure Xq (X : Cx) (CL : Str -> Addr) : Prop extends bK X where
 bH : Ln X 0 "chart"
 aR : Ln X 1 "opens"
 aZ : Ln X 2 "boxes"
 iH : Ln X 3 "sign"
 aO : Ln X 4 "found"
 ly : Ln X 5 "leaf"
 c9 : Ln X 6 "number"
 lA : Gl X "open_leaves"
 uN : Gl X "goable"
 sq : Gl X "all_hold"
 lB : Gl X "number_asks"
 dZ : Gl X "list"
 A9 : Fc X CL "open_leaves" 1 2 gF fB gG
 mH : Fc X CL "goable" 2 4 nE j7 j8
 Kn : Fc X CL "all_hold" 3 2 jI iI jJ
 Ba : Fc X CL "number_asks" 1 2 gH fC gI
 d7 : X.mg "list" = none
theorem Xr {X : Cx} {CL : Str -> Addr} {b : Bx} (E : Xq X CL) (bs nm ks es ss is os ws ops vs sg) (h : mG (bs, nm, ks, es, ss, is, os, ws, ops, vs, sg)) :
   az X CL b yr ["chart", "opens", "boxes", "sign", "found", "leaf", "number"] (qM (bs, nm, ks, es, ss, is, os, ws, ops, vs, sg)) (qN (bs, nm, ks, es, ss, is, os, ws, ops, vs, sg)) := by
 dsimp only [az, mG, qM, qN] at h ⊢
 obtain ⟨ht, hl, hk, Qx, R7, ho, U0⟩ := h
 refine aW E.g E.aO Wa ?_
 have hlv : ∀ x ∈ oq ks ops, 0 <= x /\ x < es.length := fun x hx => ho x (anB.mp hx).1
 have hll : (oq ks ops).length <= 1000 := anL (an3 _ _) R7
 refine eZ E.g E.ly (fun j δ => ∃ o5 o6, δ = [some (.sh (gJ bs nm (gi ks es ss) is os (ws.map bY))), some (.sh (.lst (ops.map .int))), some (.sh (.lst (vs.map .int))), some (.sh (.str sg)), some (.om (OI (Hi ws ops vs sg es ((oq ks ops).take j)))), o5, o6])
   (eS (m5 (ds := (oq ks ops).map .int) (aN (c_ (bs, nm, ks, es, ss, is, os, ws.map bY, ops) E.A9 E.lA (ai (aD E.bH) (ai (aD E.aR) aC)) (by dsimp only [fB]; exact ⟨R7, fun x hx => by have := ho x hx; omega⟩) (bA _)) rfl))) ⟨_, _, rfl⟩ (fun j δ ⟨_, _, e⟩ => by subst e; exact Nat.le_of_ble_eq_true rfl) ?turn ?fin
 case turn =>
   rintro j d δ hj ⟨o5, o6, rfl⟩
   obtain ⟨x, rfl, _, A4, xS, _, AJ⟩ := ig hj
   obtain ⟨x0, x1⟩ := hlv x A4
   show fF X CL b _ _ { nx := fun δ => ∃ o5 o6, δ = [_, _, _, _, some (.om (OI (Hi ws ops vs sg es ((oq ks ops).take (j + 1))))), o5, o6], rt := _, bk := _, ct := _ }
   rw [AJ, RP]
   have ve := Mu ws ops vs sg es ((oq ks ops).take j)
   have agm : ((oq ks ops).take j).length <= 1000 := by rw [aor]; omega
   generalize Hi ws ops vs sg es ((oq ks ops).take j) = acc at ve ⊢
   have hkl : (OI acc).length <= 1000000 := by unfold OI; rw [amY]; omega
   have hgm : ∀ {k : Int}, k ∈ JT ws ops sg (x :: bQ es x) -> 0 <= k /\ k < ws.length := fun h => Dg h
   have hp1 : U4 ws ops vs sg es acc x = match (JT ws ops sg (x :: bQ es x)).filter (fun k => BX vs (ws.getD k.toNat w0)) with | [] => acc | k :: _ => zv acc k := rfl
   rw [hp1]
   have N1 : j8 (bs, nm, ks, es, ss, is, os, ws, ops, x, sg) = T.lst (((JT ws ops sg (x :: bQ es x)).map .int).map T.sh) := rfl
   generalize JT ws ops sg (x :: bQ es x) = go at hgm N1 ⊢
   refine eZ E.g E.c9 (fun i δ => ∃ o6, (∀ k ∈ go.take i, BX vs (ws.getD k.toNat w0) = false) /\ δ = [some (.sh (gJ bs nm (gi ks es ss) is os (ws.map bY))), some (.sh (.lst (ops.map .int))), some (.sh (.lst (vs.map .int))), some (.sh (.str sg)), some (.om (OI acc)), some (.sh (.int x)), o6])
     (eS (m5 (ds := go.map .int) (aN (c_ (bs, nm, ks, es, ss, is, os, ws, ops, x, sg) E.mH E.uN (ai (aD E.bH) (ai (aD E.aR) (ai (aD E.ly) (ai (aD E.iH) aC)))) (by dsimp only [j7]; exact ⟨ht, hl, x0, x1, Qx, U0.ok⟩) (by rw [N1]; exact bA _)) N1))) ⟨_, fun k hk => by simp at hk, rfl⟩ (fun j δ ⟨_, _, e⟩ => by subst e; exact Nat.le_of_ble_eq_true rfl) ?zO ?fin2
   case zO =>
     rintro i d δ hi ⟨o6, jl, rfl⟩
     obtain ⟨k, rfl, hki, hkm, _, _, ajt⟩ := ig hi
     obtain ⟨k0, k1⟩ := hgm hkm
     obtain ⟨w, hw⟩ : ∃ w, ws.getD k.toNat w0 = w := ⟨_, rfl⟩
     have hwi : ws[k.toNat]? = some w := by rw [← hw, am4, amW (by omega)]; rfl
     obtain ⟨al, tO, Gp, Jc⟩ := U0 w (ant hwi)
     have hna : OG w.asks = (al.flatMap JY).map Hh := by rw [tO]; exact WB Jc
     have hrd : (al.flatMap JY).all (hQ vs) = BX vs w := by unfold BX; rw [tO]; exact (acU Jc).symm
     have hcl : w.asks.length <= 2 := by rw [tO, amY]; exact Gp
     have hai : D.cy w.asks = true := by rw [tO]; exact jX (fun a => tV a) _
     have hin : ∀ d ∈ w.asks, ∃ x r, d = .tup (.str x :: r) := fun d hd => by
       rw [tO] at hd
       obtain ⟨q, _, rfl⟩ := ank.mp hd
       cases q <;> exact ⟨_, _, rfl⟩
     have ekn : ((k.toNat : Nat) : Int) = k := by omega
     refine cQ (gR (aN (c_ (false, al.flatMap JY, vs) E.Kn E.sq (ai (ah (aN (c_ (bs, nm, gi ks es ss, is, os, ws, k.toNat, w) E.Ba E.lB (ai (aD E.bH) (ai (oO (aD E.c9) (congrArg L3.D.int ekn.symm)) aC)) (by dsimp only [fC]; exact ⟨hwi, by omega, hai, hin⟩) (show T.clean (.sh (.tup (OG w.asks))) = true from (mZ fun d hd => tu hai d (List.mem_filter.mp hd).1))) (t2 := .sh (.tup ((al.flatMap JY).map Hh))) (congrArg (fun z => T.sh (.tup z)) hna))) (ai (aD E.aZ) aC)) (by dsimp only [iI]; exact WC Jc) rfl) (t2 := .sh (.bl (BX vs w))) (congrArg (fun z => T.sh (.bl z)) hrd))) (fun hp => ?_) (fun hp => au (au ⟨_, ?_, rfl⟩))
     . refine acB (.inl k) E.u E.aO.1 gQ (aD E.c9) rfl hkl (VX (au ?_))
       rw [WG]
       obtain ⟨r, hr⟩ := OL (p := fun k => BX vs (ws.getD k.toNat w0)) hki (by rw [hw]; exact hp) jl
       rw [hr]
       exact ⟨_, _, rfl⟩
     . intro y hy
       rw [ajt] at hy
       rcases am3.mp hy with hy | hy
       . exact jl y hy
       . rw [anb.mp hy, hw]; exact hp
   case fin2 =>
     rintro δ ⟨o6, jl, rfl⟩
     rw [amY, anK] at jl
     rw [List.filter_eq_nil_iff.mpr (fun y hy => by rw [jl y hy]; decide)]
     exact au ⟨_, _, rfl⟩
 case fin =>
   rintro δ ⟨o5, o6, rfl⟩
   rw [amY, anK]
   refine aU (Rc E.g E.d7 (vE E.aO.1 rfl (by rw [T.fE])) E.dZ) ?_
   rw [RM]
theorem fD : iS (ao yr) ([("chart", av), ("opens", av), ("boxes", av), ("sign", av), ("found", av), ("leaf", av), ("number", av), ("open_leaves", aB), ("goable", aB), ("all_hold", aB), ("number_asks", aB), ("list", aB)]) = true := by decide +kernel
theorem HS : aJ ["chart", "opens", "boxes", "sign", "found", "leaf", "number"] ["chart", "opens", "boxes", "sign"] (ao yr) := aQ
noncomputable abbrev qO : Stmt := top 48
noncomputable abbrev vU : Type := List kC × List Int
noncomputable def jo : vU -> List L3.D := fun (l, ops) => [.tup (l.map cS), .lst (ops.map .int)]
noncomputable def e7 : vU -> Prop := fun (l, ops) => ∀ a ∈ l, a.Wy
noncomputable def jq : vU -> T := fun (l, ops) => (.sh (.bl (iO ops (l.map cS))) : T)
structure OX (X : Cx) (CL : Str -> Addr) : Prop extends bK X where
 jw : Ln X 0 "asks"
 aR : Ln X 1 "opens"
 dR : Ln X 2 "ask"
theorem OY {X : Cx} {CL : Str -> Addr} {b : Bx} (E : OX X CL) (l ops) (h : e7 (l, ops)) :
   az X CL b qO ["asks", "opens", "ask"] (jo (l, ops)) (jq (l, ops)) := by
 dsimp only [az, e7, jo, jq] at h ⊢
 show fF X CL b _ _ { nx := _, rt := fun CW _ => CW = T.sh (.bl (iO ops (l.map cS))), bk := _, ct := _ }
 refine eZ E.g E.dR (fun j δ => ∃ o, (∀ d ∈ (l.map cS).take j, A0 ops d = true) /\ δ = [some (.sh (.tup (l.map cS))), some (.sh (.lst (ops.map .int))), o])
   (yO (v_ E.jw.1)) ⟨_, fun x hx => by simp at hx, rfl⟩ (fun j δ ⟨_, _, e⟩ => by subst e; exact amX rfl) ?turn ?fin
 case turn =>
   rintro j d δ hj ⟨o, jl, rfl⟩
   have AJ : (l.map cS).take (j + 1) = (l.map cS).take j ++ [d] := by rw [anO, hj]; rfl
   have hdm : d ∈ l.map cS := ant hj
   have no : A0 ops d = false -> iO ops (l.map cS) = false := fun e => aoZ.mpr ⟨d, hdm, by rw [e]; decide⟩
   obtain ⟨a, ha, rfl⟩ := ank.mp hdm
   have hk := h a ha
   have U5 : A0 ops (cS a) = true -> ∀ y ∈ (l.map cS).take (j + 1), A0 ops y = true := fun e y hy => by
     rw [AJ] at hy
     rcases am3.mp hy with hy | hy
     . exact jl y hy
     . rw [anb.mp hy]; exact e
   cases a with
   | num mk b1 m1 b2 m2 =>
     obtain ⟨n1, n2⟩ := Ms hk
     refine cQ (iQ (eO (q := false) (eL (aY (aD E.dR) (ah aj) rfl) (ah bB)).1 (fun hb => absurd (am9 hb) n1))) (fun hp => by simp at hp) (fun _ => au ?_)
     refine cQ (iQ (eO (q := false) (eL (aY (aD E.dR) (ah aj) rfl) (ah bB)).1 (fun hb => absurd (am9 hb) n2))) (fun hp => by simp at hp) (fun _ => au (au ⟨_, U5 rfl, rfl⟩))
   | rY op m =>
     have hf := Hg ops op m
     refine cQ (iQ (eO (eL (aY (aD E.dR) (ah aj) rfl) (ah bB)).1 (fun _ => gD (tK (aY (aD E.dR) (ah aj) rfl) (aD E.aR) rfl rfl).1))) (fun hp => ?_) (fun hp => au ?_)
     . have hp : (decide ((if op = true then ("open" : Str) else "shut") = "open") && !decide (m ∈ ops)) = true := hp
       refine aU gQ ?_
       rw [no]
       rw [hf]
       cases op with
       | false => exact absurd hp (by rw [show decide ((if false = true then ("open" : Str) else "shut") = "open") = false by decide +kernel]; simp)
       | true => rw [Bool.and_eq_true] at hp; simpa using hp.2
     have hp : (decide ((if op = true then ("open" : Str) else "shut") = "open") && !decide (m ∈ ops)) = false := hp
     refine cQ (iQ (eO (eL (aY (aD E.dR) (ah aj) rfl) (ah bB)).1 (fun _ => gD (ic (aY (aD E.dR) (ah aj) rfl) (aD E.aR) rfl rfl).1))) (fun hq => ?_) (fun hq => au (au ⟨_, U5 ?_, rfl⟩))
     . have hq : (decide ((if op = true then ("open" : Str) else "shut") = "shut") && decide (m ∈ ops)) = true := hq
       refine aU gQ ?_
       rw [no]
       rw [hf]
       cases op with
       | true => exact absurd hq (by rw [show decide ((if true = true then ("open" : Str) else "shut") = "shut") = false by decide +kernel]; simp)
       | false => rw [Bool.and_eq_true] at hq; simpa using hq.2
     . have hq : (decide ((if op = true then ("open" : Str) else "shut") = "shut") && decide (m ∈ ops)) = false := hq
       rw [hf]
       cases op with
       | true => rw [show decide ((if true = true then ("open" : Str) else "shut") = "open") = true by decide +kernel, Bool.true_and] at hp; simpa using hp
       | false => rw [show decide ((if false = true then ("open" : Str) else "shut") = "shut") = true by decide +kernel, Bool.true_and] at hq; simpa using hq
 case fin =>
   rintro δ ⟨o, jl, rfl⟩
   rw [anK] at jl
   refine aU gQ ?_
   rw [show iO ops (l.map cS) = true from an0.mpr jl]
theorem sr : iS (ao qO) ([("asks", av), ("opens", av), ("ask", av)]) = true := by decide +kernel
theorem zP : aJ ["asks", "opens", "ask"] ["asks", "opens"] (ao qO) := aQ
noncomputable abbrev DT : Stmt := top 49
noncomputable abbrev Ko : Type := List bN × List Int × List Int × Str
noncomputable def uO : Ko -> List L3.D := fun (ws, ops, ln, sg) => [.lst (ws.map bY), .lst (ops.map .int), .lst (ln.map .int), .str sg]
noncomputable def pI : Ko -> Prop := fun (ws, ops, ln, sg) => ws.length <= 63 /\ ln.length <= 1000 /\ JX ws
noncomputable def pJ : Ko -> T := fun (ws, ops, ln, sg) => (.lst (((gsW ws ops sg ln).map .int).map T.sh) : T)
structure adi (X : Cx) (CL : Str -> Addr) : Prop extends bK X where
 cO : Ln X 0 "ways"
 aR : Ln X 1 "opens"
 qP : Ln X 2 "chain"
 iH : Ln X 3 "sign"
 aO : Ln X 4 "found"
 eW : Ln X 5 "mood"
 lO : Ln X 6 "k"
 cY : Gl X "range"
 cK : Gl X "len"
 kN : Gl X "_law_fits"
 cZ : X.mg "range" = none
 cL : X.mg "len" = none
 qQ : Fc X CL "_law_fits" 1 2 jo e7 jq
theorem adj {X : Cx} {CL : Str -> Addr} {b : Bx} (E : adi X CL) (ws ops ln sg) (h : pI (ws, ops, ln, sg)) :
   az X CL b DT ["ways", "opens", "chain", "sign", "found", "mood", "k"] (uO (ws, ops, ln, sg)) (pJ (ws, ops, ln, sg)) := by
 dsimp only [az, pI, uO, pJ] at h ⊢
 obtain ⟨Qx, hll, U0⟩ := h
 have hlen : (ws.map bY).length = ws.length := by simp
 refine aW E.g E.aO (dM dJ (ans _)) ?_
 have aI : ∀ (l : List Int) (x : Int), (l.map L3.D.int).map T.sh ++ [T.sh (.int x)] = ((l ++ [x]).map L3.D.int).map T.sh := by intros; simp
 have U1 : ∀ j, ((ln.take j).flatMap fun m => JV ws ops sg m ws.length).length <= 63 * j := fun j => by
   induction j with
   | zero => simp
   | succ j ih =>
     by_cases hj : j < ln.length
     . rw [anO, amW hj, aoG, anm]
       have := Mt ws ops sg ln[j] ws.length
       simp only [Option.toList, an2, List.flatMap_nil, anu]
       omega
     . rw [aoN (by omega)]
       rw [aoN (by omega)] at ih
       omega
 refine eZ E.g E.eW (fun j δ => ∃ o5 o6, δ = [some (.sh (.lst (ws.map bY))), some (.sh (.lst (ops.map .int))), some (.sh (.lst (ln.map .int))), some (.sh (.str sg)), some (.lst ((((ln.take j).flatMap fun m => JV ws ops sg m ws.length).map .int).map T.sh)), o5, o6])
   (eS (v_ E.qP.1)) ⟨_, _, rfl⟩ (fun j δ ⟨_, _, e⟩ => by subst e; exact amX rfl) ?turn ?fin
 case turn =>
   rintro j d δ hj ⟨o5, o6, rfl⟩
   obtain ⟨m, rfl, hx, A4, xS, _, AJ⟩ := ig hj
   have hj1 := U1 j
   show fF X CL b _ _ { nx := fun δ => ∃ o5 o6, δ = [_, _, _, _, some (.lst ((((ln.take (j + 1)).flatMap fun m => JV ws ops sg m ws.length).map .int).map T.sh)), o5, o6], rt := _, bk := _, ct := _ }
   rw [AJ, aoG, an2, List.flatMap_nil, anu]
   generalize ((ln.take j).flatMap fun m => JV ws ops sg m ws.length) = fd at hj1 ⊢
   refine eZ E.g E.lO (fun i δ => ∃ o6, δ = [some (.sh (.lst (ws.map bY))), some (.sh (.lst (ops.map .int))), some (.sh (.lst (ln.map .int))), some (.sh (.str sg)), some (.lst (((fd ++ JV ws ops sg m i).map .int).map T.sh)), some (.sh (.int m)), o6])
     (fP E.cZ (ah (cT (hlen) E.cL (aD E.cO) E.cK)) (by omega) E.cY) ⟨_, by rw [show JV ws ops sg m 0 = [] from rfl, anu]; rfl⟩ (fun j δ ⟨_, e⟩ => by subst e; exact amX rfl) ?zO ?fin2
   case zO =>
     rintro i d δ hi ⟨o6, rfl⟩
     obtain ⟨rfl, hil⟩ := jk hi
     have hil : i < ws.length := by simpa using hil
     rw [aoj]
     obtain ⟨w, hw⟩ : ∃ w, ws.getD i w0 = w := ⟨_, rfl⟩
     have Xk : w ∈ ws := by rw [← hw, am4, amW hil]; exact aod _
     obtain ⟨al, tO, Jc⟩ := U0 w Xk
     have JD : sQ (ws.map bY) (i : Int) = some (bY w) := (dN (f := bY) w0 (by omega) (by omega)).trans (by rw [anP, hw])
     have hgl := Mt ws ops sg m i
     show fF X CL b _ _ { nx := fun δ => ∃ o6, δ = [_, _, _, _, some (.lst (((fd ++ JV ws ops sg m (i + 1)).map .int).map T.sh)), _, o6], rt := _, bk := _, ct := _ }
     rw [RL, hw, ← am8]
     generalize JV ws ops sg m i = gm at hgl ⊢
     have ajv : (fd ++ gm).length <= 70000 := by rw [anm]; omega
     generalize fd ++ gm = fe at ajv ⊢
     refine cQ (iQ (eO (eK (aY (aP (aD E.cO) (aD E.lO) JD) (ah aj) (bI (j := 0) rfl)) (aD E.eW)).1 (fun _ => eO (eL (aY (aP (aD E.cO) (aD E.lO) JD) (ah aj) (bI (j := 1) rfl)) (aD E.iH)).1 (fun _ => gD (gR (aN (c_ (al, ops) E.qQ E.kN (ai (oO (aY (aP (aD E.cO) (aD E.lO) JD) (ah aj) (bI (j := 2) rfl)) (congrArg L3.D.tup tO)) (ai (aD E.aR) aC)) (by dsimp only [e7]; exact Jc) rfl) (t2 := .sh (.bl (iO ops w.asks))) (by rw [tO]; rfl))))))) (fun hp => ?_) (fun hp => au (au ?_))
     . have hp : (decide (w.src = m) && (decide (w.sign = sg) && iO ops w.asks)) = true := hp
       refine kD E.aO.1 rfl (v_ E.lO.1) rfl (by simp; omega) (au (au ?_))
       rw [aI, amZ hp]
       exact ⟨_, rfl⟩
     . have hp : (decide (w.src = m) && (decide (w.sign = sg) && iO ops w.asks)) = false := hp
       rw [amV (by rw [hp]; decide), anu]
       exact ⟨_, rfl⟩
   case fin2 =>
     rintro δ ⟨o6, rfl⟩
     rw [show (b8 0 (ws.length : Int).toNat).length = ws.length by simp [b8]]
     exact au ⟨_, _, rfl⟩
 case fin =>
   rintro δ ⟨o5, o6, rfl⟩
   rw [amY, anK]
   exact aU (vM E.aO.1) rfl
theorem jf : iS (ao DT) ([("ways", av), ("opens", av), ("chain", av), ("sign", av), ("found", av), ("mood", av), ("k", av), ("range", aB), ("len", aB), ("_law_fits", aB)]) = true := by decide +kernel
theorem ML : aJ ["ways", "opens", "chain", "sign", "found", "mood", "k"] ["ways", "opens", "chain", "sign"] (ao DT) := aQ
noncomputable abbrev nG : Stmt := top 50
noncomputable abbrev su : Type := List kC × List Int × Nat
noncomputable def iK : su -> List L3.D := fun (l, vs, n) => [.tup (l.map cS), .lst (vs.map .int)]
noncomputable def eF : su -> Prop := fun (l, vs, n) => ∀ a ∈ l, a.Ok n vs
noncomputable def iL : su -> T := fun (l, vs, n) => (.sh (.bl ((l.map cS).all (hD vs))) : T)
structure Kp (X : Cx) (CL : Str -> Addr) : Prop extends bK X where
 jw : Ln X 0 "asks"
 aZ : Ln X 1 "boxes"
 dR : Ln X 2 "ask"
 Kq : Gl X "_law_due"
 iC : Gl X "_law_worth"
 Sl : Fc X CL "_law_due" 1 3 ug uh um
 ur : Fc X CL "_law_worth" 1 2 lY lZ mh
theorem Kr {X : Cx} {CL : Str -> Addr} {b : Bx} (E : Kp X CL) (l vs n) (h : eF (l, vs, n)) :
   az X CL b nG ["asks", "boxes", "ask"] (iK (l, vs, n)) (iL (l, vs, n)) := by
 dsimp only [az, eF, iK, iL] at h ⊢
 show fF X CL b _ _ { nx := _, rt := fun CW _ => CW = T.sh (.bl ((l.map cS).all (hD vs))), bk := _, ct := _ }
 refine eZ E.g E.dR (fun j δ => ∃ o, (∀ d ∈ (l.map cS).take j, hD vs d = true) /\ δ = [some (.sh (.tup (l.map cS))), some (.sh (.lst (vs.map .int))), o])
   (yO (v_ E.jw.1)) ⟨_, fun x hx => by simp at hx, rfl⟩ (fun j δ ⟨_, _, e⟩ => by subst e; exact amX rfl) ?turn ?fin
 case turn =>
   rintro j d δ hj ⟨o, jl, rfl⟩
   have AJ : (l.map cS).take (j + 1) = (l.map cS).take j ++ [d] := by rw [anO, hj]; rfl
   have hdm : d ∈ l.map cS := ant hj
   have no : hD vs d = false -> (l.map cS).all (hD vs) = false := fun e => aoZ.mpr ⟨d, hdm, by rw [e]; decide⟩
   obtain ⟨a, ha, rfl⟩ := ank.mp hdm
   have hk := h a ha
   have U5 : hD vs (cS a) = true -> ∀ y ∈ (l.map cS).take (j + 1), hD vs y = true := fun e y hy => by
     rw [AJ] at hy
     rcases am3.mp hy with hy | hy
     . exact jl y hy
     . rw [anb.mp hy]; exact e
   cases a with
   | rY op m =>
     refine cQ (CN (x := if op = true then "open" else "shut") (l := ["open", "shut"]) (aY (aD E.dR) (ah aj) rfl) (ah (cW (aM bB (aM bB cR)) (aL rfl))) rfl rfl).1 (fun hp => absurd hp (by cases op <;> decide +kernel)) (fun _ => au (au ⟨_, U5 rfl, rfl⟩))
   | num mk b1 m1 b2 m2 =>
     have hn : ∀ x ∈ vI, (!decide (x ∈ (["open", "shut"] : List Str))) = true := by decide +kernel
     refine cQ (CN (x := mk) (l := ["open", "shut"]) (aY (aD E.dR) (ah aj) rfl) (ah (cW (aM bB (aM bB cR)) (aL rfl))) rfl rfl).1 (fun _ => ?_) (fun hp => absurd (hn mk hk.1) (by rw [hp]; decide))
     refine cQ (jT (gR (aN (c_ (mk, bP b1 m1 vs, bP b2 m2 vs) E.Sl E.Kq (ai (aY (aD E.dR) (ah aj) rfl) (ai (ah (aN (c_ (b1, m1, vs) E.ur E.iC (ai (aY (aD E.dR) (ah aj) rfl) (ai (aD E.aZ) aC)) hk.2.1 rfl) (t2 := .sh (.int (bP b1 m1 vs))) rfl)) (ai (ah (aN (c_ (b2, m2, vs) E.ur E.iC (ai (aY (aD E.dR) (ah aj) rfl) (ai (aD E.aZ) aC)) hk.2.2 rfl) (t2 := .sh (.int (bP b2 m2 vs))) rfl)) aC))) trivial rfl) (t2 := .sh (.bl (gM mk (bP b1 m1 vs) (bP b2 m2 vs)))) rfl))) (fun hp => ?_) (fun hp => au (au (au ⟨_, U5 ?_, rfl⟩)))
     . refine aU gQ ?_
       rw [no]
       show gM mk (bP b1 m1 vs) (bP b2 m2 vs) = false
       simpa using hp
     . show gM mk (bP b1 m1 vs) (bP b2 m2 vs) = true
       simpa using hp
 case fin =>
   rintro δ ⟨o, jl, rfl⟩
   rw [anK] at jl
   refine aU gQ ?_
   rw [show (l.map cS).all (hD vs) = true from an0.mpr jl]
theorem jr : iS (ao nG) ([("asks", av), ("boxes", av), ("ask", av), ("_law_due", aB), ("_law_worth", aB)]) = true := by decide +kernel
theorem xm : aJ ["asks", "boxes", "ask"] ["asks", "boxes"] (ao nG) := aQ
noncomputable abbrev uP : Stmt := top 55
noncomputable abbrev zQ : Type := List Str × List Int × List Int × List Int × List bN × List Int × List Int × Str
noncomputable def nI : zQ -> List L3.D := fun (ks, es, ss, oo, ws, ops, vs, sg) => [kF ks es ss oo, .lst (ws.map bY), .lst (ops.map .int), .lst (vs.map .int), .str sg]
noncomputable def j9 : zQ -> Prop := fun (ks, es, ss, oo, ws, ops, vs, sg) => eV es /\ es.length <= 900 /\ ks.length = es.length /\ ws.length <= 63 /\ ops.length <= 900 /\ (∀ x ∈ ops, 0 <= x /\ x < es.length) /\ tY es.length vs ws
noncomputable def nJ : zQ -> T := fun (ks, es, ss, oo, ws, ops, vs, sg) => (.lst (((BZ ws ops vs sg es (oq ks ops)).map .int).map T.sh) : T)
structure SK (X : Cx) (CL : Str -> Addr) : Prop extends bK X where
 bw : Ln X 0 "lists"
 cO : Ln X 1 "ways"
 Ks : X.env.kindOf "ways" = some .cell
 aR : Ln X 2 "opens"
 aZ : Ln X 3 "boxes"
 uy : X.env.kindOf "boxes" = some .cell
 iH : Ln X 4 "sign"
 aO : Ln X 5 "found"
 ly : Ln X 6 "leaf"
 qP : Ln X 7 "chain"
 MN : Ln X 8 "ready"
 cN : Gl X "_law_chain"
 HV : Gl X "_law_goes"
 iB : Fc X CL "_law_chain" 1 2 gX dg gY
 adk : Fc X CL "_law_goes" 2 4 uO pI pJ
 nK : Fc X CL "_law_holds" 2 2 iK eF iL
theorem SM {X : Cx} {CL : Str -> Addr} {b : Bx} (E : SK X CL) (ks es ss oo ws ops vs sg) (h : j9 (ks, es, ss, oo, ws, ops, vs, sg)) :
   az X CL b uP ["lists", "ways", "opens", "boxes", "sign", "found", "leaf", "chain", "ready"] (nI (ks, es, ss, oo, ws, ops, vs, sg)) (nJ (ks, es, ss, oo, ws, ops, vs, sg)) := by
 dsimp only [az, j9, nI, nJ] at h ⊢
 obtain ⟨ht, hl, hk, Qx, R7, ho, U0⟩ := h
 refine aW E.g E.aO (dM dJ (ans _)) ?_
 have aI : ∀ (l : List Int) (x : Int), (l.map L3.D.int).map T.sh ++ [T.sh (.int x)] = ((l ++ [x]).map L3.D.int).map T.sh := by intros; simp
 refine eZ E.g E.ly (fun j δ => ∃ o6 o7 o8, δ = [some (.sh (kF ks es ss oo)), some (.sh (.lst (ws.map bY))), some (.sh (.lst (ops.map .int))), some (.sh (.lst (vs.map .int))), some (.sh (.str sg)), some (.lst (((BZ ws ops vs sg es (oq ks (ops.take j))).map .int).map T.sh)), o6, o7, o8])
   (eS (v_ E.aR.1)) ⟨_, _, _, rfl⟩ (fun j δ ⟨_, _, _, e⟩ => by subst e; exact amX rfl) ?turn ?fin
 case turn =>
   rintro j d δ hj ⟨o6, o7, o8, rfl⟩
   obtain ⟨x, rfl, _, A4, xS, _, AJ⟩ := ig hj
   obtain ⟨x0, x1⟩ := ho x A4
   have ve := Dh ws ops vs sg es (oq ks (ops.take j))
   have agm : (oq ks (ops.take j)).length <= 900 := by
     have h1 := an3 (OJ ks) (ops.take j)
     have h2 : (ops.take j).length <= ops.length := by rw [aor]; omega
     unfold oq
     omega
   have hlv : oq ks (ops.take (j + 1)) = oq ks (ops.take j) ++ (if OJ ks x = true then [x] else []) := by
     unfold oq
     rw [AJ, anZ, List.filter_cons, aoM]
   show fF X CL b _ _ { nx := fun δ => ∃ o6 o7 o8, δ = [_, _, _, _, _, some (.lst (((BZ ws ops vs sg es (oq ks (ops.take (j + 1)))).map .int).map T.sh)), o6, o7, o8], rt := _, bk := _, ct := _ }
   rw [hlv]
   generalize oq ks (ops.take j) = ll at ve agm ⊢
   refine cQ (eL (aP (aP (aD E.bw) (ah aj) rfl) (aD E.ly) (dN Str.empty x0 (by omega))) (ah bB)).1 (fun hp => ?leaf) (fun hp => au (au ?other))
   case other =>
     have hp : OJ ks x = false := hp
     rw [amV (by rw [hp]; decide), anu]
     exact ⟨_, _, _, rfl⟩
   case leaf =>
   have hp : OJ ks x = true := hp
   rw [amZ hp, RV]
   generalize BZ ws ops vs sg es ll = acc at ve ⊢
   have hcl : (bQ es x).length <= es.length + 1 := tR _ _ _
   refine aW E.g E.qP (aN (tF (ds := [.int x]) (Jz := (bQ es x).map .int) (cF (ds := [.int x]) (dM (gC (v_ E.ly.1) dJ) (aL rfl))) (cF (c_ (es, x) E.iB E.cN (ai (aP (aD E.bw) (ah aj) rfl) (ai (aD E.ly) aC)) (by dsimp only [dg]; exact ⟨ht, x0, x1, by omega⟩) (bA _))) rfl (cj _) (Nat.le_of_lt (cA (by simp; omega)))) (t2 := .lst (((x :: bQ es x).map .int).map T.sh)) rfl) ?_
   have hge := go_eq (ws := ws) (ops := ops) (sg := sg) (JW ht x0 x1)
   have hgl := Wz ws ops sg (x :: bQ es x)
   have hfs : fsM ws ops vs sg es x = (JT ws ops sg (x :: bQ es x)).filter fun k => BX vs (ws.getD k.toNat w0) := rfl
   rw [hfs]
   have hgm : ∀ {k : Int}, k ∈ JT ws ops sg (x :: bQ es x) -> 0 <= k /\ k < ws.length := fun h => Dg h
   have N1 : pJ (ws, ops, x :: bQ es x, sg) = T.lst (((JT ws ops sg (x :: bQ es x)).map .int).map T.sh) := by rw [hge]; rfl
   generalize JT ws ops sg (x :: bQ es x) = go at hgl hgm N1 ⊢
   refine rV (p := fun d => BX vs (ws.getD d.yP.toNat w0)) (gg := fun d => T.sh d) E.g E.MN (cI (.cons E.aZ.1 (.inl E.uy) (.cons E.cO.1 (.inl E.Ks) .nil)) (by decide +kernel)) (eS (m5 (ds := go.map .int) (aN (c_ (ws, ops, x :: bQ es x, sg) E.adk E.HV (ai (aD E.cO) (ai (aD E.aR) (ai (vL E.qP.1) (ai (aD E.iH) aC)))) (by dsimp only [pI]; exact ⟨Qx, by rw [List.length_cons]; omega, U0.ok⟩) (by rw [N1]; exact bA _)) N1))) (.inr rfl) (fun C s0 H0 f0 b' d hd => ?Dl) (Nat.le_of_lt (cA (by rw [List.length_map]; omega))) ?rest (by exact Nat.le_of_ble_eq_true rfl) (jW ⟨_, rfl⟩)
   case Dl =>
     obtain ⟨k, hkm, rfl⟩ := ank.mp hd
     obtain ⟨k0, k1⟩ := hgm hkm
     have Xk : ws.getD k.toNat w0 ∈ ws := by rw [am4, amW (by omega)]; exact aod _
     obtain ⟨al, tO, Gp, Jc⟩ := U0 _ Xk
     have hrd : BX vs (ws.getD k.toNat w0) = (al.map cS).all (hD vs) := by unfold BX; rw [tO]
     refine ⟨gR (aN (c_ (al, vs, es.length) (mY E.nK) (jC (by decide +kernel)) (ai (oO (aY (aP (ah (v_ (gk (i := 2) rfl (by decide +kernel)))) (ah (v_ (fh (i := 0) rfl (by decide +kernel)))) (dN (f := bY) w0 k0 k1)) (ah aj) (bI (j := 2) rfl)) (congrArg L3.D.tup tO)) (ai (ah (v_ (gk (i := 1) rfl (by decide +kernel)))) aC)) (by dsimp only [eF]; exact Jc) rfl) (t2 := .sh (.bl (BX vs (ws.getD k.toNat w0)))) (congrArg (fun z => T.sh (.bl z)) hrd.symm)), fun _ => v_ (fh (i := 0) rfl (by decide +kernel))⟩
   case rest =>
   have efl : (((go.map L3.D.int).filter fun d => BX vs (ws.getD d.yP.toNat w0)).map fun d => T.sh d) = ((go.filter fun k => BX vs (ws.getD k.toNat w0)).map L3.D.int).map T.sh := by
     rw [List.filter_map]
     rfl
   rw [efl]
   have U1 : (go.filter fun k => BX vs (ws.getD k.toNat w0)).length <= 63 := anL (an3 _ _) (by omega)
   generalize (go.filter fun k => BX vs (ws.getD k.toNat w0)) = fl at U1 ⊢
   refine aW E.g E.aO (aN (tF (ds := acc.map .int) (Jz := (fl.take 1).map .int) (vL E.aO.1) (cF (ds := (fl.take 1).map .int) (aN (yQ (vL E.MN.1) (cj _) xO (xP (ah aj))) (by rw [GH, WM]))) (cj _) (cj _) (anY (cA (by simp; omega)))) (t2 := .lst (((acc ++ fl.take 1).map .int).map T.sh)) (by simp)) (au (au ?_))
   exact ⟨_, _, _, rfl⟩
 case fin =>
   rintro δ ⟨o6, o7, o8, rfl⟩
   rw [amY, anK]
   exact aU (vM E.aO.1) rfl
theorem dI : iS (ao uP) ([("lists", av), ("ways", .cell), ("opens", av), ("boxes", .cell), ("sign", av), ("found", av), ("leaf", av), ("chain", av), ("ready", av), ("_law_chain", aB), ("_law_goes", aB)]) = true := by decide +kernel
theorem B8 : aJ ["lists", "ways", "opens", "boxes", "sign", "found", "leaf", "chain", "ready"] ["lists", "ways", "opens", "boxes", "sign"] (ao uP) := aQ
noncomputable abbrev yt : Stmt := top 28
noncomputable abbrev DU : Type := Int
noncomputable def mJ : DU -> List L3.D := fun i => [.int i]
noncomputable def mK : DU -> Prop := fun i => True
noncomputable def mL : DU -> T := fun i => (.sh (.bl true) : T)
structure Xs (X : Cx) (CL : Str -> Addr) : Prop extends bK X where
 aO : Ln X 0 "found"
 f9 : Gl X "isinstance"
 Si : Gl X "int"
 g_bool : Gl X "bool"
 gb : X.mg "isinstance" = none
 Sj : X.mg "int" = none
 adl : X.mg "bool" = none
theorem Xu {X : Cx} {CL : Str -> Addr} {b : Bx} (E : Xs X CL) (i) (h : mK i) :
   az X CL b yt ["found"] (mJ i) (mL i) := by
 dsimp only [az, mK, mJ, mL] at h ⊢
 exact aU (Jx (isI E.gb E.Sj E.f9 E.Si (aD E.aO)) (fun _ => yL (abX (isB E.gb E.adl E.f9 E.g_bool (aD E.aO))))) rfl
theorem uQ : iS (ao yt) ([("found", av), ("isinstance", aB), ("int", aB), ("bool", aB)]) = true := by decide +kernel
theorem HW : aJ ["found"] ["found"] (ao yt) := aQ
noncomputable abbrev s_same : Stmt := top 32
noncomputable abbrev Ku : Type := List Int × List Int
noncomputable def uR : Ku -> List L3.D := fun (xs, ys) => [.lst (xs.map .int), .lst (ys.map .int)]
noncomputable def uS : Ku -> Prop := fun (xs, ys) => ys.length <= 100
noncomputable def uT : Ku -> T := fun (xs, ys) => (.sh (.bl (decide (xs = ys))) : T)
structure adn (X : Cx) (CL : Str -> Addr) : Prop extends bK X where
 aO : Ln X 0 "found"
 HX : Ln X 1 "due"
 lO : Ln X 2 "k"
 f9 : Gl X "isinstance"
 dZ : Gl X "list"
 cK : Gl X "len"
 cY : Gl X "range"
 nL : Gl X "_law_whole"
 gb : X.mg "isinstance" = none
 d7 : X.mg "list" = none
 cL : X.mg "len" = none
 cZ : X.mg "range" = none
 DV : Fc X CL "_law_whole" 1 1 mJ mK mL
theorem ado {X : Cx} {CL : Str -> Addr} {b : Bx} (E : adn X CL) (xs ys) (h : uS (xs, ys)) :
   az X CL b s_same ["found", "due", "k"] (uR (xs, ys)) (uT (xs, ys)) := by
 dsimp only [az, uS, uR, uT] at h ⊢
 have hlen : ∀ l : List Int, (l.map L3.D.int).length = l.length := fun l => by simp
 refine cQ (iQ (oi (jT (gR (isL E.gb E.d7 E.f9 E.dZ (aD E.aO)))) (fun _ => mW (kX (ah (sW E.cL (aD E.aO) E.cK)) (ah (sW E.cL (aD E.HX) E.cK))).1))) (fun hp => ?_) (fun hp => ?_)
 . refine aU gQ ?_
   have jl : xs.length ≠ ys.length := by
     intro e
     simp [hlen, e] at hp
   show T.sh _ = T.sh (.bl (decide (xs = ys)))
   rw [anz (fun e => jl (by rw [e]))]
 . have he : xs.length = ys.length := by
     simp [hlen] at hp
     exact_mod_cast hp
   refine au ?_
   refine eZ E.g E.lO (fun j δ => (∃ o, δ = [some (.sh (.lst (xs.map .int))), some (.sh (.lst (ys.map .int))), o]) /\ xs.take j = ys.take j)
     (fP E.cZ (ah (sW E.cL (aD E.HX) E.cK)) (by rw [hlen]; omega) E.cY) ⟨⟨_, rfl⟩, rfl⟩ (fun j δ ⟨⟨o, e⟩, _⟩ => by subst e; exact amX rfl) ?_ ?_
   . rintro j d δ hj ⟨⟨o, rfl⟩, hp⟩
     obtain ⟨rfl, xS⟩ := jk hj
     have xS : j < ys.length := by simpa using xS
     rw [aoj]
     refine cQ (iQ (oi (jT (gR (c_ (xs.getD ((j : Int)).toNat 0) E.DV E.nL (ai (aP (aD E.aO) (aD E.lO) (fQ (bs := xs) (k := (j : Int)) (by omega) (by omega))) aC) trivial rfl))) (fun _ => mW (kX (aP (aD E.aO) (aD E.lO) (fQ (by omega) (by omega))) (aP (aD E.HX) (aD E.lO) (fQ (by omega) (by omega)))).1))) (fun hq => ?_) (fun hq => ?_)
     . refine aU gQ ?_
       show T.sh _ = T.sh (.bl (decide (xs = ys)))
       rw [anz]
       intro e
       subst e
       simp at hq
     . refine au (au ⟨⟨_, rfl⟩, ?_⟩)
       rw [anO, anO, hp]
       congr 1
       simp at hq
       rw [amW (by omega), amW xS] at hq ⊢
       simpa using hq
   . rintro δ ⟨⟨o, rfl⟩, hp⟩
     refine aU gQ ?_
     show T.sh _ = T.sh (.bl (decide (xs = ys)))
     have : xs = ys := by
       have e : (b8 0 (((ys.map L3.D.int).length : Int)).toNat).length = ys.length := by simp [b8]
       rw [e, anK] at hp
       rw [← hp, aoN (by omega)]
     rw [anU this]
theorem kO : iS (ao s_same) ([("found", av), ("due", av), ("k", av), ("isinstance", aB), ("list", aB), ("len", aB), ("range", aB), ("_law_whole", aB)]) = true := by decide +kernel
theorem MP : aJ ["found", "due", "k"] ["found", "due"] (ao s_same) := aQ
noncomputable abbrev uU : Stmt := top 51
noncomputable abbrev zR : Type := List Str × List Int × List Int × List Int × bN
noncomputable def kg : zR -> List L3.D := fun (ks, es, ss, oo, w) => [kF ks es ss oo, bY w]
noncomputable def gO : zR -> Prop := fun (ks, es, ss, oo, w) => eV es /\ es.length <= 1000 /\ ks.length = es.length /\ (0 <= w.src /\ w.src < es.length) /\ 0 <= w.tgt /\ w.tgt < es.length
noncomputable def kh : zR -> T := fun (ks, es, ss, oo, w) => (.sh (.int (k6 (dX ks) es w.src w.tgt)) : T)
structure SN (X : Cx) (CL : Str -> Addr) : Prop extends bK X where
 bw : Ln X 0 "lists"
 dh : Ln X 1 "way"
 HY : Ln X 2 "shared"
 Xv : Ln X 3 "up"
 cN : Gl X "_law_chain"
 iB : Fc X CL "_law_chain" 1 2 gX dg gY
theorem SQ {X : Cx} {CL : Str -> Addr} {b : Bx} (E : SN X CL) (ks es ss oo w) (h : gO (ks, es, ss, oo, w)) :
   az X CL b uU ["lists", "way", "shared", "up"] (kg (ks, es, ss, oo, w)) (kh (ks, es, ss, oo, w)) := by
 dsimp only [az, gO, kg, kh] at h ⊢
 obtain ⟨ht, hl, hk, ⟨a0, a1⟩, c0, c1⟩ := h
 refine aW E.g E.HY (aN (c_ ((es, w.tgt)) E.iB E.cN (ai (aP (aD E.bw) (ah aj) rfl) (ai (aY (aD E.dh) (ah aj) (bI (j := 4) rfl)) aC)) (by dsimp only [dg]; exact (⟨ht, c0, c1, hl⟩)) (bA _)) (t2 := .lst (((bQ es w.tgt).map .int).map T.sh)) rfl) ?_
 refine eZ E.g E.Xv (fun j δ => ∃ o, (∀ x ∈ (bQ es w.src).take j, (dX ks x && decide (x ∈ bQ es w.tgt)) = false) /\ δ = [some (.sh (kF ks es ss oo)), some (.sh (bY w)), some (.lst (((bQ es w.tgt).map .int).map T.sh)), o])
   (eS (m5 (aN (c_ ((es, w.src)) E.iB E.cN (ai (aP (aD E.bw) (ah aj) rfl) (ai (aY (aD E.dh) (ah aj) (bI (j := 0) rfl)) aC)) (by dsimp only [dg]; exact (⟨ht, a0, a1, hl⟩)) (bA _)) (t2 := .lst (((bQ es w.src).map .int).map T.sh)) rfl))) ⟨_, fun x hx => by simp at hx, rfl⟩ (fun j δ ⟨_, _, e⟩ => by subst e; exact Nat.le_of_ble_eq_true rfl) ?turn ?fin
 case turn =>
   rintro j d δ hj ⟨o, jl, rfl⟩
   obtain ⟨x, rfl, hx, A4, xS, _, _⟩ := ig hj
   have hxb := qc ht a0 a1 A4
   have AJ : (bQ es w.src).take (j + 1) = (bQ es w.src).take j ++ [x] := by rw [anO, hx]; rfl
   refine cQ (iQ (eO (eL (aP (aP (aD E.bw) (ah aj) rfl) (aD E.Xv) (dN Str.empty (by omega) (by omega))) (ah bB)).1 (fun hb => (gD (ic (aD E.Xv) (vL E.HY.1) rfl rfl).1)))) (fun hp => ?_) (fun hp => au (au ⟨_, ?_, rfl⟩))
   . refine aU (v_ E.Xv.1) ?_
     have hp2 : (dX ks x && decide (x ∈ bQ es w.tgt)) = true := hp
     have : (bQ es w.src).find? (fun x => dX ks x && decide (x ∈ bQ es w.tgt)) = some x := by
       have Jp : bQ es w.src = (bQ es w.src).take j ++ x :: (bQ es w.src).drop (j + 1) := by
         have h2 := List.take_append_drop j (bQ es w.src)
         have ajw : j < (bQ es w.src).length := (anf.mp hx).1
         rw [aoD ajw] at h2
         have : (bQ es w.src)[j] = x := (anf.mp hx).2
         rw [this] at h2
         exact h2.symm
       conv => lhs; rw [Jp]
       rw [List.find?_append, aoX.mpr (fun y hy => by rw [jl y hy]; decide), aoK, hp2]
       rfl
     unfold k6
     rw [this]
     rfl
   . intro y hy
     rw [AJ] at hy
     rcases am3.mp hy with hy | hy
     . exact jl y hy
     . have e : y = x := by simpa using hy
       subst e
       exact hp
 case fin =>
   rintro δ ⟨o, jl, rfl⟩
   rw [amY, anK] at jl
   refine aU (dB (ah aj)) ?_
   unfold k6
   rw [aoX.mpr (fun y hy => by rw [jl y hy]; decide)]
   rfl
theorem mO : iS (ao uU) ([("lists", av), ("way", av), ("shared", av), ("up", av), ("_law_chain", aB)]) = true := by decide +kernel
theorem B9 : aJ ["lists", "way", "shared", "up"] ["lists", "way"] (ao uU) := aQ
noncomputable abbrev kP : Stmt := top 56
noncomputable abbrev pK : Type := List Str × List Int × List Int × List Int × bN × List kC × List Int × List Int × Str
noncomputable def jg : pK -> List L3.D := fun (ks, es, ss, oo, w, l, ops, vs, sg) => [kF ks es ss oo, bY w, .lst (ops.map .int), .lst (vs.map .int), .str sg]
noncomputable def gA : pK -> Prop := fun (ks, es, ss, oo, w, l, ops, vs, sg) => eV es /\ es.length <= 900 /\ ks.length = es.length /\ ((0 <= w.src /\ w.src < es.length) /\ -1 <= w.tgt /\ w.tgt < es.length) /\ (w.sign = sg /\ w.src ∈ ops /\ ops.length <= 900 /\ (k6 (dX ks) es w.src w.tgt = -1 \/ k6 (dX ks) es w.src w.tgt ∈ ops)) /\ (w.asks = l.map cS /\ (∀ a ∈ l, a.Ok es.length vs)) /\ iO ops w.asks = true /\ BX vs w = true
noncomputable def jh : pK -> T := fun (ks, es, ss, oo, w, l, ops, vs, sg) => (.sh (.bl true) : T)
structure HZ (X : Cx) (CL : Str -> Addr) : Prop extends bK X where
 bw : Ln X 0 "lists"
 dh : Ln X 1 "way"
 aR : Ln X 2 "opens"
 aZ : Ln X 3 "boxes"
 iH : Ln X 4 "sign"
 sA : Gl X "_law_top"
 kN : Gl X "_law_fits"
 uV : Gl X "_law_holds"
 zS : Fc X CL "_law_top" 2 2 kg gO kh
 qQ : Fc X CL "_law_fits" 1 2 jo e7 jq
 nK : Fc X CL "_law_holds" 2 2 iK eF iL
theorem Ic {X : Cx} {CL : Str -> Addr} {b : Bx} (E : HZ X CL) (ks es ss oo w l ops vs sg) (h : gA (ks, es, ss, oo, w, l, ops, vs, sg)) :
   az X CL b kP ["lists", "way", "opens", "boxes", "sign"] (jg (ks, es, ss, oo, w, l, ops, vs, sg)) (jh (ks, es, ss, oo, w, l, ops, vs, sg)) := by
 dsimp only [az, gA, jg, jh] at h ⊢
 obtain ⟨ht, hl, hk, ⟨hs, t0, t1⟩, ⟨e1, e2, R7, e3⟩, ⟨tO, Jc⟩, hf, hr⟩ := h
 refine cQ (iQ (oi (abT (aY (aD E.dh) (ah aj) (bI (j := 1) rfl)) (aD E.iH)).1 (fun _ => mW (tK (i := w.src) (aY (aD E.dh) (ah aj) (bI (j := 0) rfl)) (aD E.aR) rfl rfl).1))) (fun hp => ?_) (fun _ => au ?_)
 . rw [anU e1, anU e2] at hp
   exact absurd hp (by decide)
 by_cases hg : w.tgt = -1
 . refine cQ (iQ (eO (q := false) (kX (aY (aD E.dh) (ah aj) (bI (j := 4) rfl)) (ah (dB (ah aj)))).1 (fun hb => absurd hb (by rw [anU hg]; decide)))) (fun hp => by simp at hp) (fun _ => au ?_)
   exact aU (aN (Jx (aN (c_ (l, ops) E.qQ E.kN (ai (oO (aY (aD E.dh) (ah aj) (bI (j := 2) rfl)) (congrArg L3.D.tup tO)) (ai (aD E.aR) aC)) (by dsimp only [e7]; exact fun a ha => (Jc a ha).mk) rfl) (t2 := .sh (.bl true)) (congrArg (fun z => T.sh (.bl z)) (by rw [← tO]; exact hf))) (fun _ => yL (aN (c_ (l, vs, es.length) E.nK E.uV (ai (oO (aY (aD E.dh) (ah aj) (bI (j := 2) rfl)) (congrArg L3.D.tup tO)) (ai (aD E.aZ) aC)) (by dsimp only [eF]; exact Jc) rfl) (t2 := .sh (.bl true)) (congrArg (fun z => T.sh (.bl z)) (by unfold BX at hr; rw [tO] at hr; exact hr))))) rfl) rfl
 . refine cQ (iQ (eO (kX (aY (aD E.dh) (ah aj) (bI (j := 4) rfl)) (ah (dB (ah aj)))).1 (fun _ => gD (tK (i := k6 (dX ks) es w.src w.tgt) (l := -1 :: ops) (ah (aN (c_ (ks, es, ss, oo, w) E.zS E.sA (ai (aD E.bw) (ai (aD E.dh) aC)) (by dsimp only [gO]; exact ⟨ht, by omega, hk, hs, by omega, t1⟩) rfl) (t2 := .sh (.int (k6 (dX ks) es w.src w.tgt))) rfl)) (cF (ds := (-1 :: ops).map .int) (aN (tF (ds := [.int (-1)]) (Jz := ops.map .int) (cF (ds := [.int (-1)]) (dM (gC (dB (ah aj)) dJ) (aL rfl))) (aD E.aR) rfl (cj _) (Nat.le_of_lt (cA (by simp; omega)))) rfl)) rfl rfl).1))) (fun hp => ?_) (fun _ => au ?_)
   . have hm : k6 (dX ks) es w.src w.tgt ∈ -1 :: ops := by
       rcases e3 with z | z
       . rw [z]; exact am0
       . exact am2 _ z
     rw [anU hm] at hp
     simp at hp
   exact aU (aN (Jx (aN (c_ (l, ops) E.qQ E.kN (ai (oO (aY (aD E.dh) (ah aj) (bI (j := 2) rfl)) (congrArg L3.D.tup tO)) (ai (aD E.aR) aC)) (by dsimp only [e7]; exact fun a ha => (Jc a ha).mk) rfl) (t2 := .sh (.bl true)) (congrArg (fun z => T.sh (.bl z)) (by rw [← tO]; exact hf))) (fun _ => yL (aN (c_ (l, vs, es.length) E.nK E.uV (ai (oO (aY (aD E.dh) (ah aj) (bI (j := 2) rfl)) (congrArg L3.D.tup tO)) (ai (aD E.aZ) aC)) (by dsimp only [eF]; exact Jc) rfl) (t2 := .sh (.bl true)) (congrArg (fun z => T.sh (.bl z)) (by unfold BX at hr; rw [tO] at hr; exact hr))))) rfl) rfl
theorem eG : iS (ao kP) ([("lists", av), ("way", av), ("opens", av), ("boxes", av), ("sign", av), ("_law_top", aB), ("_law_fits", aB), ("_law_holds", aB)]) = true := by decide +kernel
theorem uW : aJ ["lists", "way", "opens", "boxes", "sign"] ["lists", "way", "opens", "boxes", "sign"] (ao kP) := aQ
noncomputable abbrev yu : Stmt := top 54
noncomputable abbrev DW : Type := List Int × List Int
noncomputable def mP : DW -> List L3.D := fun (l, r) => [.lst (l.map .int), .lst (r.map .int)]
noncomputable def mQ : DW -> Prop := fun (l, r) => True
noncomputable def mR : DW -> T := fun (l, r) => (.sh (.bl (JQ l r)) : T)
structure Xw (X : Cx) (CL : Str -> Addr) : Prop extends bK X where
 dS : Ln X 0 "one"
 bC : Ln X 1 "other"
 eW : Ln X 2 "mood"
theorem Xx {X : Cx} {CL : Str -> Addr} {b : Bx} (E : Xw X CL) (l r) (h : mQ (l, r)) :
   az X CL b yu ["one", "other", "mood"] (mP (l, r)) (mR (l, r)) := by
 dsimp only [az, mQ, mP, mR] at h ⊢
 show fF X CL b _ _ { nx := _, rt := fun CW _ => CW = T.sh (.bl (JQ l r)), bk := _, ct := _ }
 refine eZ E.g E.eW (fun j δ => ∃ o, (∀ x ∈ l.take j, decide (x ∈ r) = false) /\ δ = [some (.sh (.lst (l.map .int))), some (.sh (.lst (r.map .int))), o])
   (eS (v_ E.dS.1)) ⟨_, fun x hx => by simp at hx, rfl⟩ (fun j δ ⟨_, _, e⟩ => by subst e; exact amX rfl) ?turn ?fin
 case turn =>
   rintro j d δ hj ⟨o, jl, rfl⟩
   obtain ⟨x, rfl, hx, A4, xS, _, _⟩ := ig hj
   refine cQ (ic (aD E.eW) (aD E.bC) rfl rfl).1 (fun hp => ?_) (fun hp => au (au ⟨_, ?_, rfl⟩))
   . refine aU gQ ?_
     rw [show JQ l r = true from aoR.mpr ⟨x, A4, hp⟩]
   . intro y hy
     rw [anO, hx] at hy
     rcases am3.mp hy with hy | hy
     . exact jl y hy
     . have e : y = x := by simpa using hy
       subst e
       exact hp
 case fin =>
   rintro δ ⟨o, jl, rfl⟩
   rw [amY, anK] at jl
   refine aU gQ ?_
   rw [show JQ l r = false from List.any_eq_false.mpr fun x hx => by rw [jl x hx]; decide]
theorem zT : iS (ao yu) ([("one", av), ("other", av), ("mood", av)]) = true := by decide +kernel
theorem Ie : aJ ["one", "other", "mood"] ["one", "other"] (ao yu) := aQ
noncomputable abbrev yw : Stmt := top 57
noncomputable abbrev DX : Type := List Int × List (List Int)
noncomputable def qR : DX -> List L3.D := fun (l, ku) => [.lst (l.map .int), .lst (ku.map fun q => L3.D.lst (q.map .int))]
noncomputable def mS : DX -> Prop := fun (l, ku) => (∀ x ∈ l, 0 <= x /\ x < ku.length) /\ ∀ x ∈ l, ∀ y ∈ l, x < y -> JQ (ku.getD x.toNat []) (ku.getD y.toNat []) = false
noncomputable def qS : DX -> T := fun (l, ku) => (.sh (.bl true) : T)
structure Xy (X : Cx) (CL : Str -> Addr) : Prop extends bK X where
 aO : Ln X 0 "found"
 jK : Ln X 1 "spans"
 dS : Ln X 2 "one"
 bC : Ln X 3 "other"
 nM : Gl X "_law_share"
 DY : Fc X CL "_law_share" 1 2 mP mQ mR
theorem Xz {X : Cx} {CL : Str -> Addr} {b : Bx} (E : Xy X CL) (l ku) (h : mS (l, ku)) :
   az X CL b yw ["found", "spans", "one", "other"] (qR (l, ku)) (qS (l, ku)) := by
 dsimp only [az, mS, qR, qS] at h ⊢
 obtain ⟨hb, hap⟩ := h
 refine eZ E.g E.dS (fun j δ => ∃ o2 o3, δ = [some (.sh (.lst (l.map .int))), some (.sh (.lst (ku.map fun q => L3.D.lst (q.map .int)))), o2, o3]) (eS (v_ E.aO.1)) ⟨_, _, rfl⟩ (fun j δ ⟨_, _, e⟩ => by subst e; exact amX rfl) ?turn ?fin
 case turn =>
   rintro j d δ hj ⟨o2, o3, rfl⟩
   obtain ⟨x, rfl, _, A4, _, _, _⟩ := ig hj
   obtain ⟨x0, x1⟩ := hb x A4
   refine eZ E.g E.bC (fun j δ => ∃ o3, δ = [some (.sh (.lst (l.map .int))), some (.sh (.lst (ku.map fun q => L3.D.lst (q.map .int)))), some (.sh (.int x)), o3]) (eS (v_ E.aO.1)) ⟨_, rfl⟩ (fun j δ ⟨_, e⟩ => by subst e; exact amX rfl) ?zO ?fin2
   case zO =>
     rintro i d δ hi ⟨o3, rfl⟩
     obtain ⟨y, rfl, _, hym, _, _, _⟩ := ig hi
     obtain ⟨y0, y1⟩ := hb y hym
     have hsx : sQ (ku.map fun q => L3.D.lst (q.map .int)) x = some (.lst ((ku.getD x.toNat []).map .int)) := dN (f := fun q : List Int => L3.D.lst (q.map .int)) [] x0 (by omega)
     have hsy : sQ (ku.map fun q => L3.D.lst (q.map .int)) y = some (.lst ((ku.getD y.toNat []).map .int)) := dN (f := fun q : List Int => L3.D.lst (q.map .int)) [] y0 (by omega)
     by_cases hxy : x < y
     . refine cQ (iQ (eO (Gy (aD E.dS) (aD E.bC)).1 (fun _ => gD (gR (aN (c_ (ku.getD x.toNat [], ku.getD y.toNat []) E.DY E.nM (ai (aP (aD E.jK) (aD E.dS) hsx) (ai (aP (aD E.jK) (aD E.bC) hsy) aC)) trivial rfl) (t2 := .sh (.bl false)) (congrArg (fun z => T.sh (.bl z)) (hap x A4 y hym hxy))))))) (fun hp => by simp at hp) (fun _ => au (au ⟨_, rfl⟩))
     . refine cQ (iQ (eO (q := false) (Gy (aD E.dS) (aD E.bC)).1 (fun hb => absurd (am9 hb) hxy))) (fun hp => by simp at hp) (fun _ => au (au ⟨_, rfl⟩))
   case fin2 =>
     rintro δ ⟨o3, rfl⟩
     exact au ⟨_, _, rfl⟩
 case fin =>
   rintro δ ⟨o2, o3, rfl⟩
   exact aU gQ rfl
theorem pL : iS (ao yw) ([("found", av), ("spans", av), ("one", av), ("other", av), ("_law_share", aB)]) = true := by decide +kernel
theorem Ig : aJ ["found", "spans", "one", "other"] ["found", "spans"] (ao yw) := aQ
noncomputable abbrev nO : Stmt := top 58
noncomputable abbrev sC : Type := List Str × List Int × List Int × List Int × List bN × Int × List Int × List (List Int)
noncomputable def jL : sC -> List L3.D := fun (ks, es, ss, oo, ws, k, l, ku) => [kF ks es ss oo, .lst (ws.map bY), .int k, .lst (l.map .int), .lst (ku.map fun q => L3.D.lst (q.map .int))]
noncomputable def iM : sC -> Prop := fun (ks, es, ss, oo, ws, k, l, ku) => eV es /\ es.length <= 900 /\ (∀ w ∈ ws, 0 <= w.src /\ w.src < es.length) /\ (0 <= k /\ k < ws.length) /\ ku.length = ws.length /\ (∀ x ∈ l, 0 <= x /\ x < ws.length) /\ (k ∈ l \/ ∃ y ∈ l, (bQ es (iy ws k).src).length <= (bQ es (iy ws y).src).length /\ JQ (ku.getD k.toNat []) (ku.getD y.toNat []) = true)
noncomputable def jM : sC -> T := fun (ks, es, ss, oo, ws, k, l, ku) => (.sh (.bl true) : T)
structure Kv (X : Cx) (CL : Str -> Addr) : Prop extends bK X where
 bw : Ln X 0 "lists"
 cO : Ln X 1 "ways"
 qT : Ln X 2 "first"
 aO : Ln X 3 "found"
 jK : Ln X 4 "spans"
 SR : Ln X 5 "deep"
 bC : Ln X 6 "other"
 cK : Gl X "len"
 cN : Gl X "_law_chain"
 nM : Gl X "_law_share"
 cL : X.mg "len" = none
 iB : Fc X CL "_law_chain" 1 2 gX dg gY
 DY : Fc X CL "_law_share" 1 2 mP mQ mR
theorem Kw {X : Cx} {CL : Str -> Addr} {b : Bx} (E : Kv X CL) (ks es ss oo ws k l ku) (h : iM (ks, es, ss, oo, ws, k, l, ku)) :
   az X CL b nO ["lists", "ways", "first", "found", "spans", "deep", "other"] (jL (ks, es, ss, oo, ws, k, l, ku)) (jM (ks, es, ss, oo, ws, k, l, ku)) := by
 dsimp only [az, iM, jL, jM] at h ⊢
 obtain ⟨ht, hl, hw, ⟨k0, k1⟩, hsl, hb, hor⟩ := h
 refine cQ (ic (aD E.qT) (aD E.aO) rfl rfl).1 (fun _ => aU gQ rfl) (fun hn => au ?_)
 have hn : ¬ k ∈ l := anc hn
 obtain ⟨y, hym, hdp, hsh⟩ := hor.resolve_left hn
 obtain ⟨ks0, ks1⟩ := hw _ (iz k0 k1)
 refine aW E.g E.SR (aN (cT (List.length_map ..) E.cL (cF (aN (c_ (es, (iy ws k).src) E.iB E.cN (ai (aP (aD E.bw) (ah aj) rfl) (ai (aY (aP (aD E.cO) (aD E.qT) (dN (f := bY) w0 k0 k1)) (ah aj) (bI (j := 0) rfl)) aC)) (by dsimp only [dg]; exact ⟨ht, ks0, ks1, by omega⟩) (bA _)) (t2 := .lst (((bQ es (iy ws k).src).map .int).map T.sh)) rfl)) E.cK) (t2 := .sh (.int ((bQ es (iy ws k).src).length : Nat))) rfl) ?_
 refine eZ E.g E.bC (fun j δ => ∃ o, y ∉ l.take j /\ δ = [some (.sh (kF ks es ss oo)), some (.sh (.lst (ws.map bY))), some (.sh (.int k)), some (.sh (.lst (l.map .int))), some (.sh (.lst (ku.map fun q => L3.D.lst (q.map .int)))), some (.sh (.int ((bQ es (iy ws k).src).length : Nat))), o]) (eS (v_ E.aO.1)) ⟨_, by simp, rfl⟩ (fun j δ ⟨_, _, e⟩ => by subst e; exact amX rfl) ?turn ?fin
 case turn =>
   rintro j d δ hj ⟨o, jl, rfl⟩
   obtain ⟨x, rfl, hx, A4, _, _, AJ⟩ := ig hj
   obtain ⟨x0, x1⟩ := hb x A4
   obtain ⟨xs0, xs1⟩ := hw _ (iz x0 x1)
   have U5 : x ≠ y -> y ∉ l.take (j + 1) := fun e hm => by
     rw [AJ] at hm
     rcases am3.mp hm with hm | hm
     . exact jl hm
     . exact e (anb.mp hm).symm
   have hsx : sQ (ku.map fun q => L3.D.lst (q.map .int)) k = some (.lst ((ku.getD k.toNat []).map .int)) := dN (f := fun q : List Int => L3.D.lst (q.map .int)) [] k0 (by omega)
   have hsy : sQ (ku.map fun q => L3.D.lst (q.map .int)) x = some (.lst ((ku.getD x.toNat []).map .int)) := dN (f := fun q : List Int => L3.D.lst (q.map .int)) [] x0 (by omega)
   refine cQ (iQ (eO (afq (i := ((bQ es (iy ws x).src).length : Nat)) (ah (aN (cT (List.length_map ..) E.cL (cF (aN (c_ (es, (iy ws x).src) E.iB E.cN (ai (aP (aD E.bw) (ah aj) rfl) (ai (aY (aP (aD E.cO) (aD E.bC) (dN (f := bY) w0 x0 x1)) (ah aj) (bI (j := 0) rfl)) aC)) (by dsimp only [dg]; exact ⟨ht, xs0, xs1, by omega⟩) (bA _)) (t2 := .lst (((bQ es (iy ws x).src).map .int).map T.sh)) rfl)) E.cK) (t2 := .sh (.int ((bQ es (iy ws x).src).length : Nat))) rfl)) (aD E.SR)).1 (fun _ => gD (gR (aN (c_ (ku.getD k.toNat [], ku.getD x.toNat []) E.DY E.nM (ai (aP (aD E.jK) (aD E.qT) hsx) (ai (aP (aD E.jK) (aD E.bC) hsy) aC)) trivial rfl) (t2 := .sh (.bl (JQ (ku.getD k.toNat []) (ku.getD x.toNat [])))) rfl))))) (fun _ => aU gQ rfl) (fun hq => au (au ⟨_, U5 fun e => ?_, rfl⟩))
   subst e
   rw [hsh, Bool.and_true] at hq
   have hq := anc hq
   omega
 case fin =>
   rintro δ ⟨o, jl, rfl⟩
   rw [amY, anK] at jl
   exact absurd hym jl
theorem dH : iS (ao nO) ([("lists", av), ("ways", av), ("first", av), ("found", av), ("spans", av), ("deep", av), ("other", av), ("len", aB), ("_law_chain", aB), ("_law_share", aB)]) = true := by decide +kernel
theorem xo : aJ ["lists", "ways", "first", "found", "spans", "deep", "other"] ["lists", "ways", "first", "found", "spans"] (ao nO) := aQ
noncomputable abbrev uX : Stmt := top 47
noncomputable abbrev zU : Type := List L3.D × List L3.D × List Str × List Int × List Int × List Int × List L3.D × List L3.D × List L3.D
noncomputable def nP : zU -> List L3.D := fun (bs, nm, ks, es, ss, oo, is, os, ws) => [gJ bs nm (gi ks es ss) is os ws, kF ks es ss oo, .lst ws]
noncomputable def ki : zU -> Prop := fun (bs, nm, ks, es, ss, oo, is, os, ws) => (∀ x ∈ ks, PyData.strOk x = true) /\ kZ 60 (.lst ws)
noncomputable def nQ : zU -> T := fun (bs, nm, ks, es, ss, oo, is, os, ws) => (.sh (.bl true) : T)
structure SV (X : Cx) (CL : Str -> Addr) : Prop extends bK X where
 bH : Ln X 0 "chart"
 bw : Ln X 1 "lists"
 cO : Ln X 2 "ways"
 dQ : Ln X 3 "tree"
 bR : wM X.K (CL "Chart")
 gq : wM X.K (CL "Tree")
 cu : bD X.K (CL "Chart") "tree"
 bO : bD X.K (CL "Chart") "ways"
 fq : bD X.K (CL "Tree") "kinds"
 fH : bD X.K (CL "Tree") "elders"
 lg : bD X.K (CL "Tree") "starts"
theorem SW {X : Cx} {CL : Str -> Addr} {b : Bx} (E : SV X CL) (bs nm ks es ss oo is os ws) (h : ki (bs, nm, ks, es, ss, oo, is, os, ws)) :
   az X CL b uX ["chart", "lists", "ways", "tree"] (nP (bs, nm, ks, es, ss, oo, is, os, ws)) (nQ (bs, nm, ks, es, ss, oo, is, os, ws)) := by
 dsimp only [az, ki, nP, nQ] at h ⊢
 obtain ⟨hk, hw⟩ := h
 refine aW E.g E.dQ (CM E.bR E.cu (v_ E.bH.1) iV) ?_
 have e1 : ∀ l : List Int, NV (.lst (l.map L3.D.int)) (.lst (l.map L3.D.int)) = true := fun l => sZ (jm l)
 refine cQ (iQ (oi (CK E.u (gn E.gq E.fq (aD E.dQ) rX) (aP (aD E.bw) (ah aj) rfl) (acw 59 hk) (acw 59 hk)).1 (fun hb => (oi (CK E.u (gn E.gq E.fH (aD E.dQ) oU) (aP (aD E.bw) (ah aj) rfl) (jm _) (jm _)).1 (fun hb2 => (mW (CK E.u (gn E.gq E.lg (aD E.dQ) G7) (aP (aD E.bw) (ah aj) rfl) (jm _) (jm _)).1)))))) (fun hp => ?_) (fun _ => au ?_)
 . rw [sZ (acw 59 hk), e1, e1] at hp
   cases hp
 . refine aU (acf E.u (gn E.bR E.bO (aD E.bH) gK) (aD E.cO) hw hw).2 ?_
   rw [sZ hw]
theorem qU : iS (ao uX) ([("chart", av), ("lists", av), ("ways", av), ("tree", av)]) = true := by decide +kernel
theorem Ca : aJ ["chart", "lists", "ways", "tree"] ["chart", "lists", "ways"] (ao uX) := aQ
noncomputable abbrev qV : Stmt := top 52
noncomputable abbrev vV : Type := List Int × Int
noncomputable def kQ : vV -> List L3.D := fun (es, m) => [.lst (es.map .int), .int m]
noncomputable def jt : vV -> Prop := fun (es, m) => eV es /\ es.length <= 1000
noncomputable def kR : vV -> T := fun (es, m) => (.lst (((P6 es m).map .int).map T.sh) : T)
structure OZ (X : Cx) (CL : Str -> Addr) : Prop extends bK X where
 cB : Ln X 0 "elders"
 eW : Ln X 1 "mood"
 aO : Ln X 2 "found"
 lO : Ln X 3 "k"
 cY : Gl X "range"
 cK : Gl X "len"
 cN : Gl X "_law_chain"
 cZ : X.mg "range" = none
 cL : X.mg "len" = none
 iB : Fc X CL "_law_chain" 1 2 gX dg gY
theorem O1 {X : Cx} {CL : Str -> Addr} {b : Bx} (E : OZ X CL) (es m) (h : jt (es, m)) :
   az X CL b qV ["elders", "mood", "found", "k"] (kQ (es, m)) (kR (es, m)) := by
 dsimp only [az, jt, kQ, kR] at h ⊢
 obtain ⟨ht, hl⟩ := h
 refine aW E.g E.aO (dM dJ (ans _)) ?_
 have hlen : ∀ j, ((((List.range j).filter (fun (i : Nat) => decide (m = -1) || decide (m ∈ bQ es i))).map (fun (i : Nat) => (i : Int)))).length <= j := fun j => by
   rw [amY]
   have := an3 (fun (i : Nat) => decide (m = -1) || decide (m ∈ bQ es i)) (List.range j)
   rw [aoC] at this
   exact this
 refine eZ E.g E.lO (fun j δ => ∃ o, δ = [some (.sh (.lst (es.map .int))), some (.sh (.int m)), some (.lst (((((List.range j).filter (fun (i : Nat) => decide (m = -1) || decide (m ∈ bQ es i))).map (fun (i : Nat) => (i : Int))).map .int).map T.sh)), o])
   (fP E.cZ (ah (cT (amY ..) E.cL (aD E.cB) E.cK)) (by omega) E.cY) ⟨_, rfl⟩ (fun j δ ⟨_, e⟩ => by subst e; exact amX rfl) ?turn ?fin
 case turn =>
   rintro j d δ hj ⟨o, rfl⟩
   obtain ⟨rfl, xS⟩ := jk hj
   have xS : j < es.length := by simpa using xS
   rw [aoj]
   have hlj := hlen j
   have er : (List.range (j + 1)).filter (fun (i : Nat) => decide (m = -1) || decide (m ∈ bQ es i)) = (List.range j).filter (fun (i : Nat) => decide (m = -1) || decide (m ∈ bQ es i)) ++ (if (decide (m = -1) || decide (m ∈ bQ es j)) = true then [j] else []) := by
     rw [aox, anZ, List.filter_cons, aoM]
   rw [er]
   generalize (List.range j).filter (fun (i : Nat) => decide (m = -1) || decide (m ∈ bQ es i)) = fl at hlj ⊢
   refine cQ (iQ (oi (eK (aD E.eW) (ah (dB (ah aj)))).1 (fun hb => (mW (ic (aD E.eW) (cF (c_ ((es, (j : Int))) E.iB E.cN (ai (aD E.cB) (ai (aD E.lO) aC)) (by dsimp only [dg]; exact (⟨ht, by omega, by omega, hl⟩)) (bA _))) rfl rfl).1)))) (fun hp => ?_) (fun hp => au (au ?_))
   . have hp : (decide (m = -1) || decide (m ∈ bQ es j)) = true := hp
     refine kD E.aO.1 rfl (v_ E.lO.1) rfl (by rw [amY, amY]; omega) (au (au ?_))
     rw [amZ hp, show ((fl.map (fun (i : Nat) => (i : Int))).map L3.D.int).map T.sh ++ [T.sh (.int (j : Int))] = (((fl ++ [j]).map (fun (i : Nat) => (i : Int))).map L3.D.int).map T.sh by simp]
     exact ⟨_, rfl⟩
   . have hp : (decide (m = -1) || decide (m ∈ bQ es j)) = false := hp
     rw [amV (by rw [hp]; decide), anu]
     exact ⟨_, rfl⟩
 case fin =>
   rintro δ ⟨o, rfl⟩
   refine aU (vM E.aO.1) ?_
   have e : (b8 0 (es.length : Int).toNat).length = es.length := by simp [b8]
   rw [e]
   rfl
theorem gP : iS (ao qV) ([("elders", av), ("mood", av), ("found", av), ("k", av), ("range", aB), ("len", aB), ("_law_chain", aB)]) = true := by decide +kernel
theorem zV : aJ ["elders", "mood", "found", "k"] ["elders", "mood"] (ao qV) := aQ
noncomputable abbrev DZ : Stmt := top 53
noncomputable abbrev Kx : Type := List Str × List Int × List Int × List Int × bN
noncomputable def uY : Kx -> List L3.D := fun (ks, es, ss, oo, w) => [kF ks es ss oo, bY w]
noncomputable def pM : Kx -> Prop := fun (ks, es, ss, oo, w) => eV es /\ es.length <= 1000 /\ ks.length = es.length /\ (0 <= w.src /\ w.src < es.length) /\ -1 <= w.tgt /\ w.tgt < es.length
noncomputable def uZ : Kx -> T := fun (ks, es, ss, oo, w) => (.lst (((GX ks es w.src w.tgt).map .int).map T.sh) : T)
structure adp (X : Cx) (CL : Str -> Addr) : Prop extends bK X where
 bw : Ln X 0 "lists"
 dh : Ln X 1 "way"
 zW : Gl X "_law_beneath"
 sA : Gl X "_law_top"
 O2 : Fc X CL "_law_beneath" 2 2 kQ jt kR
 zS : Fc X CL "_law_top" 2 2 kg gO kh
theorem adq {X : Cx} {CL : Str -> Addr} {b : Bx} (E : adp X CL) (ks es ss oo w) (h : pM (ks, es, ss, oo, w)) :
   az X CL b DZ ["lists", "way"] (uY (ks, es, ss, oo, w)) (uZ (ks, es, ss, oo, w)) := by
 dsimp only [az, pM, uY, uZ] at h ⊢
 obtain ⟨ht, hl, hk, hs, t0, t1⟩ := h
 show fF X CL b _ _ { nx := _, rt := fun CW _ => CW = T.lst (((GX ks es w.src w.tgt).map .int).map T.sh), bk := _, ct := _ }
 unfold GX
 refine cQ (eK (aY (aD E.dh) (ah aj) (bI (j := 4) rfl)) (ah (dB (ah aj)))).1 (fun hp => ?_) (fun hp => au ?_)
 . rw [amZ (am9 hp)]
   exact aU (dM dJ (ans _)) rfl
 . have hp := anc hp
   rw [amV hp]
   exact aU (aN (c_ (es, k6 (dX ks) es w.src w.tgt) E.O2 E.zW (ai (aP (aD E.bw) (ah aj) rfl) (ai (ah (c_ (ks, es, ss, oo, w) E.zS E.sA (ai (aD E.bw) (ai (aD E.dh) aC)) (by dsimp only [gO]; exact ⟨ht, hl, hk, hs, by omega, t1⟩) rfl)) aC)) (by dsimp only [jt]; exact ⟨ht, hl⟩) (bA _)) rfl) rfl
theorem yx : iS (ao DZ) ([("lists", av), ("way", av), ("_law_beneath", aB), ("_law_top", aB)]) = true := by decide +kernel
theorem MQ : aJ ["lists", "way"] ["lists", "way"] (ao DZ) := aQ
noncomputable def spD (ks : List Str) (es : List Int) (d : L3.D) : T := .lst (((GX ks es d.at1.yP (ajf d)).map .int).map T.sh)
noncomputable def spV (ks : List Str) (es : List Int) (w : bN) : L3.D := .lst ((GX ks es w.src w.tgt).map .int)
theorem ads (ks : List Str) (es : List Int) (ws : List bN) : T.fE (.lst ((ws.map bY).map (spD ks es))) = .lst (ws.map (spV ks es)) := by
 rw [T.fE]
 congr 1
 induction ws with
 | nil => rfl
 | cons w ws ih =>
   rw [ani, ani, T.ju, ih, ani]
   congr 1
   exact fj _
theorem XA (ks : List Str) (es : List Int) (ws : List bN) : ws.map (spV ks es) = (ws.map fun w => GX ks es w.src w.tgt).map fun q => L3.D.lst (q.map .int) := by
 rw [anF]
 rfl
noncomputable abbrev MR : Stmt := top 59
noncomputable abbrev SX : Type := List Int
noncomputable def qW : SX -> List L3.D := fun a => [.lst (a.map .int)]
noncomputable def qX : SX -> Prop := fun a => a.length <= 63
noncomputable def qY : SX -> T := fun a => (.sh (.bl true) : T)
structure ago (X : Cx) (CL : Str -> Addr) : Prop extends bK X where
 bT : Ln X 0 "script"
 bw : Ln X 1 "lists"
 D0 : X.env.kindOf "lists" = some .cell
 aR : Ln X 2 "opens"
 aZ : Ln X 3 "boxes"
 ja : Ln X 4 "three"
 cO : Ln X 5 "ways"
 bH : Ln X 6 "chart"
 dh : Ln X 7 "way"
 jK : Ln X 8 "spans"
 iH : Ln X 9 "sign"
 zX : Ln X 10 "handed"
 D3 : Ln X 11 "given"
 aO : Ln X 12 "found"
 nR : Ln X 13 "ready_ones"
 qT : Ln X 14 "first"
 D4 : Gl X "_law_lists"
 D5 : Gl X "_law_opens"
 D6 : Gl X "_law_boxes"
 D7 : Gl X "_law_signs"
 Ih : Gl X "_law_ways"
 cK : Gl X "len"
 D8 : Gl X "_law_chart"
 dZ : Gl X "list"
 D9 : Gl X "kept"
 Ea : Gl X "picks"
 Bb : Gl X "_law_firsts"
 f9 : Gl X "isinstance"
 xq : Gl X "_law_same"
 nL : Gl X "_law_whole"
 vW : Gl X "_law_goes_well"
 Eb : Gl X "_law_apart"
 agp : Gl X "set"
 xH : Gl X "_law_answered"
 Bc : Gl X "_law_stayed"
 XC : Fc X CL "_law_lists" 3 1 qg qh qi
 XD : Fc X CL "_law_opens" 1 1 qj lV qk
 XE : Fc X CL "_law_boxes" 2 1 ql qm qo
 XF : Fc X CL "_law_signs" 2 1 qq qu qv
 vX : Fc X CL "_law_ways" 4 5 uw oY ux
 cL : X.mg "len" = none
 XG : Fc X CL "_law_chart" 3 3 qA mz qB
 d7 : X.mg "list" = none
 vY : Fc X CL "kept" 5 2 uH pD uI
 XH : Fc X CL "picks" 4 4 qM mG qN
 SY : Fc X CL "_law_firsts" 3 5 nI j9 nJ
 gb : X.mg "isinstance" = none
 S6 : Fc X CL "_law_same" 2 2 uR uS uT
 DV : Fc X CL "_law_whole" 1 1 mJ mK mL
 Ii : Fc X CL "_law_goes_well" 3 5 jg gA jh
 XI : Fc X CL "_law_apart" 2 2 qR mS qS
 agq : X.mg "set" = none
 Ky : Fc X CL "_law_answered" 2 5 jL iM jM
 S7 : Fc X CL "_law_stayed" 1 3 nP ki nQ
 adt : Fc X CL "_law_span" 3 2 uY pM uZ
theorem agr {X : Cx} {CL : Str -> Addr} {b : Bx} (E : ago X CL) (a) (h : qX a) :
   az X CL b MR ["script", "lists", "opens", "boxes", "three", "ways", "chart", "way", "spans", "sign", "handed", "given", "found", "ready_ones", "first"] (qW a) (qY a) := by
 dsimp only [az, qX, qW, qY] at h ⊢
 have hs : a.length <= 1000 := by omega
 refine aW E.g E.bw (aN (c_ a E.XC E.D4 (ai (aD E.bT) aC) hs (by
   show T.clean (tU _ _ _ _) = true
   unfold tU
   rw [iR, T.fN, T.fN, T.fN, T.fN, T.fN, cz (oN _), cz (cj _), cz (cj _), cz (cj _)]
   rfl)) (t2 := tU (tT a (kB a) (kB a).length) (kB a) (zl a (kB a) (kB a).length) (vH a (kB a) (kB a).length)) rfl) ?_
 obtain ⟨n1, n2, xB⟩ := Ml a
 generalize kB a = es at n1 n2 xB ⊢
 have hkl : ∀ x ∈ tT a es es.length, PyData.strOk x = true := fun x hx => by
   obtain ⟨k, _, rfl⟩ := ank.mp hx
   exact acO _ _ _
 have ags : (vH a es es.length).length = es.length := by simp [vH]
 have S8 : (tT a es es.length).length = es.length := by simp [tT]
 generalize tT a es es.length = ks at hkl S8 ⊢
 generalize zl a es es.length = ss
 generalize vH a es es.length = oo at ags ⊢
 have hfr := Rz ks es ss oo
 refine aW E.g E.aR (aN (c_ (ks, es, ss, oo) E.XD E.D5 (ai (vE E.bw.1 rfl hfr) aC) (by dsimp only [lV]; exact ⟨n1, by omega, ags, xB.1⟩) (bA _)) (t2 := .lst (((w9 es oo (es.length - 1)).map .int).map T.sh)) rfl) ?_
 have R7 := (xU (es := es) (os := oo) (es.length - 1)).1
 have OD : ∀ x ∈ w9 es oo (es.length - 1), 0 <= x /\ x < es.length := fun x hx => by
   have := xT _ hx
   omega
 have ajz := (xU (es := es) (os := oo) (es.length - 1)).2
 have hup : ∀ x ∈ w9 es oo (es.length - 1), x = 0 \/ es.getD x.toNat 0 ∈ w9 es oo (es.length - 1) := fun x hx => J1 _ hx
 generalize w9 es oo (es.length - 1) = ops at R7 ajz OD hup ⊢
 refine aW E.g E.aZ (aN (c_ (a) E.XE E.D6 (ai (aD E.bT) aC) (hs) (bA _)) (t2 := .lst (((bxK a).map .int).map T.sh)) rfl) ?_
 have hbl := Wt a
 generalize bxK a = bs at hbl ⊢
 refine aW E.g E.ja (aN (c_ (a) E.XF E.D7 (ai (aD E.bT) aC) (hs) (zc _)) (t2 := .lst (((Wu a).map .str).map T.sh)) rfl) ?_
 have h3 := Wv a
 have dU := acP a
 generalize Wu a = th at h3 dU ⊢
 obtain ⟨wl, wo⟩ := RG (s := a) (bs := bs) n1 R7 OD dU h3
 have hWA : tW es.length bs (zq a ops es.length bs th) := ⟨by omega, wo⟩
 refine aW E.g E.cO (aN (c_ (a, ops, es.length, bs, th) E.vX E.Ih (ai (aD E.bT) (ai (vL E.aR.1) (ai (ah (cT (List.length_map ..) E.cL (aP (vE E.bw.1 rfl hfr) (ah aj) rfl) E.cK)) (ai (vL E.aZ.1) (ai (vL E.ja.1) aC))))) (by dsimp only [oY]; exact ⟨h, n1, R7, by omega, h3, OD, dU⟩) (by exact cz hWA.cy)) (t2 := .lst (((zq a ops es.length bs th).map bY).map T.sh)) rfl) ?_
 generalize zq a ops es.length bs th = ws at hWA ⊢
 have iw := hWA.cy
 refine aW E.g E.bH (aN (c_ (ks, es, ss, oo, bs, ws.map bY) E.XG E.D8 (ai (vE E.bw.1 rfl hfr) (ai (vL E.aZ.1) (ai (vL E.cO.1) aC))) (by dsimp only [mz]; exact ⟨by omega, by omega, iw⟩) (by
   show T.bM (iW _ _ _ _ _ _) = true
   exact DE (vP _) (oN _) (wZ ks es ss) (mw _) (mw _) iw)) (t2 := .ins "Chart" (iW (sf bs.length) ((rB es.length).map .str) (.ins "Tree" (lS ks es ss)) (uA es.length) (uA es.length) (ws.map bY))) rfl) ?_
 have hcf : T.fE (.ins "Chart" (iW (sf bs.length) ((rB es.length).map .str) (.ins "Tree" (lS ks es ss)) (uA es.length) (uA es.length) (ws.map bY))) = gJ (sf bs.length) ((rB es.length).map .str) (gi ks es ss) (uA es.length) (uA es.length) (ws.map bY) := by
   rw [JN, Ov]
 have Qx : (ws.map bY).length = ws.length := by simp
 have ht := xB.1
 have hkn : ks.length = es.length := S8
 have xD : ∀ w ∈ ws, (0 <= w.src /\ w.src < es.length) /\ -1 <= w.tgt /\ w.tgt < es.length := fun w hw => ⟨(hWA.2 w hw).src, (hWA.2 w hw).tgt⟩
 have hws := hWA.1
 refine rV (p := fun _ => true) (gg := spD ks es) E.g E.jK (cI (.cons E.bw.1 (.inl E.D0) .nil) (by decide +kernel)) (eS (vFL E.cO.1 rfl)) (.inl ⟨rfl, fun d hd => bA _⟩) (fun C s0 H0 f0 b' d hd => ?Dl) (anY (cA (by rw [Qx]; omega))) ?rest (by exact amX rfl) (jW ⟨_, rfl⟩)
 case Dl =>
   obtain ⟨w, hw, rfl⟩ := ank.mp hd
   obtain ⟨hs1, Jh⟩ := xD w hw
   exact ⟨rfl, fun _ => aN (c_ (ks, es, ss, oo, w) (mY E.adt) (jC (by decide +kernel)) (ai (oO (ah (v_ (gk (i := 1) rfl (by decide +kernel)))) hfr) (ai (ah (v_ (fh (i := 0) rfl (by decide +kernel)))) aC)) (by dsimp only [pM]; exact ⟨ht, by omega, hkn, hs1, Jh⟩) (bA _)) rfl⟩
 case rest =>
 rw [gS]
 have hsf : T.fE (.lst ((ws.map bY).map (spD ks es))) = .lst ((ws.map fun w => GX ks es w.src w.tgt).map fun q => L3.D.lst (q.map .int)) := (ads ks es ws).trans (congrArg L3.D.lst (XA ks es ws))
 generalize Jp : T.lst ((ws.map bY).map (spD ks es)) = adu at hsf ⊢
 have agt : (ws.map fun w => GX ks es w.src w.tgt).length = ws.length := by simp
 have aaO : ∀ {row : List Int}, row.Nodup -> (∀ x ∈ row, 0 <= x /\ x < ws.length) -> R0 es ws row (ws.map fun w => GX ks es w.src w.tgt) (t6 ks es ws row) := fun rnd rin => R1 ht rnd rin fun w hw => (xD w hw).1
 generalize amw : (ws.map fun w => GX ks es w.src w.tgt) = ku at agt aaO hsf ⊢
 have haB : tY es.length bs ws := fun w hw => (hWA.2 w hw).asks
 have ajC : ∀ x ∈ oq ks ops, x ∈ ops := fun x hx => (anB.mp hx).1
 have hlv : (oq ks ops).length <= ops.length := an3 _ _
 refine eZ E.g E.iH (fun j δ => ∃ o7 o9 o10 o11 o12 o13 S9, δ = [some (.sh (.lst (a.map .int))), some (tU ks es ss oo), some (.lst ((ops.map .int).map T.sh)), some (.lst ((bs.map .int).map T.sh)), some (.sh (.lst (th.map .str))), some (.sh (.lst (ws.map bY))), some (.ins "Chart" (iW (sf bs.length) ((rB es.length).map .str) (.ins "Tree" (lS ks es ss)) (uA es.length) (uA es.length) (ws.map bY))), o7, some adu, o9, o10, o11, o12, o13, S9])
   (eS (vFL E.ja.1 rfl)) ⟨_, _, _, _, _, _, _, rfl⟩ (fun j δ ⟨_, _, _, _, _, _, _, e⟩ => by subst e; exact amX rfl) ?turn ?fin
 case turn =>
   rintro i d δ hi ⟨o7, o9, o10, o11, o12, o13, S9, rfl⟩
   obtain ⟨sg, rfl, _, _, _, _, _⟩ := ig hi
   clear hi
   have ve := Mu ws ops bs sg es (oq ks ops)
   have U1 := Dh ws ops bs sg es (oq ks ops)
   have hnd := RX ws ops bs sg es (oq ks ops)
   have hfo : ∀ k ∈ BZ ws ops bs sg es (oq ks ops), afZ ws ops bs sg es k := fun k hk => af0 ht hup OD ajC hk
   have hpm : ∀ x, x ∈ Hi ws ops bs sg es (oq ks ops) ↔ x ∈ BZ ws ops bs sg es (oq ks ops) := fun x => acV
   refine aW E.g E.zX (ef E.d7 (vL E.aR.1) (cj _) E.dZ bZ) ?_
   refine aW E.g E.D3 (ef E.d7 (vL E.aZ.1) (cj _) E.dZ bZ) ?_
   have Tc : ∀ x ∈ Hi ws ops bs sg es (oq ks ops), 0 <= x /\ x < ws.length := fun x hx => ⟨(hfo x ((hpm x).mp hx)).k0, (hfo x ((hpm x).mp hx)).k1⟩
   refine aW E.g E.aO (aN (c_ (sf bs.length, (rB es.length).map .str, ks, es, ss, uA es.length, uA es.length, ws, Hi ws ops bs sg es (oq ks ops)) E.vY E.D9 (ai (vE E.bH.1 rfl hcf) (ai (cF (aN (c_ (sf bs.length, (rB es.length).map .str, ks, es, ss, uA es.length, uA es.length, ws, ops, bs, sg) E.XH E.Ea (ai (vE E.bH.1 rfl hcf) (ai (vL E.zX.1) (ai (vL E.D3.1) (ai (aD E.iH) aC)))) (by dsimp only [mG]; exact ⟨ht, by omega, S8, hws, by omega, OD, haB⟩) (bA _)) rfl)) aC)) (by dsimp only [pD]; exact ⟨ht, by omega, hkn, by omega, Tc, xD⟩) (bA _)) (t2 := .lst (((t6 ks es ws (Hi ws ops bs sg es (oq ks ops))).map .int).map T.sh)) rfl) ?_
   have KO := aaO hnd Tc
   generalize Hi ws ops bs sg es (oq ks ops) = row at ve hnd hpm Tc KO ⊢
   generalize t6 ks es ws row = fd at KO ⊢
   have hfd := KO.len
   have hfk : ∀ x ∈ fd, x ∈ BZ ws ops bs sg es (oq ks ops) := fun x hx => (hpm x).mp (KO.sub x hx)
   refine aW E.g E.nR (aN (c_ (ks, es, ss, oo, ws, ops, bs, sg) E.SY E.Bb (ai (vE E.bw.1 rfl hfr) (ai (aD E.cO) (ai (vL E.aR.1) (ai (vL E.aZ.1) (ai (aD E.iH) aC))))) (by dsimp only [j9]; exact ⟨ht, by omega, S8, hws, by omega, OD, haB⟩) (bA _)) (t2 := .lst (((BZ ws ops bs sg es (oq ks ops)).map .int).map T.sh)) rfl) ?_
   generalize BZ ws ops bs sg es (oq ks ops) = fi at U1 hfo hpm hfk ⊢
   refine cQ (iQ (oi (jT (gR (isL E.gb E.d7 E.f9 E.dZ (vL E.aO.1)))) (fun hb => (oi (jT (gR (c_ ((ops, ops)) E.S6 E.xq (ai (vL E.zX.1) (ai (vL E.aR.1) aC)) ((show ops.length <= 100 by omega)) rfl))) (fun hb2 => (mW (jT (gR (c_ ((bs, bs)) E.S6 E.xq (ai (vL E.D3.1) (ai (vL E.aZ.1) aC)) ((show bs.length <= 100 by omega)) rfl))))))))) (fun hp => ?_) (fun _ => au ?_)
   . simp at hp
   refine eZ E.g E.dh (fun j δ => ∃ o7 S9, δ = [some (.sh (.lst (a.map .int))), some (tU ks es ss oo), some (.lst ((ops.map .int).map T.sh)), some (.lst ((bs.map .int).map T.sh)), some (.sh (.lst (th.map .str))), some (.sh (.lst (ws.map bY))), some (.ins "Chart" (iW (sf bs.length) ((rB es.length).map .str) (.ins "Tree" (lS ks es ss)) (uA es.length) (uA es.length) (ws.map bY))), o7, some adu, some (.sh (.str sg)), some (.lst ((ops.map .int).map T.sh)), some (.lst ((bs.map .int).map T.sh)), some (.sh (.lst (fd.map .int))), some (.lst ((fi.map .int).map T.sh)), S9])
     (eS (vFL E.aO.1 rfl)) ⟨_, _, rfl⟩ (fun j δ ⟨_, _, e⟩ => by subst e; exact amX rfl) ?agv ?ajI
   case agv =>
     rintro i d δ hi ⟨o7, S9, rfl⟩
     obtain ⟨x, rfl, _, A4, _, _, _⟩ := ig hi
     have FO := hfo x (hfk x A4)
     have x0 := FO.k0
     have x1 := FO.k1
     have Xk := iz x0 x1
     obtain ⟨al, tO, Gp, Jc⟩ := haB _ Xk
     refine cQ (iQ (oi (jT (gR (aN (c_ x E.DV E.nL (ai (aD E.dh) aC) trivial rfl) (t2 := .sh (.bl true)) rfl))) (fun _ => mW (tK (i := x) (aD E.dh) (vL E.nR.1) rfl rfl).1))) (fun hp => ?_) (fun _ => au ?_)
     . rw [anU (hfk x A4)] at hp
       exact absurd hp (by decide)
     have ajJ : k6 (dX ks) es (iy ws x).src (iy ws x).tgt = -1 \/ k6 (dX ks) es (iy ws x).src (iy ws x).tgt ∈ ops := (tX (zj := dX ks) (es := es)).imp id fun z => RZ ht hup OD es.length (xD _ Xk).1.2 FO.src z
     refine cQ (jT (gR (aN (c_ (ks, es, ss, oo, iy ws x, al, ops, bs, sg) E.Ii E.vW (ai (vE E.bw.1 rfl hfr) (ai (aP (aD E.cO) (aD E.dh) (dN (f := bY) w0 x0 x1)) (ai (vL E.aR.1) (ai (vL E.aZ.1) (ai (aD E.iH) aC))))) (by dsimp only [gA]; exact ⟨ht, by omega, S8, xD _ Xk, ⟨FO.sign, FO.src, by omega, ajJ⟩, ⟨tO, Jc⟩, FO.fit, FO.hold⟩) rfl) (t2 := .sh (.bl true)) rfl))) (fun hp => absurd hp (by decide)) (fun _ => au (au ⟨_, _, rfl⟩))
   case ajI =>
   rintro δ ⟨o7, S9, rfl⟩
   refine cQ (iQ (oi (jT (gR (aN (c_ (fd, ku) E.XI E.Eb (ai (aD E.aO) (ai (vE E.jK.1 rfl hsf) aC)) (by dsimp only [mS]; exact ⟨fun x hx => by have := Tc x (KO.sub x hx); omega, KO.apart⟩) rfl) (t2 := .sh (.bl true)) rfl))) (fun _ => mW (kX (ah (Ou E.g E.cL E.agq (aD E.aO) KO.nd (by omega) E.cK E.agp)) (ah (cT (List.length_map ..) E.cL (aD E.aO) E.cK))).1))) (fun hp => ?_) (fun _ => au ?_)
   . simp at hp
   refine eZ E.g E.qT (fun j δ => ∃ S9, δ = [some (.sh (.lst (a.map .int))), some (tU ks es ss oo), some (.lst ((ops.map .int).map T.sh)), some (.lst ((bs.map .int).map T.sh)), some (.sh (.lst (th.map .str))), some (.sh (.lst (ws.map bY))), some (.ins "Chart" (iW (sf bs.length) ((rB es.length).map .str) (.ins "Tree" (lS ks es ss)) (uA es.length) (uA es.length) (ws.map bY))), o7, some adu, some (.sh (.str sg)), some (.lst ((ops.map .int).map T.sh)), some (.lst ((bs.map .int).map T.sh)), some (.sh (.lst (fd.map .int))), some (.sh (.lst (fi.map .int))), S9])
     (eS (vFL E.nR.1 rfl)) ⟨_, rfl⟩ (fun j δ ⟨_, e⟩ => by subst e; exact amX rfl) ?zO ?fin2
   case zO =>
     rintro i d δ hi ⟨S9, rfl⟩
     obtain ⟨x, rfl, _, A4, _, _, _⟩ := ig hi
     have FO := hfo x A4
     refine cQ (jT (gR (aN (c_ (ks, es, ss, oo, ws, x, fd, ku) E.Ky E.xH (ai (vE E.bw.1 rfl hfr) (ai (aD E.cO) (ai (aD E.qT) (ai (aD E.aO) (ai (vE E.jK.1 rfl hsf) aC))))) (by dsimp only [iM]; exact ⟨ht, by omega, fun w hw => (xD w hw).1, ⟨FO.k0, FO.k1⟩, agt, fun y hy => Tc y (KO.sub y hy), KO.over x ((hpm x).mpr A4)⟩) rfl) (t2 := .sh (.bl true)) rfl))) (fun hp => absurd hp (by decide)) (fun _ => au (au ⟨_, rfl⟩))
   case fin2 =>
   rintro δ ⟨S9, rfl⟩
   exact au ⟨_, _, _, _, _, _, _, rfl⟩
 case fin =>
   rintro δ ⟨o7, o9, o10, o11, o12, o13, S9, rfl⟩
   exact aU (c_ (sf bs.length, (rB es.length).map .str, ks, es, ss, oo, uA es.length, uA es.length, ws.map bY) E.S7 E.Bc (ai (vE E.bH.1 rfl hcf) (ai (vE E.bw.1 rfl hfr) (ai (aD E.cO) aC))) (by dsimp only [ki]; exact ⟨hkl, hWA.dep 47⟩) rfl) rfl
theorem bV : iS (ao MR) ((("script", .local) : Str × NameKind) :: (("lists", .cell) : Str × NameKind) :: (("opens", .local) : Str × NameKind) :: (("boxes", .local) : Str × NameKind) :: (("three", .local) : Str × NameKind) :: (("ways", .local) : Str × NameKind) :: (("chart", .local) : Str × NameKind) :: (("way", .local) : Str × NameKind) :: (("spans", .local) : Str × NameKind) :: (("sign", .local) : Str × NameKind) :: (("handed", .local) : Str × NameKind) :: (("given", .local) : Str × NameKind) :: (("found", .local) : Str × NameKind) :: (("ready_ones", .local) : Str × NameKind) :: (("first", .local) : Str × NameKind) :: (("_law_lists", .globalImplicit) : Str × NameKind) :: (("_law_opens", .globalImplicit) : Str × NameKind) :: (("_law_boxes", .globalImplicit) : Str × NameKind) :: (("_law_signs", .globalImplicit) : Str × NameKind) :: (("_law_ways", .globalImplicit) : Str × NameKind) :: (("len", .globalImplicit) : Str × NameKind) :: (("_law_chart", .globalImplicit) : Str × NameKind) :: (("list", .globalImplicit) : Str × NameKind) :: (("kept", .globalImplicit) : Str × NameKind) :: (("picks", .globalImplicit) : Str × NameKind) :: (("_law_firsts", .globalImplicit) : Str × NameKind) :: (("isinstance", .globalImplicit) : Str × NameKind) :: (("_law_same", .globalImplicit) : Str × NameKind) :: (("_law_whole", .globalImplicit) : Str × NameKind) :: (("_law_goes_well", .globalImplicit) : Str × NameKind) :: (("_law_apart", .globalImplicit) : Str × NameKind) :: (("set", .globalImplicit) : Str × NameKind) :: (("_law_answered", .globalImplicit) : Str × NameKind) :: (("_law_stayed", .globalImplicit) : Str × NameKind) :: []) = true := by decide +kernel
theorem Td : aJ ["script", "lists", "opens", "boxes", "three", "ways", "chart", "way", "spans", "sign", "handed", "given", "found", "ready_ones", "first"] ["script"] (ao MR) := aQ
noncomputable def cl (ak aq aE aF ay : Addr) : Str -> Addr := fun c => if c = "Chart" then ak else if c = "Tree" then aq else if c = "#_law_ways.<locals>.<lambda>" then aE else if c = "#kept.<locals>.<lambda>" then aF else if c = "#goable.<locals>.<lambda>" then ay else 0
theorem Cb {ak aq aE aF ay : Addr} : cl ak aq aE aF ay "#_law_ways.<locals>.<lambda>" = aE := by unfold cl; rw [amV (by decide +kernel)]; rw [amV (by decide +kernel)]; rw [amZ rfl]
theorem Cd {ak aq aE aF ay : Addr} : cl ak aq aE aF ay "#kept.<locals>.<lambda>" = aF := by unfold cl; rw [amV (by decide +kernel)]; rw [amV (by decide +kernel)]; rw [amV (by decide +kernel)]; rw [amZ rfl]
theorem xr {ak aq aE aF ay : Addr} : cl ak aq aE aF ay "#goable.<locals>.<lambda>" = ay := by unfold cl; rw [amV (by decide +kernel)]; rw [amV (by decide +kernel)]; rw [amV (by decide +kernel)]; rw [amV (by decide +kernel)]; rw [amZ rfl]
theorem iN {ak aq aE aF ay : Addr} : cl ak aq aE aF ay "Chart" = ak := by unfold cl; rw [amZ rfl]
theorem qZ {ak aq aE aF ay : Addr} : cl ak aq aE aF ay "Tree" = aq := by unfold cl; rw [amV (by decide +kernel)]; rw [amZ rfl]
theorem XJ {ak aq aE aF ay : Addr} {x : Str} (h : Gv x = true) (h0 : cl ak aq aE aF ay x ≠ 0) : (cl ak aq aE aF ay x, Gw x) ∈ ([(aE, "_law_ways.<locals>.<lambda>"), (aF, "kept.<locals>.<lambda>"), (ay, "goable.<locals>.<lambda>")] : List (Addr × Str)) := by
 unfold cl at h0 ⊢
 rw [amV (fun e => by rw [e] at h; exact absurd h (by decide +kernel))] at h0 ⊢
 rw [amV (fun e => by rw [e] at h; exact absurd h (by decide +kernel))] at h0 ⊢
 by_cases Kz : x = "#_law_ways.<locals>.<lambda>"
 . rw [amZ Kz, Kz, show Gw ("#_law_ways.<locals>.<lambda>" : Str) = "_law_ways.<locals>.<lambda>" by decide +kernel]; simp
 rw [amV Kz] at h0 ⊢
 by_cases KC : x = "#kept.<locals>.<lambda>"
 . rw [amZ KC, KC, show Gw ("#kept.<locals>.<lambda>" : Str) = "kept.<locals>.<lambda>" by decide +kernel]; simp
 rw [amV KC] at h0 ⊢
 by_cases zY : x = "#goable.<locals>.<lambda>"
 . rw [amZ zY, zY, show Gw ("#goable.<locals>.<lambda>" : Str) = "goable.<locals>.<lambda>" by decide +kernel]; simp
 rw [amV zY] at h0 ⊢
 exact absurd rfl h0
noncomputable def agw {α : Type} : Nat -> (List α -> Prop) -> Prop
 | 0, P => P []
 | n + 1, P => ∀ a, agw n fun r => P (a :: r)
theorem bu {α : Type} {n : Nat} {P : List α -> Prop} (h : agw n P) : ∀ us : List α, us.length = n -> P us := by
 intro us hl
 induction us generalizing n P with
 | nil => subst hl; exact h
 | cons a r ih => subst hl; exact ih (P := fun r => P (a :: r)) (h a) rfl
theorem all_mk {l : PySem.W.OpenLaw} {w : World} {K : PySem.W.Frag} {h : Heap} {mg : Str -> Option Value} {T0 : List Addr} {fa Ec vZ Ed zZ Ef Eg z0 Eh KD Ei Ej Ek Te Tf Tg KG kT jN El nS Em z6 Ti v5 En pN KH lC KJ z7 Eo Ep sE lD Er v7 KL sF z8 Es KN z9 pO Et Eu sG Aa v8 KQ aaP ak aq aE aF ay : Addr} (XX : K.In h) (G : h.Ns mainGlobals mg) (hfa : mg "law" = some (.ref fa))
   {XM O4 XO Tj XQ XR Tp XS adv XT XU XW agx agy agz Tq Ij Ew XY nB jG mC Sz vS XZ Ik D9 lA Ke uN yq DR sq lB Ea O5 adw KR Tr X3 g_same Tt Il X4 X5 KS Tv O6 adx aaQ : FuncData}
   (Ex : PySem.W.nsIn K mainGlobals "Chart" = some (some (.ref ak))) (Ab : PySem.W.plainGet K ak Str.empty = true) (Ac : PySem.W.hasDictIn K ak = true) (Ad : PySem.W.plainOver K ak = true) (Ae : PySem.W.findIn K (.ref ak) "__setattr__" = some (some (.builtin "object.__setattr__"))) (Af : PySem.W.makesIn K ak = true) (Ag : PySem.W.keepIn K (.ref ak) = true)
   (lE : PySem.W.findIn K (.ref ak) "boxes" = some none)
   (lF : PySem.W.findIn K (.ref ak) "names" = some none)
   (nT : PySem.W.findIn K (.ref ak) "tree" = some none)
   (pP : PySem.W.findIn K (.ref ak) "ins" = some none)
   (nU : PySem.W.findIn K (.ref ak) "outs" = some none)
   (nV : PySem.W.findIn K (.ref ak) "ways" = some none)
   (KW : PySem.W.nsIn K mainGlobals "Tree" = some (some (.ref aq))) (Ey : PySem.W.plainGet K aq Str.empty = true) (Ez : PySem.W.hasDictIn K aq = true) (EA : PySem.W.plainOver K aq = true) (EB : PySem.W.findIn K (.ref aq) "__setattr__" = some (some (.builtin "object.__setattr__"))) (EC : PySem.W.makesIn K aq = true) (ED : PySem.W.keepIn K (.ref aq) = true)
   (nW : PySem.W.findIn K (.ref aq) "kinds" = some none)
   (lG : PySem.W.findIn K (.ref aq) "elders" = some none)
   (lH : PySem.W.findIn K (.ref aq) "starts" = some none)
   (EE : PySem.W.nsIn K mainGlobals "_law_mixed" = some (some (.ref Ec))) (EF : gZ K "_law_mixed" "_law_mixed" xX Ec XM)
   (v9 : PySem.W.nsIn K mainGlobals "_law_cell_at" = some (some (.ref vZ))) (wc : gZ K "_law_cell_at" "_law_cell_at" qe vZ O4)
   (EG : PySem.W.nsIn K mainGlobals "_law_chain" = some (some (.ref Ed))) (EH : gZ K "_law_chain" "_law_chain" xY Ed XO)
   (Ah : PySem.W.nsIn K mainGlobals "_law_elders" = some (some (.ref zZ))) (Ai : gZ K "_law_elders" "_law_elders" t8 zZ Tj)
   (EI : PySem.W.nsIn K mainGlobals "_law_lists" = some (some (.ref Ef))) (EJ : gZ K "_law_lists" "_law_lists" xZ Ef XQ)
   (EK : PySem.W.nsIn K mainGlobals "_law_opens" = some (some (.ref Eg))) (EL : gZ K "_law_opens" "_law_opens" x6 Eg XR)
   (Aj : PySem.W.nsIn K mainGlobals "_law_number" = some (some (.ref z0))) (Ak : gZ K "_law_number" "_law_number" t9 z0 Tp)
   (ER : PySem.W.nsIn K mainGlobals "_law_boxes" = some (some (.ref Eh))) (EV : gZ K "_law_boxes" "_law_boxes" x8 Eh XS)
   (KY : PySem.W.nsIn K mainGlobals "_law_name" = some (some (.ref KD))) (KZ : gZ K "_law_name" "_law_name" Dp KD adv)
   (EW : PySem.W.nsIn K mainGlobals "_law_signs" = some (some (.ref Ei))) (EX : gZ K "_law_signs" "_law_signs" x9 Ei XT)
   (EY : PySem.W.nsIn K mainGlobals "_law_small" = some (some (.ref Ej))) (EZ : gZ K "_law_small" "_law_small" yb Ej XU)
   (E1 : PySem.W.nsIn K mainGlobals "_law_worth" = some (some (.ref Ek))) (E2 : gZ K "_law_worth" "_law_worth" yc Ek XW)
   (Tw : PySem.W.nsIn K mainGlobals "_law_due" = some (some (.ref Te))) (Tz : gZ K "_law_due" "_law_due" Mx Te agx)
   (TF : PySem.W.nsIn K mainGlobals "_law_ask" = some (some (.ref Tf))) (TH : gZ K "_law_ask" "_law_ask" My Tf agy)
   (TJ : PySem.W.nsIn K mainGlobals "_law_way" = some (some (.ref Tg))) (TL : gZ K "_law_way" "_law_way" MB Tg agz)
   (K0 : PySem.W.nsIn K mainGlobals "_law_ways" = some (some (.ref KG))) (K1 : gZ K "_law_ways" "_law_ways" Dw KG Tq)
   {vX : Addr} {X6 : Option Addr} {MS : Array Value} {X7 : Array (Option Value)} (E3 : Tq.code = .ref vX) (MT : K.lookup vX = some ⟨.type "code", X6, .fields MS, X7⟩) (MV : MS[11]? = some (.ref aE)) (yy : PySem.W.codeHdIn K vX aE = true) (E4 : aE ≠ 0) (E5 : K.lookup aE = none) (E6 : aE ∈ T0)
   (pQ : PySem.W.findIn K (.ref aq) "__init__" = some (some (.ref kT))) (pR : PySem.W.isFn K (.ref kT) = true) (xu : gZ K "__init__" "Tree.__init__" kG kT Ij)
   (nX : PySem.W.findIn K (.ref ak) "__init__" = some (some (.ref jN))) (nY : PySem.W.isFn K (.ref jN) = true) (u5 : gZ K "__init__" "Chart.__init__" jE jN Ew)
   (E7 : PySem.W.nsIn K mainGlobals "_law_chart" = some (some (.ref El))) (E8 : gZ K "_law_chart" "_law_chart" yh El XY)
   (n5 : PySem.W.nsIn K mainGlobals "has_target" = some (some (.ref nS))) (n6 : gZ K "has_target" "has_target" jF nS nB)
   (E9 : PySem.W.nsIn K mainGlobals "above" = some (some (.ref Em))) (Fb : gZ K "above" "above" yi Em jG)
   (Al : PySem.W.nsIn K mainGlobals "within" = some (some (.ref z6))) (Am : gZ K "within" "within" uC z6 mC)
   (TN : PySem.W.nsIn K mainGlobals "top" = some (some (.ref Ti))) (TQ : gZ K "top" "top" MG Ti Sz)
   (wg : PySem.W.nsIn K mainGlobals "way_top" = some (some (.ref v5))) (wj : gZ K "way_top" "way_top" qD v5 vS)
   (Fd : PySem.W.nsIn K mainGlobals "depth" = some (some (.ref En))) (Fe : gZ K "depth" "depth" ym En XZ)
   (pS : PySem.W.nsIn K mainGlobals "tops_meet" = some (some (.ref pN))) (pT : gZ K "tops_meet" "tops_meet" kK pN Ik)
   (K2 : PySem.W.nsIn K mainGlobals "kept" = some (some (.ref KH))) (K3 : gZ K "kept" "kept" DK KH D9)
   {vY : Addr} {X8 : Option Addr} {MX : Array Value} {X9 : Array (Option Value)} (Ff : D9.code = .ref vY) (MY : K.lookup vY = some ⟨.type "code", X8, .fields MX, X9⟩) (MZ : MX[11]? = some (.ref aF)) (yz : PySem.W.codeHdIn K vY aF = true) (Fg : aF ≠ 0) (Fi : K.lookup aF = none) (Fj : aF ∈ T0)
   (lI : PySem.W.nsIn K mainGlobals "open_leaves" = some (some (.ref lC))) (lJ : gZ K "open_leaves" "open_leaves" jd lC lA)
   (K4 : PySem.W.nsIn K mainGlobals "fits" = some (some (.ref KJ))) (K5 : gZ K "fits" "fits" DM KJ Ke)
   (An : PySem.W.nsIn K mainGlobals "goable" = some (some (.ref z7))) (Ao : gZ K "goable" "goable" uL z7 uN)
   {mH : Addr} {O7 : Option Addr} {Ce : Array Value} {O8 : Array (Option Value)} (wk : uN.code = .ref mH) (Cg : K.lookup mH = some ⟨.type "code", O7, .fields Ce, O8⟩) (Ci : Ce[11]? = some (.ref ay)) (q8 : PySem.W.codeHdIn K mH ay = true) (wm : ay ≠ 0) (wu : K.lookup ay = none) (wA : ay ∈ T0)
   (Fl : PySem.W.nsIn K mainGlobals "value" = some (some (.ref Eo))) (Fo : gZ K "value" "value" yo Eo yq)
   (Fp : PySem.W.nsIn K mainGlobals "holds" = some (some (.ref Ep))) (Fq : gZ K "holds" "holds" yp Ep DR)
   (sH : PySem.W.nsIn K mainGlobals "all_hold" = some (some (.ref sE))) (sJ : gZ K "all_hold" "all_hold" nF sE sq)
   (lK : PySem.W.nsIn K mainGlobals "number_asks" = some (some (.ref lD))) (lM : gZ K "number_asks" "number_asks" je lD lB)
   (Ft : PySem.W.nsIn K mainGlobals "picks" = some (some (.ref Er))) (Fv : gZ K "picks" "picks" yr Er Ea)
   (wB : PySem.W.nsIn K mainGlobals "_law_fits" = some (some (.ref v7))) (wC : gZ K "_law_fits" "_law_fits" qO v7 O5)
   (K6 : PySem.W.nsIn K mainGlobals "_law_goes" = some (some (.ref KL))) (K7 : gZ K "_law_goes" "_law_goes" DT KL adw)
   (sL : PySem.W.nsIn K mainGlobals "_law_holds" = some (some (.ref sF))) (sM : gZ K "_law_holds" "_law_holds" nG sF KR)
   (Aq : PySem.W.nsIn K mainGlobals "_law_firsts" = some (some (.ref z8))) (As : gZ K "_law_firsts" "_law_firsts" uP z8 Tr)
   (Fw : PySem.W.nsIn K mainGlobals "_law_whole" = some (some (.ref Es))) (Fx : gZ K "_law_whole" "_law_whole" yt Es X3)
   (K8 : PySem.W.nsIn K mainGlobals "_law_same" = some (some (.ref KN))) (K9 : gZ K "_law_same" "_law_same" s_same KN g_same)
   (Au : PySem.W.nsIn K mainGlobals "_law_top" = some (some (.ref z9))) (Av : gZ K "_law_top" "_law_top" uU z9 Tt)
   (pU : PySem.W.nsIn K mainGlobals "_law_goes_well" = some (some (.ref pO))) (pV : gZ K "_law_goes_well" "_law_goes_well" kP pO Il)
   (Fy : PySem.W.nsIn K mainGlobals "_law_share" = some (some (.ref Et))) (Fz : gZ K "_law_share" "_law_share" yu Et X4)
   (FD : PySem.W.nsIn K mainGlobals "_law_apart" = some (some (.ref Eu))) (FE : gZ K "_law_apart" "_law_apart" yw Eu X5)
   (sN : PySem.W.nsIn K mainGlobals "_law_answered" = some (some (.ref sG))) (sO : gZ K "_law_answered" "_law_answered" nO sG KS)
   (Aw : PySem.W.nsIn K mainGlobals "_law_stayed" = some (some (.ref Aa))) (Ax : gZ K "_law_stayed" "_law_stayed" uX Aa Tv)
   (wF : PySem.W.nsIn K mainGlobals "_law_beneath" = some (some (.ref v8))) (wG : gZ K "_law_beneath" "_law_beneath" qV v8 O6)
   (La : PySem.W.nsIn K mainGlobals "_law_span" = some (some (.ref KQ))) (Lb : gZ K "_law_span" "_law_span" DZ KQ adx)
   (M0 : PySem.W.nsIn K mainGlobals "law" = some (some (.ref aaP))) (TR : gZ K "law" "law" MR aaP aaQ)
   (TV : PySem.W.nsIn K mainGlobals "len" = some none)
   (FG : PySem.W.nsIn K mainGlobals "range" = some none)
   (TX : PySem.W.nsIn K mainGlobals "int" = some none)
   (FH : PySem.W.nsIn K mainGlobals "tuple" = some none)
   (Ay : PySem.W.nsIn K mainGlobals "sorted" = some none)
   (Lc : PySem.W.nsIn K mainGlobals "list" = some none)
   (TY : PySem.W.nsIn K mainGlobals "str" = some none)
   {O9 : Tok} (Az : PySem.W.nsIn K mainGlobals "TARGET" = some (some (.int 4 O9)))
   {Pa : Tok} (AA : PySem.W.nsIn K mainGlobals "SOURCE" = some (some (.int 0 Pa)))
   (T3 : PySem.W.nsIn K mainGlobals "any" = some none)
   (pW : PySem.W.nsIn K mainGlobals "enumerate" = some none)
   {Yb : Tok} (Ld : PySem.W.nsIn K mainGlobals "SIGN" = some (some (.int 1 Yb)))
   {Yc : Tok} (Le : PySem.W.nsIn K mainGlobals "ASKS" = some (some (.int 2 Yc)))
   (n8 : PySem.W.nsIn K mainGlobals "isinstance" = some none)
   (y_bool : PySem.W.nsIn K mainGlobals "bool" = some none)
   (T4 : PySem.W.nsIn K mainGlobals "set" = some none)
   (n9 : aF ≠ aE) (ko : ay ≠ aE) (kr : ay ≠ aF)
   : ∃ (fd : FuncData) (ts : List (Addr × Str)), (∀ p ∈ ts, p.1 ∈ T0 /\ ts.lookup p.1 = some p.2 /\ K.lookup p.1 = none /\ ∃ c, PySem.W.CodeHd h c p.1) /\ (∀ (s : Shared) (v : Value), BindsTo s fd ⟨[v], []⟩ [("script", v)]) /\ ∀ base : Heap, K.In base -> base.Ns mainGlobals mg -> zb mg base -> bL l.prog w K mg base fM 6 fa fd ["script"] (spT K ts 1 qW qX qY) := by
 have e := hfa.symm.trans (am6 XX G M0)
 cases e
 have Yd := am6 XX G EE
 have Ye := EF.binds (ps := ["cell", "salt"]) fun _ _ _ _ _ _ => by refine bu ?_; exact fun _ _ => rfl
 have Pb := am6 XX G v9
 have Pg := wc.binds (ps := ["script", "k"]) fun _ _ _ _ _ _ => by refine bu ?_; exact fun _ _ => rfl
 have Yg := am6 XX G EG
 have Yh := EH.binds (ps := ["elders", "mood"]) fun _ _ _ _ _ _ => by refine bu ?_; exact fun _ _ => rfl
 have T5 := am6 XX G Ah
 have T6 := Ai.binds (ps := ["script"]) fun _ _ _ _ _ _ => by refine bu ?_; exact fun _ => rfl
 have Yi := am6 XX G EI
 have Yj := EJ.binds (ps := ["script"]) fun _ _ _ _ _ _ => by refine bu ?_; exact fun _ => rfl
 have Yk := am6 XX G EK
 have Yl := EL.binds (ps := ["lists"]) fun _ _ _ _ _ _ => by refine bu ?_; exact fun _ => rfl
 have T7 := am6 XX G Aj
 have T8 := Ak.binds (ps := ["cell"]) fun _ _ _ _ _ _ => by refine bu ?_; exact fun _ => rfl
 have Ym := am6 XX G ER
 have Yn := EV.binds (ps := ["script"]) fun _ _ _ _ _ _ => by refine bu ?_; exact fun _ => rfl
 have ady := am6 XX G KY
 have adz := KZ.binds (ps := ["cell"]) fun _ _ _ _ _ _ => by refine bu ?_; exact fun _ => rfl
 have Yo := am6 XX G EW
 have Yp := EX.binds (ps := ["script"]) fun _ _ _ _ _ _ => by refine bu ?_; exact fun _ => rfl
 have Yq := am6 XX G EY
 have Yr := EZ.binds (ps := ["cell"]) fun _ _ _ _ _ _ => by refine bu ?_; exact fun _ => rfl
 have Ys := am6 XX G E1
 have Yt := E2.binds (ps := ["term", "boxes"]) fun _ _ _ _ _ _ => by refine bu ?_; exact fun _ _ => rfl
 have agA := am6 XX G Tw
 have agB := Tz.binds (ps := ["mark", "one", "other"]) fun _ _ _ _ _ _ => by refine bu ?_; exact fun _ _ _ => rfl
 have agC := am6 XX G TF
 have agD := TH.binds (ps := ["cell", "opens", "many", "boxes"]) fun _ _ _ _ _ _ => by refine bu ?_; exact fun _ _ _ _ => rfl
 have agE := am6 XX G TJ
 have agF := TL.binds (ps := ["cell", "opens", "many", "boxes", "three"]) fun _ _ _ _ _ _ => by refine bu ?_; exact fun _ _ _ _ _ => rfl
 have adA := am6 XX G K0
 have adB := K1.binds (ps := ["script", "opens", "many", "boxes", "three"]) fun _ _ _ _ _ _ => by refine bu ?_; exact fun _ _ _ _ _ => rfl
 have Im := xu.binds (ps := ["self", "kinds", "elders", "starts"]) fun _ _ _ _ _ _ => by refine bu ?_; exact fun _ _ _ _ => rfl
 have FI := u5.binds (ps := ["self", "boxes", "names", "tree", "ins", "outs", "ways"]) fun _ _ _ _ _ _ => by refine bu ?_; exact fun _ _ _ _ _ _ _ => rfl
 have Yu := am6 XX G E7
 have Yv := E8.binds (ps := ["lists", "boxes", "ways"]) fun _ _ _ _ _ _ => by refine bu ?_; exact fun _ _ _ => rfl
 have FJ := am6 XX G n5
 have FL := n6.binds (ps := ["chart", "number"]) fun _ _ _ _ _ _ => by refine bu ?_; exact fun _ _ => rfl
 have Yw := am6 XX G E9
 have Yx := Fb.binds (ps := ["tree", "mood"]) fun _ _ _ _ _ _ => by refine bu ?_; exact fun _ _ => rfl
 have T9 := am6 XX G Al
 have Ua := Am.binds (ps := ["tree", "mood", "other"]) fun _ _ _ _ _ _ => by refine bu ?_; exact fun _ _ _ => rfl
 have agG := am6 XX G TN
 have agH := TQ.binds (ps := ["tree", "one", "other"]) fun _ _ _ _ _ _ => by refine bu ?_; exact fun _ _ _ => rfl
 have Ph := am6 XX G wg
 have Pj := wj.binds (ps := ["chart", "number"]) fun _ _ _ _ _ _ => by refine bu ?_; exact fun _ _ => rfl
 have Yy := am6 XX G Fd
 have Yz := Fe.binds (ps := ["tree", "mood"]) fun _ _ _ _ _ _ => by refine bu ?_; exact fun _ _ => rfl
 have Io := am6 XX G pS
 have Iq := pT.binds (ps := ["tree", "one", "other"]) fun _ _ _ _ _ _ => by refine bu ?_; exact fun _ _ _ => rfl
 have adC := am6 XX G K2
 have adD := K3.binds (ps := ["chart", "found"]) fun _ _ _ _ _ _ => by refine bu ?_; exact fun _ _ => rfl
 have Bd := am6 XX G lI
 have Be := lJ.binds (ps := ["chart", "opens"]) fun _ _ _ _ _ _ => by refine bu ?_; exact fun _ _ => rfl
 have adE := am6 XX G K4
 have adF := K5.binds (ps := ["asks", "opens"]) fun _ _ _ _ _ _ => by refine bu ?_; exact fun _ _ => rfl
 have Ub := am6 XX G An
 have Uc := Ao.binds (ps := ["chart", "opens", "leaf", "sign"]) fun _ _ _ _ _ _ => by refine bu ?_; exact fun _ _ _ _ => rfl
 have YB := am6 XX G Fl
 have YC := Fo.binds (ps := ["term", "boxes"]) fun _ _ _ _ _ _ => by refine bu ?_; exact fun _ _ => rfl
 have YD := am6 XX G Fp
 have YF := Fq.binds (ps := ["ask", "boxes"]) fun _ _ _ _ _ _ => by refine bu ?_; exact fun _ _ => rfl
 have Lf := am6 XX G sH
 have Lg := sJ.binds (ps := ["asks", "boxes"]) fun _ _ _ _ _ _ => by refine bu ?_; exact fun _ _ => rfl
 have Bf := am6 XX G lK
 have Bg := lM.binds (ps := ["chart", "way"]) fun _ _ _ _ _ _ => by refine bu ?_; exact fun _ _ => rfl
 have YG := am6 XX G Ft
 have YH := Fv.binds (ps := ["chart", "opens", "boxes", "sign"]) fun _ _ _ _ _ _ => by refine bu ?_; exact fun _ _ _ _ => rfl
 have Pk := am6 XX G wB
 have Pn := wC.binds (ps := ["asks", "opens"]) fun _ _ _ _ _ _ => by refine bu ?_; exact fun _ _ => rfl
 have adG := am6 XX G K6
 have adH := K7.binds (ps := ["ways", "opens", "chain", "sign"]) fun _ _ _ _ _ _ => by refine bu ?_; exact fun _ _ _ _ => rfl
 have Lh := am6 XX G sL
 have Li := sM.binds (ps := ["asks", "boxes"]) fun _ _ _ _ _ _ => by refine bu ?_; exact fun _ _ => rfl
 have Ud := am6 XX G Aq
 have Ue := As.binds (ps := ["lists", "ways", "opens", "boxes", "sign"]) fun _ _ _ _ _ _ => by refine bu ?_; exact fun _ _ _ _ _ => rfl
 have YJ := am6 XX G Fw
 have YK := Fx.binds (ps := ["found"]) fun _ _ _ _ _ _ => by refine bu ?_; exact fun _ => rfl
 have adI := am6 XX G K8
 have adJ := K9.binds (ps := ["found", "due"]) fun _ _ _ _ _ _ => by refine bu ?_; exact fun _ _ => rfl
 have Ug := am6 XX G Au
 have Uh := Av.binds (ps := ["lists", "way"]) fun _ _ _ _ _ _ => by refine bu ?_; exact fun _ _ => rfl
 have Ir := am6 XX G pU
 have Iu := pV.binds (ps := ["lists", "way", "opens", "boxes", "sign"]) fun _ _ _ _ _ _ => by refine bu ?_; exact fun _ _ _ _ _ => rfl
 have YL := am6 XX G Fy
 have YM := Fz.binds (ps := ["one", "other"]) fun _ _ _ _ _ _ => by refine bu ?_; exact fun _ _ => rfl
 have YN := am6 XX G FD
 have YQ := FE.binds (ps := ["found", "spans"]) fun _ _ _ _ _ _ => by refine bu ?_; exact fun _ _ => rfl
 have Lj := am6 XX G sN
 have Lk := sO.binds (ps := ["lists", "ways", "first", "found", "spans"]) fun _ _ _ _ _ _ => by refine bu ?_; exact fun _ _ _ _ _ => rfl
 have Ui := am6 XX G Aw
 have Uj := Ax.binds (ps := ["chart", "lists", "ways"]) fun _ _ _ _ _ _ => by refine bu ?_; exact fun _ _ _ => rfl
 have Pp := am6 XX G wF
 have Pq := wG.binds (ps := ["elders", "mood"]) fun _ _ _ _ _ _ => by refine bu ?_; exact fun _ _ => rfl
 have adK := am6 XX G La
 have adL := Lb.binds (ps := ["lists", "way"]) fun _ _ _ _ _ _ => by refine bu ?_; exact fun _ _ => rfl
 have akD := am6 XX G M0
 have akE := TR.binds (ps := ["script"]) fun _ _ _ _ _ _ => by refine bu ?_; exact fun _ => rfl
 have YR := am6 XX G Ex
 have bR : wM K ak := ⟨Ab, Ac, Ad, Ae⟩
 have kU : wM K ((cl ak aq aE aF ay) "Chart") := by rw [iN]; exact bR
 have Bh : bD K ((cl ak aq aE aF ay) "Chart") "boxes" := by rw [iN]; exact lE
 have Bj : bD K ((cl ak aq aE aF ay) "Chart") "names" := by rw [iN]; exact lF
 have gf : bD K ((cl ak aq aE aF ay) "Chart") "tree" := by rw [iN]; exact nT
 have Iv : bD K ((cl ak aq aE aF ay) "Chart") "ins" := by rw [iN]; exact pP
 have FN : bD K ((cl ak aq aE aF ay) "Chart") "outs" := by rw [iN]; exact nU
 have fu : bD K ((cl ak aq aE aF ay) "Chart") "ways" := by rw [iN]; exact nV
 have adM := am6 XX G KW
 have gq : wM K aq := ⟨Ey, Ez, EA, EB⟩
 have AF : wM K ((cl ak aq aE aF ay) "Tree") := by rw [qZ]; exact gq
 have jO : bD K ((cl ak aq aE aF ay) "Tree") "kinds" := by rw [qZ]; exact nW
 have lN : bD K ((cl ak aq aE aF ay) "Tree") "elders" := by rw [qZ]; exact lG
 have rO : bD K ((cl ak aq aE aF ay) "Tree") "starts" := by rw [qZ]; exact lH
 have mU := anT XX G TV
 have ji := anT XX G FG
 have aaR := anT XX G TX
 have M3 := anT XX G FH
 have AG := anT XX G Ay
 have wH := anT XX G Lc
 have agI := anT XX G TY
 have Iw : ∃ u, mg "TARGET" = some (.int 4 u) := ⟨_, am6 XX G Az⟩
 have AH : ∃ u, mg "SOURCE" = some (.int 0 u) := ⟨_, am6 XX G AA⟩
 have agJ := anT XX G T3
 have Iz := anT XX G pW
 have adN : ∃ u, mg "SIGN" = some (.int 1 u) := ⟨_, am6 XX G Ld⟩
 have Uk : ∃ u, mg "ASKS" = some (.int 2 u) := ⟨_, am6 XX G Le⟩
 have oh := anT XX G n8
 have adO := anT XX G y_bool
 have agK := anT XX G T4
 refine ⟨aaQ, [(aE, "_law_ways.<locals>.<lambda>"), (aF, "kept.<locals>.<lambda>"), (ay, "goable.<locals>.<lambda>")], ?tabs, ?bind, fun base kb _ bl => ?_⟩
 case tabs =>
   intro p hp
   simp only [am1, anH, or_false] at hp
   rcases hp with rfl | rfl | rfl
   . exact ⟨E6, by simp only [anx, aom], E5, vX, aoS XX yy⟩
   . exact ⟨Fj, by simp only [anx, aom, beq_false_of_ne n9], Fi, vY, aoS XX yz⟩
   . exact ⟨wA, by simp only [anx, aom, beq_false_of_ne ko, beq_false_of_ne kr], wu, mH, aoS XX q8⟩
 case bind =>
   obtain ⟨oc, od, kV, doc, pm, an, di, ct, P4, rfl, lk, jy⟩ := TR.ex
   exact fun s v => .of_eq rfl
 have YS : bL l.prog w K mg base fM 1 Ec _ ["cell", "salt"] (i7 K (cl ak aq aE aF ay) 2 gT gU gW) := aX EF Ho fun di Ar outer s H E b a hr hp => by
   obtain ⟨p0, p1⟩ := a; refine WO ?_ p0 p1 hp
   exact ⟨⟨⟨Ho.nd, rfl, rfl⟩, hr.units⟩, bf zx 0, bf zx 1, bf zx 2⟩
 have u6 := bS YS Yd EF.kp Ye
 have Pr : bL l.prog w K mg base fM 1 vZ _ ["script", "k"] (i7 K (cl ak aq aE aF ay) 2 fS fU fV) := aX wc zy fun di Ar outer s H E b a hr hp => by
   obtain ⟨p0, p1⟩ := a; refine OS ?_ p0 p1 hp
   exact ⟨⟨⟨zy.nd, rfl, rfl⟩, hr.units⟩, bf r6 0, bf r6 1, cU r6 2, mU⟩
 have rg := bS Pr Pb wc.kp Pg
 have YT : bL l.prog w K mg base fM 1 Ed _ ["elders", "mood"] (i7 K (cl ak aq aE aF ay) 2 gX dg gY) := aX EH Hq fun di Ar outer s H E b a hr hp => by
   obtain ⟨p0, p1⟩ := a; refine WR ?_ p0 p1 hp
   exact ⟨⟨⟨Hq.nd, rfl, rfl⟩, hr.units⟩, bf t7 0, bf t7 1, bf t7 2, bf t7 3⟩
 have u9 := bS YT Yg EH.kp Yh
 have Ul : bL l.prog w K mg base fM 2 zZ _ ["script"] (i7 K (cl ak aq aE aF ay) 1 m8 m9 ng) := aX Ai B3 fun di Ar outer s H E b a hr hp => by
   refine R5 ?_ a hp
   exact ⟨⟨⟨B3.nd, rfl, rfl⟩, hr.units⟩, bf fG 0, bf fG 1, bf fG 2, bf fG 3, bf fG 4, cU fG 5, cU fG 6, cU fG 7, cU fG 8, cU fG 9, bX u6 hr, bX rg hr, ji, bX u9 hr, mU⟩
 have Um := bS Ul T5 Ai.kp T6
 have YV : bL l.prog w K mg base fM 3 Ef _ ["script"] (i7 K (cl ak aq aE aF ay) 1 qg qh qi) := aX EJ Hr fun di Ar outer s H E b a hr hp => by
   refine WU ?_ a hp
   exact ⟨⟨⟨Hr.nd, rfl, rfl⟩, hr.units⟩, bf dP 0, F4 dP 1, cX dP 1 rfl, bf dP 2, bf dP 3, bf dP 4, F4 dP 5, cX dP 5 rfl, bf dP 6, bf dP 7, cU dP 8, cU dP 9, cU dP 10, cU dP 11, cU dP 12, bX Um hr, ji, mU, bX u6 hr, bX rg hr⟩
 have YW := bS YV Yi EJ.kp Yj
 have YX : bL l.prog w K mg base fM 1 Eg _ ["lists"] (i7 K (cl ak aq aE aF ay) 1 qj lV qk) := aX EL Hs fun di Ar outer s H E b a hr hp => by
   obtain ⟨p0, p1, p2, p3⟩ := a; refine WW ?_ p0 p1 p2 p3 hp
   exact ⟨⟨⟨Hs.nd, rfl, rfl⟩, hr.units⟩, bf lW 0, bf lW 1, bf lW 2, bf lW 3, cU lW 4, cU lW 5, ji, mU⟩
 have YY := bS YX Yk EL.kp Yl
 have Uo : bL l.prog w K mg base fM 1 z0 _ ["cell"] (i7 K (cl ak aq aE aF ay) 1 ni nj nq) := aX Ak B5 fun di Ar outer s H E b a hr hp => by
   refine R9 ?_ a hp
   exact ⟨⟨⟨B5.nd, rfl, rfl⟩, hr.units⟩, bf B4 0, bf B4 1⟩
 have Up := bS Uo T7 Ak.kp T8
 have YZ : bL l.prog w K mg base fM 2 Eh _ ["script"] (i7 K (cl ak aq aE aF ay) 1 ql qm qo) := aX EV Ht fun di Ar outer s H E b a hr hp => by
   refine WY ?_ a hp
   exact ⟨⟨⟨Ht.nd, rfl, rfl⟩, hr.units⟩, F4 lX 0, cX lX 0 rfl, bf lX 1, cU lX 2, cU lX 3, cU lX 4, bX u6 hr, bX rg hr, ji, bX Up hr⟩
 have Y0 := bS YZ Ym EV.kp Yn
 have adP : bL l.prog w K mg base fM 1 KD _ ["cell"] (i7 K (cl ak aq aE aF ay) 1 ua uc ud) := aX KZ Mw fun di Ar outer s H E b a hr hp => by
   refine acY ?_ a hp
   exact ⟨⟨⟨Mw.nd, rfl, rfl⟩, hr.units⟩, bf qp 0, bf qp 1, bf qp 2, bf qp 3, bf qp 4, cU qp 5, ji⟩
 have adQ := bS adP ady KZ.kp adz
 have Y3 : bL l.prog w K mg base fM 2 Ei _ ["script"] (i7 K (cl ak aq aE aF ay) 1 qq qu qv) := aX EX Hu fun di Ar outer s H E b a hr hp => by
   refine W0 ?_ a hp
   exact ⟨⟨⟨Hu.nd, rfl, rfl⟩, hr.units⟩, bf uf 0, bf uf 1, cU uf 2, cU uf 3, bX adQ hr, bX rg hr⟩
 have Y4 := bS Y3 Yo EX.kp Yp
 have Y5 : bL l.prog w K mg base fM 1 Ej _ ["cell"] (i7 K (cl ak aq aE aF ay) 1 qw qx qy) := aX EZ Hw fun di Ar outer s H E b a hr hp => by
   refine W3 ?_ a hp
   exact ⟨⟨⟨Hw.nd, rfl, rfl⟩, hr.units⟩, bf Hv 0, bf Hv 1⟩
 have Y6 := bS Y5 Yq EZ.kp Yr
 have Y7 : bL l.prog w K mg base fM 1 Ek _ ["term", "boxes"] (i7 K (cl ak aq aE aF ay) 2 lY lZ mh) := aX E2 Hy fun di Ar outer s H E b a hr hp => by
   obtain ⟨p0, p1, p2⟩ := a; refine W5 ?_ p0 p1 p2 hp
   exact ⟨⟨⟨Hy.nd, rfl, rfl⟩, hr.units⟩, bf Hx 0, bf Hx 1⟩
 have M4 := bS Y7 Ys E2.kp Yt
 have agL : bL l.prog w K mg base fM 1 Te _ ["mark", "one", "other"] (i7 K (cl ak aq aE aF ay) 3 ug uh um) := aX Tz Sf fun di Ar outer s H E b a hr hp => by
   obtain ⟨p0, p1, p2⟩ := a; refine af5 ?_ p0 p1 p2 hp
   exact ⟨⟨⟨Sf.nd, rfl, rfl⟩, hr.units⟩, bf J4 0, bf J4 1, bf J4 2⟩
 have aaS := bS agL agA Tz.kp agB
 have agM : bL l.prog w K mg base fM 2 Tf _ ["cell", "opens", "many", "boxes"] (i7 K (cl ak aq aE aF ay) 4 yd uo ye) := aX TH Sn fun di Ar outer s H E b a hr hp => by
   obtain ⟨p0, p1, p2, p3⟩ := a; refine af7 ?_ p0 p1 p2 p3 hp
   exact ⟨⟨⟨Sn.nd, rfl, rfl⟩, hr.units⟩, bf eX 0, bf eX 1, bf eX 2, bf eX 3, bf eX 4, F4 eX 5, cX eX 5 rfl, bf eX 6, bf eX 7, bf eX 8, F4 eX 9, cX eX 9 rfl, F4 eX 10, cX eX 10 rfl, bf eX 11, cU eX 12, cU eX 13, cU eX 14, cU eX 15, cU eX 16, bX u6 hr, aaR, mU, bX Y6 hr, bX M4 hr, bX aaS hr⟩
 have agN := bS agM agC TH.kp agD
 have agO : bL l.prog w K mg base fM 3 Tg _ ["cell", "opens", "many", "boxes", "three"] (i7 K (cl ak aq aE aF ay) 5 yf uv yg) := aX TL Ss fun di Ar outer s H E b a hr hp => by
   obtain ⟨p0, p1, p2, p3, p4⟩ := a; refine aga ?_ p0 p1 p2 p3 p4 hp
   exact ⟨⟨⟨Ss.nd, rfl, rfl⟩, hr.units⟩, bf fW 0, bf fW 1, bf fW 2, bf fW 3, bf fW 4, bf fW 5, bf fW 6, bf fW 7, bf fW 8, bf fW 9, bf fW 10, bf fW 11, cU fW 12, cU fW 13, cU fW 14, cU fW 15, cU fW 16, bX u6 hr, mU, ji, bX agN hr, M3⟩
 have agP := bS agO agE TL.kp agF
 have adR : bL l.prog w K mg base fM 4 KG _ ["script", "opens", "many", "boxes", "three"] (i7 K (cl ak aq aE aF ay) 5 uw oY ux) := za K1 MD fun di Ar outer s H E b a jy hr hp => by
   obtain ⟨p0, p1, p2, p3, p4⟩ := a; refine ac3 ?_ p0 p1 p2 p3 p4 hp
   exact ⟨⟨⟨MD.nd, rfl, rfl⟩, hr.units⟩, bf iD 0, F4 iD 1, cX iD 1 rfl, F4 iD 2, cX iD 2 rfl, F4 iD 3, cX iD 3 rfl, F4 iD 4, cX iD 4 rfl, bf iD 5, cU iD 6, AG, bX agP hr, acL bl kb jy E3 (by rw [Cb]; exact yy) (by rw [Cb]; exact E4), C2 hr, hr⟩
 have adS := bS adR adA K1.kp adB
 have IA : bL l.prog w K mg base fM 1 kT _ ["self", "kinds", "elders", "starts"] (spI K (cl ak aq aE aF ay) "Tree" 4 rJ rK rL) := L7 xu uz fun di Ar outer s H E b a y hr hp => by
   obtain ⟨p0, p1, p2⟩ := a; refine HB ?_ p0 p1 p2 y hp
   exact ⟨⟨⟨uz.nd, rfl, rfl⟩, hr.units⟩, bf iE 0, bf iE 1, bf iE 2, bf iE 3, cU iE 4, wH, AF, jO, lN, rO⟩
 have FP : bL l.prog w K mg base fM 1 jN _ ["self", "boxes", "names", "tree", "ins", "outs", "ways"] (spI K (cl ak aq aE aF ay) "Chart" 7 pe pA pB) := L7 u5 rM fun di Ar outer s H E b a y hr hp => by
   obtain ⟨p0, p1, p2, p3, p4, p5⟩ := a; refine DC ?_ p0 p1 p2 p3 p4 p5 y hp
   exact ⟨⟨⟨rM.nd, rfl, rfl⟩, hr.units⟩, bf dG 0, bf dG 1, bf dG 2, bf dG 3, bf dG 4, bf dG 5, bf dG 6, cU dG 7, wH, kU, Bh, Bj, gf, Iv, FN, fu⟩
 have Y8 : bL l.prog w K mg base fM 3 El _ ["lists", "boxes", "ways"] (i7 K (cl ak aq aE aF ay) 3 qA mz qB) := aX E8 HF fun di Ar outer s H E b a hr hp => by
   obtain ⟨p0, p1, p2, p3, p4, p5⟩ := a; refine Xd ?_ p0 p1 p2 p3 p4 p5 hp
   exact ⟨⟨⟨HF.nd, rfl, rfl⟩, hr.units⟩, bf fX 0, bf fX 1, bf fX 2, bf fX 3, bf fX 4, bf fX 5, cU fX 6, cU fX 7, cU fX 8, cU fX 9, cU fX 10, ji, mU, ⟨⟨_, _, _, by rw [qZ]; exact ⟨EC, pQ, pR, ED⟩, IA, by rw [qZ]; exact adM, Im⟩, hr.mono (by decide)⟩, wH, ⟨⟨_, _, _, by rw [iN]; exact ⟨Af, nX, nY, Ag⟩, FP, by rw [iN]; exact YR, FI⟩, hr.mono (by decide)⟩, agI⟩
 have Y9 := bS Y8 Yu E8.kp Yv
 have FQ : bL l.prog w K mg base fM 1 nS _ ["chart", "number"] (i7 K (cl ak aq aE aF ay) 2 iF fY iG) := aX n6 rN fun di Ar outer s H E b a hr hp => by
   obtain ⟨p0, p1, p2, p3, p4, p5, p6⟩ := a; refine DH ?_ p0 p1 p2 p3 p4 p5 p6 hp
   exact ⟨⟨⟨rN.nd, rfl, rfl⟩, hr.units⟩, bf lq 0, bf lq 1, cU lq 2, Iw, kU, fu⟩
 have FT := bS FQ FJ n6.kp FL
 have Za : bL l.prog w K mg base fM 1 Em _ ["tree", "mood"] (i7 K (cl ak aq aE aF ay) 2 iY f7 iZ) := aX Fb HG fun di Ar outer s H E b a hr hp => by
   obtain ⟨p0, p1, p2, p3⟩ := a; refine Xf ?_ p0 p1 p2 p3 hp
   exact ⟨⟨⟨HG.nd, rfl, rfl⟩, hr.units⟩, bf uB 0, bf uB 1, bf uB 2, bf uB 3, AF, lN⟩
 have yC := bS Za Yw Fb.kp Yx
 have Uq : bL l.prog w K mg base fM 2 z6 _ ["tree", "mood", "other"] (i7 K (cl ak aq aE aF ay) 3 j4 fZ j5) := aX Am B6 fun di Ar outer s H E b a hr hp => by
   obtain ⟨p0, p1, p2, p3, p4⟩ := a; refine Sw ?_ p0 p1 p2 p3 p4 hp
   exact ⟨⟨⟨B6.nd, rfl, rfl⟩, hr.units⟩, bf qC 0, bf qC 1, bf qC 2, cU qC 3, bX yC hr⟩
 have IB := bS Uq T9 Am.kp Ua
 have agQ : bL l.prog w K mg base fM 3 Ti _ ["tree", "one", "other"] (i7 K (cl ak aq aE aF ay) 3 yj uD yk) := aX TQ Sy fun di Ar outer s H E b a hr hp => by
   obtain ⟨p0, p1, p2, p3, p4⟩ := a; refine agg ?_ p0 p1 p2 p3 p4 hp
   exact ⟨⟨⟨Sy.nd, rfl, rfl⟩, hr.units⟩, bf vQ 0, bf vQ 1, bf vQ 2, bf vQ 3, cU vQ 4, cU vQ 5, bX yC hr, bX IB hr, AF, jO⟩
 have agR := bS agQ agG TQ.kp agH
 have Pu : bL l.prog w K mg base fM 4 v5 _ ["chart", "number"] (i7 K (cl ak aq aE aF ay) 2 kI jn kJ) := aX wj zL fun di Ar outer s H E b a hr hp => by
   obtain ⟨p0, p1, p2, p3, p4, p5, p6, p7, p8⟩ := a; refine OV ?_ p0 p1 p2 p3 p4 p5 p6 p7 p8 hp
   exact ⟨⟨⟨zL.nd, rfl, rfl⟩, hr.units⟩, bf i6 0, bf i6 1, bf i6 2, cU i6 3, cU i6 4, cU i6 5, bX agR hr, AH, Iw, kU, fu, gf⟩
 have Pw := bS Pu Ph wj.kp Pj
 have Zb : bL l.prog w K mg base fM 2 En _ ["tree", "mood"] (i7 K (cl ak aq aE aF ay) 2 qE mE qF) := aX Fe HJ fun di Ar outer s H E b a hr hp => by
   obtain ⟨p0, p1, p2, p3⟩ := a; refine Xh ?_ p0 p1 p2 p3 hp
   exact ⟨⟨⟨HJ.nd, rfl, rfl⟩, hr.units⟩, bf uF 0, bf uF 1, cU uF 2, cU uF 3, mU, bX yC hr⟩
 have Zc := bS Zb Yy Fe.kp Yz
 have IC : bL l.prog w K mg base fM 3 pN _ ["tree", "one", "other"] (i7 K (cl ak aq aE aF ay) 3 jb gy jc) := aX pT uG fun di Ar outer s H E b a hr hp => by
   obtain ⟨p0, p1, p2, p3, p4⟩ := a; refine HL ?_ p0 p1 p2 p3 p4 hp
   exact ⟨⟨⟨uG.nd, rfl, rfl⟩, hr.units⟩, bf jH 0, bf jH 1, bf jH 2, cU jH 3, bX IB hr⟩
 have IE := bS IC Io pT.kp Iq
 have adT : bL l.prog w K mg base fM 5 KH _ ["chart", "found"] (i7 K (cl ak aq aE aF ay) 2 uH pD uI) := za K3 MH fun di Ar outer s H E b a jy hr hp => by
   obtain ⟨p0, p1, p2, p3, p4, p5, p6, p7, p8⟩ := a; refine ac8 ?_ p0 p1 p2 p3 p4 p5 p6 p7 p8 hp
   exact ⟨⟨⟨MH.nd, rfl, rfl⟩, hr.units⟩, F4 gE 0, cX gE 0 rfl, bf gE 1, bf gE 2, bf gE 3, bf gE 4, F4 gE 5, cX gE 5 rfl, cU gE 6, cU gE 7, cU gE 8, cU gE 9, AG, bX FT hr, bX Pw hr, agJ, bX Zc hr, AH, bX IE hr, kU, gf, fu, acL bl kb jy Ff (by rw [Cd]; exact yz) (by rw [Cd]; exact Fg), C2 hr, hr⟩
 have adU := bS adT adC K3.kp adD
 have Bk : bL l.prog w K mg base fM 1 lC _ ["chart", "opens"] (i7 K (cl ak aq aE aF ay) 2 gF fB gG) := aX lJ pF fun di Ar outer s H E b a hr hp => by
   obtain ⟨p0, p1, p2, p3, p4, p5, p6, p7, p8⟩ := a; refine A6 ?_ p0 p1 p2 p3 p4 p5 p6 p7 p8 hp
   exact ⟨⟨⟨pF.nd, rfl, rfl⟩, hr.units⟩, F4 j6 0, cX j6 0 rfl, bf j6 1, kU, AF, jO, gf⟩
 have Bl := bS Bk Bd lJ.kp Be
 have adV : bL l.prog w K mg base fM 1 KJ _ ["asks", "opens"] (i7 K (cl ak aq aE aF ay) 2 uJ pG uK) := aX K5 MJ fun di Ar outer s H E b a hr hp => by
   obtain ⟨p0, p1⟩ := a; refine adb ?_ p0 p1 hp
   exact ⟨⟨⟨MJ.nd, rfl, rfl⟩, hr.units⟩, bf DN 0, bf DN 1, bf DN 2⟩
 have adW := bS adV adE K5.kp adF
 have Ur : bL l.prog w K mg base fM 2 z7 _ ["chart", "opens", "leaf", "sign"] (i7 K (cl ak aq aE aF ay) 4 nE j7 j8) := za Ao B7 fun di Ar outer s H E b a jy hr hp => by
   obtain ⟨p0, p1, p2, p3, p4, p5, p6, p7, p8, p9, p10⟩ := a; refine SG ?_ p0 p1 p2 p3 p4 p5 p6 p7 p8 p9 p10 hp
   exact ⟨⟨⟨B7.nd, rfl, rfl⟩, hr.units⟩, F4 cC 0, cX cC 0 rfl, bf cC 1, bf cC 2, bf cC 3, bf cC 4, bf cC 5, bf cC 6, F4 cC 7, cX cC 7 rfl, cU cC 8, cU cC 9, cU cC 10, cU cC 11, cU cC 12, cU cC 13, cU cC 14, bX yC hr, Iz, adN, AH, bX adW hr, Uk, AG, kU, fu, gf, acL bl kb jy wk (by rw [xr]; exact q8) (by rw [xr]; exact wm), C2 hr, hr⟩
 have Us := bS Ur Ub Ao.kp Uc
 have Zd : bL l.prog w K mg base fM 1 Eo _ ["term", "boxes"] (i7 K (cl ak aq aE aF ay) 2 qG qH qI) := aX Fo HQ fun di Ar outer s H E b a hr hp => by
   obtain ⟨p0, p1, p2⟩ := a; refine Xm ?_ p0 p1 p2 hp
   exact ⟨⟨⟨HQ.nd, rfl, rfl⟩, hr.units⟩, bf uM 0, bf uM 1, bf uM 2, bf uM 3⟩
 have Ze := bS Zd YB Fo.kp YC
 have Zf : bL l.prog w K mg base fM 2 Ep _ ["ask", "boxes"] (i7 K (cl ak aq aE aF ay) 2 qJ qK qL) := aX Fq HR fun di Ar outer s H E b a hr hp => by
   obtain ⟨p0, p1, p2, p3, p4, p5⟩ := a; refine Xo ?_ p0 p1 p2 p3 p4 p5 hp
   exact ⟨⟨⟨HR.nd, rfl, rfl⟩, hr.units⟩, bf mF 0, bf mF 1, bf mF 2, bf mF 3, bf mF 4, cU mF 5, bX Ze hr⟩
 have Zg := bS Zf YD Fq.kp YF
 have Lp : bL l.prog w K mg base fM 3 sE _ ["asks", "boxes"] (i7 K (cl ak aq aE aF ay) 2 jI iI jJ) := aX sJ xj fun di Ar outer s H E b a hr hp => by
   obtain ⟨p0, p1, p2⟩ := a; refine Km ?_ p0 p1 p2 hp
   exact ⟨⟨⟨xj.nd, rfl, rfl⟩, hr.units⟩, bf kM 0, bf kM 1, bf kM 2, cU kM 3, bX Zg hr⟩
 have Lq := bS Lp Lf sJ.kp Lg
 have Bm : bL l.prog w K mg base fM 1 lD _ ["chart", "way"] (i7 K (cl ak aq aE aF ay) 2 gH fC gI) := aX lM pH fun di Ar outer s H E b a hr hp => by
   obtain ⟨p0, p1, p2, p3, p4, p5, p6, p7⟩ := a; refine A8 ?_ p0 p1 p2 p3 p4 p5 p6 p7 hp
   exact ⟨⟨⟨pH.nd, rfl, rfl⟩, hr.units⟩, bf iJ 0, bf iJ 1, cU iJ 2, cU iJ 3, M3, Uk, kU, fu⟩
 have Bo := bS Bm Bf lM.kp Bg
 have Zh : bL l.prog w K mg base fM 4 Er _ ["chart", "opens", "boxes", "sign"] (i7 K (cl ak aq aE aF ay) 4 qM mG qN) := aX Fv HS fun di Ar outer s H E b a hr hp => by
   obtain ⟨p0, p1, p2, p3, p4, p5, p6, p7, p8, p9, p10⟩ := a; refine Xr ?_ p0 p1 p2 p3 p4 p5 p6 p7 p8 p9 p10 hp
   exact ⟨⟨⟨HS.nd, rfl, rfl⟩, hr.units⟩, bf fD 0, bf fD 1, bf fD 2, bf fD 3, bf fD 4, bf fD 5, bf fD 6, cU fD 7, cU fD 8, cU fD 9, cU fD 10, cU fD 11, bX Bl hr, bX Us hr, bX Lq hr, bX Bo hr, wH⟩
 have Zi := bS Zh YG Fv.kp YH
 have Px : bL l.prog w K mg base fM 1 v7 _ ["asks", "opens"] (i7 K (cl ak aq aE aF ay) 2 jo e7 jq) := aX wC zP fun di Ar outer s H E b a hr hp => by
   obtain ⟨p0, p1⟩ := a; refine OY ?_ p0 p1 hp
   exact ⟨⟨⟨zP.nd, rfl, rfl⟩, hr.units⟩, bf sr 0, bf sr 1, bf sr 2⟩
 have Cj := bS Px Pk wC.kp Pn
 have adX : bL l.prog w K mg base fM 2 KL _ ["ways", "opens", "chain", "sign"] (i7 K (cl ak aq aE aF ay) 4 uO pI pJ) := aX K7 ML fun di Ar outer s H E b a hr hp => by
   obtain ⟨p0, p1, p2, p3⟩ := a; refine adj ?_ p0 p1 p2 p3 hp
   exact ⟨⟨⟨ML.nd, rfl, rfl⟩, hr.units⟩, bf jf 0, bf jf 1, bf jf 2, bf jf 3, bf jf 4, bf jf 5, bf jf 6, cU jf 7, cU jf 8, cU jf 9, ji, mU, bX Cj hr⟩
 have adY := bS adX adG K7.kp adH
 have Lr : bL l.prog w K mg base fM 2 sF _ ["asks", "boxes"] (i7 K (cl ak aq aE aF ay) 2 iK eF iL) := aX sM xm fun di Ar outer s H E b a hr hp => by
   obtain ⟨p0, p1, p2⟩ := a; refine Kr ?_ p0 p1 p2 hp
   exact ⟨⟨⟨xm.nd, rfl, rfl⟩, hr.units⟩, bf jr 0, bf jr 1, bf jr 2, cU jr 3, cU jr 4, bX aaS hr, bX M4 hr⟩
 have AI := bS Lr Lh sM.kp Li
 have Ut : bL l.prog w K mg base fM 3 z8 _ ["lists", "ways", "opens", "boxes", "sign"] (i7 K (cl ak aq aE aF ay) 5 nI j9 nJ) := aX As B8 fun di Ar outer s H E b a hr hp => by
   obtain ⟨p0, p1, p2, p3, p4, p5, p6, p7⟩ := a; refine SM ?_ p0 p1 p2 p3 p4 p5 p6 p7 hp
   exact ⟨⟨⟨B8.nd, rfl, rfl⟩, hr.units⟩, bf dI 0, F4 dI 1, cX dI 1 rfl, bf dI 2, F4 dI 3, cX dI 3 rfl, bf dI 4, bf dI 5, bf dI 6, bf dI 7, bf dI 8, cU dI 9, cU dI 10, bX u9 hr, bX adY hr, bX AI hr⟩
 have Uu := bS Ut Ud As.kp Ue
 have Zj : bL l.prog w K mg base fM 1 Es _ ["found"] (i7 K (cl ak aq aE aF ay) 1 mJ mK mL) := aX Fx HW fun di Ar outer s H E b a hr hp => by
   refine Xu ?_ a hp
   exact ⟨⟨⟨HW.nd, rfl, rfl⟩, hr.units⟩, bf uQ 0, cU uQ 1, cU uQ 2, cU uQ 3, oh, aaR, adO⟩
 have M5 := bS Zj YJ Fx.kp YK
 have adZ : bL l.prog w K mg base fM 2 KN _ ["found", "due"] (i7 K (cl ak aq aE aF ay) 2 uR uS uT) := aX K9 MP fun di Ar outer s H E b a hr hp => by
   obtain ⟨p0, p1⟩ := a; refine ado ?_ p0 p1 hp
   exact ⟨⟨⟨MP.nd, rfl, rfl⟩, hr.units⟩, bf kO 0, bf kO 1, bf kO 2, cU kO 3, cU kO 4, cU kO 5, cU kO 6, cU kO 7, oh, wH, mU, ji, bX M5 hr⟩
 have ad0 := bS adZ adI K9.kp adJ
 have Uv : bL l.prog w K mg base fM 2 z9 _ ["lists", "way"] (i7 K (cl ak aq aE aF ay) 2 kg gO kh) := aX Av B9 fun di Ar outer s H E b a hr hp => by
   obtain ⟨p0, p1, p2, p3, p4⟩ := a; refine SQ ?_ p0 p1 p2 p3 p4 hp
   exact ⟨⟨⟨B9.nd, rfl, rfl⟩, hr.units⟩, bf mO 0, bf mO 1, bf mO 2, bf mO 3, cU mO 4, bX u9 hr⟩
 have IG := bS Uv Ug Av.kp Uh
 have II : bL l.prog w K mg base fM 3 pO _ ["lists", "way", "opens", "boxes", "sign"] (i7 K (cl ak aq aE aF ay) 5 jg gA jh) := aX pV uW fun di Ar outer s H E b a hr hp => by
   obtain ⟨p0, p1, p2, p3, p4, p5, p6, p7, p8⟩ := a; refine Ic ?_ p0 p1 p2 p3 p4 p5 p6 p7 p8 hp
   exact ⟨⟨⟨uW.nd, rfl, rfl⟩, hr.units⟩, bf eG 0, bf eG 1, bf eG 2, bf eG 3, bf eG 4, cU eG 5, cU eG 6, cU eG 7, bX IG hr, bX Cj hr, bX AI hr⟩
 have IJ := bS II Ir pV.kp Iu
 have Zk : bL l.prog w K mg base fM 1 Et _ ["one", "other"] (i7 K (cl ak aq aE aF ay) 2 mP mQ mR) := aX Fz Ie fun di Ar outer s H E b a hr hp => by
   obtain ⟨p0, p1⟩ := a; refine Xx ?_ p0 p1 hp
   exact ⟨⟨⟨Ie.nd, rfl, rfl⟩, hr.units⟩, bf zT 0, bf zT 1, bf zT 2⟩
 have M6 := bS Zk YL Fz.kp YM
 have Zm : bL l.prog w K mg base fM 2 Eu _ ["found", "spans"] (i7 K (cl ak aq aE aF ay) 2 qR mS qS) := aX FE Ig fun di Ar outer s H E b a hr hp => by
   obtain ⟨p0, p1⟩ := a; refine Xz ?_ p0 p1 hp
   exact ⟨⟨⟨Ig.nd, rfl, rfl⟩, hr.units⟩, bf pL 0, bf pL 1, bf pL 2, bf pL 3, cU pL 4, bX M6 hr⟩
 have Zn := bS Zm YN FE.kp YQ
 have Ls : bL l.prog w K mg base fM 2 sG _ ["lists", "ways", "first", "found", "spans"] (i7 K (cl ak aq aE aF ay) 5 jL iM jM) := aX sO xo fun di Ar outer s H E b a hr hp => by
   obtain ⟨p0, p1, p2, p3, p4, p5, p6, p7⟩ := a; refine Kw ?_ p0 p1 p2 p3 p4 p5 p6 p7 hp
   exact ⟨⟨⟨xo.nd, rfl, rfl⟩, hr.units⟩, bf dH 0, bf dH 1, bf dH 2, bf dH 3, bf dH 4, bf dH 5, bf dH 6, cU dH 7, cU dH 8, cU dH 9, mU, bX u9 hr, bX M6 hr⟩
 have Lv := bS Ls Lj sO.kp Lk
 have Uw : bL l.prog w K mg base fM 1 Aa _ ["chart", "lists", "ways"] (i7 K (cl ak aq aE aF ay) 3 nP ki nQ) := aX Ax Ca fun di Ar outer s H E b a hr hp => by
   obtain ⟨p0, p1, p2, p3, p4, p5, p6, p7, p8⟩ := a; refine SW ?_ p0 p1 p2 p3 p4 p5 p6 p7 p8 hp
   exact ⟨⟨⟨Ca.nd, rfl, rfl⟩, hr.units⟩, bf qU 0, bf qU 1, bf qU 2, bf qU 3, kU, AF, gf, fu, jO, lN, rO⟩
 have Ux := bS Uw Ui Ax.kp Uj
 have Py : bL l.prog w K mg base fM 2 v8 _ ["elders", "mood"] (i7 K (cl ak aq aE aF ay) 2 kQ jt kR) := aX wG zV fun di Ar outer s H E b a hr hp => by
   obtain ⟨p0, p1⟩ := a; refine O1 ?_ p0 p1 hp
   exact ⟨⟨⟨zV.nd, rfl, rfl⟩, hr.units⟩, bf gP 0, bf gP 1, bf gP 2, bf gP 3, cU gP 4, cU gP 5, cU gP 6, ji, mU, bX u9 hr⟩
 have Pz := bS Py Pp wG.kp Pq
 have ad1 : bL l.prog w K mg base fM 3 KQ _ ["lists", "way"] (i7 K (cl ak aq aE aF ay) 2 uY pM uZ) := aX Lb MQ fun di Ar outer s H E b a hr hp => by
   obtain ⟨p0, p1, p2, p3, p4⟩ := a; refine adq ?_ p0 p1 p2 p3 p4 hp
   exact ⟨⟨⟨MQ.nd, rfl, rfl⟩, hr.units⟩, bf yx 0, bf yx 1, cU yx 2, cU yx 3, bX Pz hr, bX IG hr⟩
 have ad2 := bS ad1 adK Lb.kp adL
 have agS : bL l.prog w K mg base fM 6 _ _ ["script"] (i7 K (cl ak aq aE aF ay) 1 qW qX qY) := aX TR Td fun di Ar outer s H E b a hr hp => by
   refine agr ?_ a hp
   exact ⟨⟨⟨Td.nd, rfl, rfl⟩, hr.units⟩, bf bV 0, F4 bV 1, cX bV 1 rfl, bf bV 2, bf bV 3, bf bV 4, bf bV 5, bf bV 6, bf bV 7, bf bV 8, bf bV 9, bf bV 10, bf bV 11, bf bV 12, bf bV 13, bf bV 14, cU bV 15, cU bV 16, cU bV 17, cU bV 18, cU bV 19, cU bV 20, cU bV 21, cU bV 22, cU bV 23, cU bV 24, cU bV 25, cU bV 26, cU bV 27, cU bV 28, cU bV 29, cU bV 30, cU bV 31, cU bV 32, cU bV 33, bX YW hr, bX YY hr, bX Y0 hr, bX Y4 hr, bX adS hr, mU, bX Y9 hr, wH, bX adU hr, bX Zi hr, bX Uu hr, oh, bX ad0 hr, bX M5 hr, bX IJ hr, bX Zn hr, agK, bX Lv hr, bX Ux hr, bX ad2 hr⟩
 exact agS.imp (Wj (fun _ => rfl) (fun _ => rfl) fun x hx h0 => XJ hx h0)
theorem walk {l : PySem.W.OpenLaw} {q : Program} {loose : List Str} {XP : (Str -> Option Value) -> Heap -> Prop} {YP : World -> Heap -> Prop} {d : DefRec} {K : Params -> PySem.W.Frag} {T0 : List Addr} (hn : l.most = some 63) (hdf : d.params.defaults = [])
   (hY : ∀ (w : World) (h : Heap), YP w h -> (K w.params).In h) (hT : ∀ (w : World) (h : Heap), YP w h -> ∀ P ∈ T0, h.get? P = some (PySem.W.tabObj #[]))
   (F : ∀ (w : World) (mg : Str -> Option Value) (fa : Addr) (h : Heap), (K w.params).In h -> h.Ns mainGlobals mg -> mg d.name = some (.ref fa) →
     ∃ (fd : FuncData) (ts : List (Addr × Str)), (∀ p ∈ ts, p.1 ∈ T0 /\ ts.lookup p.1 = some p.2 /\ (K w.params).lookup p.1 = none /\ ∃ c, PySem.W.CodeHd h c p.1) /\ (∀ (s : Shared) (u : Value), BindsTo s fd ⟨[u], []⟩ [("script", u)]) /\ ∀ base : Heap, (K w.params).In base -> base.Ns mainGlobals mg -> zb mg base -> bL l.prog w (K w.params) mg base fM 6 fa fd ["script"] (spT (K w.params) ts 1 qW qX qY)) :
   PySem.W.WalkO q loose XP YP l.row.toRowW d [] (fun f vs => PySem.call f vs) :=
 Ro (n := 63) (k := 6) (x := "script") (sp := fun w ts => spT (K w.params) ts 1 qW qX qY) hn (by decide) hdf ⟨rfl, by decide, by decide⟩ hY hT F (fun _ _ _ a ns hl hS ht => Wk rfl hl rfl hS ht)
end Law
namespace PySem.W.Fast
 def tw2546832103408431835 := 0
 def tw2309839809497662133 := 0
 def tw3297839971706391600 := 0
 def tw12744749536493629149 := 0
 def tw3932075150867745488 := 0
 def tw2900974595331190620 := 0
 def tw10294838981820620989 := 0
 def tw4065020150021611403 := 0
 def tw1588288745537936914 := 0
 def tw12560131416588027945 := 0
 def tw12961734772220877018 := 0
 def tw9092393121112181071 := 0
 def tw16613565398359172321 := 0
 def tw14528672709394259478 := 0
 def tw17354735092670991701 := 0
 def tw15509138528145905888 := 0
 def tw6818909578200884456 := 0
 def tw11265911015717128170 := 0
 def tw3228696166068723061 := 0
 def tw1953485486053119958 := 0
 def tw1909984273771046688 := 0
 def tw1525552585470838113 := 0
 def tw15039724061473031889 := 0
 def tw9435612567529183294 := 0
 def tw11605896982011864041 := 0
 def tw1657646567051221023 := 0
 def tw4777194515973508585 := 0
 def tw5003545422342499732 := 0
 def tw12026011208766833812 := 0
 def tw17491359662171292223 := 0
 def tw2454163662354984557 := 0
 def tw6235291467659399616 := 0
 def tw4673558894340218108 := 0
 def tw9070539473371915435 := 0
 def tw16122085227491463854 := 0
 def tw9135000553963204663 := 0
 def tw15674893586670851507 := 0
 def tw5673494130391619700 := 0
 def tw5209750053833078020 := 0
 def tw17338748607956428562 := 0
 def tw8159079554196153570 := 0
 def tw15323898551519488878 := 0
 def tw3556477047575419687 := 0
 def tw338629988023205337 := 0
 def tw2551150749333186383 := 0
 def tw14745591914006919514 := 0
 def tw14024296801521473184 := 0
 def tw4046796829262502274 := 0
 def tw15765427644771222318 := 0
end PySem.W.Fast
open PySem PySem.W PyProof.Rows
set_option maxRecDepth 100000 in
set_option maxHeartbeats 0 in
theorem PySem.Challenge.cw_moodtree_k36_whole_choosing_holds : PySem.Challenge.rw_moodtree_k36_whole_choosing.Holds := by
 w_on; o_law; k_head; (case hw => w_witness2)
 k_fill
 refine Law.walk (l := PySem.Challenge.rw_moodtree_k36_whole_choosing) rfl rfl (fun w h Y => PySem.W.km_in_of Y) (fun w h Y => PySem.W.km_tabs_of Y) ?F
 case F =>
   intro w mg fa h KX G hmg
   refine' Law.all_mk KX G hmg ?Ex ?Ab ?Ac ?Ad ?Ae ?Af ?Ag ?lE ?lF ?nT ?pP ?nU ?nV ?KW ?Ey ?Ez ?EA ?EB ?EC ?ED ?nW ?lG ?lH ?EE (L2.bq ?bz ?Zo ?Zq) ?v9 (L2.bq ?PB ?PC ?PD) ?EG (L2.bq ?qP ?Zr ?Zt) ?Ah (L2.bq ?cB ?Uy ?zB) ?EI (L2.bq ?bw ?Zu ?D0) ?EK (L2.bq ?aR ?Zv ?Dy) ?Aj (L2.bq ?c9 ?Uz ?UA) ?ER (L2.bq ?aZ ?Zw ?uy) ?KY (L2.bq ?k8 ?ad3 ?ad4) ?EW (L2.bq ?Zx ?Zy ?Zz) ?EY (L2.bq ?ZC ?ZD ?ZE) ?E1 (L2.bq ?ZF ?ZG ?ZH) ?Tw (L2.bq ?HX ?agT ?agU) ?TF (L2.bq ?dR ?agV ?agW) ?TJ (L2.bq ?dh ?agX ?agY) ?K0 (L2.bq ?cO ?ad5 ?Ks) ?E3 ?MT ?MV ?yy ?E4 ?E5 ?E6 ?pQ ?pR (L2.bq ?IK ?IL ?IQ) ?nX ?nY (L2.bq ?FU ?FW ?FY) ?E7 (L2.bq ?bH ?ZI ?kL) ?n5 (L2.bq ?FZ ?F0 ?F2) ?E9 (L2.bq ?ZJ ?ZK ?ZL) ?Al (L2.bq ?UB ?UC ?UD) ?TN (L2.bq ?agZ ?ag0 ?ag1) ?wg (L2.bq ?PF ?PJ ?PL) ?Fd (L2.bq ?ZM ?ZN ?ZO) ?pS (L2.bq ?IU ?IV ?IW) ?K2 (L2.bq ?ad6 ?ad7 ?ad8) ?Ff ?MY ?MZ ?yz ?Fg ?Fi ?Fj ?lI (L2.bq ?Bp ?Bq ?Br) ?K4 (L2.bq ?ad9 ?aea ?aeb) ?An (L2.bq ?UE ?UG ?UH) ?wk ?Cg ?Ci ?q8 ?wm ?wu ?wA ?Fl (L2.bq ?ZP ?ZQ ?ZR) ?Fp (L2.bq ?ZS ?ZT ?ZU) ?sH (L2.bq ?Lw ?Lx ?Ly) ?lK (L2.bq ?Bs ?Bt ?Bu) ?Ft (L2.bq ?ZV ?ZW ?ZX) ?wB (L2.bq ?PN ?PR ?PV) ?K6 (L2.bq ?aec ?aed ?aee) ?sL (L2.bq ?Lz ?LC ?LD) ?Aq (L2.bq ?UI ?UJ ?UK) ?Fw (L2.bq ?ZY ?ZZ ?k_whole) ?K8 (L2.bq ?aef ?aeg ?k_same) ?Au (L2.bq ?UL ?UM ?UN) ?pU (L2.bq ?IX ?IY ?IZ) ?Fy (L2.bq ?Z0 ?Z6 ?Z7) ?FD (L2.bq ?Z8 ?Z9 ?aac) ?sN (L2.bq ?LJ ?LK ?LN) ?Aw (L2.bq ?UO ?UQ ?UR) ?wF (L2.bq ?PX ?PY ?PZ) ?La (L2.bq ?aeh ?aei ?aej) ?M0 (L2.bq ?ag2 ?ag3 ?ag4) ?TV ?FG ?TX ?FH ?Ay ?Lc ?TY ?Az ?AA ?T3 ?pW ?Ld ?Le ?n8 ?y_bool ?T4 ?n9 ?ko ?kr
   case Ex | Ab | Ac | Ad | Ae | Af | Ag | lE | lF | nT | pP | nU | nV | KW | Ey | Ez | EA | EB | EC | ED | nW | lG | lH | EE | bz | Zo | Zq | v9 | PB | PC | PD | EG | qP | Zr | Zt | Ah | cB | Uy | zB | EI | bw | Zu | D0 | EK | aR | Zv | Dy | Aj | c9 | Uz | UA | ER | aZ | Zw | uy | KY | k8 | ad3 | ad4 | EW | Zx | Zy | Zz | EY | ZC | ZD | ZE | E1 | ZF | ZG | ZH | Tw | HX | agT | agU | TF | dR | agV | agW | TJ | dh | agX | agY | K0 | cO | ad5 | Ks => k_is
   case E3 => exact rfl
   case MT => k_is
   case MV => exact rfl
   case yy => kernel_rfl
   case E4 => decide
   case E5 => kernel_rfl
   case E6 => decide
   case pQ | pR | IK | IL | IQ | nX | nY | FU | FW | FY | E7 | bH | ZI | kL | n5 | FZ | F0 | F2 | E9 | ZJ | ZK | ZL | Al | UB | UC | UD | TN | agZ | ag0 | ag1 | wg | PF | PJ | PL | Fd | ZM | ZN | ZO | pS | IU | IV | IW | K2 | ad6 | ad7 | ad8 => k_is
   case Ff => exact rfl
   case MY => k_is
   case MZ => exact rfl
   case yz => kernel_rfl
   case Fg => decide
   case Fi => kernel_rfl
   case Fj => decide
   case lI | Bp | Bq | Br | K4 | ad9 | aea | aeb | An | UE | UG | UH => k_is
   case wk => exact rfl
   case Cg => k_is
   case Ci => exact rfl
   case q8 => kernel_rfl
   case wm => decide
   case wu => kernel_rfl
   case wA => decide
   case Fl | ZP | ZQ | ZR | Fp | ZS | ZT | ZU | sH | Lw | Lx | Ly | lK | Bs | Bt | Bu | Ft | ZV | ZW | ZX | wB | PN | PR | PV | K6 | aec | aed | aee | sL | Lz | LC | LD | Aq | UI | UJ | UK | Fw | ZY | ZZ | k_whole | K8 | aef | aeg | k_same | Au | UL | UM | UN | pU | IX | IY | IZ | Fy | Z0 | Z6 | Z7 | FD | Z8 | Z9 | aac | sN | LJ | LK | LN | Aw | UO | UQ | UR | wF | PX | PY | PZ | La | aeh | aei | aej | M0 | ag2 | ag3 | ag4 | TV | FG | TX | FH | Ay | Lc | TY | Az | AA | T3 | pW | Ld | Le | n8 | y_bool | T4 => k_is
   case n9 => decide
   case ko => decide
   case kr => decide
